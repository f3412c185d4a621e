import PyProof.Rows.All
import HandS.ForMost
import HandS.TupLe
import HandS.TupAny
import HandS.CallSlots
import HandS.Exc
import HandS.Wide
import HandS.IsInst
import HandS.RaiseMore
import HandS.Flow
import HandS.Style
import KE.DataCmp
import KE.DataEq
import PyProof.ReprRoads
import HandS.Comp
import HandS.Ends
import HandS.WordsExc
import PyProof.ReprLen
import HandS.Star
import HandS.Iter
import HandS.Text
import KE.GoesEnum
import HandS.TupMul
import HandS.Defaults
import PyProof.Rows.SetFrom
import PyProof.TupleKey
import HandS.Base
import HandS.Call
import HandS.TupSets
import HandS.DictComp
import HandS.Zip
import PySem.Challenge.RW_farasnothing_k08_expressions_reckoned
set_option Elab.async false
set_option linter.all false
set_option maxRecDepth 100000
/-! Mi: a mirror in plain Lean of what a def does, over values W and a store of mutable things; and why a def keeps to its mirror. -/
namespace Mi
open PySem PySem.Spec PyProof.Rows L2

/-- a value as the mirror has it: data as trees, a mutable thing by its number in the store -/
inductive W where
  | non | bl (b : Bool) | int (i : Int) | str (s : Str) | tup (xs : List W) | lst (xs : List W) | frz (xs : List W) | ref (n : Nat)

inductive O where
  | lst (xs : List W)
  /-- an instance of an own class: its class, its fields -/
  | ins (C : Nat) (fs : List (Str × W))
  /-- a dict that will change -/
  | dct (kvs : List (Key × W))

abbrev Store := List O

/-- where the things of a store stand -/
structure Wh where
  ρ : Nat → Addr
  n : Nat
  H : Hp
  /-- lists that are being made, which no value leads to -/
  x : List Addr

def Wh.out (p : Wh) (a : Addr) : Prop := (∀ i, i < p.n → p.ρ i ≠ a) ∧ a ∉ p.x

structure Xc where
  cls : Str
  args : List (Str × W)

inductive Res (α : Type) where
  | ok (a : α) (st : Store)
  | exc (x : Xc) (st : Store)
  | bad

def Res.bind {α β : Type} (r : Res α) (k : α → Store → Res β) : Res β :=
  match r with
  | .ok a st => k a st
  | .exc x st => .exc x st
  | .bad => .bad

/-- where the own classes stand, by numbers of the mirror's -/
class ClsMap where
  pos : Nat → Addr
abbrev cl [c : ClsMap] (n : Nat) : Addr := c.pos n
variable [ClsMap]
section
variable (K : PySem.W.Frag)
def TupAt (p : Wh) (a : Addr) (vs : List V) : Prop := (Rd p.H a (.tup vs) ∧ p.out a) ∨ SqT K (fun _ => none) a vs
def LstAt (p : Wh) (a : Addr) (vs : List V) : Prop := p.H a = some (.lst vs) ∧ p.out a
def FrzAt (p : Wh) (a : Addr) (vs : List V) : Prop := (Rd p.H a (.lst vs) ∧ p.out a) ∨ SqL K (fun _ => none) a vs

mutual
def RW (p : Wh) : W → V → Prop
  | .non, v => v = .non
  | .bl b, v => v = .bl b
  | .int i, v => v = .int i
  | .str s, v => v = .str s
  | .tup xs, v => ∃ a vs, v = .ref a ∧ TupAt K p a vs ∧ RWs p xs vs
  | .lst xs, v => ∃ a vs, v = .ref a ∧ LstAt p a vs ∧ RWs p xs vs
  | .frz xs, v => ∃ a vs, v = .ref a ∧ FrzAt K p a vs ∧ RWs p xs vs
  | .ref n, v => n < p.n ∧ v = .ref (p.ρ n)
def RWs (p : Wh) : List W → List V → Prop
  | [], vs => vs = []
  | x :: xs, vs => ∃ v r, vs = v :: r ∧ RW p x v ∧ RWs p xs r
end

def RO (p : Wh) : O → Option HO → Prop
  | .lst xs, h => ∃ vs, h = some (.lst vs) ∧ RWs K p xs vs
  | .ins C fs, h => ∃ dx gs, h = some (.ins (cl C) dx gs) ∧ gs.map (·.1) = fs.map (·.1) ∧ RWs K p (fs.map (·.2)) (gs.map (·.2))
  | .dct fs, h => ∃ gs, h = some (.dK gs) ∧ gs.map (·.1) = fs.map (·.1) ∧ RWs K p (fs.map (·.2)) (gs.map (·.2))

structure SR (p : Wh) (st : Store) : Prop where
  len : p.n = st.length
  inj : ∀ i j, i < p.n → j < p.n → p.ρ i = p.ρ j → i = j
  obj : ∀ (i : Nat) (o : O), st[i]? = some o → RO K p o (p.H (p.ρ i))
  hid : ∀ a, a ∈ p.x → p.H a ≠ none ∧ ∀ i, i < p.n → p.ρ i ≠ a
end

/-- from p to q: what values lead to is kept -/
structure Mv (p q : Wh) : Prop where
  le : p.n ≤ q.n
  same : ∀ i, i < p.n → q.ρ i = p.ρ i
  keep : ∀ a o, p.H a = some o → p.out a → q.H a = some o
  new : ∀ i, p.n ≤ i → i < q.n → p.H (q.ρ i) = none ∨ q.ρ i ∈ p.x
  there : ∀ i, i < q.n → q.H (q.ρ i) ≠ none
  hx : ∀ a, a ∈ q.x → a ∈ p.x ∨ p.H a = none
  hth : ∀ a, a ∈ p.x → q.H a ≠ none
structure Step (p q : Wh) : Prop extends Mv p q where
  xs : q.x = p.x
  hk : ∀ a, a ∈ p.x → q.H a = p.H a

theorem RO.some {K : PySem.W.Frag} {p : Wh} {o : O} {h : Option HO} (r : RO K p o h) : h ≠ none := by
  cases o with
  | lst xs =>
    obtain ⟨vs, e, _⟩ := r
    rw [e]
    exact fun z => nomatch z
  | ins C fs =>
    obtain ⟨dx, gs, e, _⟩ := r
    rw [e]
    exact fun z => nomatch z
  | dct fs =>
    obtain ⟨gs, e, _⟩ := r
    rw [e]
    exact fun z => nomatch z

section
variable {K : PySem.W.Frag} {p q r : Wh} {st st' : Store}
theorem SR.there (s : SR K p st) (i : Nat) (h : i < p.n) : p.H (p.ρ i) ≠ none := by
  have hl : i < st.length := s.len ▸ h
  exact (s.obj i st[i] (List.getElem?_eq_getElem hl)).some
theorem Step.refl (s : SR K p st) : Step p p :=
  ⟨⟨Nat.le_refl _, fun _ _ => rfl, fun _ _ h _ => h, fun i h1 h2 => absurd h2 (by omega), s.there, fun a h => .inl h, fun a h => (s.hid a h).1⟩, rfl, fun _ _ => rfl⟩
theorem Mv.out (s : Mv p q) {a : Addr} {o : HO} (h : p.H a = some o) (u : p.out a) : q.out a := by
  refine ⟨fun i hi e => ?_, fun hx => ?_⟩
  · by_cases hp : i < p.n
    · exact u.1 i hp ((s.same i hp).symm.trans e)
    · rcases s.new i (by omega) hi with z | z
      · rw [e, h] at z
        cases z
      · rw [e] at z
        exact u.2 z
  · rcases s.hx a hx with z | z
    · exact u.2 z
    · rw [h] at z
      cases z
theorem Mv.noneB (s : Mv p q) {a : Addr} (h : q.H a = none) (hx : a ∉ p.x) : p.H a = none := by
  cases e : p.H a with
  | none => rfl
  | some o =>
    exfalso
    by_cases u : ∀ i, i < p.n → p.ρ i ≠ a
    · rw [s.keep _ _ e ⟨u, hx⟩] at h
      cases h
    · have u' : ∃ j, j < p.n ∧ p.ρ j = a := Classical.byContradiction fun c => u fun j hj ej => c ⟨j, hj, ej⟩
      obtain ⟨j, hj, ej⟩ := u'
      have w := s.there j (Nat.lt_of_lt_of_le hj s.le)
      rw [s.same j hj, ej, h] at w
      exact w rfl
theorem Mv.trans (s : Mv p q) (t : Mv q r) : Mv p r := by
  have back : ∀ a, q.H a = none → p.H a = none := fun a h => s.noneB h fun z => s.hth a z h
  refine ⟨Nat.le_trans s.le t.le, fun i h => (t.same i (Nat.lt_of_lt_of_le h s.le)).trans (s.same i h), fun a o h u => t.keep a o (s.keep a o h u) (s.out h u), fun i h1 h2 => ?_, t.there, fun a h => ?_, fun a h => ?_⟩
  · by_cases hq : i < q.n
    · rw [t.same i hq]
      exact s.new i h1 hq
    · rcases t.new i (by omega) h2 with z | z
      · exact .inl (back _ z)
      · exact (s.hx _ z).symm
  · rcases t.hx a h with z | z
    · exact s.hx a z
    · exact .inr (back a z)
  · intro z
    by_cases hq : a ∈ q.x
    · exact t.hth a hq z
    · exact s.hth a h (t.noneB z hq)
theorem Step.trans (s : Step p q) (t : Step q r) : Step p r :=
  ⟨s.toMv.trans t.toMv, t.xs.trans s.xs, fun a h => (t.hk a (by rw [s.xs]; exact h)).trans (s.hk a h)⟩
theorem Step.out (s : Step p q) {a : Addr} {o : HO} (h : p.H a = some o) (u : p.out a) : q.out a := s.toMv.out h u

theorem rd_step (s : Mv p q) {a : Addr} {u : HO} (h : Rd p.H a u) (o : p.out a) : Rd q.H a u ∧ q.out a := by
  rcases h with h | ⟨ob, h⟩
  · exact ⟨.inl (s.keep _ _ h o), s.out h o⟩
  · exact ⟨.inr ⟨ob, s.keep _ _ h o⟩, s.out h o⟩

mutual
theorem RW.move (s : Mv p q) : ∀ (w : W) (v : V), RW K p w v → RW K q w v
  | .non, v, h => h
  | .bl b, v, h => h
  | .int i, v, h => h
  | .str x, v, h => h
  | .tup xs, v, ⟨a, vs, e, h, k⟩ => ⟨a, vs, e, h.imp (fun z => rd_step s z.1 z.2) (fun z => z), RWs.move s xs vs k⟩
  | .lst xs, v, ⟨a, vs, e, h, k⟩ => ⟨a, vs, e, ⟨s.keep _ _ h.1 h.2, s.out h.1 h.2⟩, RWs.move s xs vs k⟩
  | .frz xs, v, ⟨a, vs, e, h, k⟩ => ⟨a, vs, e, h.imp (fun z => rd_step s z.1 z.2) (fun z => z), RWs.move s xs vs k⟩
  | .ref n, v, ⟨h, e⟩ => ⟨Nat.lt_of_lt_of_le h s.le, by rw [e, s.same n h]⟩
theorem RWs.move (s : Mv p q) : ∀ (ws : List W) (vs : List V), RWs K p ws vs → RWs K q ws vs
  | [], vs, h => h
  | x :: xs, vs, ⟨v, r, e, h, k⟩ => ⟨v, r, e, RW.move s x v h, RWs.move s xs r k⟩
end

theorem RW.step (s : Step p q) (w : W) (v : V) (h : RW K p w v) : RW K q w v := RW.move s.toMv w v h
theorem RWs.step (s : Step p q) (ws : List W) (vs : List V) (h : RWs K p ws vs) : RWs K q ws vs := RWs.move s.toMv ws vs h
theorem RWs.length : ∀ {ws : List W} {vs : List V}, RWs K p ws vs → ws.length = vs.length
  | [], vs, h => by
    have h' : vs = [] := h
    rw [h']
    rfl
  | x :: xs, vs, ⟨v, r, e, _, k⟩ => by
    rw [e, List.length_cons, List.length_cons, RWs.length k]
theorem RWs.get : ∀ {ws : List W} {vs : List V} {i : Nat} {w : W}, RWs K p ws vs → ws[i]? = some w → ∃ v, vs[i]? = some v ∧ RW K p w v
  | [], vs, i, w, _, e => by simp at e
  | x :: xs, vs, 0, w, ⟨v, r, e, h, k⟩, e2 => by
    have e3 : x = w := by simpa using e2
    rw [← e3, e]
    exact ⟨v, rfl, h⟩
  | x :: xs, vs, i + 1, w, ⟨v, r, e, h, k⟩, e2 => by
    rw [e]
    exact RWs.get (i := i) k (by simpa using e2)
theorem RWs.getV : ∀ {ws : List W} {vs : List V} {i : Nat} {v : V}, RWs K p ws vs → vs[i]? = some v → ∃ w, ws[i]? = some w ∧ RW K p w v
  | [], vs, i, v, h, e => by
    have h' : vs = [] := h
    rw [h'] at e
    simp at e
  | x :: xs, vs, 0, v, ⟨v', r, e, h, k⟩, e2 => by
    rw [e] at e2
    have e3 : v' = v := by simpa using e2
    rw [← e3]
    exact ⟨x, rfl, h⟩
  | x :: xs, vs, i + 1, v, ⟨v', r, e, h, k⟩, e2 => by
    rw [e] at e2
    exact RWs.getV (i := i) k (by simpa using e2)
theorem RWs.append : ∀ {ws us : List W} {vs xs : List V}, RWs K p ws vs → RWs K p us xs → RWs K p (ws ++ us) (vs ++ xs)
  | [], us, vs, xs, h, h2 => by
    have h' : vs = [] := h
    rw [h']
    exact h2
  | y :: ys, us, vs, xs, ⟨v, r, e, h, k⟩, h2 => by
    rw [e]
    exact ⟨v, r ++ xs, rfl, h, RWs.append k h2⟩
theorem RWs.drop : ∀ {ws : List W} {vs : List V} (n : Nat), RWs K p ws vs → RWs K p (ws.drop n) (vs.drop n)
  | ws, vs, 0, h => h
  | [], vs, n + 1, h => by
    have h' : vs = [] := h
    rw [h']
    exact (rfl : ([] : List V) = [])
  | y :: ys, vs, n + 1, ⟨v, r, e, h, k⟩ => by
    rw [e]
    exact RWs.drop n k
theorem RWs.take : ∀ {ws : List W} {vs : List V} (n : Nat), RWs K p ws vs → RWs K p (ws.take n) (vs.take n)
  | ws, vs, 0, h => by
    show RWs K p [] (vs.take 0)
    exact (rfl : ([] : List V) = [])
  | [], vs, n + 1, h => by
    have h' : vs = [] := h
    rw [h']
    exact (rfl : ([] : List V) = [])
  | y :: ys, vs, n + 1, ⟨v, r, e, h, k⟩ => by
    rw [e]
    exact ⟨v, r.take n, rfl, h, RWs.take n k⟩
theorem RWs.set : ∀ {ws : List W} {vs : List V} (i : Nat) {w : W} {v : V}, RWs K p ws vs → RW K p w v → RWs K p (ws.set i w) (vs.set i v)
  | [], vs, i, w, v, h, _ => by
    have h' : vs = [] := h
    rw [h']
    exact (rfl : ([] : List V) = [])
  | y :: ys, vs, 0, w, v, ⟨v', r, e, h, k⟩, h2 => by
    rw [e]
    exact ⟨v, r, rfl, h2, k⟩
  | y :: ys, vs, i + 1, w, v, ⟨v', r, e, h, k⟩, h2 => by
    rw [e]
    exact ⟨v', r.set i v, rfl, h, RWs.set i k h2⟩

theorem TupAt.seq {a : Addr} {vs : List V} (h : TupAt K p a vs) : SqT K p.H a vs := by
  rcases h with h | h
  · exact .inl h.1
  · rcases h with h | h
    · rcases h with h | ⟨_, h⟩ <;> cases h
    · exact .inr h
theorem FrzAt.seq {a : Addr} {vs : List V} (h : FrzAt K p a vs) : SqL K p.H a vs := by
  rcases h with h | h
  · exact .inl h.1
  · rcases h with h | h
    · rcases h with h | ⟨_, h⟩ <;> cases h
    · exact .inr h

/-! ### frames -/
abbrev En := List (Option W)
end
section
variable (K : PySem.W.Frag)
structure EnvR (p : Wh) (env : En) (σ : L2.St) : Prop where
  len : env.length = σ.length
  get : ∀ (i : Nat) (w : W), env[i]? = some (some w) → ∃ v, σ[i]? = some (some v) ∧ RW K p w v
end
section
variable {K : PySem.W.Frag} {p q : Wh} {env : En} {σ : L2.St}
theorem EnvR.move (e : EnvR K p env σ) (s : Mv p q) : EnvR K q env σ := ⟨e.len, fun i w h => by
  obtain ⟨v, h1, h2⟩ := e.get i w h
  exact ⟨v, h1, RW.move s w v h2⟩⟩
theorem EnvR.step (e : EnvR K p env σ) (s : Step p q) : EnvR K q env σ := e.move s.toMv
theorem EnvR.set (e : EnvR K p env σ) (i : Nat) {w : W} {v : V} (h : RW K p w v) : EnvR K p (env.set i (some w)) (σ.set i (some v)) := by
  refine ⟨by rw [List.length_set, List.length_set, e.len], fun j w' hj => ?_⟩
  by_cases hi : i = j
  · subst hi
    by_cases hl : i < env.length
    · rw [List.getElem?_set_self hl] at hj
      cases hj
      exact ⟨v, List.getElem?_set_self (e.len ▸ hl), h⟩
    · rw [List.getElem?_eq_none (by simpa using hl)] at hj
      cases hj
  · rw [List.getElem?_set_ne hi] at hj
    rw [List.getElem?_set_ne hi]
    exact e.get j w' hj
theorem EnvR.unset (e : EnvR K p env σ) (i : Nat) (o : Option V) : EnvR K p (env.set i none) (σ.set i o) := by
  refine ⟨by rw [List.length_set, List.length_set, e.len], fun j w' hj => ?_⟩
  by_cases hi : i = j
  · subst hi
    by_cases hl : i < env.length
    · rw [List.getElem?_set_self hl] at hj
      cases hj
    · rw [List.getElem?_eq_none (by simpa using hl)] at hj
      cases hj
  · rw [List.getElem?_set_ne hi] at hj
    rw [List.getElem?_set_ne hi]
    exact e.get j w' hj
end
end Mi

namespace Mi
open PySem PySem.Spec PyProof.Rows L2
variable [ClsMap]

/-! ### what is wanted of a result -/
/-- an exception of an own class, its fields in its own dict -/
def XR (K : PySem.W.Frag) (mg : Str → Option Value) (p : Wh) (x : Xc) (cls : Value) (d : Option Addr) : Prop :=
  ∃ C, mg x.cls = some (.ref C) ∧ cls = .ref C ∧ ∃ dx fs, d = some dx ∧ p.H dx = some (.xd fs) ∧ p.out dx ∧ fs.map (·.1) = x.args.map (·.1) ∧ RWs K p (x.args.map (·.2)) (fs.map (·.2))

def Fin {α β : Type} (K : PySem.W.Frag) (mg : Str → Option Value) (R : Wh → α → β → Prop) (Wx : WX) (p : Wh) (σ : L2.St) (Q : β → Hp → Prop) : Res α → Prop
  | .ok a st => ∀ (q : Wh) (b : β), Step p q → SR K q st → R q a b → Q b q.H
  | .exc x st => ∀ (q : Wh) (cls : Value) (d : Option Addr), Step p q → SR K q st → XR K mg q x cls d → Wx cls d σ q.H
  | .bad => False

abbrev Ev (α : Type) := En → Store → Res α

def tG {α β : Type} (K : PySem.W.Frag) (mg : Str → Option Value) (R : Wh → α → β → Prop) (Wx : WX) (m : Ev α) : L2.St → Hp → (β → Hp → Prop) → Prop := fun σ H Q =>
  ∃ (p : Wh) (st : Store) (env : En), p.H = H ∧ SR K p st ∧ EnvR K p env σ ∧ Fin K mg R Wx p σ Q (m env st)

section
variable {K : PySem.W.Frag} {mg : Str → Option Value} {α β γ δ : Type} {R : Wh → α → β → Prop} {R2 : Wh → γ → δ → Prop} {Wx : WX} {p q : Wh} {σ : L2.St} {Q : β → Hp → Prop} {Q2 : δ → Hp → Prop} {st : Store} {env : En} {H : Hp}
theorem Fin.later {r : Res α} (s : Step p q) (h : Fin K mg R Wx p σ Q r) : Fin K mg R Wx q σ Q r := by
  cases r with
  | ok a st => exact fun z b t => h z b (s.trans t)
  | exc x st => exact fun z c d t => h z c d (s.trans t)
  | bad => exact h
theorem Fin.mono {r : Res α} {Q' : β → Hp → Prop} (h : Fin K mg R Wx p σ Q r) (i : ∀ b H, Q b H → Q' b H) : Fin K mg R Wx p σ Q' r := by
  cases r with
  | ok a st => exact fun z b t s u => i _ _ (h z b t s u)
  | exc x st => exact h
  | bad => exact h
/-- one step, then the rest -/
theorem tG_bind {m : Ev α} {k : α → Store → Res γ} (hp : p.H = H) (S : SR K p st) (E : EnvR K p env σ) (h : Fin K mg R2 Wx p σ Q2 ((m env st).bind k))
    (hq : ∀ (q : Wh) (st' : Store) (a : α) (b : β), Step p q → SR K q st' → EnvR K q env σ → R q a b → Fin K mg R2 Wx q σ Q2 (k a st') → Q b q.H) : tG K mg R Wx m σ H Q := by
  refine ⟨p, st, env, hp, S, E, ?_⟩
  cases e : m env st with
  | ok a st' =>
    rw [e] at h
    exact fun q b t s r => hq q st' a b t s (E.step t) r (Fin.later t h)
  | exc x st' =>
    rw [e] at h
    exact h
  | bad =>
    rw [e] at h
    exact h
theorem tG_mono {m : Ev α} {Q' : β → Hp → Prop} (i : ∀ b H, Q b H → Q' b H) : tG K mg R Wx m σ H Q → tG K mg R Wx m σ H Q' := fun ⟨p, st, env, hp, S, E, h⟩ => ⟨p, st, env, hp, S, E, h.mono i⟩
end

theorem PEimp {X : Cx} {e : Expr} {t t' : TE} (h : PE X e t) (i : ∀ σ H Q, t' σ H Q → t σ H Q) : PE X e t' := ⟨fun pins s σ H Q I z => h.run pins s σ H Q I (i σ H Q z)⟩
theorem PAimp {X : Cx} {e : List Expr} {t t' : TA} (h : PA X e t) (i : ∀ σ H Q, t' σ H Q → t σ H Q) : PA X e t' := ⟨fun pos pins s σ H Q I z => h.run pos pins s σ H Q I (i σ H Q z)⟩
theorem PTimp {X : Cx} {e : Expr} {t t' : TT} (h : PT X e t) (i : ∀ σ H Q, t' σ H Q → t σ H Q) : PT X e t' := ⟨fun pins s σ H Q I z => h.run pins s σ H Q I (i σ H Q z)⟩
theorem PWimp {X : Cx} {e : Expr} {t t' : TT} (h : PW X e t) (i : ∀ σ H Q, t' σ H Q → t σ H Q) : PW X e t' := ⟨fun w pins s σ H Q I z => h.run w pins s σ H Q I (i σ H Q z)⟩

abbrev eqR : Wh → Bool → Bool → Prop := fun _ a b => a = b
abbrev GE (X : Cx) (Wx : WX) (e : Expr) (m : Ev W) : Prop := PE X e (tG X.K X.mg (RW X.K) Wx m)
abbrev GA (X : Cx) (Wx : WX) (e : List Expr) (m : Ev (List W)) : Prop := PA X e (tG X.K X.mg (RWs X.K) Wx m)
abbrev GT (X : Cx) (Wx : WX) (e : Expr) (m : Ev Bool) : Prop := PT X e (tG X.K X.mg eqR Wx m)
abbrev GW (X : Cx) (Wx : WX) (e : Expr) (m : Ev Bool) : Prop := PW X e (tG X.K X.mg eqR Wx m)

/-! ### the mirror's words -/
def mC (w : W) : Ev W := fun _ st => .ok w st
def mV (i : Nat) : Ev W := fun env st => match env[i]? with
  | some (some w) => .ok w st
  | _ => .bad
def mOp (f : W → W → Store → Res W) (a b : Ev W) : Ev W := fun env st => (a env st).bind fun x s1 => (b env s1).bind fun y s2 => f x y s2
def mUn (f : W → Store → Res W) (a : Ev W) : Ev W := fun env st => (a env st).bind fun x s1 => f x s1
def mNil : Ev (List W) := fun _ st => .ok [] st
def mCons (a : Ev W) (r : Ev (List W)) : Ev (List W) := fun env st => (a env st).bind fun x s1 => (r env s1).bind fun xs s2 => .ok (x :: xs) s2
def mCall (f : List W → Store → Res W) (a : Ev (List W)) : Ev W := fun env st => (a env st).bind fun xs s1 => f xs s1
def mTup (a : Ev (List W)) : Ev W := mCall (fun xs st => if xs.length ≤ 100000 then .ok (.tup xs) st else .bad) a
def mLst (a : Ev (List W)) : Ev W := mCall (fun xs st => if xs.length ≤ 100000 then .ok (.lst xs) st else .bad) a
/-- a list that will change -/
def mNew (a : Ev (List W)) : Ev W := mCall (fun xs st => if xs.length ≤ 100000 then .ok (.ref st.length) (st ++ [.lst xs]) else .bad) a
def mIf (t : Ev Bool) (a b : Ev W) : Ev W := fun env st => (t env st).bind fun c s1 => if c = true then a env s1 else b env s1
def asB : W → Store → Res Bool
  | .bl b, st => .ok b st
  | _, _ => .bad
def mB (a : Ev W) : Ev Bool := fun env st => (a env st).bind asB
def mAnd (t u : Ev Bool) : Ev Bool := fun env st => (t env st).bind fun c s1 => if c = true then u env s1 else .ok false s1
def mOr (t u : Ev Bool) : Ev Bool := fun env st => (t env st).bind fun c s1 => if c = true then .ok true s1 else u env s1
def mNot (t : Ev Bool) : Ev Bool := fun env st => (t env st).bind fun c s1 => .ok (!c) s1
def mAndV (a b : Ev W) : Ev W := fun env st => (mB a env st).bind fun c s1 => if c = true then b env s1 else .ok (.bl false) s1
def mOrV (a b : Ev W) : Ev W := fun env st => (mB a env st).bind fun c s1 => if c = true then .ok (.bl true) s1 else b env s1
def mNotV (a : Ev W) : Ev W := fun env st => (mB a env st).bind fun c s1 => .ok (.bl (!c)) s1

section
variable {X : Cx} {Wx : WX} {a b c e : Expr} {es : List Expr} {ma mb : Ev W} {mt mu : Ev Bool} {ml : Ev (List W)} {pos : Pos}
theorem ge_var (i : Nat) {x : Str} (hN : X.N[i]? = some x := by rfl) (hv : Vis X.env.scope x := by first | exact Or.inl rfl | exact Or.inr (Or.inl rfl) | exact Or.inr (Or.inr rfl)) (hd : (x == ("__debug__" : Str)) = false := by decide)
    (hcd : (x == ("__classdict__" : Str)) = false := by decide) : GE X Wx (.Name x pos) (mV i) := by
  refine PEimp (pe_var hN hv hd hcd) fun σ H Q ⟨p, st, env, hp, S, E, h⟩ => ?_
  unfold mV at h
  cases e : env[i]? with
  | none =>
    rw [e] at h
    exact h.elim
  | some o =>
    cases o with
    | none =>
      rw [e] at h
      exact h.elim
    | some w =>
      rw [e] at h
      obtain ⟨v, h1, h2⟩ := E.get i w e
      subst hp
      exact ⟨v, h1, h p v (.refl S) S h2⟩
theorem ge_c {w : W} {v : V} (h : PE X e (tC v)) (r : ∀ p, RW X.K p w v) : GE X Wx e (mC w) := by
  refine PEimp h fun σ H Q ⟨p, st, env, hp, S, E, q⟩ => ?_
  subst hp
  exact q p v (.refl S) S (r p)
theorem ge_int {i j} : GE X Wx (.Constant (.int i) j pos) (mC (.int i)) := ge_c pe_int fun _ => rfl
theorem ge_bl {b j} : GE X Wx (.Constant (.bool b) j pos) (mC (.bl b)) := ge_c pe_bl fun _ => rfl
theorem ge_non {j} : GE X Wx (.Constant .none j pos) (mC .non) := ge_c pe_non fun _ => rfl
theorem ge_str {x j} : GE X Wx (.Constant (.str x) j pos) (mC (.str x)) := ge_c pe_str fun _ => rfl

/-- a rule for an operation on values serves the mirror's f -/
def R2ok (X : Cx) (Wx : WX) (r : R2) (f : W → W → Store → Res W) : Prop :=
  ∀ (p : Wh) (st : Store) (x y : W) (v u : V) (σ : L2.St) (Q : VK), SR X.K p st → RW X.K p x v → RW X.K p y u → Fin X.K X.mg (RW X.K) Wx p σ Q (f x y st) → r v u p.H Q
def R1ok (X : Cx) (Wx : WX) (r : V → Hp → VK → Prop) (f : W → Store → Res W) : Prop :=
  ∀ (p : Wh) (st : Store) (x : W) (v : V) (σ : L2.St) (Q : VK), SR X.K p st → RW X.K p x v → Fin X.K X.mg (RW X.K) Wx p σ Q (f x st) → r v p.H Q
def RCok (X : Cx) (Wx : WX) (r : List V → Hp → VK → Prop) (f : List W → Store → Res W) : Prop :=
  ∀ (p : Wh) (st : Store) (xs : List W) (vs : List V) (σ : L2.St) (Q : VK), SR X.K p st → RWs X.K p xs vs → Fin X.K X.mg (RW X.K) Wx p σ Q (f xs st) → r vs p.H Q

theorem tOp_of {r : R2} {f : W → W → Store → Res W} (hr : R2ok X Wx r f) (σ : L2.St) (H : Hp) (Q : VK) (h : tG X.K X.mg (RW X.K) Wx (mOp f ma mb) σ H Q) : tOp r (tG X.K X.mg (RW X.K) Wx ma) (tG X.K X.mg (RW X.K) Wx mb) σ H Q := by
  obtain ⟨p, st, env, hp, S, E, h⟩ := h
  exact tG_bind hp S E h fun q s1 x v t1 S1 E1 rx h1 => tG_bind rfl S1 E1 h1 fun q2 s2 y u t2 S2 E2 ry h2 => hr q2 s2 x y v u σ Q S2 (RW.step t2 x v rx) ry h2
theorem ge_op {op : Operator} {r : R2} {f : W → W → Store → Res W} (ho : OpR X (binaryOp op) r) (hr : R2ok X Wx r f) (ha : GE X Wx a ma) (hb : GE X Wx b mb) : GE X Wx (.BinOp a op b pos) (mOp f ma mb) :=
  PEimp (pe_op ho ha hb) fun σ H Q h => tOp_of hr σ H Q h
theorem ge_un {op : UnaryOp} {r : V → Hp → VK → Prop} {f : W → Store → Res W} (ho : UnR X (unaryOp op) r) (hr : R1ok X Wx r f) (ha : GE X Wx a ma) : GE X Wx (.UnaryOp op a pos) (mUn f ma) :=
  PEimp (pe_un ho ha) fun σ H Q ⟨p, st, env, hp, S, E, h⟩ => tG_bind hp S E h fun q s1 x v t1 S1 E1 rx h1 => hr q s1 x v σ Q S1 rx h1
theorem ge_cmp {op : CmpOp} {r : R2} {f : W → W → Store → Res W} (ho : OpR X (compareOp op) r) (hr : R2ok X Wx r f) (ha : GE X Wx a ma) (hb : GE X Wx b mb) (hm : behindInMarks op b = false) : GE X Wx (.Compare a [op] [b] pos) (mOp f ma mb) :=
  PEimp (pe_cmpR ho ha hb hm) fun σ H Q h => tOp_of hr σ H Q h
theorem asB_of {σ : L2.St} {H : Hp} {Q : Bool → Hp → Prop} {m : Ev W} (h : tG X.K X.mg eqR Wx (mB m) σ H Q) : tG X.K X.mg (RW X.K) Wx m σ H fun x H' => ∃ k, x = .bl k ∧ Q k H' := by
  obtain ⟨p, st, env, hp, S, E, h⟩ := h
  refine tG_bind hp S E h fun q s1 x v t1 S1 E1 rx h1 => ?_
  cases x with
  | bl k => exact ⟨k, rx, h1 q k (.refl S1) S1 rfl⟩
  | _ => exact h1.elim
theorem gt_cmp {op : CmpOp} {r : R2} {f : W → W → Store → Res W} (ho : OpR X (compareOp op) r) (hr : R2ok X Wx r f) (ha : GE X Wx a ma) (hb : GE X Wx b mb) (hm : behindInMarks op b = false) : GT X Wx (.Compare a [op] [b] pos) (mB (mOp f ma mb)) :=
  PTimp (pt_cmpR ho ha hb hm) fun σ H Q h => tOp_of hr σ H _ (asB_of h)
theorem gt_val (h : GE X Wx e ma) (he : ∀ whole, isTrue e X.env whole = (do let v ← whole; standAt e.pos; holding [v] (truthy v)) := by intro _; rfl) : GT X Wx e (mB ma) :=
  PTimp (pt_val h he) fun σ H Q h => asB_of h
theorem gw_and1 (h : GT X Wx a mt) : GW X Wx (.BoolOp .And [a] pos) mt := pw_and1 h
theorem gw_or1 (h : GT X Wx a mt) : GW X Wx (.BoolOp .Or [a] pos) mt := pw_or1 h
theorem gw_and {rest : List Expr} (h : GT X Wx a mt) (k : GW X Wx (.BoolOp .And (b :: rest) pos) mu) : GW X Wx (.BoolOp .And (a :: b :: rest) pos) (mAnd mt mu) :=
  PWimp (pw_and h k) fun σ H Q ⟨p, st, env, hp, S, E, h⟩ => tG_bind hp S E h fun q s1 x v t1 S1 E1 rx h1 => by
    have rx' : x = v := rx
    subst rx'
    cases x with
    | true => exact ⟨q, s1, env, rfl, S1, E1, h1⟩
    | false => exact h1 q false (.refl S1) S1 rfl
theorem gw_or {rest : List Expr} (h : GT X Wx a mt) (k : GW X Wx (.BoolOp .Or (b :: rest) pos) mu) : GW X Wx (.BoolOp .Or (a :: b :: rest) pos) (mOr mt mu) :=
  PWimp (pw_or h k) fun σ H Q ⟨p, st, env, hp, S, E, h⟩ => tG_bind hp S E h fun q s1 x v t1 S1 E1 rx h1 => by
    have rx' : x = v := rx
    subst rx'
    cases x with
    | false => exact ⟨q, s1, env, rfl, S1, E1, h1⟩
    | true => exact h1 q true (.refl S1) S1 rfl
theorem gt_not (h : GT X Wx a mt) : GT X Wx (.UnaryOp .Not a pos) (mNot mt) :=
  PTimp (pt_not h) fun σ H Q ⟨p, st, env, hp, S, E, h⟩ => tG_bind hp S E h fun q s1 x v t1 S1 E1 rx h1 => by
    have rx' : x = v := rx
    subst rx'
    exact h1 q (!x) (.refl S1) S1 rfl
theorem GW.pt (h : GW X Wx e mt) : GT X Wx e mt := L2.PW.pt h
theorem mB_of {σ : L2.St} {Q : VK} {p : Wh} {st : Store} {env : En} {H : Hp} {k : Bool → Store → Res W} {t : V → Hp → Prop} (hp : p.H = H) (S : SR X.K p st) (E : EnvR X.K p env σ) (h : Fin X.K X.mg (RW X.K) Wx p σ Q ((mB ma env st).bind k))
    (hq : ∀ (q : Wh) (st' : Store) (b : Bool), Step p q → SR X.K q st' → EnvR X.K q env σ → Fin X.K X.mg (RW X.K) Wx q σ Q (k b st') → t (.bl b) q.H) : tG X.K X.mg (RW X.K) Wx ma σ H t := by
  have e : (mB ma env st).bind k = (ma env st).bind fun x s1 => (asB x s1).bind k := by
    unfold mB
    cases ma env st <;> rfl
  rw [e] at h
  refine tG_bind hp S E h fun q s1 x v t1 S1 E1 rx h1 => ?_
  cases x with
  | bl c =>
    have rx' : v = .bl c := rx
    subst rx'
    exact hq q s1 c t1 S1 E1 h1
  | _ => exact h1.elim
theorem ge_one {op} (h : GE X Wx a ma) : GE X Wx (.BoolOp op [a] pos) ma := pe_one h
theorem ge_and {rest : List Expr} (h : GE X Wx a ma) (k : GE X Wx (.BoolOp .And (b :: rest) pos) mb) : GE X Wx (.BoolOp .And (a :: b :: rest) pos) (mAndV ma mb) :=
  PEimp (pe_and h k) fun σ H Q ⟨p, st, env, hp, S, E, h⟩ => mB_of hp S E h fun q s1 c t1 S1 E1 h1 => ⟨c, rfl, by
    cases c with
    | true => exact ⟨q, s1, env, rfl, S1, E1, h1⟩
    | false => exact h1 q _ (.refl S1) S1 rfl⟩
theorem ge_or {rest : List Expr} (h : GE X Wx a ma) (k : GE X Wx (.BoolOp .Or (b :: rest) pos) mb) : GE X Wx (.BoolOp .Or (a :: b :: rest) pos) (mOrV ma mb) :=
  PEimp (pe_or h k) fun σ H Q ⟨p, st, env, hp, S, E, h⟩ => mB_of hp S E h fun q s1 c t1 S1 E1 h1 => ⟨c, rfl, by
    cases c with
    | false => exact ⟨q, s1, env, rfl, S1, E1, h1⟩
    | true => exact h1 q _ (.refl S1) S1 rfl⟩
theorem ge_not (h : GE X Wx a ma) : GE X Wx (.UnaryOp .Not a pos) (mNotV ma) :=
  PEimp (pe_not h) fun σ H Q ⟨p, st, env, hp, S, E, h⟩ => mB_of hp S E h fun q s1 c t1 S1 E1 h1 => ⟨c, rfl, h1 q _ (.refl S1) S1 rfl⟩
theorem ge_if (hc : GT X Wx c mt) (ha : GE X Wx a ma) (hb : GE X Wx b mb) : GE X Wx (.IfExp c a b pos) (mIf mt ma mb) :=
  PEimp (pe_ifExp hc ha hb) fun σ H Q ⟨p, st, env, hp, S, E, h⟩ => tG_bind hp S E h fun q s1 x v t1 S1 E1 rx h1 => by
    have rx' : x = v := rx
    subst rx'
    cases x with
    | true => exact ⟨q, s1, env, rfl, S1, E1, h1⟩
    | false => exact ⟨q, s1, env, rfl, S1, E1, h1⟩

/-! ### argument lists, displays -/
theorem ga_nil : GA X Wx [] mNil := PAimp pa_nil fun σ H Q ⟨p, st, env, hp, S, E, h⟩ => by
  subst hp
  exact h p [] (.refl S) S rfl
theorem ga_cons (ha : GE X Wx e ma) (hr : GA X Wx es ml) (hs : starEach (e :: es) X.env = (false, eval e X.env) :: starEach es X.env := by rfl) : GA X Wx (e :: es) (mCons ma ml) :=
  PAimp (pa_cons ha hr hs) fun σ H Q ⟨p, st, env, hp, S, E, h⟩ => tG_bind hp S E h fun q s1 x v t1 S1 E1 rx h1 => tG_bind rfl S1 E1 h1 fun q2 s2 y u t2 S2 E2 ry h2 =>
    h2 q2 (v :: u) (.refl S2) S2 ⟨v, u, rfl, RW.step t2 x v rx, ry⟩
theorem line_le {n : Nat} (h : n ≤ 100000) : n ≤ sizeLine := Nat.le_trans h (by decide)
/-- a new thing that stands apart -/
theorem fresh_out {K : PySem.W.Frag} {p : Wh} {st : Store} (S : SR K p st) {a : Addr} (h : p.H a = none) : p.out a := ⟨fun i hi e => S.there i hi (by rw [e]; exact h), fun z => (S.hid a z).1 h⟩
theorem step_new {K : PySem.W.Frag} {p : Wh} {st : Store} (S : SR K p st) {a : Addr} {o : HO} (h : p.H a = none) : Step p { p with H := upd p.H a o } := by
  have he : ∀ b u, p.H b = some u → upd p.H a o b = some u := fun b u e => by
    rw [upd_ne (ne_of_none e h)]
    exact e
  have hn : ∀ b, p.H b ≠ none → upd p.H a o b ≠ none := fun b z e => by
    cases q : p.H b with
    | none => exact z q
    | some u =>
      rw [he b u q] at e
      cases e
  refine ⟨⟨Nat.le_refl _, fun _ _ => rfl, fun b u e _ => he b u e, fun i h1 h2 => absurd h2 (Nat.not_lt.mpr h1), fun i hi => hn _ (S.there i hi), fun b z => .inl z, fun b z => hn b (S.hid b z).1⟩, rfl, fun b z => ?_⟩
  cases q : p.H b with
  | none => exact absurd q (S.hid b z).1
  | some u => exact (he b u q)
theorem RO.step {K : PySem.W.Frag} {p q : Wh} (s : Step p q) {o : O} {h : Option HO} (r : RO K p o h) : RO K q o h := by
  cases o with
  | lst xs =>
    obtain ⟨vs, e, k⟩ := r
    exact ⟨vs, e, RWs.step s xs vs k⟩
  | ins C fs =>
    obtain ⟨dx, gs, e, l, k⟩ := r
    exact ⟨dx, gs, e, l, RWs.step s _ _ k⟩
  | dct fs =>
    obtain ⟨gs, e, l, k⟩ := r
    exact ⟨gs, e, l, RWs.step s _ _ k⟩
theorem sr_new {K : PySem.W.Frag} {p : Wh} {st : Store} (S : SR K p st) {a : Addr} {o : HO} (h : p.H a = none) : SR K { p with H := upd p.H a o } st := by
  refine ⟨S.len, S.inj, fun i u e => ?_, fun b z => ⟨(step_new (o := o) S h).hth b z, (S.hid b z).2⟩⟩
  have hi : i < p.n := by
    rw [S.len]
    exact (List.getElem?_eq_some_iff.mp e).1
  have r := (S.obj i u e).step (step_new (o := o) S h)
  show RO K _ u (upd p.H a o (p.ρ i))
  rw [upd_ne (fun e => S.there i hi (by rw [e]; exact h))]
  exact r
theorem new_tup {K : PySem.W.Frag} {p : Wh} {st : Store} (S : SR K p st) {a : Addr} {xs : List W} {vs : List V} (h : p.H a = none) (r : RWs K p xs vs) : RW K { p with H := upd p.H a (.tup vs) } (.tup xs) (.ref a) :=
  ⟨a, vs, rfl, .inl ⟨.inl upd_same, fresh_out S h⟩, RWs.step (step_new S h) xs vs r⟩
theorem new_lst {K : PySem.W.Frag} {p : Wh} {st : Store} (S : SR K p st) {a : Addr} {xs : List W} {vs : List V} (h : p.H a = none) (r : RWs K p xs vs) : RW K { p with H := upd p.H a (.lst vs) } (.lst xs) (.ref a) :=
  ⟨a, vs, rfl, ⟨upd_same, fresh_out S h⟩, RWs.step (step_new S h) xs vs r⟩
theorem ge_tup {x1} (h : GA X Wx es ml) : GE X Wx (.Tuple es x1 pos) (mTup ml) :=
  PEimp (pe_tup h) fun σ H Q ⟨p, st, env, hp, S, E, h⟩ => tG_bind hp S E h fun q s1 xs vs t1 S1 E1 rx h1 => by
    dsimp only at h1
    by_cases hl : xs.length ≤ 100000
    · rw [if_pos hl] at h1
      refine ⟨by rw [← rx.length]; exact line_le hl, fun a ha => ?_⟩
      exact h1 { q with H := upd q.H a (.tup vs) } (.ref a) (step_new S1 ha) (sr_new S1 ha) (new_tup S1 ha rx)
    · rw [if_neg hl] at h1
      exact h1.elim
theorem ge_lst (h : GA X Wx es ml) : GE X Wx (.List es pos) (mLst ml) :=
  PEimp (pe_lst h) fun σ H Q ⟨p, st, env, hp, S, E, h⟩ => tG_bind hp S E h fun q s1 xs vs t1 S1 E1 rx h1 => by
    dsimp only at h1
    by_cases hl : xs.length ≤ 100000
    · rw [if_pos hl] at h1
      refine ⟨by rw [← rx.length]; exact line_le hl, fun a ha => ?_⟩
      exact h1 { q with H := upd q.H a (.lst vs) } (.ref a) (step_new S1 ha) (sr_new S1 ha) (new_lst S1 ha rx)
    · rw [if_neg hl] at h1
      exact h1.elim
/-- a new thing of the store -/
def Wh.more (p : Wh) (a : Addr) (o : HO) : Wh := ⟨fun i => if i = p.n then a else p.ρ i, p.n + 1, upd p.H a o, p.x⟩
theorem step_more {K : PySem.W.Frag} {p : Wh} {st : Store} (S : SR K p st) {a : Addr} {o : HO} (h : p.H a = none) : Step p (p.more a o) := by
  have t := step_new (o := o) S h
  refine ⟨⟨Nat.le_succ _, fun i hi => if_neg (by omega), t.keep, fun i h1 h2 => ?_, fun i hi => ?_, fun b z => .inl z, t.hth⟩, rfl, t.hk⟩
  · have e : i = p.n := Nat.le_antisymm (Nat.lt_succ_iff.mp h2) h1
    refine .inl ?_
    show p.H (if i = p.n then a else p.ρ i) = none
    rw [if_pos e]
    exact h
  · show upd p.H a o (if i = p.n then a else p.ρ i) ≠ none
    by_cases e : i = p.n
    · rw [if_pos e, upd_same]
      exact fun z => nomatch z
    · have hi' : i < p.n + 1 := hi
      rw [if_neg e]
      exact t.there i (show i < p.n by omega)
theorem sr_more {K : PySem.W.Frag} {p : Wh} {st : Store} (S : SR K p st) {a : Addr} {xs : List W} {vs : List V} (h : p.H a = none) (r : RWs K p xs vs) : SR K (p.more a (.lst vs)) (st ++ [.lst xs]) := by
  have t := step_more (o := .lst vs) S h
  refine ⟨by rw [List.length_append, ← S.len]; rfl, fun i j hi hj e => ?_, fun i u e => ?_, fun b z => ⟨t.hth b z, fun i hi e => ?_⟩⟩
  · have hi' : i < p.n + 1 := hi
    have hj' : j < p.n + 1 := hj
    have e' : (if i = p.n then a else p.ρ i) = (if j = p.n then a else p.ρ j) := e
    by_cases h1 : i = p.n
    · by_cases h2 : j = p.n
      · omega
      · rw [if_pos h1, if_neg h2] at e'
        exact absurd (by rw [← e']; exact h) (S.there j (by omega))
    · by_cases h2 : j = p.n
      · rw [if_neg h1, if_pos h2] at e'
        exact absurd (by rw [e']; exact h) (S.there i (by omega))
      · rw [if_neg h1, if_neg h2] at e'
        exact S.inj i j (by omega) (by omega) e'
  · show RO K _ u (upd p.H a (.lst vs) (if i = p.n then a else p.ρ i))
    by_cases h1 : i = p.n
    · rw [if_pos h1, upd_same]
      rw [h1, S.len, List.getElem?_append_right (Nat.le_refl _)] at e
      have e' : O.lst xs = u := by simpa using e
      subst e'
      exact ⟨vs, rfl, RWs.step t xs vs r⟩
    · have hi : i < (st ++ [O.lst xs]).length := (List.getElem?_eq_some_iff.mp e).1
      rw [List.length_append, List.length_singleton, ← S.len] at hi
      rw [if_neg h1, upd_ne (fun z => S.there i (by omega) (by rw [z]; exact h))]
      rw [List.getElem?_append_left (by rw [← S.len]; omega)] at e
      exact (S.obj i u e).step t
  · have hi' : i < p.n + 1 := hi
    have e' : (if i = p.n then a else p.ρ i) = b := e
    by_cases h1 : i = p.n
    · rw [if_pos h1] at e'
      exact (S.hid b z).1 (by rw [← e']; exact h)
    · rw [if_neg h1] at e'
      exact (S.hid b z).2 i (by omega) e'
theorem ge_new (h : GA X Wx es ml) : GE X Wx (.List es pos) (mNew ml) :=
  PEimp (pe_lst h) fun σ H Q ⟨p, st, env, hp, S, E, h⟩ => tG_bind hp S E h fun q s1 xs vs t1 S1 E1 rx h1 => by
    dsimp only at h1
    by_cases hl : xs.length ≤ 100000
    · rw [if_pos hl] at h1
      refine ⟨by rw [← rx.length]; exact line_le hl, fun a ha => ?_⟩
      refine h1 (q.more a (.lst vs)) (.ref a) (step_more S1 ha) (sr_more S1 ha rx) ⟨?_, ?_⟩
      · show s1.length < q.n + 1
        rw [S1.len]
        exact Nat.lt_succ_self _
      · show V.ref a = V.ref (if s1.length = q.n then a else q.ρ s1.length)
        rw [if_pos S1.len.symm]
    · rw [if_neg hl] at h1
      exact h1.elim
end
end Mi

namespace Mi
open PySem PySem.Spec PyProof.Rows L2
variable [ClsMap]

/-! ### statements -/
inductive Fl where
  | nx (env : En) | rt (w : W) | bk (env : En) | ct (env : En) | ex (x : Xc) (env : En)
inductive Sr where
  | go (f : Fl) (st : Store)
  | bad
abbrev Sm := En → Store → Sr

def FinS (K : PySem.W.Frag) (mg : Str → Option Value) (Wx : WX) (p : Wh) (D : Ends) : Sr → Prop
  | .go (.nx env) st => ∀ (q : Wh) (σ : L2.St), Step p q → SR K q st → EnvR K q env σ → D.nx σ q.H
  | .go (.bk env) st => ∀ (q : Wh) (σ : L2.St), Step p q → SR K q st → EnvR K q env σ → D.bk σ q.H
  | .go (.ct env) st => ∀ (q : Wh) (σ : L2.St), Step p q → SR K q st → EnvR K q env σ → D.ct σ q.H
  | .go (.rt w) st => ∀ (q : Wh) (v : V), Step p q → SR K q st → RW K q w v → D.rt v q.H
  | .go (.ex x env) st => ∀ (q : Wh) (σ : L2.St) (cls : Value) (d : Option Addr), Step p q → SR K q st → EnvR K q env σ → XR K mg q x cls d → Wx cls d σ q.H
  | .bad => False
def tS (K : PySem.W.Frag) (mg : Str → Option Value) (Wx : WX) (m : Sm) : TS := fun D σ H => ∃ (p : Wh) (st : Store) (env : En), p.H = H ∧ SR K p st ∧ EnvR K p env σ ∧ FinS K mg Wx p D (m env st)
abbrev GS (X : Cx) (Wx : WX) (s : Stmt) (m : Sm) : Prop := PS X s (tS X.K X.mg Wx m)
abbrev GSs (X : Cx) (Wx : WX) (s : List Stmt) (m : Sm) : Prop := PSs X s (tS X.K X.mg Wx m)

def liftE {α : Type} (m : Ev α) (k : α → En → Store → Sr) : Sm := fun env st => match m env st with
  | .ok a s1 => k a env s1
  | .exc x s1 => .go (.ex x env) s1
  | .bad => .bad
def sNx : Sm := fun env st => .go (.nx env) st
def sBk : Sm := fun env st => .go (.bk env) st
def sCt : Sm := fun env st => .go (.ct env) st
def sBad : Sm := fun _ _ => .bad
def sSeq (a b : Sm) : Sm := fun env st => match a env st with
  | .go (.nx e2) s1 => b e2 s1
  | r => r
def sSet (i : Nat) (m : Ev W) : Sm := liftE m fun w env st => .go (.nx (env.set i (some w))) st
def sRet (m : Ev W) : Sm := liftE m fun w _ st => .go (.rt w) st
def sRetN : Sm := fun _ st => .go (.rt .non) st
def sDrop (m : Ev W) : Sm := liftE m fun _ env st => .go (.nx env) st
def sIf (t : Ev Bool) (a b : Sm) : Sm := liftE t fun c env st => if c = true then a env st else b env st
/-- a target that a value goes to -/
def putAll : List Nat → List W → En → En
  | i :: is, w :: ws, env => putAll is ws (env.set i (some w))
  | _, _, env => env
def sUnp (is : List Nat) (m : Ev W) : Sm := liftE m fun w env st => match w with
  | .tup xs => if xs.length = is.length then .go (.nx (putAll is xs env)) st else .bad
  | _ => .bad
def sPar (i j : Nat) (m : Ev (List W)) : Sm := liftE m fun ws env st => match ws with
  | [x, y] => .go (.nx ((env.set i (some x)).set j (some y))) st
  | _ => .bad
/-- o[i] = e -/
def putAt (o : W) (i : W) (v : W) (st : Store) : Option Store :=
  match o, i with
  | .ref n, .int k => match st[n]? with
    | some (.lst xs) => match ixN xs.length k with
      | some j => some (st.set n (.lst (xs.set j v)))
      | none => none
    | _ => none
  | _, _ => none
def sPut (me mo mi : Ev W) : Sm := liftE me fun v env st => liftE mo (fun o env st => liftE mi (fun i env st => match putAt o i v st with
  | some s2 => .go (.nx env) s2
  | none => .bad) env st) env st
/-- for: what one turn makes of an item -/
def forEach (body : Sm) (put : W → En → En) : List W → Sm
  | [] => fun env st => .go (.nx env) st
  | x :: xs => fun env st => match body (put x env) st with
    | .go (.nx e2) s2 => forEach body put xs e2 s2
    | .go (.ct e2) s2 => forEach body put xs e2 s2
    | .go (.bk e2) s2 => .go (.nx e2) s2
    | r => r
def rngW (lo : Int) (n : Nat) : List W := (List.range n).map fun (i : Nat) => W.int (lo + (i : Int))
def as1 : List W → Option Int
  | [.int n] => some n
  | _ => none
def as2 : List W → Option (Int × Int)
  | [.int a, .int b] => some (a, b)
  | _ => none
def sForR1 (m : Ev (List W)) (j : Nat) (body : Sm) : Sm := liftE m fun ws env st => match as1 ws with
  | some n => if -(2 ^ 62) ≤ n ∧ n < 2 ^ 62 then forEach body (fun x e => e.set j (some x)) (rngW 0 n.toNat) env st else .bad
  | none => .bad
def sForR2 (m : Ev (List W)) (j : Nat) (body : Sm) : Sm := liftE m fun ws env st => match as2 ws with
  | some ab => if -(2 ^ 62) ≤ ab.1 ∧ ab.1 < 2 ^ 62 ∧ -(2 ^ 62) ≤ ab.2 ∧ ab.2 < 2 ^ 62 then forEach body (fun x e => e.set j (some x)) (rngW ab.1 (ab.2 - ab.1).toNat) env st else .bad
  | none => .bad
/-- the items that a for goes over -/
def tupOf : W → Option (List W)
  | .tup xs => some xs
  | _ => none
def seqOf : W → Option (List W)
  | .lst xs => some xs
  | .frz xs => some xs
  | _ => none
def sForT (m : Ev W) (put : W → En → En) (body : Sm) : Sm := liftE m fun w env st => match tupOf w with
  | some xs => forEach body put xs env st
  | none => .bad
def sForS (m : Ev W) (put : W → En → En) (body : Sm) : Sm := liftE m fun w env st => match seqOf w with
  | some xs => forEach body put xs env st
  | none => .bad

section
variable {K : PySem.W.Frag} {mg : Str → Option Value} {Wx : WX} {p q : Wh} {D : Ends} {st : Store} {env : En} {σ : L2.St} {H : Hp} {α β : Type} {R : Wh → α → β → Prop}
theorem FinS.later {r : Sr} (s : Step p q) (h : FinS K mg Wx p D r) : FinS K mg Wx q D r := by
  cases r with
  | bad => exact h
  | go f st =>
    cases f with
    | nx e => exact fun z a t => h z a (s.trans t)
    | bk e => exact fun z a t => h z a (s.trans t)
    | ct e => exact fun z a t => h z a (s.trans t)
    | rt w => exact fun z a t => h z a (s.trans t)
    | ex x e => exact fun z a c d t => h z a c d (s.trans t)
theorem lift_of {m : Ev α} {k : α → En → Store → Sr} {Q : β → Hp → Prop} (hp : p.H = H) (S : SR K p st) (E : EnvR K p env σ) (h : FinS K mg Wx p D (liftE m k env st))
    (hq : ∀ (q : Wh) (st' : Store) (a : α) (b : β), Step p q → SR K q st' → EnvR K q env σ → R q a b → FinS K mg Wx q D (k a env st') → Q b q.H) : tG K mg R Wx m σ H Q := by
  refine ⟨p, st, env, hp, S, E, ?_⟩
  unfold liftE at h
  cases e : m env st with
  | ok a s1 =>
    rw [e] at h
    exact fun q b t s r => hq q s1 a b t s (E.step t) r (FinS.later t h)
  | exc x s1 =>
    rw [e] at h
    exact fun q c d t s xr => h q σ c d t s (E.step t) xr
  | bad =>
    rw [e] at h
    exact h
end
theorem PSimp {X : Cx} {e : Stmt} {t t' : TS} (h : PS X e t) (i : ∀ D σ H, t' D σ H → t D σ H) : PS X e t' := ⟨fun pins s σ H D I z => h.run pins s σ H D I (i D σ H z)⟩
theorem PSsimp {X : Cx} {e : List Stmt} {t t' : TS} (h : PSs X e t) (i : ∀ D σ H, t' D σ H → t D σ H) : PSs X e t' := ⟨fun pins s σ H D I z => h.run pins s σ H D I (i D σ H z)⟩
section
variable {X : Cx} {Wx : WX} {a b c e : Expr} {es : List Expr} {ma mb mc me : Ev W} {mt mu : Ev Bool} {ml : Ev (List W)} {pos : Pos} {s : Stmt} {ss : List Stmt} {m1 m2 : Sm} {N : List Str}
theorem gss_nil : GSs X Wx [] sNx := PSsimp pss_nil fun D σ H ⟨p, st, env, hp, S, E, h⟩ => by
  subst hp
  exact h p σ (.refl S) S E
theorem gss_cons (h1 : GS X Wx s m1) (h2 : GSs X Wx ss m2) : GSs X Wx (s :: ss) (sSeq m1 m2) := PSsimp (pss_cons h1 h2) fun D σ H ⟨p, st, env, hp, S, E, h⟩ => by
  refine ⟨p, st, env, hp, S, E, ?_⟩
  unfold sSeq at h
  cases e : m1 env st with
  | bad =>
    rw [e] at h
    exact h
  | go f s1 =>
    rw [e] at h
    cases f with
    | nx e2 => exact fun q σ' t S' E' => ⟨q, s1, e2, rfl, S', E', FinS.later t h⟩
    | bk e2 => exact h
    | ct e2 => exact h
    | rt w => exact h
    | ex x e2 => exact h
theorem gss_one (h1 : GS X Wx s m1) : GSs X Wx [s] m1 := pss_one h1
theorem gs_pass : GS X Wx (.Pass pos) sNx := PSimp ps_pass fun D σ H ⟨p, st, env, hp, S, E, h⟩ => by
  subst hp
  exact h p σ (.refl S) S E
theorem gs_break : GS X Wx (.Break pos) sBk := PSimp ps_break fun D σ H ⟨p, st, env, hp, S, E, h⟩ => by
  subst hp
  exact h p σ (.refl S) S E
theorem gs_continue : GS X Wx (.Continue pos) sCt := PSimp ps_continue fun D σ H ⟨p, st, env, hp, S, E, h⟩ => by
  subst hp
  exact h p σ (.refl S) S E
theorem gs_never : GS X Wx s sBad := PSimp ps_never fun D σ H ⟨p, st, env, hp, S, E, h⟩ => h.elim
theorem gs_set {i : Nat} {x : Str} {pos' : Pos} (hN : X.N.Nodup) (hi : X.N[i]? = some x) (hx : Loc X.env.scope x) (he : GE X Wx e me) (hs : swapsWith e (some (.Name x pos')) pos.line X.env = pure false := by rfl)
    (hf : X.fn x = true ∨ X.env.scope.names.lookup x = some .local := by first | exact .inl rfl | exact .inr rfl | assumption) : GS X Wx (.Assign [.Name x pos'] e pos) (sSet i me) :=
  PSimp (ps_set hN hi hx he hs hf) fun D σ H ⟨p, st, env, hp, S, E, h⟩ => lift_of hp S E h fun q s1 w v t S1 E1 r h1 => h1 q _ (.refl S1) S1 (E1.set i r)
theorem gs_ret (he : GE X Wx e me) : GS X Wx (.Return (some e) pos) (sRet me) :=
  PSimp (ps_ret he) fun D σ H ⟨p, st, env, hp, S, E, h⟩ => lift_of hp S E h fun q s1 w v t S1 E1 r h1 => h1 q v (.refl S1) S1 r
theorem gs_retN : GS X Wx (.Return none pos) sRetN := PSimp ps_retN fun D σ H ⟨p, st, env, hp, S, E, h⟩ => by
  subst hp
  exact h p .non (.refl S) S rfl
theorem gs_expr (he : GE X Wx e me) (hs : swapsWith e none pos.line X.env = pure false := by rfl) : GS X Wx (.Expr e pos) (sDrop me) :=
  PSimp (ps_expr he hs) fun D σ H ⟨p, st, env, hp, S, E, h⟩ => lift_of hp S E h fun q s1 w v t S1 E1 r h1 => h1 q σ (.refl S1) S1 E1
theorem gs_if {sa sb : List Stmt} (hc : GT X Wx c mt) (ha : GSs X Wx sa m1) (hb : GSs X Wx sb m2) : GS X Wx (.If c sa sb pos) (sIf mt m1 m2) :=
  PSimp (ps_if hc ha hb) fun D σ H ⟨p, st, env, hp, S, E, h⟩ => lift_of hp S E h fun q s1 w v t S1 E1 r h1 => by
    have r' : w = v := r
    subst r'
    cases w with
    | true => exact ⟨q, s1, env, rfl, S1, E1, h1⟩
    | false => exact ⟨q, s1, env, rfl, S1, E1, h1⟩
/-- names that a tuple's items go to -/
def gNames : List Nat → TGs
  | [] => gNil
  | i :: is => gCons (gName i) (gNames is)
theorem gNames_of {K : PySem.W.Frag} {q : Wh} : ∀ (is : List Nat) {xs : List W} {vs : List V} {env : En} {σ : L2.St} {Q : L2.St → Hp → Prop}, xs.length = is.length → RWs K q xs vs → EnvR K q env σ → (∀ σ', EnvR K q (putAll is xs env) σ' → Q σ' q.H) → gNames is vs σ q.H Q
  | [], [], vs, env, σ, Q, _, r, E, h => by
    have r' : vs = [] := r
    exact ⟨r', h σ E⟩
  | [], x :: xs, _, _, _, _, hl, _, _, _ => by simp at hl
  | i :: is, [], _, _, _, _, hl, _, _, _ => by simp at hl
  | i :: is, x :: xs, vs, env, σ, Q, hl, ⟨v, r, e, h1, h2⟩, E, h => ⟨v, r, e, gNames_of is (by simpa using hl) h2 (E.set i h1) h⟩
theorem gs_unp {is : List Nat} {ts : List Expr} {tk : Nat} {tp : Pos} (hg : PG X (.Tuple ts tk tp) (gTup X.K is.length (gNames is))) (he : GE X Wx e me)
    (hs : swapsWithSole [.Tuple ts tk tp] e pos.line X.env = pure false := by rfl) (hw : swappedStores [.Tuple ts tk tp] e X.env = pure none := by rfl) : GS X Wx (.Assign [.Tuple ts tk tp] e pos) (sUnp is me) :=
  PSimp (ps_asg he hg hs hw) fun D σ H ⟨p, st, env, hp, S, E, h⟩ => lift_of hp S E h fun q s1 w v t S1 E1 r h1 => by
    cases w with
    | tup xs =>
      obtain ⟨a, vs, e, ta, rs⟩ := r
      dsimp only at h1
      by_cases hl : xs.length = is.length
      · rw [if_pos hl] at h1
        exact ⟨a, vs, e, ta.seq, by rw [← rs.length]; exact hl, gNames_of is hl rs E1 fun σ' E' => h1 q σ' (.refl S1) S1 E'⟩
      · rw [if_neg hl] at h1
        exact h1.elim
    | _ => exact h1.elim
theorem gs_par {i j : Nat} {x y : Str} {px py pt : Pos} {kt k2 pt2} (hc : X.calm = true) (hN : X.N.Nodup) (hi : X.N[i]? = some x) (hj : X.N[j]? = some y) (hij : i ≠ j)
    (hx : X.env.scope.names.lookup x = some .local) (hy : X.env.scope.names.lookup y = some .local) (ha : GA X Wx [a, b] ml) (hw : swappedStores [.Tuple [.Name x px, .Name y py] kt pt] (.Tuple [a, b] k2 pt2) X.env = pure (some [x, y]))
    (hs : swapsWithSole [.Tuple [.Name x px, .Name y py] kt pt] (.Tuple [a, b] k2 pt2) pos.line X.env = pure false := by rfl) :
    GS X Wx (.Assign [.Tuple [.Name x px, .Name y py] kt pt] (.Tuple [a, b] k2 pt2) pos) (sPar i j ml) :=
  PSimp (ps_par hc hN hi hj hij hx hy ha hw hs) fun D σ H ⟨p, st, env, hp, S, E, h⟩ => lift_of hp S E h fun q s1 ws vs t S1 E1 r h1 => by
    match ws, r, h1 with
    | [], _, h1 => exact h1.elim
    | [_], _, h1 => exact h1.elim
    | [x, y], ⟨v, _, e, r1, u, _, e2, r2, e3⟩, h1 =>
      refine ⟨v, u, ?_, h1 q _ (.refl S1) S1 ((E1.set i r1).set j r2)⟩
      have e3' : _ = [] := e3
      rw [e, e2, e3']
    | _ :: _ :: _ :: _, _, h1 => exact h1.elim
/-- a thing of the store changes -/
theorem SR.at {K : PySem.W.Frag} {p : Wh} {st : Store} (S : SR K p st) {n : Nat} {xs : List W} (h : st[n]? = some (.lst xs)) : n < p.n ∧ ∃ vs, p.H (p.ρ n) = some (.lst vs) ∧ RWs K p xs vs := by
  refine ⟨by rw [S.len]; exact (List.getElem?_eq_some_iff.mp h).1, ?_⟩
  exact S.obj n _ h
theorem step_mut {K : PySem.W.Frag} {p : Wh} {st : Store} (S : SR K p st) {n : Nat} (hn : n < p.n) {o : HO} : Step p { p with H := upd p.H (p.ρ n) o } := by
  have hx : ∀ b, b ∈ p.x → upd p.H (p.ρ n) o b = p.H b := fun b z => upd_ne fun e => (S.hid b z).2 n hn e.symm
  refine ⟨⟨Nat.le_refl _, fun _ _ => rfl, fun b u e h => ?_, fun i h1 h2 => absurd h2 (Nat.not_lt.mpr h1), fun i hi => ?_, fun b z => .inl z, fun b z => ?_⟩, rfl, hx⟩
  · show upd p.H (p.ρ n) o b = some u
    rw [upd_ne (fun z => h.1 n hn z.symm)]
    exact e
  · show upd p.H (p.ρ n) o (p.ρ i) ≠ none
    by_cases z : i = n
    · rw [z, upd_same]
      exact fun z => nomatch z
    · rw [upd_ne (fun e => z (S.inj i n hi hn e))]
      exact S.there i hi
  · show upd p.H (p.ρ n) o b ≠ none
    rw [hx b z]
    exact (S.hid b z).1
theorem sr_mut {K : PySem.W.Frag} {p : Wh} {st : Store} (S : SR K p st) {n : Nat} (hn : n < p.n) {xs : List W} {vs : List V} (r : RWs K p xs vs) : SR K { p with H := upd p.H (p.ρ n) (.lst vs) } (st.set n (.lst xs)) := by
  have t : Step p { p with H := upd p.H (p.ρ n) (.lst vs) } := step_mut S hn
  refine ⟨by rw [List.length_set]; exact S.len, S.inj, fun i u e => ?_, fun b z => ⟨t.hth b z, (S.hid b z).2⟩⟩
  show RO K _ u (upd p.H (p.ρ n) (.lst vs) (p.ρ i))
  by_cases z : n = i
  · subst z
    rw [List.getElem?_set_self (by rw [← S.len]; exact hn)] at e
    cases e
    rw [upd_same]
    exact ⟨vs, rfl, RWs.step t xs vs r⟩
  · rw [List.getElem?_set_ne z] at e
    have hi : i < p.n := by
      rw [S.len]
      exact (List.getElem?_eq_some_iff.mp e).1
    rw [upd_ne (fun e => z (S.inj i n hi hn e).symm)]
    exact (S.obj i u e).step t
theorem gs_put {pos2 : Pos} (ho : GE X Wx a ma) (hi : GE X Wx b mb) (he : GE X Wx e me) (hs : swapsWithSole [.Subscript a b pos2] e pos.line X.env = pure false := by rfl) (hw : swappedStores [.Subscript a b pos2] e X.env = pure none := by rfl)
    (hsub : ∀ v, assign (.Subscript a b pos2) X.env v = (do
      let ov ← holding [v] (eval a X.env)
      let iv ← holding [v, ov] (eval b X.env)
      standAt pos2
      holding [v, ov, iv] (setItem ov iv v)
      release [v, ov, iv] []) := by intro _; rfl) : GS X Wx (.Assign [.Subscript a b pos2] e pos) (sPut me ma mb) :=
  PSimp (ps_asg he (pg_sub ho hi set_list hsub) hs hw) fun D σ H ⟨p, st, env, hp, S, E, h⟩ => lift_of hp S E h fun q s1 w v t S1 E1 r h1 =>
    lift_of rfl S1 E1 h1 fun q2 s2 w2 v2 t2 S2 E2 r2 h2 => lift_of rfl S2 E2 h2 fun q3 s3 w3 v3 t3 S3 E3 r3 h3 => by
      have r := RW.step (t2.trans t3) w v r
      have r2 := RW.step t3 w2 v2 r2
      cases w2 with
      | ref n =>
        cases w3 with
        | int k =>
          obtain ⟨hn, rfl⟩ := r2
          have r3' : v3 = .int k := r3
          subst r3'
          dsimp only [putAt] at h3
          cases e1 : s3[n]? with
          | none =>
            rw [e1] at h3
            exact h3.elim
          | some o =>
            cases o with
            | lst xs =>
              rw [e1] at h3
              dsimp only at h3
              cases e2 : ixN xs.length k with
              | none =>
                rw [e2] at h3
                exact h3.elim
              | some j =>
                rw [e2] at h3
                obtain ⟨hn', vs, hH, rs⟩ := S3.at e1
                refine ⟨q3.ρ n, vs, k, j, rfl, rfl, hH, by rw [← rs.length]; exact e2, ?_⟩
                exact h3 { q3 with H := upd q3.H (q3.ρ n) (.lst (vs.set j v)) } σ (step_mut S3 hn') (sr_mut S3 hn' (rs.set j r)) (E3.step (step_mut S3 hn'))
            | _ =>
              rw [e1] at h3
              exact h3.elim
        | _ => exact h3.elim
      | _ => cases w3 <;> exact h3.elim
/-- the rest of a loop -/
theorem for_of {K : PySem.W.Frag} {mg : Str → Option Value} {D : Ends} {body : Sm} {put : W → En → En} {x : W} {xs : List W} {env : En} {st : Store} {p : Wh} (S : SR K p st) {σ : L2.St} (E : EnvR K p (put x env) σ) (h : FinS K mg Wx p D (forEach body put (x :: xs) env st))
    (Nx : L2.St → Hp → Prop) (hN : ∀ q σ' e2 s2, Step p q → SR K q s2 → EnvR K q e2 σ' → FinS K mg Wx q D (forEach body put xs e2 s2) → Nx σ' q.H) : tS K mg Wx body { D with nx := Nx, ct := Nx, bk := D.nx } σ p.H := by
  refine ⟨p, st, put x env, rfl, S, E, ?_⟩
  unfold forEach at h
  cases e : body (put x env) st with
  | bad =>
    rw [e] at h
    exact h
  | go f s1 =>
    rw [e] at h
    cases f with
    | nx e2 => exact fun q σ' t S' E' => hN q σ' e2 s1 t S' E' (FinS.later t h)
    | ct e2 => exact fun q σ' t S' E' => hN q σ' e2 s1 t S' E' (FinS.later t h)
    | bk e2 => exact h
    | rt w => exact h
    | ex x e2 => exact h
theorem rngW_get {lo : Int} {n i : Nat} (h : i < n) : (rngW lo n)[i]? = some (.int (lo + (i : Int))) := by
  unfold rngW
  rw [List.getElem?_map, List.getElem?_range h]
  rfl
theorem rngW_len {lo : Int} {n : Nat} : (rngW lo n).length = n := by
  unfold rngW
  rw [List.length_map, List.length_range]
theorem for_rng {K : PySem.W.Frag} {mg : Str → Option Value} {D : Ends} {body : Sm} {j : Nat} {lo : Int} {n : Nat} {env : En} {st : Store} {p : Wh} {σ : L2.St} (S : SR K p st) (E : EnvR K p env σ)
    (h : FinS K mg Wx p D (forEach body (fun x e => e.set j (some x)) (rngW lo n) env st)) : ∃ W : Nat → Nat → L2.St → Hp → Prop, (∃ m, W 0 m σ p.H) ∧ ∀ i m σ H, W i m σ H →
      ((Itr lo n).stop i H ∧ D.nx σ H) ∨ ((Itr lo n).go i H ∧ ∃ N : L2.St → Hp → Prop, (∀ σ' H', N σ' H' → ∃ m', m' < m ∧ W (i + 1) m' σ' H') ∧ ∀ x H', (Itr lo n).yld i H x H' → gName j x σ H' fun σ2 H2 => tS K mg Wx body { D with nx := N, ct := N, bk := D.nx } σ2 H2) := by
  let Pv : Nat → L2.St → Hp → Prop := fun i σ' H' => ∃ (q : Wh) (e2 : En) (s2 : Store), q.H = H' ∧ SR K q s2 ∧ EnvR K q e2 σ' ∧ FinS K mg Wx q D (forEach body (fun x e => e.set j (some x)) ((rngW lo n).drop i) e2 s2)
  refine for_range (lo := lo) (n := n) (g := gName j) Pv ⟨p, env, st, rfl, S, E, h⟩ (fun i σ' H' hi ⟨q, e2, s2, eH, S2, E2, h2⟩ => ?_) fun σ' H' ⟨q, e2, s2, eH, S2, E2, h2⟩ => ?_
  · subst eH
    have hl : i < (rngW lo n).length := by
      rw [rngW_len]
      exact hi
    rw [List.drop_eq_getElem_cons hl] at h2
    have ex : (rngW lo n)[i] = W.int (lo + (i : Int)) := by
      have z := List.getElem?_eq_getElem hl
      rw [rngW_get hi] at z
      exact (Option.some.inj z).symm
    rw [ex] at h2
    show tS K mg Wx body _ (σ'.set j (some (.int (lo + (i : Int))))) q.H
    exact for_of S2 (E2.set j (show RW K q (.int (lo + (i : Int))) (.int (lo + (i : Int))) from rfl)) h2 (Pv (i + 1)) fun q3 σ3 e3 s3 t S3 E3 h3 => ⟨q3, e3, s3, rfl, S3, E3, h3⟩
  · subst eH
    rw [List.drop_of_length_le (by rw [rngW_len]; exact Nat.le_refl _)] at h2
    exact h2 q σ' (.refl S2) S2 E2
theorem as1_of {K : PySem.W.Frag} {p : Wh} {ws : List W} {vs : List V} {n : Int} (h : as1 ws = some n) (r : RWs K p ws vs) : vs = [.int n] := by
  unfold as1 at h
  split at h
  · cases h
    obtain ⟨v, _, e, r1, e3⟩ := r
    have r1' : v = .int n := r1
    have e3' : _ = [] := e3
    rw [e, r1', e3']
  · cases h
theorem as2_of {K : PySem.W.Frag} {p : Wh} {ws : List W} {vs : List V} {ab : Int × Int} (h : as2 ws = some ab) (r : RWs K p ws vs) : vs = [.int ab.1, .int ab.2] := by
  unfold as2 at h
  split at h
  · cases h
    obtain ⟨v, _, e, r1, v2, _, e2, r2, e3⟩ := r
    have r1' : v = .int _ := r1
    have r2' : v2 = .int _ := r2
    have e3' : _ = [] := e3
    rw [e, e2, r1', r2', e3']
  · cases h
theorem gs_forR1 {i : Nat} {x : Str} {p pos tp fpos : Pos} {body : List Stmt} (hpo : PassesOwn (model X.prog X.w) X.A X.env X.xe) (hc : X.calm = true) (hg : Gl X "range") (hm : X.mg "range" = none) (ha : GA X Wx [a] ml)
    (hN : X.N.Nodup) (hi : X.N[i]? = some x) (hx : Loc X.env.scope x) (hb : GSs X Wx body m1) (hs : starEach [a] X.env = [(false, eval a X.env)] := by rfl)
    (hfo : ∀ z, foldedSetIterable (.Call (.Name "range" p) [a] [] pos) X.env z = pure z := by intro _; rfl)
    (hf : X.fn x = true ∨ X.env.scope.names.lookup x = some .local := by first | exact .inl rfl | exact .inr rfl | assumption) :
    GS X Wx (.For (.Name x tp) (.Call (.Name "range" p) [a] [] pos) body [] fpos) (sForR1 ml i m1) :=
  PSimp (ps_for hpo hc (pi_range1 hg hm ha hs) (pg_name hN hi hx hf) hb hfo) fun D σ H ⟨p, st, env, hp, S, E, h⟩ => lift_of hp S E h fun q s1 ws vs t S1 E1 r h1 => by
    cases e : as1 ws with
    | none =>
      rw [e] at h1
      exact h1.elim
    | some n =>
      rw [e] at h1
      dsimp only at h1
      by_cases hb : -(2 ^ 62) ≤ n ∧ n < 2 ^ 62
      · rw [if_pos hb] at h1
        exact ⟨n, as1_of e r, hb.1, hb.2, for_rng S1 E1 h1⟩
      · rw [if_neg hb] at h1
        exact h1.elim
theorem gs_forR2 {i : Nat} {x : Str} {p pos tp fpos : Pos} {body : List Stmt} (hpo : PassesOwn (model X.prog X.w) X.A X.env X.xe) (hc : X.calm = true) (hg : Gl X "range") (hm : X.mg "range" = none) (ha : GA X Wx [a, b] ml)
    (hN : X.N.Nodup) (hi : X.N[i]? = some x) (hx : Loc X.env.scope x) (hb : GSs X Wx body m1) (hs : starEach [a, b] X.env = [(false, eval a X.env), (false, eval b X.env)] := by rfl) (hs2 : starEach [b] X.env = [(false, eval b X.env)] := by rfl)
    (hfo : ∀ z, foldedSetIterable (.Call (.Name "range" p) [a, b] [] pos) X.env z = pure z := by intro _; rfl)
    (hf : X.fn x = true ∨ X.env.scope.names.lookup x = some .local := by first | exact .inl rfl | exact .inr rfl | assumption) :
    GS X Wx (.For (.Name x tp) (.Call (.Name "range" p) [a, b] [] pos) body [] fpos) (sForR2 ml i m1) :=
  PSimp (ps_for hpo hc (pi_range2 hg hm ha hs hs2) (pg_name hN hi hx hf) hb hfo) fun D σ H ⟨p, st, env, hp, S, E, h⟩ => lift_of hp S E h fun q s1 ws vs t S1 E1 r h1 => by
    cases e : as2 ws with
    | none =>
      rw [e] at h1
      exact h1.elim
    | some ab =>
      rw [e] at h1
      dsimp only at h1
      by_cases hb : -(2 ^ 62) ≤ ab.1 ∧ ab.1 < 2 ^ 62 ∧ -(2 ^ 62) ≤ ab.2 ∧ ab.2 < 2 ^ 62
      · rw [if_pos hb] at h1
        exact ⟨ab.1, ab.2, as2_of e r, hb, for_rng S1 E1 h1⟩
      · rw [if_neg hb] at h1
        exact h1.elim
/-- the loop's state ahead of its i-th turn -/
def Turn (K : PySem.W.Frag) (mg : Str → Option Value) (Wx : WX) (D : Ends) (body : Sm) (put : W → En → En) (xs : List W) (p : Wh) (i : Nat) (σ' : L2.St) (H' : Hp) : Prop :=
  ∃ (q : Wh) (e2 : En) (s2 : Store), q.H = H' ∧ Step p q ∧ SR K q s2 ∧ EnvR K q e2 σ' ∧ FinS K mg Wx q D (forEach body put (xs.drop i) e2 s2)
/-- what a target does with an item -/
def PutOk (K : PySem.W.Frag) (g : TG) (put : W → En → En) (xs : List W) : Prop :=
  ∀ (q : Wh) (w : W) (v : V) (env : En) (σ : L2.St) (Q : L2.St → Hp → Prop), w ∈ xs → RW K q w v → EnvR K q env σ → (∀ σ', EnvR K q (put w env) σ' → Q σ' q.H) → g v σ q.H Q
theorem turn_of {K : PySem.W.Frag} {mg : Str → Option Value} {D : Ends} {body : Sm} {put : W → En → En} {xs : List W} {vs : List V} {p : Wh} {i : Nat} {g : TG} {v : V} {σ : L2.St} {H : Hp} (hg : PutOk K g put xs) (rs : RWs K p xs vs) (hv : vs[i]? = some v)
    (h : Turn K mg Wx D body put xs p i σ H) : g v σ H fun σ2 H2 => tS K mg Wx body { D with nx := Turn K mg Wx D body put xs p (i + 1), ct := Turn K mg Wx D body put xs p (i + 1), bk := D.nx } σ2 H2 := by
  obtain ⟨q, e2, s2, rfl, t, S2, E2, h2⟩ := h
  obtain ⟨w, hw, r⟩ := rs.getV hv
  obtain ⟨hl, hw'⟩ := List.getElem?_eq_some_iff.mp hw
  rw [List.drop_eq_getElem_cons hl, hw'] at h2
  exact hg q w v e2 σ _ (List.mem_of_getElem? hw) (RW.step t w v r) E2 fun σ' E' => for_of S2 E' h2 _ fun q3 σ3 e3 s3 t3 S3 E3 h3 => ⟨q3, e3, s3, rfl, t.trans t3, S3, E3, h3⟩
theorem turn_end {K : PySem.W.Frag} {mg : Str → Option Value} {D : Ends} {body : Sm} {put : W → En → En} {xs : List W} {vs : List V} {p : Wh} {σ : L2.St} {H : Hp} (rs : RWs K p xs vs) (h : Turn K mg Wx D body put xs p vs.length σ H) : D.nx σ H := by
  obtain ⟨q, e2, s2, rfl, t, S2, E2, h2⟩ := h
  rw [List.drop_of_length_le (by rw [rs.length]; exact Nat.le_refl _)] at h2
  exact h2 q σ (.refl S2) S2 E2
theorem frz_step {K : PySem.W.Frag} {p q : Wh} (t : Mv p q) {a : Addr} {vs : List V} (h : FrzAt K p a vs) : FrzAt K q a vs := h.imp (fun z => rd_step t z.1 z.2) (fun z => z)
theorem tup_step {K : PySem.W.Frag} {p q : Wh} (t : Mv p q) {a : Addr} {vs : List V} (h : TupAt K p a vs) : TupAt K q a vs := h.imp (fun z => rd_step t z.1 z.2) (fun z => z)
theorem lst_step {p q : Wh} (t : Mv p q) {a : Addr} {vs : List V} (h : LstAt p a vs) : LstAt q a vs := ⟨t.keep _ _ h.1 h.2, t.out h.1 h.2⟩
theorem LstAt.seq {K : PySem.W.Frag} {p : Wh} {a : Addr} {vs : List V} (h : LstAt p a vs) : SqL K p.H a vs := .inl (.inl h.1)
theorem tupOf_of {K : PySem.W.Frag} {p : Wh} {w : W} {v : V} {xs : List W} (h : tupOf w = some xs) (r : RW K p w v) : ∃ a vs, v = .ref a ∧ TupAt K p a vs ∧ RWs K p xs vs := by
  cases w with
  | tup ys =>
    cases h
    exact r
  | _ => cases h
theorem seqOf_of {K : PySem.W.Frag} {p : Wh} {w : W} {v : V} {xs : List W} (h : seqOf w = some xs) (r : RW K p w v) : ∃ a vs, v = .ref a ∧ (∀ q, Mv p q → SqL K q.H a vs) ∧ RWs K p xs vs := by
  cases w with
  | lst ys =>
    cases h
    obtain ⟨a, vs, e, ta, rs⟩ := r
    exact ⟨a, vs, e, fun q t => (lst_step t ta).seq, rs⟩
  | frz ys =>
    cases h
    obtain ⟨a, vs, e, ta, rs⟩ := r
    exact ⟨a, vs, e, fun q t => (frz_step t ta).seq, rs⟩
  | _ => cases h
theorem gs_forT {fpos : Pos} {tg it : Expr} {body : List Stmt} {g : TG} {put : W → En → En} (hpo : PassesOwn (model X.prog X.w) X.A X.env X.xe) (hc : X.calm = true) (he : GE X Wx it me) (hg : PG X tg g) (hp : ∀ xs, PutOk X.K g put xs) (hb : GSs X Wx body m1)
    (hfo : ∀ z, foldedSetIterable it X.env z = pure z := by intro _; rfl) : GS X Wx (.For tg it body [] fpos) (sForT me put m1) :=
  PSimp (ps_for hpo hc (pi_tup he) hg hb hfo) fun D σ H ⟨p, st, env, hp', S, E, h⟩ => lift_of hp' S E h fun q s1 w v t S1 E1 r h1 => by
    cases e : tupOf w with
    | none =>
      rw [e] at h1
      exact h1.elim
    | some xs =>
      rw [e] at h1
      obtain ⟨a, vs, ev, ta, rs⟩ := tupOf_of e r
      refine ⟨a, ev, ⟨vs, ta.seq⟩, for_tup (xs := vs) (Turn X.K X.mg Wx D m1 put xs q) ⟨q, env, s1, rfl, .refl S1, S1, E1, h1⟩ (fun i σ' H' hi ⟨z, _, _, ez, tz, _, _, _⟩ => ?_) (fun i x σ' H' hx hT => turn_of (hp xs) rs hx hT) fun σ' H' hT => turn_end rs hT⟩
      subst ez
      exact (tup_step tz.toMv ta).seq
theorem gs_forS {fpos : Pos} {tg it : Expr} {body : List Stmt} {g : TG} {put : W → En → En} (hpo : PassesOwn (model X.prog X.w) X.A X.env X.xe) (hc : X.calm = true) (he : GE X Wx it me) (hg : PG X tg g) (hp : ∀ xs, PutOk X.K g put xs) (hb : GSs X Wx body m1)
    (hfo : ∀ z, foldedSetIterable it X.env z = pure z := by intro _; rfl) : GS X Wx (.For tg it body [] fpos) (sForS me put m1) :=
  PSimp (ps_for hpo hc (pi_list he) hg hb hfo) fun D σ H ⟨p, st, env, hp', S, E, h⟩ => lift_of hp' S E h fun q s1 w v t S1 E1 r h1 => by
    cases e : seqOf w with
    | none =>
      rw [e] at h1
      exact h1.elim
    | some xs =>
      rw [e] at h1
      obtain ⟨a, vs, ev, ta, rs⟩ := seqOf_of e r
      refine ⟨a, ev, ⟨vs, ta q (Step.refl S1).toMv⟩, for_list (xs := vs) (Turn X.K X.mg Wx D m1 put xs q) ⟨q, env, s1, rfl, .refl S1, S1, E1, h1⟩ (fun i σ' H' hi ⟨z, _, _, ez, tz, _, _, _⟩ => ?_) (fun i x σ' H' hx hT => turn_of (hp xs) rs hx hT) fun σ' H' hT => turn_end rs hT⟩
      subst ez
      exact ta z tz.toMv
theorem put_name {K : PySem.W.Frag} {j : Nat} {xs : List W} : PutOk K (gName j) (fun x e => e.set j (some x)) xs := fun q w v env σ Q _ r E h => h _ (E.set j r)
end
end Mi

namespace Mi
open PySem PySem.Spec PyProof.Rows L2
variable [ClsMap]

/-! ### defs and their calls -/
def outM : Sr → Res W
  | .go (.rt w) s1 => .ok w s1
  | .go (.nx _) s1 => .ok .non s1
  | .go (.ex x _) s1 => .exc x s1
  | _ => .bad
/-- j parameters, n names -/
def fnM (j n : Nat) (body : Sm) : List W → Store → Res W := fun ws st => if ws.length = j then outM (body (ws.map some ++ List.replicate (n - j) none) st) else .bad
/-- the wish of exceptions without the slots -/
abbrev WxE (E : XK) : WX := fun c d _ H => E c d H

structure FnG (P : Program) (w : World) (K : PySem.W.Frag) (mg : Str → Option Value) (base : Heap) (k : Nat) (f : Addr) (fd : FuncData) (ps : List Str) (m : List W → Store → Res W) : Prop where
  len : ∀ ws st, ws.length ≠ ps.length → m ws st = .bad
  run : ∀ (A : Around) (outer : List Env) (s : Shared) (H : Hp) (args : Args) (us : List Value) (vs : List V) (ws : List W) (p : Wh) (st : Store) (Q : VK) (E : XK),
    Room k A → A.guards = some [] → Env0 P w K mg base A outer s H → BindsTo s fd args (ps.zip us) → Vals vs us → us.length = ps.length → p.H = H → SR K p st → RWs K p ws vs →
    Fin K mg (RW K) (WxE E) p [] Q (m ws st) → codeAny (model P w) A (.call (.ref f) args) (CR (L2.CX P w) outer P w H s Q E) s
theorem FnG.mono {P : Program} {w : World} {K : PySem.W.Frag} {mg : Str → Option Value} {base : Heap} {j k : Nat} {f : Addr} {fd : FuncData} {ps : List Str} {m : List W → Store → Res W} (F : FnG P w K mg base j f fd ps m) (h : j ≤ k) : FnG P w K mg base k f fd ps m :=
  ⟨F.len, fun A o s H a us vs ws p st Q E r => F.run A o s H a us vs ws p st Q E (r.mono h)⟩

section
variable {P : Program} {w : World} {K : PySem.W.Frag} {mg : Str → Option Value} {base : Heap}
theorem env_start {p : Wh} {ws : List W} {vs : List V} {N : List Str} (r : RWs K p ws vs) : EnvR K p (ws.map some ++ List.replicate (N.length - ws.length) none) (L2.start N vs) := by
  unfold L2.start
  refine ⟨by simp [r.length], fun i w h => ?_⟩
  by_cases hi : i < ws.length
  · rw [List.getElem?_append_left (by simpa using hi), List.getElem?_map] at h
    cases e : ws[i]? with
    | none =>
      rw [e] at h
      cases h
    | some x =>
      rw [e] at h
      have h' : x = w := by simpa using h
      subst h'
      obtain ⟨v, hv, rv⟩ := r.get e
      refine ⟨v, ?_, rv⟩
      rw [List.getElem?_append_left (by simpa [← r.length] using hi), List.getElem?_map, hv]
      rfl
  · rw [List.getElem?_append_right (by simpa using hi), List.getElem?_replicate] at h
    split at h <;> cases h
theorem fnG_ofL {x qual : Str} {st : Stmt} {f : Addr} {oc dV kV doc pm cdv ct : Value} {od an : Option Addr} {osl : Array (Option Value)} {N ps : List Str} {k : Nat} {body : Sm}
    (lk : K.lookup f = some ⟨oc, od, .func (PySem.W.fnOf x qual (defArgs st) (defBody st) (defScope st) dV kV doc pm an cdv ct), osl⟩) (hcd : PySem.W.codeIn K cdv qual = true) (S : FnScope N ps (defScope st))
    (hb : ∀ (cdv : Value) (A : Around) (outer : List Env) (s : Shared) (H : Hp) (E : XK), Room k (A.deeper (envOfC qual (defScope st) s.heap.objs.size f cdv)) → A.guards = some [] →
      GSs (cxOf (L2.CX P w) P w K mg base N qual (defScope st) f cdv A outer s H E) (WxE E) (defBody st) body) : FnG P w K mg base (k + 1) f (PySem.W.fnOf x qual (defArgs st) (defBody st) (defScope st) dV kV doc pm an cdv ct) ps (fnM ps.length N.length body) := by
  refine ⟨fun ws st h => if_neg h, fun A outer s H args us vs ws p sto Q E hr hg e0 hbd rv hlen hp S0 rw0 hfin => ?_⟩
  subst hp
  have inK : K.In s.heap := e0.mod.kin.keeps fun b o z => (e0.bs b o z).1
  have noL : s.heap.NoLimit := e0.mod.nolimit.keeps fun b o z => (e0.bs b o z).1
  have hlv : vs.length = ps.length := by rw [rv.length, hlen]
  have kinds : ∀ y ∈ ps.zip us, (defScope st).names.lookup y.1 = some .local ∨
      ((defScope st).names.lookup y.1 = some .cell ∧ ((cellsFrom (s.heap.objs.size + 1) (defScope st).names []).lookup y.1).isSome = true) := by
    rintro ⟨n, v⟩ hy
    have z := S.par n (List.of_mem_zip hy).1
    exact z.imp (fun a => a) fun a => ⟨a, PySem.W.cellsFrom_some _ _ _ (.inl a)⟩
  refine codeAny_call_function hr.depth (inK _ _ lk) rfl S.co S.gen rfl
    (PySem.W.codeRec_of inK hcd) (hbd _ _ _ _ ?_)
  refine wpAny_newFunctionEnv_cells S.kind kinds
    fun env he s1 ic => ?_
  subst he
  refine ⟨noL.keeps ic.toInCall.keep, codeAny_func ?_⟩
  have I0 := inv_start (CX := L2.CX P w) (E := E) (outer := outer) (base := base) (mg := mg) S hr.hd e0 hlv rv ic
  have G := hb cdv A outer s p.H E (hr.deeper _) hg
  have rd : tS K mg (WxE E) body { nx := fun _ H' => Q .non H', rt := Q } (L2.start N vs) p.H := by
    have hw : ws.length = ps.length := by rw [rw0.length, hlv]
    refine ⟨p, sto, _, rfl, S0, env_start (N := N) rw0, ?_⟩
    unfold fnM at hfin
    rw [if_pos hw] at hfin
    rw [hw]
    revert hfin
    cases body (ws.map some ++ List.replicate (N.length - ps.length) none) sto with
    | bad => exact fun z => z
    | go fl s2 =>
      cases fl with
      | nx e => exact fun z q σ t s' _ => z q .non t s' rfl
      | rt w => exact fun z => z
      | bk e => exact fun z => z.elim
      | ct e => exact fun z => z.elim
      | ex x e => exact fun z q σ c d t s' _ xr => z q c d t s' xr
  refine wpAny_mono (G.run [] s1 (L2.start N vs) p.H _ I0 rd) (fun fl s' hs => ?_) fun e s' hs => hs
  have fin : ∀ {σ' : L2.St} {H' : Hp} {v : V} {u : Value}, Inv (cxOf (L2.CX P w) P w K mg base N qual (defScope st) f cdv A outer s p.H E) [] σ' H' s' →
      RelV v u → Q v H' → CE outer P w p.H s Q u s' := fun {σ' H' v u} J rv q => ⟨v, H', J.os, J.bare, J.base, J.hok, rv, q⟩
  cases fl with
  | ret u =>
    obtain ⟨v, σ', H', J, rv, q⟩ := hs
    exact fin J rv q
  | next =>
    obtain ⟨σ', H', J, q⟩ := hs
    exact fin (v := V.non) (u := Value.none) J rfl q
  | brk =>
    obtain ⟨_, _, _, z⟩ := hs
    exact z.elim
  | cont =>
    obtain ⟨_, _, _, z⟩ := hs
    exact z.elim
theorem fnG_of {x qual : Str} {st : Stmt} {f : Addr} {fd : FuncData} {N ps : List Str} {k : Nat} {body : Sm} (F : Fun K x qual st f fd) (S : FnScope N ps (defScope st))
    (hb : ∀ (cdv : Value) (A : Around) (outer : List Env) (s : Shared) (H : Hp) (E : XK), Room k (A.deeper (envOfC qual (defScope st) s.heap.objs.size f cdv)) → A.guards = some [] →
      GSs (cxOf (L2.CX P w) P w K mg base N qual (defScope st) f cdv A outer s H E) (WxE E) (defBody st) body) : FnG P w K mg base (k + 1) f fd ps (fnM ps.length N.length body) := by
  obtain ⟨oc, od, kV, doc, pm, an, cdv, ct, osl, rfl, lk, hcd⟩ := F.ex
  exact fnG_ofL lk hcd S hb
theorem fnG_bad {f : Addr} {fd : FuncData} {ps : List Str} {k : Nat} : FnG P w K mg base k f fd ps (fun _ _ => .bad) := ⟨fun _ _ _ => rfl, by intros; rename_i h; exact h.elim⟩
end

section
variable {X : Cx} {Wx : WX} {k : Nat} {f : Addr} {fd : FuncData} {ps ks : List Str} {m : List W → Store → Res W} {x : Str} {p pos : Pos} {e : Expr} {es : List Expr} {ml : Ev (List W)} {kws : List Keyword}
/-- the callee runs -/
theorem run_G {pins : List (Addr × Obj)} {σ : L2.St} {H : Hp} {s : Shared} {Q : VK} {us us' : List Value} {kw : List (Str × Value)} {vs : List V} {ws : List W} {q : Wh} {st : Store} (F : FnG X.prog X.w X.K X.mg X.base k f fd ps m) (hr : Room k X.A) (hg : X.A.guards = some []) (tk : Takes X Wx)
    (hb : BindsTo s fd ⟨us', kw⟩ (ps.zip us)) (hl : us.length = ps.length) (I : Inv X pins σ H s) (r : Vals vs us) (hq : q.H = H) (S : SR X.K q st) (rs : RWs X.K q ws vs) (h : Fin X.K X.mg (RW X.K) Wx q σ Q (m ws st)) :
    wpAny (model X.prog X.w) X.A (call (.ref f) us' kw) (EP X pins σ Q) X.xe s := by
  have h' : Fin X.K X.mg (RW X.K) (WxE fun c d H' => Wx c d σ H') q [] Q (m ws st) := by
    revert h
    cases m ws st with
    | ok w s1 => exact fun z => z
    | exc x s1 => exact fun z => z
    | bad => exact fun z => z
  have c := F.run X.A X.stack s H ⟨us', kw⟩ us vs ws q st Q _ hr hg I.env0 hb r hl hq S rs h'
  refine wpAny_call (codeAny_mono c fun res s' z => ?_)
  cases res with
  | error u => exact tk u s' (XE.of_call I (fun _ _ _ w => w) z)
  | ok fl =>
    cases fl with
    | ret u => exact I.after z
    | next => exact z.elim
    | brk => exact z.elim
    | cont => exact z.elim
theorem len_of {q : Wh} {σ : L2.St} {Q : VK} {ws : List W} {st : Store} (F : FnG X.prog X.w X.K X.mg X.base k f fd ps m) (h : Fin X.K X.mg (RW X.K) Wx q σ Q (m ws st)) : ws.length = ps.length := by
  by_cases z : ws.length = ps.length
  · exact z
  · rw [F.len ws st z] at h
    exact h.elim
/-- f(e, ..) -/
theorem ge_call (F : FnG X.prog X.w X.K X.mg X.base k f fd ps m) (hr : Room k X.A) (hg : X.A.guards = some []) (tk : Takes X Wx) (gl : Gl X x) (hm : X.mg x = some (.ref f)) (kp : PySem.W.keepIn X.K (.ref f) = true) (hb : Binds X.K fd ps [])
    (ha : GA X Wx (e :: es) ml) (hdb : (x == ("__debug__" : Str)) = false := by decide) (he : starEach (e :: es) X.env = (false, eval e X.env) :: starEach es X.env := by rfl) (hpl : (backTo pos (starEach es X.env)).any (·.1) = false := by rfl) :
    GE X Wx (.Call (.Name x p) (e :: es) [] pos) (mCall m ml) := by
  refine ⟨fun pins s σ H Q I ⟨q0, st, env, hp, S, E, h⟩ => ?_⟩
  refine wpAny_Call_Name_kw (ld_glob I gl hm ?_ hdb)
  have t := tG_bind (R := RWs X.K) (Q := fun vs H' => ∃ (q : Wh) (ws : List W) (s1 : Store), q.H = H' ∧ SR X.K q s1 ∧ RWs X.K q ws vs ∧ Fin X.K X.mg (RW X.K) Wx q σ Q (m ws s1)) hp S E h
    fun q s1 ws vs t S1 E1 r h1 => ⟨q, ws, s1, rfl, S1, r, h1⟩
  refine PySem.W.callWith_K (h₀ := X.base) I.ok.mod.kin kp
    (thn (ha.run pos pins s σ H _ I t) fun us s1 ⟨vs, H1, I1, r, z⟩ => ⟨I1.kIn, ?_⟩) he hpl
  obtain ⟨q, ws, s2, eH, S1, rw1, h1⟩ := z
  have hl : us.length = ps.length := by rw [← r.length, ← rw1.length, len_of F h1]
  have b := hb s1 us I1.kIn (by rw [List.append_nil]; exact hl)
  rw [List.append_nil] at b
  exact run_G F hr hg tk b hl I1 r eH S1 rw1 h1
/-- f(k = e, ..): g puts the keywords' values in the parameters' order -/
structure KwTo (fd : FuncData) (ps ks : List Str) (g : {α : Type} → List α → List α) : Prop where
  to : ∀ ws : List Value, ws.length = ks.length → bindArgs fd ⟨[], ks.zip ws⟩ = pure (ps.zip (g ws))
  len : ∀ {α : Type} (xs : List α), xs.length = ks.length → (g xs).length = ps.length
  rel : ∀ {vs : List V} {us : List Value}, Vals vs us → Vals (g vs) (g us)
  relW : ∀ {K : PySem.W.Frag} {q : Wh} {ws : List W} {vs : List V}, RWs K q ws vs → RWs K q (g ws) (g vs)
end
end Mi

namespace Mi
open PySem PySem.Spec PyProof.Rows L2
variable [ClsMap]

/-! ### values as data -/
mutual
def W.toD : W → Option PyData
  | .non => some .none
  | .bl b => some (.bool b)
  | .int i => some (.int i)
  | .str s => some (.str s)
  | .tup xs => (toDs xs).map PyData.tuple
  | .lst xs => (toDs xs).map PyData.list
  | .frz xs => (toDs xs).map PyData.list
  | .ref _ => none
def toDs : List W → Option (List PyData)
  | [] => some []
  | x :: xs => match x.toD, toDs xs with
    | some d, some ds => some (d :: ds)
    | _, _ => none
end
section
variable {K : PySem.W.Frag} {p : Wh}
mutual
theorem dp_of : ∀ (w : W) (v : V) (d : PyData), w.toD = some d → RW K p w v → Dp K p.H v d
  | .non, v, d, h, r => by
    cases h
    have r' : v = .non := r
    rw [r']
    exact .non
  | .bl b, v, d, h, r => by
    cases h
    have r' : v = .bl b := r
    rw [r']
    exact .bl b
  | .int i, v, d, h, r => by
    cases h
    have r' : v = .int i := r
    rw [r']
    exact .int i
  | .str s, v, d, h, r => by
    cases h
    have r' : v = .str s := r
    rw [r']
    exact .str s
  | .tup xs, v, d, h, r => by
    obtain ⟨a, vs, e, ta, rs⟩ := r
    unfold W.toD at h
    cases e2 : toDs xs with
    | none =>
      rw [e2] at h
      cases h
    | some ds =>
      rw [e2] at h
      have h' : PyData.tuple ds = d := by simpa using h
      rw [e, ← h']
      exact .tup ta.seq (dps_of xs vs ds e2 rs)
  | .lst xs, v, d, h, r => by
    obtain ⟨a, vs, e, ta, rs⟩ := r
    unfold W.toD at h
    cases e2 : toDs xs with
    | none =>
      rw [e2] at h
      cases h
    | some ds =>
      rw [e2] at h
      have h' : PyData.list ds = d := by simpa using h
      rw [e, ← h']
      exact .lst ta.seq (dps_of xs vs ds e2 rs)
  | .frz xs, v, d, h, r => by
    obtain ⟨a, vs, e, ta, rs⟩ := r
    unfold W.toD at h
    cases e2 : toDs xs with
    | none =>
      rw [e2] at h
      cases h
    | some ds =>
      rw [e2] at h
      have h' : PyData.list ds = d := by simpa using h
      rw [e, ← h']
      exact .lst ta.seq (dps_of xs vs ds e2 rs)
  | .ref n, v, d, h, r => by cases h
theorem dps_of : ∀ (ws : List W) (vs : List V) (ds : List PyData), toDs ws = some ds → RWs K p ws vs → DpAll K p.H vs ds
  | [], vs, ds, h, r => by
    cases h
    have r' : vs = [] := r
    rw [r']
    exact .nil
  | x :: xs, vs, ds, h, r => by
    obtain ⟨v, us, e, r1, rs⟩ := r
    unfold toDs at h
    cases e1 : x.toD with
    | none =>
      rw [e1] at h
      cases h
    | some d1 =>
      cases e2 : toDs xs with
      | none =>
        rw [e1, e2] at h
        cases h
      | some ds2 =>
        rw [e1, e2] at h
        have h' : d1 :: ds2 = ds := by simpa using h
        rw [e, ← h']
        exact .cons (dp_of x v d1 e1 r1) (dps_of xs us ds2 e2 rs)
end
end

/-! ### lists as they stand -/
/-- the items of a list: a tree, or a thing of the store -/
def listIn (st : Store) : W → Option (List W)
  | .lst xs => some xs
  | .frz xs => some xs
  | .ref n => match st[n]? with
    | some (.lst xs) => some xs
    | _ => none
  | _ => none
/-- one that is tracked -/
def trkIn (st : Store) : W → Option (List W)
  | .lst xs => some xs
  | .ref n => match st[n]? with
    | some (.lst xs) => some xs
    | _ => none
  | _ => none
def seqIn (st : Store) (w : W) : Option (List W) := match w with
  | .tup xs => some xs
  | w => listIn st w
section
variable {K : PySem.W.Frag} {p : Wh} {st : Store}
theorem listIn_of (S : SR K p st) {w : W} {v : V} {xs : List W} (h : listIn st w = some xs) (r : RW K p w v) : ∃ a vs, v = .ref a ∧ SqL K p.H a vs ∧ RWs K p xs vs := by
  cases w with
  | lst ys =>
    cases h
    obtain ⟨a, vs, e, ta, rs⟩ := r
    exact ⟨a, vs, e, ta.seq, rs⟩
  | frz ys =>
    cases h
    obtain ⟨a, vs, e, ta, rs⟩ := r
    exact ⟨a, vs, e, ta.seq, rs⟩
  | ref n =>
    dsimp only [listIn] at h
    cases e : st[n]? with
    | none =>
      rw [e] at h
      cases h
    | some o =>
      cases o with
      | lst ys =>
        rw [e] at h
        cases h
        obtain ⟨_, vs, hH, rs⟩ := S.at e
        exact ⟨p.ρ n, vs, r.2, .inl (.inl hH), rs⟩
      | _ =>
        rw [e] at h
        cases h
  | _ => cases h
theorem trkIn_of (S : SR K p st) {w : W} {v : V} {xs : List W} (h : trkIn st w = some xs) (r : RW K p w v) : ∃ a vs, v = .ref a ∧ p.H a = some (.lst vs) ∧ RWs K p xs vs := by
  cases w with
  | lst ys =>
    cases h
    obtain ⟨a, vs, e, ta, rs⟩ := r
    exact ⟨a, vs, e, ta.1, rs⟩
  | ref n =>
    dsimp only [trkIn] at h
    cases e : st[n]? with
    | none =>
      rw [e] at h
      cases h
    | some o =>
      cases o with
      | lst ys =>
        rw [e] at h
        cases h
        obtain ⟨_, vs, hH, rs⟩ := S.at e
        exact ⟨p.ρ n, vs, r.2, hH, rs⟩
      | _ =>
        rw [e] at h
        cases h
  | _ => cases h
theorem seqIn_of (S : SR K p st) {w : W} {v : V} {xs : List W} (h : seqIn st w = some xs) (r : RW K p w v) : ∃ a vs, v = .ref a ∧ (SqL K p.H a vs ∨ SqT K p.H a vs) ∧ RWs K p xs vs := by
  by_cases t : ∃ ys, w = .tup ys
  · obtain ⟨ys, rfl⟩ := t
    cases h
    obtain ⟨a, vs, e, ta, rs⟩ := r
    exact ⟨a, vs, e, .inr ta.seq, rs⟩
  · have h' : listIn st w = some xs := by
      unfold seqIn at h
      split at h
      · exact absurd ⟨_, rfl⟩ t
      · exact h
    obtain ⟨a, vs, e, ta, rs⟩ := listIn_of S h' r
    exact ⟨a, vs, e, .inl ta, rs⟩
end
/-! ### operations on numbers, texts, lists, tuples -/
def fAdd (x y : W) (st : Store) : Res W := match x, y with
  | .int i, .int j => .ok (.int (i + j)) st
  | .str a, .str b => if a.length + b.length ≤ sizeLine then .ok (.str (a ++ b)) st else .bad
  | .tup xs, .tup ys => if xs.length + ys.length ≤ sizeLine then .ok (.tup (xs ++ ys)) st else .bad
  | x, y => match trkIn st x, trkIn st y with
    | some xs, some ys => if xs.length + ys.length ≤ sizeLine then .ok (.lst (xs ++ ys)) st else .bad
    | _, _ => .bad
/-- two ints under a condition -/
def fI (C : Int → Int → Prop) [∀ i j, Decidable (C i j)] (g : Int → Int → W) : W → W → Store → Res W
  | .int i, .int j, st => if C i j then .ok (g i j) st else .bad
  | _, _, _ => .bad
def fSub : W → W → Store → Res W := fI (fun _ _ => True) fun i j => .int (i - j)
def fMul : W → W → Store → Res W := fI (fun i j => i.natAbs.log2 + j.natAbs.log2 < 1000000) fun i j => .int (i * j)
def fDiv : W → W → Store → Res W := fI (fun _ j => 0 < j ∧ j.natAbs.log2 < 9000) fun i j => .int (i / j)
def fMod : W → W → Store → Res W := fI (fun _ j => 0 < j) fun i j => .int (i % j)
def fPow : W → W → Store → Res W := fI (fun i j => 0 ≤ j ∧ j ≤ 1000 ∧ i.natAbs.log2 < 10000) fun i j => .int (i ^ j.toNat)
def fLtI : W → W → Store → Res W := fI (fun _ _ => True) fun i j => .bl (decide (i < j))
/-- data against data -/
def fD (C : PyData → PyData → Bool) (g : PyData → PyData → Bool) : W → W → Store → Res W := fun x y st => match x.toD, y.toD with
  | some d, some e => if C d e = true then .ok (.bl (g d e)) st else .bad
  | _, _ => .bad
def cEq (d e : PyData) : Bool := d.plain && e.plain && decide (d.depth ≤ 60)
def cOrd (d e : PyData) : Bool := PySem.W.alike d e && decide (d.depth ≤ 60) && (match d with | .none => false | _ => true)
def fEq := fD cEq fun d e => PyData.eqv d e
def fNe := fD cEq fun d e => !PyData.eqv d e
def fLt := fD cOrd fun d e => PySem.W.dataLt d e
def fGt := fD cOrd fun d e => PySem.W.dataLt e d
def fLe := fD cOrd fun d e => !PySem.W.dataLt e d
def fGe := fD cOrd fun d e => !PySem.W.dataLt d e
def cIn (d c : PyData) : Bool := d.plain && decide (d.depth ≤ 60) && (match c with | .list xs => PyData.plainAll xs | .tuple xs => PyData.plainAll xs | _ => false)
def gIn (d c : PyData) : Bool := match c with | .list xs => xs.any (fun y => PyData.eqv y d) | .tuple xs => xs.any (fun y => PyData.eqv y d) | _ => false
def fIn := fD cIn gIn
def fNin := fD cIn fun d c => !gIn d c
def isN : W → Bool
  | .non => true
  | _ => false
def fIs : W → W → Store → Res W := fun x y st => if isN y = true then .ok (.bl (isN x)) st else .bad
def fIsNot : W → W → Store → Res W := fun x y st => if isN y = true then .ok (.bl (!isN x)) st else .bad
def fNeg : W → Store → Res W
  | .int i, st => .ok (.int (-i)) st
  | _, _ => .bad

section
variable {X : Cx} {Wx : WX}
theorem fin_ok {p : Wh} {st : Store} {σ : L2.St} {Q : VK} {w : W} {v : V} (S : SR X.K p st) (h : Fin X.K X.mg (RW X.K) Wx p σ Q (.ok w st)) (r : RW X.K p w v) : Q v p.H := h p v (.refl S) S r
theorem r2_int {r : R2} {C : Int → Int → Prop} [∀ i j, Decidable (C i j)] {g : Int → Int → W} {gV : Int → Int → V} (hr : ∀ i j H Q, C i j → Q (gV i j) H → r (.int i) (.int j) H Q) (hg : ∀ p i j, RW X.K p (g i j) (gV i j)) : R2ok X Wx r (fI C g) := by
  intro p st x y v u σ Q S rx ry h
  cases x with
  | int i =>
    cases y with
    | int j =>
      have e1 : v = .int i := rx
      have e2 : u = .int j := ry
      subst e1 e2
      dsimp only [fI] at h
      by_cases c : C i j
      · rw [if_pos c] at h
        exact hr i j _ Q c (fin_ok S h (hg p i j))
      · rw [if_neg c] at h
        exact h.elim
    | _ => exact h.elim
  | _ => exact h.elim
theorem r2_sub : R2ok X Wx (rI0 fun i j => .int (i - j)) fSub := r2_int (fun i j H Q _ q => ⟨i, j, rfl, rfl, q⟩) fun p i j => rfl
theorem r2_mul : R2ok X Wx (rI CMulW fun i j => .int (i * j)) fMul := r2_int (fun i j H Q c q => ⟨i, j, rfl, rfl, c, q⟩) fun p i j => rfl
theorem r2_div : R2ok X Wx (rI CDivW fun i j => .int (i / j)) fDiv := r2_int (fun i j H Q c q => ⟨i, j, rfl, rfl, c, q⟩) fun p i j => rfl
theorem r2_mod : R2ok X Wx (rI (fun _ j => 0 < j) fun i j => .int (i % j)) fMod := r2_int (fun i j H Q c q => ⟨i, j, rfl, rfl, c, q⟩) fun p i j => rfl
def CPowW (i j : Int) : Prop := 0 ≤ j ∧ j ≤ 1000 ∧ i.natAbs.log2 < 10000
theorem op_powW : OpR X (binaryOp .Pow) (rI CPowW fun i j => .int (i ^ j.toNat)) := opI fun i j _ _ _ _ _ hc q => by
  refine pow_int hc.1 ?_ q
  have b : Builtin.Int.intBits i ≤ i.natAbs.log2 + 1 := by
    unfold Builtin.Int.intBits
    split <;> omega
  have h1 := hc.2.1
  have h2 := hc.2.2
  have h0 := hc.1
  have b' : (Builtin.Int.intBits i : Int) ≤ 10000 := by omega
  have m : (Builtin.Int.intBits i : Int) * j ≤ 10000 * 1000 := Int.mul_le_mul b' h1 h0 (by omega)
  omega
theorem r2_pow : R2ok X Wx (rI CPowW fun i j => .int (i ^ j.toNat)) fPow := r2_int (fun i j H Q c q => ⟨i, j, rfl, rfl, c, q⟩) fun p i j => rfl
theorem op_addA : OpR X (binaryOp .Add) (fun x y H Q => (rI0 (fun i j => .int (i + j)) x y H Q) ∨ (∃ i j, x = .str i ∧ y = .str j ∧ i.length + j.length ≤ sizeLine ∧ Q (.str (i ++ j)) H) ∨ rCat x y H Q ∨ rCatA X.K x y H Q) :=
  op_add.or (op_add_str.or (op_cat.or op_catA))
theorem r2_add : R2ok X Wx (fun x y H Q => (rI0 (fun i j => .int (i + j)) x y H Q) ∨ (∃ i j, x = .str i ∧ y = .str j ∧ i.length + j.length ≤ sizeLine ∧ Q (.str (i ++ j)) H) ∨ rCat x y H Q ∨ rCatA X.K x y H Q) fAdd := by
  intro p st x y v u σ Q S rx ry h
  unfold fAdd at h
  split at h
  · rename_i i j
    have e1 : v = .int i := rx
    have e2 : u = .int j := ry
    subst e1 e2
    exact .inl ⟨i, j, rfl, rfl, fin_ok S h rfl⟩
  · rename_i i j
    have e1 : v = .str i := rx
    have e2 : u = .str j := ry
    subst e1 e2
    by_cases c : i.length + j.length ≤ sizeLine
    · rw [if_pos c] at h
      exact .inr (.inl ⟨i, j, rfl, rfl, c, fin_ok S h rfl⟩)
    · rw [if_neg c] at h
      exact h.elim
  · rename_i xs ys
    obtain ⟨a, vs, e1, ta, rs⟩ := rx
    obtain ⟨b, us, e2, tb, rs2⟩ := ry
    subst e1 e2
    by_cases c : xs.length + ys.length ≤ sizeLine
    · rw [if_pos c] at h
      refine .inr (.inr (.inr ⟨a, b, vs, us, rfl, rfl, ta.seq, tb.seq, by rw [← rs.length, ← rs2.length]; exact c, fun z => ?_, fun _ z => ?_, fun _ _ q hq => ?_⟩))
      · have zx : xs = [] := List.length_eq_zero_iff.mp (by rw [rs.length, z]; rfl)
        subst zx
        exact fin_ok S h ⟨b, us, rfl, tb, rs2⟩
      · have zy : ys = [] := List.length_eq_zero_iff.mp (by rw [rs2.length, z]; rfl)
        subst zy
        rw [List.append_nil] at h
        exact fin_ok S h ⟨a, vs, rfl, ta, rs⟩
      · exact h { p with H := upd p.H q (.tup (vs ++ us)) } (.ref q) (step_new S hq) (sr_new S hq) (new_tup S hq (rs.append rs2))
    · rw [if_neg c] at h
      exact h.elim
  · cases ex : trkIn st x with
    | none =>
      rw [ex] at h
      exact h.elim
    | some xs =>
      cases ey : trkIn st y with
      | none =>
        rw [ex, ey] at h
        exact h.elim
      | some ys =>
        rw [ex, ey] at h
        dsimp only at h
        obtain ⟨a, vs, e1, ta, rs⟩ := trkIn_of S ex rx
        obtain ⟨b, us, e2, tb, rs2⟩ := trkIn_of S ey ry
        subst e1 e2
        by_cases c : xs.length + ys.length ≤ sizeLine
        · rw [if_pos c] at h
          refine .inr (.inr (.inl ⟨a, b, vs, us, rfl, rfl, ta, tb, by rw [← rs.length, ← rs2.length]; exact c, fun q hq => ?_⟩))
          exact h { p with H := upd p.H q (.lst (vs ++ us)) } (.ref q) (step_new S hq) (sr_new S hq) (new_lst S hq (rs.append rs2))
        · rw [if_neg c] at h
          exact h.elim
theorem un_of_neg : R1ok X Wx (rU fun i => .int (-i)) fNeg := by
  intro p st x v σ Q S rx h
  cases x with
  | int i =>
    have e1 : v = .int i := rx
    subst e1
    exact ⟨i, rfl, fin_ok S h rfl⟩
  | _ => exact h.elim

/-! ### data -/
def rD (K : PySem.W.Frag) (C : PyData → PyData → Bool) (g : PyData → PyData → Bool) : R2 := fun x y H Q => ∃ d e, Dp K H x d ∧ Dp K H y e ∧ C d e = true ∧ Q (.bl (g d e)) H
theorem r2_data {C : PyData → PyData → Bool} {g : PyData → PyData → Bool} : R2ok X Wx (rD X.K C g) (fD C g) := by
  intro p st x y v u σ Q S rx ry h
  unfold fD at h
  cases e1 : x.toD with
  | none =>
    rw [e1] at h
    exact h.elim
  | some d =>
    cases e2 : y.toD with
    | none =>
      rw [e1, e2] at h
      exact h.elim
    | some e =>
      rw [e1, e2] at h
      dsimp only at h
      by_cases c : C d e = true
      · rw [if_pos c] at h
        exact ⟨d, e, dp_of x v d e1 rx, dp_of y u e e2 ry, c, fin_ok S h rfl⟩
      · rw [if_neg c] at h
        exact h.elim
theorem op_data {op : CmpOp} {C : PyData → PyData → Bool} {g : PyData → PyData → Bool}
    (rule : ∀ (s : Shared) (v u : Value) (d e : PyData) (as bs : List Addr) (Q : Value → Shared → Prop) (E : Value → Shared → Prop), Reads s.heap v d as → Reads s.heap u e bs → C d e = true → Q (.bool (g d e)) s → wpAny (model X.prog X.w) X.A (compareOp op v u) Q E s) :
    OpR X (compareOp op) (rD X.K C g) := by
  intro pins s σ H x y v u Q I rx ry h
  obtain ⟨d, e, hd, he, c, q⟩ := h
  obtain ⟨as, r1⟩ := Dp.reads I d x v hd rx
  obtain ⟨bs, r2⟩ := Dp.reads I e y u he ry
  exact rule s v u d e as bs _ _ r1 r2 c ⟨.bl _, H, I, rfl, q⟩
theorem cEq_of {d e : PyData} (h : cEq d e = true) : d.plain = true ∧ e.plain = true ∧ d.depth ≤ 60 := by
  unfold cEq at h
  rw [Bool.and_eq_true, Bool.and_eq_true, decide_eq_true_eq] at h
  exact ⟨h.1.1, h.1.2, h.2⟩
theorem cOrd_of {d e : PyData} (h : cOrd d e = true) : PySem.W.alike d e = true ∧ d.depth ≤ 60 ∧ d ≠ .none := by
  unfold cOrd at h
  rw [Bool.and_eq_true, Bool.and_eq_true, decide_eq_true_eq] at h
  refine ⟨h.1.1, h.1.2, fun z => ?_⟩
  have h2 := h.2
  rw [z] at h2
  cases h2
theorem room_min {A : Around} {d e : PyData} (hu : A.units + 64 < cLine) (h : d.depth ≤ 60) : A.units + min d.depth e.depth < cLine := by
  have := Nat.min_le_left d.depth e.depth
  omega
theorem op_eqP (hu : X.A.units + 64 < cLine) : OpR X (compareOp .Eq) (rD X.K cEq fun d e => PyData.eqv d e) := op_data fun s v u d e as bs Q E r1 r2 c q => by
  obtain ⟨h1, h2, h3⟩ := cEq_of c
  exact SeqAt.eq_plain r1 r2 h1 h2 (room_min hu h3) q
theorem op_neP (hu : X.A.units + 64 < cLine) : OpR X (compareOp .NotEq) (rD X.K cEq fun d e => !PyData.eqv d e) := op_data fun s v u d e as bs Q E r1 r2 c q => by
  obtain ⟨h1, h2, h3⟩ := cEq_of c
  exact SeqAt.ne_plain r1 r2 h1 h2 (room_min hu h3) q
theorem op_ltP (hu : X.A.units + 64 < cLine) : OpR X (compareOp .Lt) (rD X.K cOrd fun d e => PySem.W.dataLt d e) := op_data fun s v u d e as bs Q E r1 r2 c q => by
  obtain ⟨h1, h2, h3⟩ := cOrd_of c
  exact PySem.W.lt_data r1 r2 h1 h3 (room_min hu h2) q
theorem op_gtP (hu : X.A.units + 64 < cLine) : OpR X (compareOp .Gt) (rD X.K cOrd fun d e => PySem.W.dataLt e d) := op_data fun s v u d e as bs Q E r1 r2 c q => by
  obtain ⟨h1, h2, h3⟩ := cOrd_of c
  exact PySem.W.gt_data r1 r2 h1 h3 (room_min hu h2) q
theorem op_leP (hu : X.A.units + 64 < cLine) : OpR X (compareOp .LtE) (rD X.K cOrd fun d e => !PySem.W.dataLt e d) := op_data fun s v u d e as bs Q E r1 r2 c q => by
  obtain ⟨h1, h2, h3⟩ := cOrd_of c
  exact PySem.W.le_data r1 r2 h1 h3 (room_min hu h2) q
theorem op_geP (hu : X.A.units + 64 < cLine) : OpR X (compareOp .GtE) (rD X.K cOrd fun d e => !PySem.W.dataLt d e) := op_data fun s v u d e as bs Q E r1 r2 c q => by
  obtain ⟨h1, h2, h3⟩ := cOrd_of c
  exact PySem.W.ge_data r1 r2 h1 h3 (room_min hu h2) q
theorem op_inP (hu : X.A.units + 64 < cLine) : OpR X (compareOp .In) (rD X.K cIn gIn) := op_data fun s v u d e as bs Q E r1 r2 c q => by
  unfold cIn at c
  rw [Bool.and_eq_true, Bool.and_eq_true, decide_eq_true_eq] at c
  have hm : ∀ n, min n d.depth ≤ d.depth := fun n => Nat.min_le_right _ _
  cases e with
  | list xs => exact SeqAt.in_list_data r2 r1 c.2 c.1.1 (by have := hm (PyData.depthAll xs); omega) q
  | tuple xs => exact SeqAt.in_tuple_data r2 r1 c.2 c.1.1 (by have := hm (PyData.depthAll xs); omega) q
  | _ => exact absurd c.2 Bool.false_ne_true
theorem op_ninP (hu : X.A.units + 64 < cLine) : OpR X (compareOp .NotIn) (rD X.K cIn fun d c => !gIn d c) := op_data fun s v u d e as bs Q E r1 r2 c q => by
  unfold cIn at c
  rw [Bool.and_eq_true, Bool.and_eq_true, decide_eq_true_eq] at c
  have hm : ∀ n, min n d.depth ≤ d.depth := fun n => Nat.min_le_right _ _
  cases e with
  | list xs => exact SeqAt.notIn_list_data r2 r1 c.2 c.1.1 (by have := hm (PyData.depthAll xs); omega) q
  | tuple xs => exact SeqAt.notIn_tuple_data r2 r1 c.2 c.1.1 (by have := hm (PyData.depthAll xs); omega) q
  | _ => exact absurd c.2 Bool.false_ne_true
theorem isN_of {K : PySem.W.Frag} {p : Wh} {w : W} {v : V} (r : RW K p w v) : decide (v = .non) = isN w := by
  cases w with
  | non =>
    have e : v = .non := r
    rw [e]
    rfl
  | bl b =>
    have e : v = .bl b := r
    rw [e]
    rfl
  | int b =>
    have e : v = .int b := r
    rw [e]
    rfl
  | str b =>
    have e : v = .str b := r
    rw [e]
    rfl
  | tup xs =>
    obtain ⟨a, vs, e, _⟩ := r
    rw [e]
    rfl
  | lst xs =>
    obtain ⟨a, vs, e, _⟩ := r
    rw [e]
    rfl
  | frz xs =>
    obtain ⟨a, vs, e, _⟩ := r
    rw [e]
    rfl
  | ref n =>
    rw [r.2]
    rfl
theorem non_of {K : PySem.W.Frag} {p : Wh} {w : W} {v : V} (h : isN w = true) (r : RW K p w v) : v = .non := by
  have e := isN_of r
  rw [h] at e
  exact of_decide_eq_true e
theorem r2_is : R2ok X Wx (fun x y H Q => y = .non ∧ Q (.bl (decide (x = .non))) H) fIs := by
  intro p st x y v u σ Q S rx ry h
  unfold fIs at h
  by_cases c : isN y = true
  · rw [if_pos c] at h
    refine ⟨non_of c ry, ?_⟩
    rw [isN_of rx]
    exact fin_ok S h rfl
  · rw [if_neg c] at h
    exact h.elim
theorem r2_isNot : R2ok X Wx (fun x y H Q => y = .non ∧ Q (.bl (!decide (x = .non))) H) fIsNot := by
  intro p st x y v u σ Q S rx ry h
  unfold fIsNot at h
  by_cases c : isN y = true
  · rw [if_pos c] at h
    refine ⟨non_of c ry, ?_⟩
    rw [isN_of rx]
    exact fin_ok S h rfl
  · rw [if_neg c] at h
    exact h.elim
end
end Mi

namespace Mi
open PySem PySem.Spec PyProof.Rows L2
variable [ClsMap]

/-! ### calls of built-ins -/
def fLen : List W → Store → Res W
  | [.str s], st => if s.length ≤ sizeLine then .ok (.int s.length) st else .bad
  | [w], st => match seqIn st w with
    | some xs => .ok (.int xs.length) st
    | none => .bad
  | _, _ => .bad
def fInt : List W → Store → Res W
  | [.int i], st => .ok (.int i) st
  | [.bl b], st => .ok (.int (if b then 1 else 0)) st
  | _, _ => .bad
def fBool : List W → Store → Res W
  | [.int i], st => .ok (.bl (i != 0)) st
  | [.bl b], st => .ok (.bl b) st
  | _, _ => .bad
def fAbs : List W → Store → Res W
  | [.int i], st => .ok (.int (if i < 0 then -i else i)) st
  | _, _ => .bad
def fMax2 : List W → Store → Res W
  | [.int i, .int j], st => .ok (.int (if j > i then j else i)) st
  | _, _ => .bad
def fMin2 : List W → Store → Res W
  | [.int i, .int j], st => .ok (.int (if j < i then j else i)) st
  | _, _ => .bad
def bools : List W → Option (List Bool)
  | [] => some []
  | .bl b :: xs => (bools xs).map (b :: ·)
  | _ :: _ => none
def fAll : List W → Store → Res W
  | [w], st => match listIn st w with
    | some xs => match bools xs with
      | some bs => .ok (.bl (bs.all id)) st
      | none => .bad
    | none => .bad
  | _, _ => .bad
def fAny : List W → Store → Res W
  | [w], st => match listIn st w with
    | some xs => match bools xs with
      | some bs => .ok (.bl (bs.any id)) st
      | none => .bad
    | none => .bad
  | _, _ => .bad
def cRepr (d : PyData) : Bool := d.showable && !d.hasDict && decide (d.depth ≤ 60) && decide (d.shown.length ≤ sizeLine)
def fRepr : List W → Store → Res W
  | [w], st => match w.toD with
    | some d => if cRepr d = true then .ok (.str d.shown) st else .bad
    | none => .bad
  | _, _ => .bad
def fTuple : List W → Store → Res W
  | [w], st => match seqIn st w with
    | some xs => .ok (.tup xs) st
    | none => .bad
  | _, _ => .bad
def fList : List W → Store → Res W
  | [w], st => match seqIn st w with
    | some xs => .ok (.lst xs) st
    | none => .bad
  | _, _ => .bad
/-- isinstance(x, T) for a built-in T -/
def isTy (T : String) : W → Bool
  | .non => false
  | .bl _ => T == "bool" || T == "int"
  | .int _ => T == "int"
  | .str _ => T == "str"
  | .tup _ => T == "tuple"
  | _ => T == "list"
def tyName : W → String
  | .non => "NoneType"
  | .bl _ => "bool"
  | .int _ => "int"
  | .str _ => "str"
  | .tup _ => "tuple"
  | _ => "list"
def fIsi (T : String) : W → Store → Res W := fun w st => match w with
  | .ref n => match st[n]? with
    | some (.lst _) => .ok (.bl (T == "list")) st
    | _ => .bad
  | w => .ok (.bl (isTy T w)) st
/-- x[i] -/
def fIx : W → W → Store → Res W := fun x i st => match i with
  | .int k => match x with
    | .str s => if s.length ≤ sizeLine then (match atI s.cps.toList k with | some c => .ok (.str ⟨#[c]⟩) st | none => .bad) else .bad
    | w => match seqIn st w with
      | some xs => match atI xs k with
        | some y => .ok y st
        | none => .bad
      | none => .bad
  | _ => .bad
def fAppend : W → List W → Store → Res W := fun o vs st => match o, vs with
  | .ref n, [v] => match st[n]? with
    | some (.lst xs) => if xs.length < 100000 then .ok .non (st.set n (.lst (xs ++ [v]))) else .bad
    | _ => .bad
  | _, _ => .bad
def fExtend : W → List W → Store → Res W := fun o vs st => match o, vs with
  | .ref n, [v] => match st[n]?, trkIn st v with
    | some (.lst xs), some ys => if xs.length + ys.length ≤ 100000 then .ok .non (st.set n (.lst (xs ++ ys))) else .bad
    | _, _ => .bad
  | _, _ => .bad
/-- a list of the store -/
def isRef (st : Store) : W → Bool
  | .ref n => match st[n]? with
    | some (.lst _) => true
    | _ => false
  | _ => false
def mBM (f : W → List W → Store → Res W) (o : Ev W) (a : Ev (List W)) : Ev W := fun env st => (o env st).bind fun x s1 => if isRef s1 x = true then (a env s1).bind fun vs s2 => f x vs s2 else .bad

section
variable {K : PySem.W.Frag} {p : Wh} {st : Store}
theorem one_of {w : W} {vs : List V} (r : RWs K p [w] vs) : ∃ v, vs = [v] ∧ RW K p w v := by
  obtain ⟨v, us, e, h, h2⟩ := r
  have h2' : us = [] := h2
  rw [h2'] at e
  exact ⟨v, e, h⟩
theorem two_of {w x : W} {vs : List V} (r : RWs K p [w, x] vs) : ∃ v u, vs = [v, u] ∧ RW K p w v ∧ RW K p x u := by
  obtain ⟨v, us, e, h, h2⟩ := r
  obtain ⟨u, e2, h3⟩ := one_of h2
  rw [e2] at e
  exact ⟨v, u, e, h, h3⟩
theorem bools_of : ∀ {xs : List W} {bs : List Bool} {vs : List V}, bools xs = some bs → RWs K p xs vs → vs = bs.map V.bl
  | [], bs, vs, h, r => by
    cases h
    exact r
  | .bl b :: xs, bs, vs, h, r => by
    obtain ⟨v, us, e, h1, h2⟩ := r
    unfold bools at h
    cases e2 : bools xs with
    | none =>
      rw [e2] at h
      cases h
    | some cs =>
      rw [e2] at h
      have h' : b :: cs = bs := by simpa using h
      have h1' : v = .bl b := h1
      rw [e, ← h', h1', bools_of e2 h2]
      rfl
  | .non :: _, _, _, h, _ => by cases h
  | .int _ :: _, _, _, h, _ => by cases h
  | .str _ :: _, _, _, h, _ => by cases h
  | .tup _ :: _, _, _, h, _ => by cases h
  | .lst _ :: _, _, _, h, _ => by cases h
  | .frz _ :: _, _, _, h, _ => by cases h
  | .ref _ :: _, _, _, h, _ => by cases h
end
section
variable {X : Cx} {Wx : WX} {a b e o : Expr} {es : List Expr} {ma mb me mo : Ev W} {ml : Ev (List W)} {pos p : Pos} {x : Str} {id T : String} {r : List V → Hp → VK → Prop} {f : List W → Store → Res W}
theorem ge_callB (hc : CallR X (.builtin id) r) (hr : RCok X Wx r f) (hg : Gl X x) (hm : X.mg x = none) (hv : bootBuiltins x = some (.builtin id)) (ha : GA X Wx (e :: es) ml) (hn : x ≠ "__name__" := by decide) (hdb : (x == ("__debug__" : Str)) = false := by decide)
    (he : starEach (e :: es) X.env = (false, eval e X.env) :: starEach es X.env := by rfl) (hpl : (backTo pos (starEach es X.env)).any (·.1) = false := by rfl) : GE X Wx (.Call (.Name x p) (e :: es) [] pos) (mCall f ml) :=
  PEimp (pe_callB hc hg hm hv ha hn hdb he hpl) fun σ H Q ⟨p, st, env, hp, S, E, h⟩ => tG_bind hp S E h fun q s1 ws vs t S1 E1 r1 h1 => hr q s1 ws vs σ Q S1 r1 h1
theorem ge_callTy (hc : CallR X (.type T) r) (hr : RCok X Wx r f) (hg : Gl X x) (hm : X.mg x = none) (hv : bootBuiltins x = some (.type T)) (ha : GA X Wx (e :: es) ml) (hn : x ≠ "__name__" := by decide) (hdb : (x == ("__debug__" : Str)) = false := by decide)
    (he : starEach (e :: es) X.env = (false, eval e X.env) :: starEach es X.env := by rfl) (hpl : (backTo pos (starEach es X.env)).any (·.1) = false := by rfl) : GE X Wx (.Call (.Name x p) (e :: es) [] pos) (mCall f ml) :=
  PEimp (pe_callTy hc hg hm hv ha hn hdb he hpl) fun σ H Q ⟨p, st, env, hp, S, E, h⟩ => tG_bind hp S E h fun q s1 ws vs t S1 E1 r1 h1 => hr q s1 ws vs σ Q S1 r1 h1

theorem rc_len : RCok X Wx (fun xs H Q => ∃ x n, xs = [x] ∧ LenV X.K x H n ∧ Q (.int n) H) fLen := by
  intro p st xs vs σ Q S rs h
  unfold fLen at h
  split at h
  · obtain ⟨v, rfl, r⟩ := one_of rs
    rename_i s
    have r' : v = .str s := r
    subst r'
    by_cases c : s.length ≤ sizeLine
    · rw [if_pos c] at h
      exact ⟨_, _, rfl, ⟨c, rfl⟩, fin_ok S h rfl⟩
    · rw [if_neg c] at h
      exact h.elim
  · obtain ⟨v, rfl, r⟩ := one_of rs
    rename_i w _
    cases e : seqIn st w with
    | none =>
      rw [e] at h
      exact h.elim
    | some ys =>
      rw [e] at h
      obtain ⟨a, us, rfl, ta, rs2⟩ := seqIn_of S e r
      refine ⟨_, us.length, rfl, ?_, ?_⟩
      · rcases ta with ta | ta
        · exact .inl ⟨us, ta, rfl⟩
        · exact .inr ⟨us, ta, rfl⟩
      · rw [← rs2.length]
        exact fin_ok S h rfl
  · exact h.elim
theorem rc_int : RCok X Wx (fun xs H Q => (∃ i, xs = [.int i] ∧ Q (.int i) H) ∨ ∃ k, xs = [.bl k] ∧ Q (.int (if k then 1 else 0)) H) fInt := by
  intro p st xs vs σ Q S rs h
  unfold fInt at h
  split at h
  · obtain ⟨v, rfl, r⟩ := one_of rs
    rename_i i
    have r' : v = .int i := r
    subst r'
    exact .inl ⟨i, rfl, fin_ok S h rfl⟩
  · obtain ⟨v, rfl, r⟩ := one_of rs
    rename_i i
    have r' : v = .bl i := r
    subst r'
    exact .inr ⟨i, rfl, fin_ok S h rfl⟩
  · exact h.elim
theorem rc_abs : RCok X Wx (fun xs H Q => ∃ i, xs = [.int i] ∧ Q (.int (if i < 0 then -i else i)) H) fAbs := by
  intro p st xs vs σ Q S rs h
  unfold fAbs at h
  split at h
  · obtain ⟨v, rfl, r⟩ := one_of rs
    rename_i i
    have r' : v = .int i := r
    subst r'
    exact ⟨i, rfl, fin_ok S h rfl⟩
  · exact h.elim
theorem rc_max2 : RCok X Wx (fun xs H Q => ∃ i j, xs = [.int i, .int j] ∧ Q (.int (if j > i then j else i)) H) fMax2 := by
  intro p st xs vs σ Q S rs h
  unfold fMax2 at h
  split at h
  · obtain ⟨v, u, rfl, r, r2⟩ := two_of rs
    rename_i i j
    have r' : v = .int i := r
    have r2' : u = .int j := r2
    subst r' r2'
    exact ⟨i, j, rfl, fin_ok S h rfl⟩
  · exact h.elim
theorem rc_min2 : RCok X Wx (fun xs H Q => ∃ i j, xs = [.int i, .int j] ∧ Q (.int (if j < i then j else i)) H) fMin2 := by
  intro p st xs vs σ Q S rs h
  unfold fMin2 at h
  split at h
  · obtain ⟨v, u, rfl, r, r2⟩ := two_of rs
    rename_i i j
    have r' : v = .int i := r
    have r2' : u = .int j := r2
    subst r' r2'
    exact ⟨i, j, rfl, fin_ok S h rfl⟩
  · exact h.elim
theorem rc_all : RCok X Wx (rAll X.K) fAll := by
  intro p st xs vs σ Q S rs h
  unfold fAll at h
  split at h
  · obtain ⟨v, rfl, r⟩ := one_of rs
    rename_i w
    cases e : listIn st w with
    | none =>
      rw [e] at h
      exact h.elim
    | some ys =>
      rw [e] at h
      dsimp only at h
      cases e2 : bools ys with
      | none =>
        rw [e2] at h
        exact h.elim
      | some bs =>
        rw [e2] at h
        obtain ⟨a, us, rfl, ta, rs2⟩ := listIn_of S e r
        rw [bools_of e2 rs2] at ta
        exact ⟨a, bs, rfl, ta, fin_ok S h rfl⟩
  · exact h.elim
theorem rc_any : RCok X Wx (rAny X.K) fAny := by
  intro p st xs vs σ Q S rs h
  unfold fAny at h
  split at h
  · obtain ⟨v, rfl, r⟩ := one_of rs
    rename_i w
    cases e : listIn st w with
    | none =>
      rw [e] at h
      exact h.elim
    | some ys =>
      rw [e] at h
      dsimp only at h
      cases e2 : bools ys with
      | none =>
        rw [e2] at h
        exact h.elim
      | some bs =>
        rw [e2] at h
        obtain ⟨a, us, rfl, ta, rs2⟩ := listIn_of S e r
        rw [bools_of e2 rs2] at ta
        exact ⟨a, bs, rfl, ta, fin_ok S h rfl⟩
  · exact h.elim
/-! ### repr of data -/
def rReprD (K : PySem.W.Frag) : List V → Hp → VK → Prop := fun xs H Q => ∃ v d, xs = [v] ∧ Dp K H v d ∧ cRepr d = true ∧ Q (.str d.shown) H
theorem call_reprD (hg : X.A.guards = some []) (hu : X.A.units + 64 < cLine) : CallR X (.builtin "repr") (rReprD X.K) := by
  intro pins s σ H xs us Q I r h
  obtain ⟨v, d, rfl, hd, hc, q⟩ := h
  obtain ⟨u, rfl, rv⟩ := vals1 r
  obtain ⟨as, rd⟩ := Dp.reads I d v u hd rv
  unfold cRepr at hc
  rw [Bool.and_eq_true, Bool.and_eq_true, Bool.and_eq_true, decide_eq_true_eq, decide_eq_true_eq] at hc
  obtain ⟨⟨⟨h1, h2⟩, h3⟩, h4⟩ := hc
  have hnd : d.hasDict = false := by simpa using h2
  cases rd with
  | none => exact PySem.P.repr_of_none ⟨.str _, H, I.tok _, ⟨_, rfl⟩, q⟩
  | bool b => exact PySem.P.repr_of_bool ⟨.str _, H, I.tok _, ⟨_, rfl⟩, q⟩
  | int i t => exact PySem.P.repr_of_int (by simpa [PyData.showable] using h1) ⟨.str _, H, I.tok _, ⟨_, rfl⟩, q⟩
  | str x t => exact PySem.P.repr_of_str ⟨.str _, H, I.tok _, ⟨_, rfl⟩, q⟩ h4
  | list k1 k2 k3 k4 => exact repr_of_reads' (.list k1 k2 k3 k4) h1 (PyData.noDict_hsm hnd) hg (by omega) (fun _ _ z => z) (fun h' u tk hk => ⟨.str _, H, I.kept hk, ⟨_, rfl⟩, q⟩) h4
  | tuple k1 k2 k3 k4 => exact repr_of_reads' (.tuple k1 k2 k3 k4) h1 (PyData.noDict_hsm hnd) hg (by omega) (fun _ _ z => z) (fun h' u tk hk => ⟨.str _, H, I.kept hk, ⟨_, rfl⟩, q⟩) h4
  | dict k1 k2 k3 k4 k5 => simp [PyData.hasDict] at hnd
theorem rc_repr : RCok X Wx (rReprD X.K) fRepr := by
  intro p st xs vs σ Q S rs h
  unfold fRepr at h
  split at h
  · obtain ⟨v, rfl, r⟩ := one_of rs
    rename_i w
    cases e : w.toD with
    | none =>
      rw [e] at h
      exact h.elim
    | some d =>
      rw [e] at h
      dsimp only at h
      by_cases c : cRepr d = true
      · rw [if_pos c] at h
        exact ⟨v, d, rfl, dp_of w v d e r, c, fin_ok S h rfl⟩
      · rw [if_neg c] at h
        exact h.elim
  · exact h.elim
theorem rc_tuple : RCok X Wx (fun xs H Q => ∃ p ys, xs = [.ref p] ∧ ((SqL X.K H p ys ∧ ∀ l, H l = none → Q (.ref l) (upd H l (.tup ys))) ∨ (SqT X.K H p ys ∧ Q (.ref p) H))) fTuple := by
  intro p st xs vs σ Q S rs h
  unfold fTuple at h
  split at h
  · obtain ⟨v, rfl, r⟩ := one_of rs
    rename_i w
    cases e : seqIn st w with
    | none =>
      rw [e] at h
      exact h.elim
    | some ys =>
      rw [e] at h
      by_cases t : ∃ zs, w = .tup zs
      · obtain ⟨zs, rfl⟩ := t
        cases e
        obtain ⟨a, us, rfl, ta, rs2⟩ := r
        exact ⟨a, us, rfl, .inr ⟨ta.seq, fin_ok S h ⟨a, us, rfl, ta, rs2⟩⟩⟩
      · have e' : listIn st w = some ys := by
          unfold seqIn at e
          split at e
          · exact absurd ⟨_, rfl⟩ t
          · exact e
        obtain ⟨a, us, rfl, ta, rs2⟩ := listIn_of S e' r
        exact ⟨a, us, rfl, .inl ⟨ta, fun l hl => h { p with H := upd p.H l (.tup us) } (.ref l) (step_new S hl) (sr_new S hl) (new_tup S hl rs2)⟩⟩
  · exact h.elim
theorem rc_list : RCok X Wx (fun xs H Q => ∃ p ys, xs = [.ref p] ∧ (SqL X.K H p ys ∨ SqT X.K H p ys) ∧ ∀ l, H l = none → Q (.ref l) (upd H l (.lst ys))) fList := by
  intro p st xs vs σ Q S rs h
  unfold fList at h
  split at h
  · obtain ⟨v, rfl, r⟩ := one_of rs
    rename_i w
    cases e : seqIn st w with
    | none =>
      rw [e] at h
      exact h.elim
    | some ys =>
      rw [e] at h
      obtain ⟨a, us, rfl, ta, rs2⟩ := seqIn_of S e r
      exact ⟨a, us, rfl, ta, fun l hl => h { p with H := upd p.H l (.lst us) } (.ref l) (step_new S hl) (sr_new S hl) (new_lst S hl rs2)⟩
  · exact h.elim

/-! ### subscripts -/
theorem atI_of {K : PySem.W.Frag} {p : Wh} {xs : List W} {vs : List V} {k : Int} {y : W} (h : atI xs k = some y) (rs : RWs K p xs vs) : ∃ v, atI vs k = some v ∧ RW K p y v := by
  unfold atI at h ⊢
  rw [← rs.length]
  cases e : ixN xs.length k with
  | none =>
    rw [e] at h
    cases h
  | some j =>
    rw [e] at h
    exact rs.get h
theorem r2_ix : R2ok X Wx (rIx X.K) fIx := by
  intro p st x y v u σ Q S rx ry h
  cases y with
  | int k =>
    have e2 : u = .int k := ry
    subst e2
    by_cases t : ∃ s, x = .str s
    · obtain ⟨s, rfl⟩ := t
      have e1 : v = .str s := rx
      subst e1
      dsimp only [fIx] at h
      by_cases c : s.length ≤ sizeLine
      · rw [if_pos c] at h
        cases e : atI s.cps.toList k with
        | none =>
          rw [e] at h
          exact h.elim
        | some z =>
          rw [e] at h
          exact .inr (.inr ⟨s, k, z, rfl, rfl, c, e, fin_ok S h rfl⟩)
      · rw [if_neg c] at h
        exact h.elim
    · have h' : Fin X.K X.mg (RW X.K) Wx p σ Q (match seqIn st x with | some xs => (match atI xs k with | some y => .ok y st | none => .bad) | none => .bad) := by
        cases x with
        | str s => exact absurd ⟨_, rfl⟩ t
        | _ => exact h
      cases e : seqIn st x with
      | none =>
        rw [e] at h'
        exact h'.elim
      | some xs =>
        rw [e] at h'
        dsimp only at h'
        cases e3 : atI xs k with
        | none =>
          rw [e3] at h'
          exact h'.elim
        | some z =>
          rw [e3] at h'
          obtain ⟨a, vs, rfl, ta, rs⟩ := seqIn_of S e rx
          obtain ⟨v', hv, rv⟩ := atI_of e3 rs
          rcases ta with ta | ta
          · exact .inl ⟨a, vs, k, v', rfl, rfl, ta, hv, fin_ok S h' rv⟩
          · exact .inr (.inl ⟨a, vs, k, v', rfl, rfl, ta, hv, fin_ok S h' rv⟩)
  | _ => exact h.elim
theorem ge_ix (ha : GE X Wx a ma) (hb : GE X Wx b mb) (hs : PlainIx b) : GE X Wx (.Subscript a b pos) (mOp fIx ma mb) :=
  PEimp (pe_ix ix_seq ha hb hs) fun σ H Q h => tOp_of r2_ix σ H Q h

/-! ### isinstance -/
def TyOk (T : String) : Prop := ∀ (K : PySem.W.Frag) (w : W), PySem.W.kitOne K (.type (tyName w)) (.type T) = some (isTy T w)
theorem isTy_of {T : String} (hT : TyOk T) {p : Wh} {st : Store} {w : W} {v : V}
    (S : SR X.K p st) (r : RW X.K p w v) {σ : L2.St} {Q : VK} (h : Fin X.K X.mg (RW X.K) Wx p σ Q (fIsi T w st)) : rIsi X.K [v, .ty T] p.H Q := by
  have go : TyX X.K p.H v (.type (tyName w)) → Fin X.K X.mg (RW X.K) Wx p σ Q (.ok (.bl (isTy T w)) st) → rIsi X.K [v, .ty T] p.H Q :=
    fun t h => ⟨v, .ty T, _, _, _, rfl, .ty T, t, hT X.K w, fin_ok S h rfl⟩
  cases w with
  | non =>
    have e : v = .non := r
    subst e
    exact go (.base .non) h
  | bl b =>
    have e : v = .bl b := r
    subst e
    exact go (.base (.bl b)) h
  | int b =>
    have e : v = .int b := r
    subst e
    exact go (.base (.int b)) h
  | str b =>
    have e : v = .str b := r
    subst e
    exact go (.base (.str b)) h
  | tup xs =>
    obtain ⟨a, vs, rfl, ta, rs⟩ := r
    refine go ?_ h
    rcases ta.seq with z | ⟨o, its, n, z1, z2, _⟩
    · rcases z with z | ⟨o, z⟩
      · exact .base (.tup z)
      · exact .fTuple z
    · exact .kTuple z1 z2
  | lst xs =>
    obtain ⟨a, vs, rfl, ta, rs⟩ := r
    exact go (.base (.lst ta.1)) h
  | frz xs =>
    obtain ⟨a, vs, rfl, ta, rs⟩ := r
    refine go ?_ h
    rcases ta.seq with z | ⟨o, its, n, z1, z2, _⟩
    · rcases z with z | ⟨o, z⟩
      · exact .base (.lst z)
      · exact .base (.frz z)
    · exact .kList z1 z2
  | ref n =>
    dsimp only [fIsi] at h
    cases e : st[n]? with
    | none =>
      rw [e] at h
      exact h.elim
    | some o =>
      cases o with
      | lst ys =>
        rw [e] at h
        obtain ⟨_, vs, hH, rs⟩ := S.at e
        have e2 : v = .ref (p.ρ n) := r.2
        subst e2
        exact go (.base (.lst hH)) h
      | _ =>
        rw [e] at h
        exact h.elim
theorem ge_isi {T : String} {pT : Pos} (hT : TyOk T) (hg : Gl X "isinstance") (hm : X.mg "isinstance" = none) (hgT : Gl X T) (hmT : X.mg T = none) (hvT : bootBuiltins T = some (.type T)) (he : GE X Wx e me)
    (hs : starEach [e, .Name T pT] X.env = (false, eval e X.env) :: starEach [.Name T pT] X.env := by rfl) (hpl : (backTo pos (starEach [.Name T pT] X.env)).any (·.1) = false := by rfl)
    (hs2 : starEach [.Name T pT] X.env = (false, eval (.Name T pT) X.env) :: starEach [] X.env := by rfl) (hn : (T : Str) ≠ "__name__" := by decide) (hd : ((T : Str) == ("__debug__" : Str)) = false := by decide) :
    GE X Wx (.Call (.Name "isinstance" p) [e, .Name T pT] [] pos) (mUn (fIsi T) me) :=
  PEimp (pe_callB call_isi hg hm (by decide +kernel) (pa_cons he (pa_cons (pe_bltn (v := .ty T) hgT hmT hvT rfl hn hd) pa_nil hs2) hs) (he := hs) (hpl := hpl)) fun σ H Q ⟨p, st, env, hp, S, E, h⟩ =>
    tG_bind hp S E h fun q s1 w v t S1 E1 r h1 => isTy_of hT S1 r h1
theorem ty_int : TyOk "int" := fun K w => by cases w <;> rfl
theorem ty_bool : TyOk "bool" := fun K w => by cases w <;> rfl
theorem ty_str : TyOk "str" := fun K w => by cases w <;> rfl
theorem ty_tuple : TyOk "tuple" := fun K w => by cases w <;> rfl
theorem ty_list : TyOk "list" := fun K w => by cases w <;> rfl
theorem ty_dict : TyOk "dict" := fun K w => by cases w <;> rfl
end
end Mi

namespace Mi
open PySem PySem.Spec PyProof.Rows L2
variable [ClsMap]

/-! ### list comprehensions -/
def noX {α : Type} : Res α → Res α
  | .exc _ _ => .bad
  | r => r
def lcEach (put : W → En → En) (tt : Ev Bool) (te : Ev W) (env : En) : List W → List W → Store → Res (List W)
  | [], acc, st => .ok acc st
  | x :: xs, acc, st => (noX (tt (put x env) st)).bind fun b s1 =>
    if b = true then (noX (te (put x env) s1)).bind fun y s2 => if acc.length < 100000 then lcEach put tt te env xs (acc ++ [y]) s2 else .bad else lcEach put tt te env xs acc s1
def wipeE (env : En) : List Nat → En
  | [] => env
  | v :: vs => (wipeE env vs).set v none
def asLst (r : Res (List W)) : Res W := r.bind fun acc s => .ok (.lst acc) s
def yes : Ev Bool := fun _ st => .ok true st
def setN (j : Nat) : W → En → En := fun x e => e.set j (some x)
/-- over a range of n | from a below b | over a list | over a tuple -/
def mLcR1 (vs : List Nat) (put : W → En → En) (ml : Ev (List W)) (tt : Ev Bool) (te : Ev W) : Ev W := fun env st => (ml env st).bind fun ws s1 => match as1 ws with
  | some n => if -(2 ^ 62) ≤ n ∧ n < 2 ^ 62 then asLst (lcEach put tt te (wipeE env vs) (rngW 0 n.toNat) [] s1) else .bad
  | none => .bad
def mLcR2 (vs : List Nat) (put : W → En → En) (ml : Ev (List W)) (tt : Ev Bool) (te : Ev W) : Ev W := fun env st => (ml env st).bind fun ws s1 => match as2 ws with
  | some ab => if -(2 ^ 62) ≤ ab.1 ∧ ab.1 < 2 ^ 62 ∧ -(2 ^ 62) ≤ ab.2 ∧ ab.2 < 2 ^ 62 then asLst (lcEach put tt te (wipeE env vs) (rngW ab.1 (ab.2 - ab.1).toNat) [] s1) else .bad
  | none => .bad
def mLcS (vs : List Nat) (put : W → En → En) (me : Ev W) (tt : Ev Bool) (te : Ev W) : Ev W := fun env st => (me env st).bind fun w s1 => match seqOf w with
  | some xs => asLst (lcEach put tt te (wipeE env vs) xs [] s1)
  | none => .bad
def mLcT (vs : List Nat) (put : W → En → En) (me : Ev W) (tt : Ev Bool) (te : Ev W) : Ev W := fun env st => (me env st).bind fun w s1 => match tupOf w with
  | some xs => asLst (lcEach put tt te (wipeE env vs) xs [] s1)
  | none => .bad

section
variable {K : PySem.W.Frag} {mg : Str → Option Value} {p q : Wh} {st : Store} {env : En} {σ : L2.St} {D : Addr}
theorem RO.move (s : Mv p q) {o : O} {h : Option HO} (r : RO K p o h) : RO K q o h := by
  cases o with
  | lst xs =>
    obtain ⟨vs, e, k⟩ := r
    exact ⟨vs, e, RWs.move s xs vs k⟩
  | ins C fs =>
    obtain ⟨dx, gs, e, l, k⟩ := r
    exact ⟨dx, gs, e, l, RWs.move s _ _ k⟩
  | dct fs =>
    obtain ⟨gs, e, l, k⟩ := r
    exact ⟨gs, e, l, RWs.move s _ _ k⟩
theorem wipe_set {j : Nat} {o : Option V} : ∀ {vs : List Nat}, j ∈ vs → ∀ σ : L2.St, wipe (σ.set j o) vs = wipe σ vs
  | v :: vs, h, σ => by
    unfold wipe
    by_cases e : j ∈ vs
    · rw [wipe_set e σ]
    · have ev : j = v := by
        rcases List.mem_cons.mp h with z | z
        · exact z
        · exact absurd z e
      subst ev
      have out : ∀ (ws : List Nat), j ∉ ws → ∀ σ : L2.St, wipe (σ.set j o) ws = (wipe σ ws).set j o := by
        intro ws
        induction ws with
        | nil => intro _ _; rfl
        | cons a r ih =>
          intro hn σ
          unfold wipe
          rw [ih (fun z => hn (List.mem_cons_of_mem _ z)) σ]
          exact List.set_comm _ _ (fun z => hn (by rw [z]; exact List.mem_cons_self))
      rw [out vs e σ, List.set_set]
theorem wipe_wipe : ∀ {vs : List Nat} (σ : L2.St), wipe (wipe σ vs) vs = wipe σ vs := by
  have go : ∀ (us vs : List Nat) (σ : L2.St), (∀ u ∈ us, u ∈ vs) → wipe (wipe σ us) vs = wipe σ vs := by
    intro us
    induction us with
    | nil => intro _ _ _; rfl
    | cons u r ih =>
      intro vs σ h
      show wipe ((wipe σ r).set u none) vs = wipe σ vs
      rw [wipe_set (h u List.mem_cons_self), ih vs σ (fun z hz => h z (List.mem_cons_of_mem _ hz))]
  exact fun {vs} σ => go vs vs σ fun _ h => h
theorem EnvR.wiped (e : EnvR K p env σ) : ∀ vs : List Nat, EnvR K p (wipeE env vs) (wipe σ vs)
  | [] => e
  | v :: vs => (EnvR.wiped e vs).unset v none
theorem mv_hide (S : SR K p st) (h : p.H D = none) : Mv p { p with H := upd p.H D (.lst []), x := D :: p.x } := by
  have t := step_new (o := .lst []) S h
  refine ⟨Nat.le_refl _, fun _ _ => rfl, t.keep, fun i h1 h2 => absurd h2 (Nat.not_lt.mpr h1), t.there, fun a z => ?_, t.hth⟩
  rcases List.mem_cons.mp z with z | z
  · exact .inr (by rw [z]; exact h)
  · exact .inl z
theorem sr_hide (S : SR K p st) (h : p.H D = none) : SR K { p with H := upd p.H D (.lst []), x := D :: p.x } st := by
  have t := sr_new (o := .lst []) S h
  have m := mv_hide S h
  refine ⟨t.len, t.inj, fun i u e => ?_, fun a z => ?_⟩
  · have hi : i < p.n := by
      rw [S.len]
      exact (List.getElem?_eq_some_iff.mp e).1
    have r := (S.obj i u e).move m
    show RO K _ u (upd p.H D (.lst []) (p.ρ i))
    rw [upd_ne (fun e => S.there i hi (by rw [e]; exact h))]
    exact r
  · rcases List.mem_cons.mp z with z | z
    · subst z
      refine ⟨?_, fun i hi e => S.there i hi (by rw [e]; exact h)⟩
      show upd p.H a (.lst []) a ≠ none
      rw [upd_same]
      exact fun z => nomatch z
    · exact ⟨m.hth a z, (S.hid a z).2⟩
theorem mv_write (S : SR K p st) (hD : D ∈ p.x) (o : HO) : Mv p { p with H := upd p.H D o } := by
  refine ⟨Nat.le_refl _, fun _ _ => rfl, fun a u e h => ?_, fun i h1 h2 => absurd h2 (Nat.not_lt.mpr h1), fun i hi => ?_, fun a z => .inl z, fun a z => ?_⟩
  · show upd p.H D o a = some u
    rw [upd_ne (fun z => h.2 (by rw [z]; exact hD))]
    exact e
  · show upd p.H D o (p.ρ i) ≠ none
    rw [upd_ne ((S.hid D hD).2 i hi)]
    exact S.there i hi
  · show upd p.H D o a ≠ none
    by_cases e : a = D
    · rw [e, upd_same]
      exact fun z => nomatch z
    · rw [upd_ne e]
      exact (S.hid a z).1
theorem sr_write (S : SR K p st) (hD : D ∈ p.x) (o : HO) : SR K { p with H := upd p.H D o } st := by
  have m := mv_write S hD o
  refine ⟨S.len, S.inj, fun i u e => ?_, fun a z => ⟨m.hth a z, (S.hid a z).2⟩⟩
  have hi : i < p.n := by
    rw [S.len]
    exact (List.getElem?_eq_some_iff.mp e).1
  have r := (S.obj i u e).move m
  show RO K _ u (upd p.H D o (p.ρ i))
  rw [upd_ne ((S.hid D hD).2 i hi)]
  exact r
theorem mv_show (S : SR K p st) {x : List Addr} (hx : ∀ a, a ∈ x → a ∈ p.x) : Mv p { p with x := x } :=
  ⟨Nat.le_refl _, fun _ _ => rfl, fun a o e _ => e, fun i h1 h2 => absurd h2 (Nat.not_lt.mpr h1), S.there, fun a z => .inl (hx a z), fun a z => (S.hid a z).1⟩
theorem sr_show (S : SR K p st) {x : List Addr} (hx : ∀ a, a ∈ x → a ∈ p.x) : SR K { p with x := x } st :=
  ⟨S.len, S.inj, fun i u e => (S.obj i u e).move (mv_show S hx), fun a z => S.hid a (hx a z)⟩

/-- what a comprehension's target does -/
def PutLc (K : PySem.W.Frag) (g : TG) (put : W → En → En) (vs : List Nat) (xs : List W) : Prop :=
  ∀ (q : Wh) (w : W) (v : V) (env : En) (σ : L2.St) (Q : L2.St → Hp → Prop), w ∈ xs → RW K q w v → EnvR K q env σ → (∀ σ', EnvR K q (put w env) σ' → wipe σ' vs = wipe σ vs → Q σ' q.H) → g v σ q.H Q
theorem putLc_name {j : Nat} {vs : List Nat} {xs : List W} (h : j ∈ vs) : PutLc K (gName j) (setN j) vs xs := fun q w v env σ Q _ r E k => k _ (E.set j r) (wipe_set h σ)

abbrev W0 : WX := fun _ _ _ _ => False
/-- ahead of the i-th turn -/
def LcT (K : PySem.W.Frag) (mg : Str → Option Value) (Wx : WX) (put : W → En → En) (tt : Ev Bool) (te : Ev W) (env : En) (p : Wh) (D : Addr) (σ : L2.St) (Q : VK) (xs : List W) (i : Nat) (H' : Hp) : Prop :=
  ∃ (q : Wh) (s2 : Store) (acc : List W) (accV : List V), q.H = H' ∧ q.x = D :: p.x ∧ Mv p q ∧ (∀ a, a ∈ p.x → q.H a = p.H a) ∧ SR K q s2 ∧ q.H D = some (.lst accV) ∧ RWs K q acc accV ∧
    Fin K mg (RW K) Wx p σ Q (asLst (lcEach put tt te env (xs.drop i) acc s2))
theorem lc_start {Wx : WX} {put : W → En → En} {tt : Ev Bool} {te : Ev W} {Q : VK} {xs : List W} (S : SR K p st) (hD : p.H D = none) (h : Fin K mg (RW K) Wx p σ Q (asLst (lcEach put tt te env xs [] st))) :
    LcT K mg Wx put tt te env p D σ Q xs 0 (upd p.H D (.lst [])) :=
  ⟨{ p with H := upd p.H D (.lst []), x := D :: p.x }, st, [], [], rfl, rfl, mv_hide S hD, (step_new (o := .lst []) S hD).hk, sr_hide S hD, upd_same, rfl, h⟩
theorem lc_turn {Wx : WX} {put : W → En → En} {tt : Ev Bool} {te : Ev W} {Q : VK} {xs : List W} {vs : List V} {i : Nat} {g : TG} {v : V} {own : List Nat} {H' : Hp} (S : SR K p st) (hD : p.H D = none) (E : EnvR K p env σ) (hg : PutLc K g put own xs) (rs : RWs K p xs vs) (hv : vs[i]? = some v)
    (h : LcT K mg Wx put tt te (wipeE env own) p D σ Q xs i H') : g v (wipe σ own) H' fun σ2 H2 => wipe σ2 own = wipe σ own ∧ tG K mg eqR W0 tt σ2 H2 fun b H3 =>
      if b = true then tG K mg (RW K) W0 te σ2 H3 fun y H4 => ∃ acc, H4 D = some (.lst acc) ∧ acc.length < sizeLine ∧ LcT K mg Wx put tt te (wipeE env own) p D σ Q xs (i + 1) (upd H4 D (.lst (acc ++ [y]))) else LcT K mg Wx put tt te (wipeE env own) p D σ Q xs (i + 1) H3 := by
  obtain ⟨q, s2, acc, accV, rfl, ex, m, hk, S2, hA, ra, hF⟩ := h
  obtain ⟨w, hw, r⟩ := rs.getV hv
  obtain ⟨hl, hw'⟩ := List.getElem?_eq_some_iff.mp hw
  rw [List.drop_eq_getElem_cons hl, hw'] at hF
  refine hg q w v (wipeE env own) (wipe σ own) _ (List.mem_of_getElem? hw) (RW.move m w v r) ((E.wiped own).move m) fun σ2 E2 ew => ⟨ew.trans (wipe_wipe σ), q, s2, put w (wipeE env own), rfl, S2, E2, ?_⟩
  have hDq : D ∈ q.x := by
    rw [ex]
    exact List.mem_cons_self
  unfold asLst lcEach at hF
  cases e1 : tt (put w (wipeE env own)) s2 with
  | bad =>
    rw [e1] at hF
    exact hF
  | exc x s3 =>
    rw [e1] at hF
    exact hF.elim
  | ok b s3 =>
    rw [e1] at hF
    intro q3 b' t3 S3 eb
    have eb' : b = b' := eb
    subst eb'
    have keep3 : ∀ a, a ∈ p.x → q3.H a = p.H a := fun a z => (t3.hk a (by rw [ex]; exact List.mem_cons_of_mem _ z)).trans (hk a z)
    have hA3 : q3.H D = some (.lst accV) := (t3.hk D hDq).trans hA
    cases b with
    | false => exact ⟨q3, s3, acc, accV, rfl, t3.xs.trans ex, m.trans t3.toMv, keep3, S3, hA3, RWs.step t3 acc accV ra, hF⟩
    | true =>
      refine ⟨q3, s3, put w (wipeE env own), rfl, S3, E2.step t3, ?_⟩
      have hF' : Fin K mg (RW K) Wx p σ Q (((noX (te (put w (wipeE env own)) s3)).bind fun y s2 => if acc.length < 100000 then lcEach put tt te (wipeE env own) (List.drop (i + 1) xs) (acc ++ [y]) s2 else .bad).bind fun acc s => .ok (.lst acc) s) := hF
      cases e2 : te (put w (wipeE env own)) s3 with
      | bad =>
        rw [e2] at hF'
        exact hF'
      | exc x s4 =>
        rw [e2] at hF'
        exact hF'.elim
      | ok y s4 =>
        rw [e2] at hF'
        have hF2 : Fin K mg (RW K) Wx p σ Q ((if acc.length < 100000 then lcEach put tt te (wipeE env own) (List.drop (i + 1) xs) (acc ++ [y]) s4 else .bad).bind fun acc s => .ok (.lst acc) s) := hF'
        by_cases c : acc.length < 100000
        · rw [if_pos c] at hF2
          intro q4 v4 t4 S4 r4
          have hD4 : D ∈ q4.x := by
            rw [t4.xs, t3.xs]
            exact hDq
          have ma := mv_write S4 hD4 (.lst (accV ++ [v4]))
          refine ⟨accV, (t4.hk D (by rw [t3.xs]; exact hDq)).trans hA3, by rw [← ra.length]; exact Nat.lt_of_lt_of_le c (by decide), { q4 with H := upd q4.H D (.lst (accV ++ [v4])) }, s4, acc ++ [y], accV ++ [v4], rfl, t4.xs.trans (t3.xs.trans ex), ((m.trans t3.toMv).trans t4.toMv).trans ma,
            fun a z => ?_, sr_write S4 hD4 _, upd_same, RWs.append (RWs.move ma acc accV (RWs.step (t3.trans t4) acc accV ra)) ⟨v4, [], rfl, RW.move ma y v4 r4, rfl⟩, hF2⟩
          have hne : a ≠ D := fun e => (S.hid a z).1 (by rw [e]; exact hD)
          show upd q4.H D _ a = p.H a
          rw [upd_ne hne]
          exact (t4.hk a (by rw [t3.xs, ex]; exact List.mem_cons_of_mem _ z)).trans (keep3 a z)
        · rw [if_neg c] at hF2
          exact hF2.elim
theorem lc_end {Wx : WX} {put : W → En → En} {tt : Ev Bool} {te : Ev W} {Q : VK} {xs : List W} {H' : Hp} {i : Nat} (S : SR K p st) (hD : p.H D = none) (hi : xs.length ≤ i) (h : LcT K mg Wx put tt te env p D σ Q xs i H') : Q (.ref D) H' := by
  obtain ⟨q, s2, acc, accV, rfl, ex, m, hk, S2, hA, ra, hF⟩ := h
  rw [List.drop_of_length_le hi] at hF
  have sub : ∀ a, a ∈ p.x → a ∈ q.x := fun a z => by
    rw [ex]
    exact List.mem_cons_of_mem _ z
  have ms := mv_show S2 sub
  have hDq : D ∈ q.x := by
    rw [ex]
    exact List.mem_cons_self
  exact hF { q with x := p.x } (.ref D) ⟨m.trans ms, rfl, hk⟩ (sr_show S2 sub) ⟨D, accV, rfl, ⟨hA, (S2.hid D hDq).2, fun z => (S.hid D z).1 hD⟩, RWs.move ms acc accV ra⟩
end

section
variable {X : Cx} {Wx : WX} {elt tg it : Expr} {ifs : List Expr} {scope : Scope} {own : List (Str × Nat)} {pos p : Pos} {g : TG} {put : W → En → En} {tt : Ev Bool} {te me : Ev W} {ml : Ev (List W)} {a b : Expr}
abbrev GP (X : Cx) (Wx : WX) (e : List Expr) (m : Ev Bool) : Prop := PTs X e (tG X.K X.mg eqR Wx m)
theorem gp_nil : GP X Wx [] yes := ⟨fun pins s σ H Q I h => by
  obtain ⟨p, st, env, rfl, S, E, q⟩ := h
  exact pts_nil.run pins s σ _ Q I (q p true (.refl S) S rfl)⟩
theorem gp_one {c : Expr} (h : GT X Wx c tt) : GP X Wx [c] tt := pts_one h
theorem lcR1_of {σ : L2.St} {H : Hp} {Q : VK} (hg : ∀ xs, PutLc X.K g put (own.map (·.2)) xs) (h : tG X.K X.mg (RW X.K) Wx (mLcR1 (own.map (·.2)) put ml tt te) σ H Q) :
    tLc (iRng1 (tG X.K X.mg (RWs X.K) Wx ml)) g (tG X.K X.mg eqR W0 tt) (tG X.K X.mg (RW X.K) W0 te) (own.map (·.2)) σ H Q := by
  obtain ⟨p, st, env, hp, S, E, h⟩ := h
  refine tG_bind hp S E h fun q s1 ws vs t S1 E1 r h1 => ?_
  cases e : as1 ws with
  | none =>
    rw [e] at h1
    exact h1.elim
  | some n =>
    rw [e] at h1
    dsimp only at h1
    by_cases hb : -(2 ^ 62) ≤ n ∧ n < 2 ^ 62
    · rw [if_pos hb] at h1
      refine ⟨n, as1_of e r, hb.1, hb.2, fun D hD => ?_⟩
      have rs : RWs X.K q (rngW 0 n.toNat) ((List.range n.toNat).map fun (i : Nat) => V.int ((0 : Int) + (i : Int))) := by
        unfold rngW
        generalize List.range n.toNat = l
        induction l with
        | nil => exact (rfl : ([] : List V) = [])
        | cons i l ih => exact ⟨_, _, rfl, rfl, ih⟩
      refine lc_range (LcT X.K X.mg Wx put tt te (wipeE env (own.map (·.2))) q D σ Q (rngW 0 n.toNat)) (lc_start S1 hD h1) (fun i H' hi hT => ?_) fun H' hT => lc_end S1 hD (by rw [rngW_len]; exact Nat.le_refl _) hT
      exact lc_turn S1 hD E1 (hg _) rs (by rw [List.getElem?_map, List.getElem?_range hi]; rfl) hT
    · rw [if_neg hb] at h1
      exact h1.elim
theorem lcR2_of {σ : L2.St} {H : Hp} {Q : VK} (hg : ∀ xs, PutLc X.K g put (own.map (·.2)) xs) (h : tG X.K X.mg (RW X.K) Wx (mLcR2 (own.map (·.2)) put ml tt te) σ H Q) :
    tLc (iRng2 (tG X.K X.mg (RWs X.K) Wx ml)) g (tG X.K X.mg eqR W0 tt) (tG X.K X.mg (RW X.K) W0 te) (own.map (·.2)) σ H Q := by
  obtain ⟨p, st, env, hp, S, E, h⟩ := h
  refine tG_bind hp S E h fun q s1 ws vs t S1 E1 r h1 => ?_
  cases e : as2 ws with
  | none =>
    rw [e] at h1
    exact h1.elim
  | some ab =>
    rw [e] at h1
    dsimp only at h1
    by_cases hb : -(2 ^ 62) ≤ ab.1 ∧ ab.1 < 2 ^ 62 ∧ -(2 ^ 62) ≤ ab.2 ∧ ab.2 < 2 ^ 62
    · rw [if_pos hb] at h1
      refine ⟨ab.1, ab.2, as2_of e r, hb, fun D hD => ?_⟩
      have rs : RWs X.K q (rngW ab.1 (ab.2 - ab.1).toNat) ((List.range (ab.2 - ab.1).toNat).map fun (i : Nat) => V.int (ab.1 + (i : Int))) := by
        unfold rngW
        generalize List.range (ab.2 - ab.1).toNat = l
        induction l with
        | nil => exact (rfl : ([] : List V) = [])
        | cons i l ih => exact ⟨_, _, rfl, rfl, ih⟩
      refine lc_range (LcT X.K X.mg Wx put tt te (wipeE env (own.map (·.2))) q D σ Q (rngW ab.1 (ab.2 - ab.1).toNat)) (lc_start S1 hD h1) (fun i H' hi hT => ?_) fun H' hT => lc_end S1 hD (by rw [rngW_len]; exact Nat.le_refl _) hT
      exact lc_turn S1 hD E1 (hg _) rs (by rw [List.getElem?_map, List.getElem?_range hi]; rfl) hT
    · rw [if_neg hb] at h1
      exact h1.elim
theorem lcS_of {σ : L2.St} {H : Hp} {Q : VK} (hg : ∀ xs, PutLc X.K g put (own.map (·.2)) xs) (h : tG X.K X.mg (RW X.K) Wx (mLcS (own.map (·.2)) put me tt te) σ H Q) :
    tLc (iList X.K (tG X.K X.mg (RW X.K) Wx me)) g (tG X.K X.mg eqR W0 tt) (tG X.K X.mg (RW X.K) W0 te) (own.map (·.2)) σ H Q := by
  obtain ⟨p, st, env, hp, S, E, h⟩ := h
  refine tG_bind hp S E h fun q s1 w v t S1 E1 r h1 => ?_
  cases e : seqOf w with
  | none =>
    rw [e] at h1
    exact h1.elim
  | some xs =>
    rw [e] at h1
    obtain ⟨a, vs, ev, ta, rs⟩ := seqOf_of e r
    refine ⟨a, ev, ⟨vs, ta q (Step.refl S1).toMv⟩, fun D hD => lc_list (xs := vs) (LcT X.K X.mg Wx put tt te (wipeE env (own.map (·.2))) q D σ Q xs) (lc_start S1 hD h1) (fun i H' hi hT => ?_) (fun i x H' hx hT => lc_turn S1 hD E1 (hg _) rs hx hT) fun H' hT => lc_end S1 hD (by rw [rs.length]; exact Nat.le_refl _) hT⟩
    obtain ⟨z, _, _, _, rfl, ez, m, hk, _⟩ := hT
    exact ta z m
theorem lcT_of {σ : L2.St} {H : Hp} {Q : VK} (hg : ∀ xs, PutLc X.K g put (own.map (·.2)) xs) (h : tG X.K X.mg (RW X.K) Wx (mLcT (own.map (·.2)) put me tt te) σ H Q) :
    tLc (iTup X.K (tG X.K X.mg (RW X.K) Wx me)) g (tG X.K X.mg eqR W0 tt) (tG X.K X.mg (RW X.K) W0 te) (own.map (·.2)) σ H Q := by
  obtain ⟨p, st, env, hp, S, E, h⟩ := h
  refine tG_bind hp S E h fun q s1 w v t S1 E1 r h1 => ?_
  cases e : tupOf w with
  | none =>
    rw [e] at h1
    exact h1.elim
  | some xs =>
    rw [e] at h1
    obtain ⟨a, vs, ev, ta, rs⟩ := tupOf_of e r
    refine ⟨a, ev, ⟨vs, ta.seq⟩, fun D hD => lc_tup (xs := vs) (LcT X.K X.mg Wx put tt te (wipeE env (own.map (·.2))) q D σ Q xs) (lc_start S1 hD h1) (fun i H' hi hT => ?_) (fun i x H' hx hT => lc_turn S1 hD E1 (hg _) rs hx hT) fun H' hT => lc_end S1 hD (by rw [rs.length]; exact Nat.le_refl _) hT⟩
    obtain ⟨z, _, _, _, rfl, ez, m, hk, _⟩ := hT
    exact (tup_step m ta).seq
/-- the block's parts, in its own context -/
structure Blk (X : Cx) (scope : Scope) (own : List (Str × Nat)) (tg elt : Expr) (ifs : List Expr) (g : TG) (tt : Ev Bool) (te : Ev W) : Prop where
  ok : BlkOk X.N X.env.scope scope own
  hg : ∀ (s : Shared) (H : Hp) (C : Addr) (cl : List (Str × Addr)) (fp : List Addr), PG (X.blk s H scope (compEnvC scope cl C X.env) fp) tg g
  ht : ∀ (s : Shared) (H : Hp) (C : Addr) (cl : List (Str × Addr)) (fp : List Addr), GP (X.blk s H scope (compEnvC scope cl C X.env) fp) W0 ifs tt
  he : ∀ (s : Shared) (H : Hp) (C : Addr) (cl : List (Str × Addr)) (fp : List Addr), GE (X.blk s H scope (compEnvC scope cl C X.env) fp) W0 elt te
theorem ge_lcR1 {rp : Pos} (B : Blk X scope own tg elt ifs g tt te) (hp : ∀ xs, PutLc X.K g put (own.map (·.2)) xs) (hc : X.calm = true) (hN : X.N.Nodup) (hg : Gl X "range") (hm : X.mg "range" = none) (ha : GA X Wx [a] ml) (hs : starEach [a] X.env = [(false, eval a X.env)] := by rfl)
    (hf : ∀ x, foldedSetIterable (.Call (.Name "range" p) [a] [] rp) X.env x = pure x := by intro _; rfl) :
    GE X Wx (.ListComp elt [⟨tg, .Call (.Name "range" p) [a] [] rp, ifs, 0⟩] scope pos) (mLcR1 (own.map (·.2)) put ml tt te) :=
  PEimp (pe_lc hc hN (pi_range1 hg hm ha hs) B.ok B.hg B.ht B.he hf) fun σ H Q h => lcR1_of hp h
theorem ge_lcR2 {rp : Pos} (B : Blk X scope own tg elt ifs g tt te) (hp : ∀ xs, PutLc X.K g put (own.map (·.2)) xs) (hc : X.calm = true) (hN : X.N.Nodup) (hg : Gl X "range") (hm : X.mg "range" = none) (ha : GA X Wx [a, b] ml) (hs : starEach [a, b] X.env = [(false, eval a X.env), (false, eval b X.env)] := by rfl) (hs2 : starEach [b] X.env = [(false, eval b X.env)] := by rfl)
    (hf : ∀ x, foldedSetIterable (.Call (.Name "range" p) [a, b] [] rp) X.env x = pure x := by intro _; rfl) :
    GE X Wx (.ListComp elt [⟨tg, .Call (.Name "range" p) [a, b] [] rp, ifs, 0⟩] scope pos) (mLcR2 (own.map (·.2)) put ml tt te) :=
  PEimp (pe_lc hc hN (pi_range2 hg hm ha hs hs2) B.ok B.hg B.ht B.he hf) fun σ H Q h => lcR2_of hp h
theorem ge_lcS (B : Blk X scope own tg elt ifs g tt te) (hp : ∀ xs, PutLc X.K g put (own.map (·.2)) xs) (hc : X.calm = true) (hN : X.N.Nodup) (he : GE X Wx it me)
    (hf : ∀ x, foldedSetIterable it X.env x = pure x := by intro _; rfl) : GE X Wx (.ListComp elt [⟨tg, it, ifs, 0⟩] scope pos) (mLcS (own.map (·.2)) put me tt te) :=
  PEimp (pe_lc hc hN (pi_list he) B.ok B.hg B.ht B.he hf) fun σ H Q h => lcS_of hp h
theorem ge_lcT (B : Blk X scope own tg elt ifs g tt te) (hp : ∀ xs, PutLc X.K g put (own.map (·.2)) xs) (hc : X.calm = true) (hN : X.N.Nodup) (he : GE X Wx it me)
    (hf : ∀ x, foldedSetIterable it X.env x = pure x := by intro _; rfl) : GE X Wx (.ListComp elt [⟨tg, it, ifs, 0⟩] scope pos) (mLcT (own.map (·.2)) put me tt te) :=
  PEimp (pe_lc hc hN (pi_tup he) B.ok B.hg B.ht B.he hf) fun σ H Q h => lcT_of hp h
/-- y = [..] on one line, y a local name -/
theorem lc_set {D : Ends} {σ : L2.St} {H : Hp} {i : Nat} {me : Ev W} (h : tS X.K X.mg Wx (sSet i me) D σ H) : tG X.K X.mg (RW X.K) Wx me σ H (fun x H1 => gName i x σ H1 D.nx) := by
  obtain ⟨p, st, env, hp, S, E, h⟩ := h
  exact lift_of hp S E h fun q s1 w v t S1 E1 r h1 => h1 q _ (.refl S1) S1 (E1.set i r)
theorem gs_lcS {i : Nat} {y : Str} {py spos : Pos} (B : Blk X scope own tg elt ifs g tt te) (hp : ∀ xs, PutLc X.K g put (own.map (·.2)) xs) (hc : X.calm = true) (hN : X.N.Nodup) (hy : X.N[i]? = some y) (hyl : X.env.scope.names.lookup y = some .local)
    (hsw : swapsWith (.ListComp elt [⟨tg, it, ifs, 0⟩] scope pos) (some (.Name y py)) spos.line X.env = pure true) (he : GE X Wx it me) (hf : ∀ x, foldedSetIterable it X.env x = pure x := by intro _; rfl) :
    GS X Wx (.Assign [.Name y py] (.ListComp elt [⟨tg, it, ifs, 0⟩] scope pos) spos) (sSet i (mLcS (own.map (·.2)) put me tt te)) :=
  PSimp (ps_setLc hc hN hy hyl hsw (pi_list he) B.ok B.hg B.ht B.he hf) fun D σ H h => lcS_of hp (lc_set h)
theorem gs_lcT {i : Nat} {y : Str} {py spos : Pos} (B : Blk X scope own tg elt ifs g tt te) (hp : ∀ xs, PutLc X.K g put (own.map (·.2)) xs) (hc : X.calm = true) (hN : X.N.Nodup) (hy : X.N[i]? = some y) (hyl : X.env.scope.names.lookup y = some .local)
    (hsw : swapsWith (.ListComp elt [⟨tg, it, ifs, 0⟩] scope pos) (some (.Name y py)) spos.line X.env = pure true) (he : GE X Wx it me) (hf : ∀ x, foldedSetIterable it X.env x = pure x := by intro _; rfl) :
    GS X Wx (.Assign [.Name y py] (.ListComp elt [⟨tg, it, ifs, 0⟩] scope pos) spos) (sSet i (mLcT (own.map (·.2)) put me tt te)) :=
  PSimp (ps_setLc hc hN hy hyl hsw (pi_tup he) B.ok B.hg B.ht B.he hf) fun D σ H h => lcT_of hp (lc_set h)
theorem gs_lcR1 {i : Nat} {y : Str} {py spos rp : Pos} (B : Blk X scope own tg elt ifs g tt te) (hp : ∀ xs, PutLc X.K g put (own.map (·.2)) xs) (hc : X.calm = true) (hN : X.N.Nodup) (hy : X.N[i]? = some y) (hyl : X.env.scope.names.lookup y = some .local)
    (hsw : swapsWith (.ListComp elt [⟨tg, .Call (.Name "range" p) [a] [] rp, ifs, 0⟩] scope pos) (some (.Name y py)) spos.line X.env = pure true) (hg : Gl X "range") (hm : X.mg "range" = none) (ha : GA X Wx [a] ml) (hs : starEach [a] X.env = [(false, eval a X.env)] := by rfl)
    (hf : ∀ x, foldedSetIterable (.Call (.Name "range" p) [a] [] rp) X.env x = pure x := by intro _; rfl) :
    GS X Wx (.Assign [.Name y py] (.ListComp elt [⟨tg, .Call (.Name "range" p) [a] [] rp, ifs, 0⟩] scope pos) spos) (sSet i (mLcR1 (own.map (·.2)) put ml tt te)) :=
  PSimp (ps_setLc hc hN hy hyl hsw (pi_range1 hg hm ha hs) B.ok B.hg B.ht B.he hf) fun D σ H h => lcR1_of hp (lc_set h)

/-! ### methods of lists -/
theorem fApp_of {v : W} {vs : List W} {st : Store} (h : fAppend v vs st ≠ .bad) : ∃ n y xs, v = .ref n ∧ vs = [y] ∧ st[n]? = some (.lst xs) ∧ xs.length < 100000 ∧ fAppend v vs st = .ok .non (st.set n (.lst (xs ++ [y]))) := by
  unfold fAppend at h ⊢
  split at h
  · rename_i n y
    cases e : st[n]? with
    | none =>
      rw [e] at h
      exact absurd rfl h
    | some o =>
      cases o with
      | lst xs =>
        rw [e] at h
        dsimp only at h
        by_cases c : xs.length < 100000
        · refine ⟨n, y, xs, rfl, rfl, e, c, ?_⟩
          simp only [e, if_pos c]
        · rw [if_neg c] at h
          exact absurd rfl h
      | _ =>
        rw [e] at h
        exact absurd rfl h
  · exact absurd rfl h
theorem fExt_of {v : W} {vs : List W} {st : Store} (h : fExtend v vs st ≠ .bad) : ∃ n y xs ys, v = .ref n ∧ vs = [y] ∧ st[n]? = some (.lst xs) ∧ trkIn st y = some ys ∧ xs.length + ys.length ≤ 100000 ∧ fExtend v vs st = .ok .non (st.set n (.lst (xs ++ ys))) := by
  unfold fExtend at h ⊢
  split at h
  · rename_i n y
    cases e : st[n]? with
    | none =>
      rw [e] at h
      exact absurd rfl h
    | some o =>
      cases o with
      | lst xs =>
        cases e2 : trkIn st y with
        | none =>
          rw [e, e2] at h
          exact absurd rfl h
        | some ys =>
          rw [e, e2] at h
          dsimp only at h
          by_cases c : xs.length + ys.length ≤ 100000
          · refine ⟨n, y, xs, ys, rfl, rfl, e, e2, c, ?_⟩
            simp only [e, e2, if_pos c]
          · rw [if_neg c] at h
            exact absurd rfl h
      | _ =>
        rw [e] at h
        exact absurd rfl h
  · exact absurd rfl h
theorem fin_nb {p : Wh} {σ : L2.St} {Q : VK} {r : Res W} (h : Fin X.K X.mg (RW X.K) Wx p σ Q r) : r ≠ .bad := fun e => by
  rw [e] at h
  exact h
/-- a method of a list of the store -/
def RMok (X : Cx) (Wx : WX) (r : V → List V → Hp → VK → Prop) (f : W → List W → Store → Res W) : Prop :=
  ∀ (p : Wh) (st : Store) (x : W) (xs : List W) (v : V) (vs : List V) (σ : L2.St) (Q : VK), SR X.K p st → RW X.K p x v → RWs X.K p xs vs → Fin X.K X.mg (RW X.K) Wx p σ Q (f x xs st) → r v vs p.H Q
theorem tBM_of {to ta : Ev W} {ml : Ev (List W)} {r : V → List V → Hp → VK → Prop} {f : W → List W → Store → Res W} (hr : RMok X Wx r f) {σ : L2.St} {H : Hp} {Q : VK} (h : tG X.K X.mg (RW X.K) Wx (mBM f to ml) σ H Q) :
    tBM X.K "list" r (tG X.K X.mg (RW X.K) Wx to) (tG X.K X.mg (RWs X.K) Wx ml) σ H Q := by
  obtain ⟨p, st, env, hp, S, E, h⟩ := h
  refine tG_bind hp S E h fun q s1 x v t1 S1 E1 rx h1 => ?_
  by_cases c : isRef s1 x = true
  · rw [if_pos c] at h1
    cases x with
    | ref n =>
      have e : v = .ref (q.ρ n) := rx.2
      subst e
      have hl : ∃ vs, q.H (q.ρ n) = some (.lst vs) := by
        dsimp only [isRef] at c
        cases eo : s1[n]? with
        | none =>
          rw [eo] at c
          cases c
        | some o =>
          cases o with
          | lst xs =>
            obtain ⟨_, vs, e1, _⟩ := S1.at eo
            exact ⟨vs, e1⟩
          | _ =>
            rw [eo] at c
            cases c
      obtain ⟨us, hl⟩ := hl
      exact ⟨Or.inl ⟨rfl, us, .inl (.inl hl)⟩, tG_bind rfl S1 E1 h1 fun q2 s2 vs us t2 S2 E2 r2 h2 => hr q2 s2 (.ref n) vs (.ref (q.ρ n)) us σ Q S2 (RW.step t2 (.ref n) _ rx) r2 h2⟩
    | _ => exact absurd c Bool.false_ne_true
  · rw [if_neg c] at h1
    exact h1.elim
theorem rm_append : RMok X Wx rAppend fAppend := by
  intro p st x xs v vs σ Q S rx rs h
  obtain ⟨n, y, ys, rfl, rfl, e, c, ef⟩ := fApp_of (fin_nb h)
  rw [ef] at h
  obtain ⟨hn, us, hH, ru⟩ := S.at e
  obtain ⟨u, rfl, rv⟩ := one_of rs
  have e2 : v = .ref (p.ρ n) := rx.2
  subst e2
  refine ⟨p.ρ n, us, u, rfl, rfl, hH, by rw [← ru.length]; exact Nat.lt_of_lt_of_le c (by decide), ?_⟩
  exact h { p with H := upd p.H (p.ρ n) (.lst (us ++ [u])) } .non (step_mut S hn) (sr_mut S hn (ru.append ⟨u, [], rfl, rv, rfl⟩)) rfl
theorem rm_extend : RMok X Wx rExtend fExtend := by
  intro p st x xs v vs σ Q S rx rs h
  obtain ⟨n, y, ys, zs, rfl, rfl, e, e3, c, ef⟩ := fExt_of (fin_nb h)
  rw [ef] at h
  obtain ⟨hn, us, hH, ru⟩ := S.at e
  obtain ⟨u, rfl, rv⟩ := one_of rs
  obtain ⟨b, ws, rfl, hb, rw2⟩ := trkIn_of S e3 rv
  have e2 : v = .ref (p.ρ n) := rx.2
  subst e2
  refine ⟨p.ρ n, b, us, ws, rfl, rfl, hH, hb, by rw [← ru.length, ← rw2.length]; exact Nat.le_trans c (by decide), ?_⟩
  exact h { p with H := upd p.H (p.ρ n) (.lst (us ++ ws)) } .non (step_mut S hn) (sr_mut S hn (ru.append rw2)) rfl
theorem ge_lm {name : Str} {id : String} {r : V → List V → Hp → VK → Prop} {f : W → List W → Store → Res W} (slot : Slot "list" name id) (hty : typeOf (.builtin id) = pure (.type "method_descriptor")) (hm : MtR X id r) (hr : RMok X Wx r f)
    {o e : Expr} {es : List Expr} {mo : Ev W} {apos cpos : Pos} (ho : GE X Wx o mo) (ha : GA X Wx (e :: es) ml)
    (hbase : attributeBase o name X.env (eval o X.env) = eval o X.env := by rfl)
    (hfew : ((backTo cpos (starEach (e :: es) X.env)).all (fun x => !x.1) && (backToKw cpos (keywordEach [] X.env)).all (fun x => x.1.isSome)
      && decide ((e :: es).length + ([] : List Keyword).length + (if ([] : List Keyword).isEmpty then 0 else 1) < 30)) = true := by rfl)
    (hline : (apos.endLine == cpos.line) = true := by rfl) (hs : starEach (e :: es) X.env = (false, eval e X.env) :: starEach es X.env := by rfl) (hplain : (backTo cpos (starEach es X.env)).any (·.1) = false := by rfl) :
    GE X Wx (.Call (.Attribute o name apos) (e :: es) [] cpos) (mBM f mo ml) :=
  PEimp (pe_bm PySem.F.plainAttrs_list slot hty hm ho ha hbase hfew hline hs hplain) fun σ H Q h => tBM_of (ta := mo) hr h
end

/-! ### calls by keywords alone -/
/-- the places of a list -/
def pick {α : Type} (ix : List Nat) (xs : List α) : List α := ix.filterMap fun i => xs[i]?
section
theorem pick_rws {K : PySem.W.Frag} {q : Wh} {ws : List W} {vs : List V} (r : RWs K q ws vs) : ∀ ix : List Nat, RWs K q (pick ix ws) (pick ix vs)
  | [] => (rfl : ([] : List V) = [])
  | i :: ix => by
    have ih := pick_rws r ix
    unfold pick at ih ⊢
    rw [List.filterMap_cons, List.filterMap_cons]
    cases e : ws[i]? with
    | none =>
      have e2 : vs[i]? = none := by
        rw [List.getElem?_eq_none_iff] at e ⊢
        rw [← r.length]
        exact e
      rw [e2]
      exact ih
    | some w =>
      obtain ⟨v, e2, rv⟩ := r.get e
      rw [e2]
      exact ⟨v, _, rfl, rv, ih⟩
theorem pick_vals {vs : List V} {us : List Value} (r : Vals vs us) : ∀ ix : List Nat, Vals (pick ix vs) (pick ix us)
  | [] => .nil
  | i :: ix => by
    have ih := pick_vals r ix
    unfold pick at ih ⊢
    rw [List.filterMap_cons, List.filterMap_cons]
    cases e : vs[i]? with
    | none =>
      rw [r.none_of e]
      exact ih
    | some w =>
      obtain ⟨v, e2, rv⟩ := r.get e
      rw [e2]
      exact .cons rv ih
variable {X : Cx} {Wx : WX} {k : Nat} {f : Addr} {fd : FuncData} {ps ks : List Str} {m : List W → Store → Res W} {x : Str} {p pos kpos : Pos} {e : Expr} {me : Ev W} {ml : Ev (List W)} {kws : List Keyword} {nm : Option Str}
abbrev GK (X : Cx) (Wx : WX) (e : List Keyword) (m : Ev (List W)) : Prop := PK X e (tG X.K X.mg (RWs X.K) Wx m)
theorem PKimp {X : Cx} {e : List Keyword} {t t' : TA} (h : PK X e t) (i : ∀ σ H Q, t' σ H Q → t σ H Q) : PK X e t' := ⟨fun pos pins s σ H Q I z => h.run pos pins s σ H Q I (i σ H Q z)⟩
theorem gk_nil : GK X Wx [] mNil := PKimp pk_nil fun σ H Q ⟨p, st, env, hp, S, E, h⟩ => by
  subst hp
  exact h p [] (.refl S) S rfl
theorem gk_cons (ha : GE X Wx e me) (hr : GK X Wx kws ml) : GK X Wx (⟨nm, e, kpos⟩ :: kws) (mCons me ml) :=
  PKimp (pk_cons ha hr) fun σ H Q ⟨p, st, env, hp, S, E, h⟩ => tG_bind hp S E h fun q s1 x v t1 S1 E1 rx h1 => tG_bind rfl S1 E1 h1 fun q2 s2 y u t2 S2 E2 ry h2 =>
    h2 q2 (v :: u) (.refl S2) S2 ⟨v, u, rfl, RW.step t2 x v rx, ry⟩
/-- f(k = e, ..): n keywords, and where the parameters' values stand among them -/
def kwM (n : Nat) (ix : List Nat) (m : List W → Store → Res W) : List W → Store → Res W := fun ws st => if ws.length = n then m (pick ix ws) st else .bad
theorem ge_callK {ix : List Nat} {n : Nat} (F : FnG X.prog X.w X.K X.mg X.base k f fd ps m) (hr : Room k X.A) (hg : X.A.guards = some []) (tk : Takes X Wx) (gl : Gl X x) (hm : X.mg x = some (.ref f)) (kp : PySem.W.keepIn X.K (.ref f) = true)
    (hb : ∀ us : List Value, us.length = ks.length → bindArgs fd ⟨[], ks.zip us⟩ = pure (ps.zip (pick ix us)))
    (hkw : GK X Wx kws ml) (hall : (backToKw pos (keywordEach kws X.env)).all (·.1.isSome) = true := by rfl) (hks : (backToKw pos (keywordEach kws X.env)).filterMap (·.1) = ks := by rfl)
    (hn : ks.length = n := by rfl) (hdb : (x == ("__debug__" : Str)) = false := by decide) (hpl : ((backTo pos (starEach [] X.env)).any (·.1) || (backToKw pos (keywordEach kws X.env)).any (·.1.isNone)) = false := by rfl) :
    GE X Wx (.Call (.Name x p) [] kws pos) (mCall (kwM n ix m) ml) := by
  subst hn
  refine ⟨fun pins s σ H Q I ⟨q0, st, env, hp, S, E, h⟩ => ?_⟩
  refine wpAny_Call_Name_kw (ld_glob I gl hm ?_ hdb)
  have t := tG_bind (R := RWs X.K) (Q := fun vs H' => ∃ (q : Wh) (ws : List W) (s1 : Store), q.H = H' ∧ SR X.K q s1 ∧ RWs X.K q ws vs ∧ Fin X.K X.mg (RW X.K) Wx q σ Q (kwM ks.length ix m ws s1)) hp S E h
    fun q s1 ws vs t S1 E1 r h1 => ⟨q, ws, s1, rfl, S1, r, h1⟩
  refine PySem.W.callWith_KW0 (h₀ := X.base) I.ok.mod.kin kp hall (thn (hkw.run pos pins s σ H _ I t)
    fun us s1 ⟨vs, H1, I1, r, z⟩ => ⟨I1.kIn, ?_⟩) hpl
  obtain ⟨q, ws, s2, eH, S1, rw1, h1⟩ := z
  rw [hks]
  have hw : ws.length = ks.length := by
    by_cases c : ws.length = ks.length
    · exact c
    · unfold kwM at h1
      rw [if_neg c] at h1
      exact h1.elim
  unfold kwM at h1
  rw [if_pos hw] at h1
  have hn : (pick ix us).length = ps.length := by rw [← (pick_vals r ix).length, ← (pick_rws rw1 ix).length, len_of F h1]
  have b := BindsTo.of_eq (s := s1) (hb us (by rw [← r.length, ← rw1.length, hw]))
  exact run_G F hr hg tk b hn I1 (pick_vals r ix) eH S1 (pick_rws rw1 ix) h1
end
end Mi

namespace Mi
open PySem PySem.Spec PyProof.Rows L2
variable [ClsMap]

/-! ### the law's own call -/
theorem frz_ints {K : PySem.W.Frag} {p : Wh} : ∀ ns : List Int, RWs K p (ns.map W.int) (ns.map V.int)
  | [] => (rfl : ([] : List V) = [])
  | n :: ns => ⟨.int n, ns.map V.int, rfl, rfl, frz_ints ns⟩
section
variable {P : Program} {w : World} {K : PySem.W.Frag} {mg mb : Str → Option Value} {k : Nat} {fa a : Addr} {fd : FuncData} {x : Str} {s₁ : Shared} {vs : List Value} {ns : List Int} {m : List W → Store → Res W}
/-- from an abstract heap in which the script alone may be tracked -/
theorem law_core (KX : K.In s₁.heap) (hns : s₁.heap.Ns mainGlobals mg) (hb : s₁.heap.Ns builtinsNs mb) (hbb : ∀ x : Str, x ≠ "__name__" → mb x = bootBuiltins x) (hlim : s₁.heap.NoLimit) (hg : s₁.gens = #[])
    (ha : s₁.heap.get? a = some { cls := .type "list", data := .seq vs.toArray }) (hr : Room k callerA) (F : ∀ base : Heap, K.In base → base.Ns mainGlobals mg → FnG P w K mg base k fa fd [x] m)
    (hbind : ∀ (s : Shared) (u : Value), BindsTo s fd ⟨[u], []⟩ [(x, u)]) {st' : Store} (hm : m [.frz (ns.map W.int)] [] = .ok (.bl true) st')
    (H : Hp) (only : Only H) (hS : FrzAt K ⟨fun _ => a, 0, H, []⟩ a (ns.map V.int)) (hok : HOk P w H s₁.heap) (hA : ∀ b, H b ≠ none → b = a) (hK : H a ≠ none → K.lookup a = none) :
    codeAny (model P w) callerA (.call (.ref fa) ⟨[.ref a], []⟩) (fun r s' => r = .ok (.ret (.bool true)) ∧ OldK s₁.heap s'.heap ∧ s'.os = s₁.os ∧ AllBare s'.gens) s₁ := by
  let B := hidT s₁.heap H
  have inB : ∀ {b : Addr} {o : Obj}, s₁.heap.get? b = some o → H b = none → B.get? b = some o := fun e n => hidT_get e n
  have dicts : ∀ {b : Addr} {o : Obj} {es : Array DictEntry} {ep : Nat}, s₁.heap.get? b = some o → o.data = .dict es ep → H b = none := by
    intro b o es ep e d
    cases q : H b with
    | none => rfl
    | some u =>
      have eb := hA b (by rw [q]; exact fun z => nomatch z)
      rw [eb, ha] at e
      cases e
      cases (show Data.seq vs.toArray _ = Data.dict es ep from d)
  have nsB : ∀ {b : Addr} {f : Str → Option Value}, s₁.heap.Ns b f → B.Ns b f := fun ⟨o, es, ep, e, d, r⟩ => ⟨o, es, ep, inB e (dicts e d), d, r⟩
  have KB : K.In B := fun b o e => inB (KX b o e) (by
    cases q : H b with
    | none => rfl
    | some u =>
      exfalso
      have eb := hA b (by rw [q]; exact fun z => nomatch z)
      rw [eb, hK (by rw [← eb, q]; exact fun z => nomatch z)] at e
      cases e)
  obtain ⟨mc, hc1, hc2⟩ := hlim
  have e0 : Env0 P w K mg B callerA [] s₁ H :=
    ⟨rfl, ⟨KB, nsB hns, ⟨mb, nsB hb, hbb⟩, mc, nsB hc1, hc2⟩, fun b o e => of_hidT e, Nat.le_of_eq (hidT_size _ _), trivial, fun b z => (nomatch z), hok, .of_eq hg⟩
  have S0 : SR K ⟨fun _ => a, 0, H, []⟩ [] := ⟨rfl, fun i j h => absurd h (Nat.not_lt_zero _), fun i o e => by simp at e, fun b z => (nomatch z)⟩
  refine codeAny_mono ((F B KB (nsB hns)).run callerA [] s₁ H ⟨[.ref a], []⟩ [.ref a] [.ref a] [.frz (ns.map W.int)] ⟨fun _ => a, 0, H, []⟩ [] (fun v H' => v = .bl true) (fun _ _ _ => False)
    hr rfl e0 (hbind s₁ (.ref a)) (.cons rfl .nil) rfl rfl S0 ⟨.ref a, [], rfl, ⟨a, ns.map V.int, rfl, hS, frz_ints ns⟩, rfl⟩ ?_) fun r s' z => ?_
  · rw [hm]
    exact fun q v _ _ r => r
  · cases r with
    | error e =>
      obtain ⟨_, _, _, _, _, _, _, _, _, _, _, _, z⟩ := z
      exact z.elim
    | ok fl =>
      cases fl with
      | next => exact z.elim
      | brk => exact z.elim
      | cont => exact z.elim
      | ret u =>
        obtain ⟨v, H', os, bare, un, hok', r', q⟩ := z
        have q' : v = .bl true := q
        subst q'
        have eu : u = Value.bool true := r'
        subst eu
        refine ⟨rfl, OldK.of_keep fun b o e => ?_, os, bare⟩
        cases q : H b with
        | none => exact un.keep b o e q (fun z => nomatch z) (fun z => nomatch z)
        | some t =>
          rcases only b with z | ⟨ob, xs, z⟩
          · rw [q] at z
            cases z
          · obtain ⟨e1, _⟩ := hok b _ z
            obtain ⟨e2, _⟩ := hok' b _ (un.frzs b ob _ z)
            rw [e] at e1
            cases e1
            exact e2
theorem law_G (KX : K.In s₁.heap) (hns : s₁.heap.Ns mainGlobals mg) (hb : s₁.heap.Ns builtinsNs mb) (hbb : ∀ x : Str, x ≠ "__name__" → mb x = bootBuiltins x) (hlim : s₁.heap.NoLimit) (hg : s₁.gens = #[])
    (ha : s₁.heap.get? a = some { cls := .type "list", data := .seq vs.toArray }) (hi : IntsAre vs ns) (hl : ns.length ≤ sizeLine) (hr : Room k callerA) (F : ∀ base : Heap, K.In base → base.Ns mainGlobals mg → FnG P w K mg base k fa fd [x] m)
    (hbind : ∀ (s : Shared) (u : Value), BindsTo s fd ⟨[u], []⟩ [(x, u)]) {st' : Store} (hm : m [.frz (ns.map W.int)] [] = .ok (.bl true) st') :
    codeAny (model P w) callerA (.call (.ref fa) ⟨[.ref a], []⟩) (fun r s' => r = .ok (.ret (.bool true)) ∧ OldK s₁.heap s'.heap ∧ s'.os = s₁.os ∧ AllBare s'.gens) s₁ := by
  have rv := vals_ints hi
  have out : (Wh.mk (fun _ => a) 0 (fun b => if b = a then some (.frz { cls := .type "list", data := .seq vs.toArray } (.lst (ns.map V.int))) else none) []).out a := ⟨fun i h => absurd h (Nat.not_lt_zero _), fun z => nomatch z⟩
  cases hk : K.lookup a with
  | some o =>
    have e := KX a o hk
    rw [ha] at e
    cases e
    refine law_core KX hns hb hbb hlim hg ha hr F hbind hm (fun _ => none) (fun _ => .inl rfl) (.inr (.inr ⟨_, vs.toArray, _, hk, rfl, rfl, rfl, ?_, by simpa using rv⟩)) (fun b u z => nomatch (show (none : Option HO) = some u from z)) (fun b z => absurd rfl z) fun z => absurd rfl z
    rw [List.size_toArray, hi.length]
    exact hl
  | none =>
    refine law_core KX hns hb hbb hlim hg ha hr F hbind hm (fun b => if b = a then some (.frz { cls := .type "list", data := .seq vs.toArray } (.lst (ns.map V.int))) else none)
      (fun b => ?_) (.inl ⟨.inr ⟨{ cls := .type "list", data := .seq vs.toArray }, if_pos rfl⟩, out⟩) (fun b u z => ?_) (fun b z => ?_) fun _ => hk
    · by_cases h : b = a
      · exact .inr ⟨_, _, if_pos h⟩
      · exact .inl (if_neg h)
    · by_cases h : b = a
      · have z' := (if_pos h).symm.trans z
        cases z'
        subst h
        exact ⟨ha, by rw [List.length_map]; exact hl, vs, _, rv, ha⟩
      · have z' := (if_neg h).symm.trans z
        cases z'
    · by_cases h : b = a
      · exact h
      · exact absurd (if_neg h) z
end
/-- the goal that k_head leaves -/
theorem walkG {l : PySem.W.OpenLaw} {n k : Nat} {q : Program} {loose : List Str} {XP : (Str → Option Value) → Heap → Prop} {YP : World → Heap → Prop} {d : DefRec} {K : Params → PySem.W.Frag} {x : Str} {m : List W → Store → Res W}
    (hn : l.most = some n) (hn2 : n ≤ sizeLine) (hdf : d.params.defaults = []) (hr : Room k callerA) (hY : ∀ (w : World) (h : Heap), YP w h → (K w.params).In h)
    (F : ∀ (w : World) (mg : Str → Option Value) (fa : Addr) (h : Heap), (K w.params).In h → h.Ns mainGlobals mg → mg d.name = some (.ref fa) →
      ∃ fd : FuncData, (∀ (s : Shared) (u : Value), BindsTo s fd ⟨[u], []⟩ [(x, u)]) ∧ ∀ base : Heap, (K w.params).In base → base.Ns mainGlobals mg → FnG l.prog w (K w.params) mg base k fa fd [x] m)
    (hm : ∀ ns : List Int, ns.length ≤ n → ∃ st', m [.frz (ns.map W.int)] [] = .ok (.bl true) st') : PySem.W.WalkO q loose XP YP l.row.toRowW d [] (fun f vs => PySem.call f vs) := by
  refine Att.attach_call hn hdf fun w s₀ s₁ mg mb fa o pm cd doc a vs ns G Y ho hd hcd hmg hobj hints hlen hg => ?_
  have KX := hY w _ Y
  obtain ⟨fd, hb, hF⟩ := F w mg fa _ KX G.T.g hmg
  obtain ⟨st', e⟩ := hm ns hlen
  exact law_G KX G.T.g G.T.b G.T.builtins G.T.nolimit hg hobj hints (Nat.le_trans hlen hn2) hr hF hb e
end Mi

namespace Mi
open PySem PySem.Spec PyProof.Rows L2
variable [ClsMap]

/-! ### truth of any value -/
def truW (st : Store) : W → Option Bool
  | .non => some false
  | .bl b => some b
  | .int i => some (i != 0)
  | .str s => if s.length ≤ sizeLine then some ((s.length : Int) != 0) else none
  | .tup xs => some (!xs.isEmpty)
  | w => (listIn st w).map fun xs => !xs.isEmpty
def mTru (a : Ev W) : Ev Bool := fun env st => (a env st).bind fun w s1 => match truW s1 w with
  | some b => .ok b s1
  | none => .bad
section
variable {X : Cx} {Wx : WX} {a : Expr} {ma : Ev W}
theorem empty_of {K : PySem.W.Frag} {p : Wh} {xs : List W} {vs : List V} (r : RWs K p xs vs) : xs.isEmpty = vs.isEmpty := by
  cases xs with
  | nil =>
    have e : vs = [] := r
    rw [e]
    rfl
  | cons x xs =>
    obtain ⟨v, us, e, _⟩ := r
    rw [e]
    rfl
theorem truV_of {p : Wh} {st : Store} {w : W} {v : V} {b : Bool} (S : SR X.K p st) (r : RW X.K p w v) (h : truW st w = some b) : TruV X.K v p.H b := by
  have lists : ∀ xs, listIn st w = some xs → b = !xs.isEmpty → TruV X.K v p.H b := by
    intro xs e hb
    obtain ⟨a, vs, rfl, ta, rs⟩ := listIn_of S e r
    exact .inl ⟨vs, ta, by rw [hb, empty_of rs]⟩
  cases w with
  | non =>
    have e : v = .non := r
    subst e
    cases h
    exact rfl
  | bl b =>
    have e : v = .bl b := r
    subst e
    cases h
    exact rfl
  | int i =>
    have e : v = .int i := r
    subst e
    cases h
    exact rfl
  | str s =>
    have e : v = .str s := r
    subst e
    dsimp only [truW] at h
    by_cases c : s.length ≤ sizeLine
    · rw [if_pos c] at h
      cases h
      exact ⟨c, rfl⟩
    · rw [if_neg c] at h
      cases h
  | tup xs =>
    obtain ⟨a, vs, rfl, ta, rs⟩ := r
    cases h
    exact .inr (.inl ⟨vs, ta.seq, by rw [empty_of rs]⟩)
  | lst xs =>
    cases h
    exact lists xs rfl rfl
  | frz xs =>
    cases h
    exact lists xs rfl rfl
  | ref n =>
    dsimp only [truW] at h
    cases e : listIn st (.ref n) with
    | none =>
      rw [e] at h
      cases h
    | some xs =>
      rw [e] at h
      have h' : (!xs.isEmpty) = b := by simpa using h
      exact lists xs e h'.symm
theorem gt_tru (ha : GE X Wx a ma) (he : ∀ whole, isTrue a X.env whole = (do let v ← whole; standAt a.pos; holding [v] (truthy v)) := by intro _; rfl) : GT X Wx a (mTru ma) :=
  PTimp (pt_truth ha he) fun σ H Q ⟨p, st, env, hp, S, E, h⟩ => tG_bind hp S E h fun q s1 w v t S1 E1 r h1 => by
    cases e : truW s1 w with
    | none =>
      rw [e] at h1
      exact h1.elim
    | some b =>
      rw [e] at h1
      exact ⟨b, truV_of S1 r e, h1 q b (.refl S1) S1 rfl⟩
end

/-! ### the defs of a module -/
structure DefAt (K : PySem.W.Frag) (mg : Str → Option Value) (x : Str) (st : Stmt) : Prop where
  ex : ∃ (f : Addr) (fd : FuncData), Fun K x x st f fd ∧ mg x = some (.ref f)
structure DefOk (P : Program) (w : World) (K : PySem.W.Frag) (mg : Str → Option Value) (base : Heap) (x : Str) (st : Stmt) (k : Nat) (ps : List Str) (m : List W → Store → Res W) : Prop where
  ex : ∃ (f : Addr) (fd : FuncData), Fun K x x st f fd ∧ mg x = some (.ref f) ∧ FnG P w K mg base k f fd ps m
theorem defOk_of {P : Program} {w : World} {K : PySem.W.Frag} {mg : Str → Option Value} {base : Heap} {x : Str} {st : Stmt} {N ps : List Str} {k : Nat} {body : Sm} (D : DefAt K mg x st) (S : FnScope N ps (defScope st))
    (hb : ∀ (f : Addr) (cdv : Value) (A : Around) (outer : List Env) (s : Shared) (H : Hp) (E : XK), Room k (A.deeper (envOfC x (defScope st) s.heap.objs.size f cdv)) → A.guards = some [] →
      GSs (cxOf (L2.CX P w) P w K mg base N x (defScope st) f cdv A outer s H E) (WxE E) (defBody st) body) : DefOk P w K mg base x st (k + 1) ps (fnM ps.length N.length body) := by
  obtain ⟨f, fd, F, hm⟩ := D.ex
  exact ⟨f, fd, F, hm, fnG_of F S (hb f)⟩
section
variable {X : Cx} {Wx : WX} {k : Nat} {st : Stmt} {ps ks : List Str} {m : List W → Store → Res W} {x : Str} {p pos : Pos} {e : Expr} {es : List Expr} {ml : Ev (List W)} {kws : List Keyword}
theorem ge_callD (D : DefOk X.prog X.w X.K X.mg X.base x st k ps m) (hr : Room k X.A) (hg : X.A.guards = some []) (tk : Takes X Wx) (gl : Gl X x)
    (hbind : ∀ (kV doc pm : Value) (an : Option Addr) (cdv ct : Value) (us : List Value), us.length = ps.length → bindArgs (PySem.W.fnOf x x (defArgs st) (defBody st) (defScope st) .none kV doc pm an cdv ct) ⟨us, []⟩ = pure (ps.zip us))
    (ha : GA X Wx (e :: es) ml) (hdb : (x == ("__debug__" : Str)) = false := by decide) (he : starEach (e :: es) X.env = (false, eval e X.env) :: starEach es X.env := by rfl) (hpl : (backTo pos (starEach es X.env)).any (·.1) = false := by rfl) :
    GE X Wx (.Call (.Name x p) (e :: es) [] pos) (mCall m ml) := by
  obtain ⟨f, fd, F, hm, G⟩ := D.ex
  exact ge_call G hr hg tk gl hm F.kp (F.binds hbind) ha hdb he hpl
theorem ge_callKD {ix : List Nat} {n : Nat} (D : DefOk X.prog X.w X.K X.mg X.base x st k ps m) (hr : Room k X.A) (hg : X.A.guards = some []) (tk : Takes X Wx) (gl : Gl X x)
    (hbind : ∀ (kV doc pm : Value) (an : Option Addr) (cdv ct : Value) (us : List Value), us.length = ks.length → bindArgs (PySem.W.fnOf x x (defArgs st) (defBody st) (defScope st) .none kV doc pm an cdv ct) ⟨[], ks.zip us⟩ = pure (ps.zip (pick ix us)))
    (hkw : GK X Wx kws ml) (hall : (backToKw pos (keywordEach kws X.env)).all (·.1.isSome) = true := by rfl) (hks : (backToKw pos (keywordEach kws X.env)).filterMap (·.1) = ks := by rfl)
    (hn : ks.length = n := by rfl) (hdb : (x == ("__debug__" : Str)) = false := by decide) (hpl : ((backTo pos (starEach [] X.env)).any (·.1) || (backToKw pos (keywordEach kws X.env)).any (·.1.isNone)) = false := by rfl) :
    GE X Wx (.Call (.Name x p) [] kws pos) (mCall (kwM n ix m) ml) := by
  obtain ⟨f, fd, F, hm, G⟩ := D.ex
  obtain ⟨oc, od, kV, doc, pm, an, cdv, ct, osl, rfl, lk, hcd⟩ := F.ex
  exact ge_callK G hr hg tk gl hm F.kp (hbind kV doc pm an cdv ct) hkw hall hks hn hdb hpl
end
end Mi

namespace Mi
open PySem PySem.Spec PyProof.Rows L2
variable [ClsMap]
/-! ### what the operations give on ints and pairs of ints -/
theorem lt_int (i j : Int) : PySem.W.dataLt (.int i) (.int j) = decide (i < j) := by
  unfold PySem.W.dataLt
  simp only [PySem.W.keyToks, PyProof.Rows.lexLt, PyProof.Rows.itemLt, Bool.and_false, Bool.or_false]
theorem lt_pair (a b c d : Int) : PySem.W.dataLt (.tuple [.int a, .int b]) (.tuple [.int c, .int d]) = decide (a < c ∨ (a = c ∧ b < d)) := by
  unfold PySem.W.dataLt
  simp only [PySem.W.keyToks, PySem.W.keyToksAll, PyProof.Rows.lexLt, PyProof.Rows.itemLt, Bool.and_false, Bool.or_false, List.cons_append, List.nil_append, Int.lt_irrefl, decide_false, Bool.false_or, Bool.not_false, Bool.true_and]
  by_cases h1 : a < c
  · simp [h1]
  · by_cases h2 : c < a
    · have h3 : ¬ a = c := by omega
      simp [h1, h2, h3]
    · have h3 : a = c := by omega
      simp [h1, h2, h3]
theorem fD_ok {C g : PyData → PyData → Bool} {x y : W} {d e : PyData} {st : Store} {b : Bool} (hx : x.toD = some d) (hy : y.toD = some e) (hc : C d e = true) (hb : g d e = b) : fD C g x y st = .ok (.bl b) st := by
  unfold fD
  rw [hx, hy]
  dsimp only
  rw [if_pos hc, hb]
section
variable {st : Store} {i j : Int}
theorem f_lt : fLt (.int i) (.int j) st = .ok (.bl (decide (i < j))) st := fD_ok rfl rfl rfl (lt_int i j)
theorem f_gt : fGt (.int i) (.int j) st = .ok (.bl (decide (j < i))) st := fD_ok rfl rfl rfl (lt_int j i)
theorem f_le : fLe (.int i) (.int j) st = .ok (.bl (decide (i ≤ j))) st := fD_ok rfl rfl rfl (by
  rw [lt_int, ← decide_not]
  exact decide_eq_decide.mpr (by omega))
theorem f_ge : fGe (.int i) (.int j) st = .ok (.bl (decide (j ≤ i))) st := fD_ok rfl rfl rfl (by
  rw [lt_int, ← decide_not]
  exact decide_eq_decide.mpr (by omega))
theorem f_eq : fEq (.int i) (.int j) st = .ok (.bl (decide (i = j))) st := fD_ok rfl rfl rfl (by
  simp only [PyData.eqv]
  rfl)
theorem f_ne : fNe (.int i) (.int j) st = .ok (.bl (decide (i ≠ j))) st := fD_ok rfl rfl rfl (by
  simp only [PyData.eqv, ne_eq, decide_not]
  rfl)
theorem f_eqS {x y : Str} : fEq (.str x) (.str y) st = .ok (.bl (decide (x = y))) st := fD_ok rfl rfl rfl (by
  simp only [PyData.eqv]
  by_cases h : x = y
  · subst h
    simp
  · simp [h])
theorem f_neS {x y : Str} : fNe (.str x) (.str y) st = .ok (.bl (decide (x ≠ y))) st := fD_ok rfl rfl rfl (by
  simp only [PyData.eqv]
  by_cases h : x = y
  · subst h
    simp
  · simp [h])
theorem f_eqB {x y : Bool} : fEq (.bl x) (.bl y) st = .ok (.bl (decide (x = y))) st := fD_ok rfl rfl rfl (by cases x <;> cases y <;> rfl)
theorem f_neB {x y : Bool} : fNe (.bl x) (.bl y) st = .ok (.bl (decide (x ≠ y))) st := fD_ok rfl rfl rfl (by cases x <;> cases y <;> rfl)
/-- a pair of ints -/
abbrev pr (a b : Int) : W := .tup [.int a, .int b]
variable {a b c d : Int}
theorem f_ltP : fLt (pr a b) (pr c d) st = .ok (.bl (decide (a < c ∨ (a = c ∧ b < d)))) st := fD_ok rfl rfl rfl (lt_pair a b c d)
theorem f_gtP : fGt (pr a b) (pr c d) st = .ok (.bl (decide (c < a ∨ (c = a ∧ d < b)))) st := fD_ok rfl rfl rfl (lt_pair c d a b)
theorem f_leP : fLe (pr a b) (pr c d) st = .ok (.bl (decide (a < c ∨ (a = c ∧ b ≤ d)))) st := fD_ok rfl rfl rfl (by
  rw [lt_pair, ← decide_not]
  exact decide_eq_decide.mpr (by omega))
theorem f_geP : fGe (pr a b) (pr c d) st = .ok (.bl (decide (c < a ∨ (a = c ∧ d ≤ b)))) st := fD_ok rfl rfl rfl (by
  rw [lt_pair, ← decide_not]
  exact decide_eq_decide.mpr (by omega))
theorem f_eqP : fEq (pr a b) (pr c d) st = .ok (.bl (decide (a = c ∧ b = d))) st := fD_ok rfl rfl rfl (by
  simp only [PyData.eqv, PyData.eqvAll, Bool.and_true]
  by_cases h1 : a = c <;> by_cases h2 : b = d <;> simp [h1, h2])
theorem f_mod (h : 0 < j) : fMod (.int i) (.int j) st = .ok (.int (i % j)) st := if_pos h
theorem f_add : fAdd (.int i) (.int j) st = .ok (.int (i + j)) st := rfl
theorem f_sub : fSub (.int i) (.int j) st = .ok (.int (i - j)) st := rfl
theorem log_lt {n k : Nat} (h0 : 0 < k) (h : n < 2 ^ k) : n.log2 < k := PySem.Flt.log2_lt_of h0 h
theorem f_div (h : 0 < j) (h2 : j.natAbs < 2 ^ 1000) : fDiv (.int i) (.int j) st = .ok (.int (i / j)) st := if_pos ⟨h, Nat.lt_trans (log_lt (by decide) h2) (by decide)⟩
theorem f_mul (h : i.natAbs < 2 ^ 2000) (h2 : j.natAbs < 2 ^ 2000) : fMul (.int i) (.int j) st = .ok (.int (i * j)) st :=
  if_pos (by
    have := log_lt (by decide) h
    have := log_lt (by decide) h2
    omega)
theorem f_pow (h0 : 0 ≤ j) (h1 : j ≤ 1000) (h : i.natAbs < 2 ^ 2000) : fPow (.int i) (.int j) st = .ok (.int (i ^ j.toNat)) st :=
  if_pos ⟨h0, h1, Nat.lt_trans (log_lt (by decide) h) (by decide)⟩
theorem f_ixL {xs : List W} {n : Nat} {y : W} (h : st[n]? = some (.lst xs)) {k : Int} (ha : atI xs k = some y) : fIx (.ref n) (.int k) st = .ok y st := by
  show (match listIn st (.ref n) with | some xs => (match atI xs k with | some y => Res.ok y st | none => .bad) | none => .bad) = _
  simp only [listIn, h, ha]
theorem f_ixV {xs : List W} {k : Int} {y : W} (ha : atI xs k = some y) : fIx (.lst xs) (.int k) st = .ok y st := by
  show (match atI xs k with | some y => Res.ok y st | none => .bad) = _
  rw [ha]
theorem f_ixT {xs : List W} {k : Int} {y : W} (ha : atI xs k = some y) : fIx (.tup xs) (.int k) st = .ok y st := by
  show (match atI xs k with | some y => Res.ok y st | none => .bad) = _
  rw [ha]
theorem f_ixF {xs : List W} {k : Int} {y : W} (ha : atI xs k = some y) : fIx (.frz xs) (.int k) st = .ok y st := by
  show (match atI xs k with | some y => Res.ok y st | none => .bad) = _
  rw [ha]
end
theorem f_lenV {xs : List W} {st : Store} : fLen [.lst xs] st = .ok (.int xs.length) st := rfl
theorem f_lenF {xs : List W} {st : Store} : fLen [.frz xs] st = .ok (.int xs.length) st := rfl
theorem f_lenT {xs : List W} {st : Store} : fLen [.tup xs] st = .ok (.int xs.length) st := rfl
theorem short_int {a : Int} (h : a.natAbs < 2 ^ 64) : (Str.ofString (toString a)).length ≤ 65 := by
  have e := int_text_length_le (a := a) (k := 64) (by decide) (log_lt (by decide) h)
  rw [PySem.ofString_length]
  exact e
theorem f_reprP {a b : Int} {st : Store} (ha : a.natAbs < 2 ^ 64) (hb : b.natAbs < 2 ^ 64) : fRepr [pr a b] st = .ok (.str (PyData.shown (.tuple [.int a, .int b]))) st := by
  have l1 := Nat.lt_trans (log_lt (by decide) ha) (show 64 < 1920 by decide)
  have l2 := Nat.lt_trans (log_lt (by decide) hb) (show 64 < 1920 by decide)
  have hs : (PyData.shown (.tuple [.int a, .int b])).length ≤ sizeLine := by
    have e := tupleText_len_le [Str.ofString (toString a), Str.ofString (toString b)]
    have e1 := short_int ha
    have e2 := short_int hb
    simp only [List.map_cons, List.map_nil, List.sum_cons, List.sum_nil, List.length_cons, List.length_nil] at e
    have e3 : PyData.shown (.tuple [.int a, .int b]) = tupleText [Str.ofString (toString a), Str.ofString (toString b)] := rfl
    rw [e3, sizeLine_eq]
    omega
  have c : cRepr (.tuple [.int a, .int b]) = true := by
    unfold cRepr
    rw [Bool.and_eq_true, Bool.and_eq_true, Bool.and_eq_true, decide_eq_true_eq, decide_eq_true_eq]
    refine ⟨⟨⟨?_, rfl⟩, (by simp [PyData.depth, PyData.depthAll])⟩, hs⟩
    simp only [PyData.showable, PyData.showableAll, Bool.and_true, Bool.and_eq_true, decide_eq_true_eq]
    exact ⟨l1, l2⟩
  show (if cRepr (.tuple [.int a, .int b]) = true then Res.ok (W.str (PyData.shown (.tuple [.int a, .int b]))) st else .bad) = _
  rw [if_pos c]
/-! ### loops -/
theorem forEach_inv {body : Sm} {put : W → En → En} {xs : List W} (I : Nat → En → Store → Prop)
    (h : ∀ i x env st, xs[i]? = some x → I i env st → ∃ e2 s2, body (put x env) st = .go (.nx e2) s2 ∧ I (i + 1) e2 s2) (env : En) (st : Store) (h0 : I 0 env st) :
    ∃ e2 s2, forEach body put xs env st = .go (.nx e2) s2 ∧ I xs.length e2 s2 := by
  have go : ∀ (ys : List W) (k : Nat) (env : En) (st : Store), (∀ i, ys[i]? = xs[k + i]?) → k + ys.length = xs.length → I k env st → ∃ e2 s2, forEach body put ys env st = .go (.nx e2) s2 ∧ I xs.length e2 s2 := by
    intro ys
    induction ys with
    | nil =>
      intro k env st _ hl hI
      have e : k = xs.length := by simpa using hl
      subst e
      exact ⟨env, st, rfl, hI⟩
    | cons y ys ih =>
      intro k env st hy hl hI
      obtain ⟨e2, s2, e, hI2⟩ := h k y env st (by rw [← Nat.add_zero k, ← hy 0]; rfl) hI
      obtain ⟨e3, s3, e4, hI3⟩ := ih (k + 1) e2 s2 (fun i => by
        have z := hy (i + 1)
        rw [List.getElem?_cons_succ] at z
        rw [z]
        congr 1
        omega) (by rw [List.length_cons] at hl; omega) hI2
      refine ⟨e3, s3, ?_, hI3⟩
      unfold forEach
      rw [e]
      exact e4
  exact go xs 0 env st (fun i => by rw [Nat.zero_add]) (by omega) h0
/-- a comprehension whose elements are all True, while I goes on -/
theorem lc_true {put : W → En → En} {te : Ev W} {env : En} {xs : List W} (I : Nat → Store → Prop) (hn : xs.length ≤ 100000)
    (h : ∀ i x st, xs[i]? = some x → I i st → ∃ s2, te (put x env) st = .ok (.bl true) s2 ∧ I (i + 1) s2) (st : Store) (h0 : I 0 st) :
    ∃ s2, lcEach put yes te env xs [] st = .ok (List.replicate xs.length (.bl true)) s2 ∧ I xs.length s2 := by
  have go : ∀ (ys : List W) (k : Nat) (st : Store), (∀ i, ys[i]? = xs[k + i]?) → k + ys.length = xs.length → I k st → ∃ s2, lcEach put yes te env ys (List.replicate k (.bl true)) st = .ok (List.replicate xs.length (.bl true)) s2 ∧ I xs.length s2 := by
    intro ys
    induction ys with
    | nil =>
      intro k st _ hl hI
      have e : k = xs.length := by simpa using hl
      subst e
      exact ⟨st, rfl, hI⟩
    | cons y ys ih =>
      intro k st hy hl hI
      obtain ⟨s2, e, hI2⟩ := h k y st (by rw [← Nat.add_zero k, ← hy 0]; rfl) hI
      obtain ⟨s3, e4, hI3⟩ := ih (k + 1) s2 (fun i => by
        have z := hy (i + 1)
        rw [List.getElem?_cons_succ] at z
        rw [z]
        congr 1
        omega) (by rw [List.length_cons] at hl; omega) hI2
      refine ⟨s3, ?_, hI3⟩
      unfold lcEach
      rw [List.length_cons] at hl
      have c : (List.replicate k (W.bl true)).length < 100000 := by
        rw [List.length_replicate]
        omega
      simp only [yes, noX, Res.bind, if_true, e, if_pos c, ← List.replicate_succ']
      exact e4
  exact go xs 0 st (fun i => by rw [Nat.zero_add]) (by omega) h0
/-- a comprehension whose elements change nothing -/
theorem lc_map {put : W → En → En} {te : Ev W} {env : En} {xs : List W} {st : Store} (g : W → W) (hn : xs.length ≤ 100000) (h : ∀ x ∈ xs, te (put x env) st = .ok (g x) st) : lcEach put yes te env xs [] st = .ok (xs.map g) st := by
  have go : ∀ (ys acc : List W), (∀ x ∈ ys, te (put x env) st = .ok (g x) st) → acc.length + ys.length ≤ 100000 → lcEach put yes te env ys acc st = .ok (acc ++ ys.map g) st := by
    intro ys
    induction ys with
    | nil =>
      intro acc _ _
      rw [List.map_nil, List.append_nil]
      rfl
    | cons y ys ih =>
      intro acc hy hl
      have e := hy y List.mem_cons_self
      rw [List.length_cons] at hl
      have c : acc.length < 100000 := by omega
      unfold lcEach
      simp only [yes, noX, Res.bind, if_true, e, if_pos c]
      rw [ih (acc ++ [g y]) (fun x hx => hy x (List.mem_cons_of_mem _ hx)) (by rw [List.length_append, List.length_singleton]; omega), List.append_assoc, List.map_cons]
      rfl
  have z := go xs [] h (by simpa using hn)
  rw [List.nil_append] at z
  exact z
theorem mem_rng {lo : Int} {n : Nat} {x : W} (h : x ∈ rngW lo n) : ∃ i : Nat, i < n ∧ x = .int (lo + (i : Int)) := by
  unfold rngW at h
  obtain ⟨i, hi, e⟩ := List.mem_map.mp h
  exact ⟨i, List.mem_range.mp hi, e.symm⟩
theorem bools_rep : ∀ n : Nat, bools (List.replicate n (.bl true)) = some (List.replicate n true)
  | 0 => rfl
  | n + 1 => by
    rw [List.replicate_succ]
    unfold bools
    rw [bools_rep n]
    rfl
theorem f_all {n : Nat} {st : Store} : fAll [.lst (List.replicate n (.bl true))] st = .ok (.bl true) st := by
  show (match bools (List.replicate n (.bl true)) with | some bs => Res.ok (W.bl (bs.all id)) st | none => .bad) = _
  rw [bools_rep n]
  have e : (List.replicate n true).all id = true := by
    rw [List.all_eq_true]
    intro b hb
    rw [(List.mem_replicate.mp hb).2]
    rfl
  show Res.ok (W.bl ((List.replicate n true).all id)) st = _
  rw [e]
/-! ### a result that is had -/
def Got {α : Type} (r : Res α) (R : α → Store → Prop) : Prop := ∃ a st, r = .ok a st ∧ R a st
theorem Got.bind {α β : Type} {r : Res α} {k : α → Store → Res β} {R : α → Store → Prop} {R2 : β → Store → Prop} (h : Got r R) (hk : ∀ a st, R a st → Got (k a st) R2) : Got (r.bind k) R2 := by
  obtain ⟨a, st, rfl, ha⟩ := h
  exact hk a st ha
theorem Got.mono {α : Type} {r : Res α} {R R2 : α → Store → Prop} (h : Got r R) (hk : ∀ a st, R a st → R2 a st) : Got r R2 := by
  obtain ⟨a, st, e, ha⟩ := h
  exact ⟨a, st, e, hk a st ha⟩
theorem Got.of {α : Type} {a : α} {st : Store} {R : α → Store → Prop} (h : R a st) : Got (.ok a st) R := ⟨a, st, rfl, h⟩

/-! ### the draws -/
structure Pot (st : Store) (p : Nat) (c : Int) : Prop where
  ex : ∃ own seed cnt : Int, st[p]? = some (.lst [.int own, .int seed, .int cnt]) ∧ 0 ≤ own ∧ own.natAbs < 2 ^ 1000 ∧ 0 ≤ seed ∧ seed < 2 ^ 61 ∧ 0 ≤ cnt ∧ cnt ≤ c
/-- at most the thing at p has changed, and what is new -/
structure Fr (p : Nat) (st st' : Store) : Prop where
  len : st.length ≤ st'.length
  keep : ∀ i, i < st.length → i ≠ p → st'[i]? = st[i]?
theorem Fr.refl {p : Nat} {st : Store} : Fr p st st := ⟨Nat.le_refl _, fun _ _ _ => rfl⟩
theorem Fr.trans {p : Nat} {a b c : Store} (h : Fr p a b) (k : Fr p b c) : Fr p a c := ⟨Nat.le_trans h.len k.len, fun i hi hp => (k.keep i (Nat.lt_of_lt_of_le hi h.len) hp).trans (h.keep i hi hp)⟩
theorem Pot.mono {st : Store} {p : Nat} {c c' : Int} (h : Pot st p c) (hc : c ≤ c') : Pot st p c' := by
  obtain ⟨o, s, n, h1, h2, h3, h4, h5, h6, h7⟩ := h.ex
  exact ⟨o, s, n, h1, h2, h3, h4, h5, h6, by omega⟩
end Mi

namespace Mi
open PySem PySem.Spec PyProof.Rows L2
variable [ClsMap]

/-! ### two comparisons in one -/
def mChain (f g : W → W → Store → Res W) (a b c : Ev W) : Ev W := fun env st => (a env st).bind fun x s1 => (b env s1).bind fun y s2 => (f x y s2).bind fun z s3 => match z with
  | .bl true => (c env s3).bind fun w s4 => g y w s4
  | .bl false => .ok (.bl false) s3
  | _ => .bad
section
variable {X : Cx} {Wx : WX} {a b c : Expr} {es : List Expr} {ma mb mc : Ev W} {ml : Ev (List W)} {pos p2 : Pos}
theorem Fin.bind_of {α β γ δ : Type} {K : PySem.W.Frag} {mg : Str → Option Value} {R : Wh → α → β → Prop} {R2 : Wh → γ → δ → Prop} {p : Wh} {σ : L2.St} {Q2 : δ → Hp → Prop} {r : Res α} {k : α → Store → Res γ} (h : Fin K mg R2 Wx p σ Q2 (r.bind k)) :
    Fin K mg R Wx p σ (fun b H => ∃ (q : Wh) (st' : Store) (a : α), q.H = H ∧ Step p q ∧ SR K q st' ∧ R q a b ∧ Fin K mg R2 Wx q σ Q2 (k a st')) r := by
  cases r with
  | ok a st' => exact fun q b t s r => ⟨q, st', a, rfl, t, s, r, Fin.later t h⟩
  | exc x st' => exact h
  | bad => exact h
theorem chain_of {r r' : R2} {f g : W → W → Store → Res W} (hr : R2ok X Wx r f) (hr' : R2ok X Wx r' g) {σ : L2.St} {H : Hp} {Q : VK} (h : tG X.K X.mg (RW X.K) Wx (mChain f g ma mb mc) σ H Q) :
    tChain r r' (tG X.K X.mg (RW X.K) Wx ma) (tG X.K X.mg (RW X.K) Wx mb) (tG X.K X.mg (RW X.K) Wx mc) σ H Q := by
  obtain ⟨p, st, env, hp, S, E, h⟩ := h
  refine tG_bind hp S E h fun q s1 x v t1 S1 E1 rx h1 => tG_bind rfl S1 E1 h1 fun q2 s2 y u t2 S2 E2 ry h2 => ?_
  refine hr q2 s2 x y v u σ _ S2 (RW.step t2 x v rx) ry ?_
  refine (Fin.bind_of (R := RW X.K) h2).mono fun z' H' ⟨q3, s3, z, eH, t3, S3, rz, h3⟩ => ?_
  subst eH
  cases z with
  | bl k =>
    have ez : z' = .bl k := rz
    refine ⟨k, ez, ?_⟩
    cases k with
    | true =>
      rw [if_pos rfl]
      exact tG_bind rfl S3 (E2.step t3) h3 fun q4 s4 w v4 t4 S4 E4 rw4 h4 => hr' q4 s4 y w u v4 σ Q S4 (RW.step (t3.trans t4) y u ry) rw4 h4
    | false =>
      rw [if_neg Bool.false_ne_true]
      exact h3 q3 (.bl false) (.refl S3) S3 rfl
  | _ => exact h3.elim
theorem ge_chain {op op' : CmpOp} {r r' : R2} {f g : W → W → Store → Res W} (ho : OpR X (compareOp op) r) (hr : R2ok X Wx r f) (ho' : OpR X (compareOp op') r') (hr' : R2ok X Wx r' g) (ha : GE X Wx a ma) (hb : GE X Wx b mb) (hc : GE X Wx c mc)
    (hm : lastMarks [op, op'] [b, c] = false := by with_unfolding_all rfl) : GE X Wx (.Compare a [op, op'] [b, c] pos) (mChain f g ma mb mc) :=
  PEimp (pe_chain ho ho' ha hb hc hm) fun σ H Q h => chain_of hr hr' h
theorem gt_chain {op op' : CmpOp} {r r' : R2} {f g : W → W → Store → Res W} (ho : OpR X (compareOp op) r) (hr : R2ok X Wx r f) (ho' : OpR X (compareOp op') r') (hr' : R2ok X Wx r' g) (ha : GE X Wx a ma) (hb : GE X Wx b mb) (hc : GE X Wx c mc)
    (hm : lastMarks [op, op'] [b, c] = false := by with_unfolding_all rfl) : GT X Wx (.Compare a [op, op'] [b, c] pos) (mB (mChain f g ma mb mc)) :=
  PTimp (pt_chain ho ho' ha hb hc hm) fun σ H Q h => chain_of hr hr' (asB_of h)

/-! ### a module's constants -/
theorem ge_gInt {x : Str} {i : Int} {t : Tok} (hg : Gl X x) (hm : X.mg x = some (.int i t)) (hd : (x == ("__debug__" : Str)) = false := by decide) : GE X Wx (.Name x pos) (mC (.int i)) :=
  ge_c (pe_glob (v := .int i) hg hm ⟨t, rfl⟩ hd) fun _ => rfl
theorem ge_gStr {x z : Str} {t : Tok} (hg : Gl X x) (hm : X.mg x = some (.str z t)) (hd : (x == ("__debug__" : Str)) = false := by decide) : GE X Wx (.Name x pos) (mC (.str z)) :=
  ge_c (pe_glob (v := .str z) hg hm ⟨t, rfl⟩ hd) fun _ => rfl
theorem ge_gRef {x : Str} {d : Addr} {w : W} (hg : Gl X x) (hm : X.mg x = some (.ref d)) (hw : ∀ p, RW X.K p w (.ref d)) (hd : (x == ("__debug__" : Str)) = false := by decide) : GE X Wx (.Name x pos) (mC w) :=
  ge_c (pe_glob (v := .ref d) hg hm rfl hd) hw

/-! ### slices -/
def cutW (xs : List W) (lo hi : Option Int) : List W := (xs.drop (HT.sIx xs.length 0 lo)).take (HT.sIx xs.length xs.length hi - HT.sIx xs.length 0 lo)
def wholeW (xs : List W) (lo hi : Option Int) : Bool := decide (HT.sIx xs.length 0 lo = 0) && decide (HT.sIx xs.length xs.length hi = xs.length)
def fSl (lo hi : Option Int) : W → Store → Res W
  | .tup xs, st => if wholeW xs lo hi = true then .bad else .ok (.tup (cutW xs lo hi)) st
  | .str z, st => if z.length ≤ sizeLine then .ok (.str (cutS z lo hi)) st else .bad
  | _, _ => .bad
/-- a slice's part -/
def mNoPart : Ev (Option Int) := fun _ st => .ok none st
def mPart (a : Ev W) : Ev (Option Int) := fun env st => (a env st).bind fun w s1 => match w with
  | .int i => .ok (some i) s1
  | _ => .bad
def mSl (a : Ev W) (l h : Ev (Option Int)) : Ev W := fun env st => (a env st).bind fun w s1 => (l env s1).bind fun lo s2 => (h env s2).bind fun hi s3 => fSl lo hi w s3
abbrev eqO : Wh → Option Int → Option Int → Prop := fun _ a b => a = b
abbrev GO (X : Cx) (Wx : WX) (e : Option Expr) (m : Ev (Option Int)) : Prop := PO X e (tG X.K X.mg eqO Wx m)
theorem POimp {e : Option Expr} {t t' : TO} (h : PO X e t) (i : ∀ σ H Q, t' σ H Q → t σ H Q) : PO X e t' := ⟨fun pins s σ H Q I z => h.run pins s σ H Q I (i σ H Q z)⟩
theorem go_none : GO X Wx none mNoPart := POimp po_none fun σ H Q ⟨p, st, env, hp, S, E, h⟩ => by
  subst hp
  exact h p none (.refl S) S rfl
theorem go_some (ha : GE X Wx a ma) : GO X Wx (some a) (mPart ma) := POimp (po_some ha) fun σ H Q ⟨p, st, env, hp, S, E, h⟩ => tG_bind hp S E h fun q s1 w v t S1 E1 r h1 => by
  cases w with
  | int i => exact ⟨i, r, h1 q (some i) (.refl S1) S1 rfl⟩
  | _ => exact h1.elim
theorem cut_rel {K : PySem.W.Frag} {p : Wh} {xs : List W} {vs : List V} (lo hi : Option Int) (r : RWs K p xs vs) : RWs K p (cutW xs lo hi) (cutV vs lo hi) := by
  unfold cutW cutV
  rw [r.length]
  exact RWs.take _ (RWs.drop _ r)
theorem sl_both : SlR X (fun x lo hi H Q => rSlT X.K x lo hi H Q ∨ rSlS x lo hi H Q) := sl_tup.or sl_str
theorem ge_slice {lo hi : Option Expr} {l h : Ev (Option Int)} (ha : GE X Wx a ma) (hl : GO X Wx lo l) (hh : GO X Wx hi h) : GE X Wx (.Subscript a (.Slice lo hi none p2) pos) (mSl ma l h) :=
  PEimp (pe_slice sl_both ha hl hh) fun σ H Q ⟨p, st, env, hp, S, E, h⟩ => tG_bind hp S E h fun q s1 w v t S1 E1 r h1 => tG_bind rfl S1 E1 h1 fun q2 s2 lo' lo t2 S2 E2 r2 h2 => tG_bind rfl S2 E2 h2 fun q3 s3 hi' hi t3 S3 E3 r3 h3 => by
    have e2 : lo' = lo := r2
    have e3 : hi' = hi := r3
    subst e2 e3
    have r := RW.step (t2.trans t3) w v r
    cases w with
    | tup xs =>
      obtain ⟨d, vs, rfl, ta, rs⟩ := r
      dsimp only [fSl] at h3
      cases c : wholeW xs lo' hi' with
      | true =>
        rw [c, if_pos rfl] at h3
        exact h3.elim
      | false =>
        rw [c, if_neg Bool.false_ne_true] at h3
        refine .inl ⟨d, vs, rfl, ta.seq, ?_, fun n hn => ?_⟩
        · intro z
          rw [← rs.length] at z
          unfold wholeW at c
          rw [decide_eq_true z.1, decide_eq_true z.2] at c
          cases c
        · exact h3 { q3 with H := upd q3.H n (.tup (cutV vs lo' hi')) } (.ref n) (step_new S3 hn) (sr_new S3 hn) (new_tup S3 hn (cut_rel lo' hi' rs))
    | str z =>
      have ev : v = .str z := r
      subst ev
      dsimp only [fSl] at h3
      by_cases c : z.length ≤ sizeLine
      · rw [if_pos c] at h3
        exact .inr ⟨z, rfl, c, fin_ok S3 h3 rfl⟩
      · rw [if_neg c] at h3
        exact h3.elim
    | _ => exact h3.elim

/-! ### starred things in a display -/
def spread (st : Store) : W → Option (List W)
  | .tup xs => some xs
  | w => listIn st w
def mStar (a : Ev W) (r : Ev (List W)) : Ev (List W) := fun env st => (a env st).bind fun x s1 => match spread s1 x with
  | some us => (r env s1).bind fun xs s2 => .ok (us ++ xs) s2
  | none => .bad
theorem spread_of {K : PySem.W.Frag} {p : Wh} {st : Store} (S : SR K p st) {w : W} {v : V} {xs : List W} (h : spread st w = some xs) (r : RW K p w v) : ∃ a vs, v = .ref a ∧ (SqT K p.H a vs ∨ SqL K p.H a vs) ∧ RWs K p xs vs := by
  cases w with
  | tup ys =>
    cases h
    obtain ⟨a, vs, e, ta, rs⟩ := r
    exact ⟨a, vs, e, .inl ta.seq, rs⟩
  | non => cases h
  | bl _ => cases h
  | int _ => cases h
  | str _ => cases h
  | lst ys =>
    obtain ⟨a, vs, e, ta, rs⟩ := listIn_of (w := .lst ys) S h r
    exact ⟨a, vs, e, .inr ta, rs⟩
  | frz ys =>
    obtain ⟨a, vs, e, ta, rs⟩ := listIn_of (w := .frz ys) S h r
    exact ⟨a, vs, e, .inr ta, rs⟩
  | ref n =>
    obtain ⟨a, vs, e, ta, rs⟩ := listIn_of (w := .ref n) S h r
    exact ⟨a, vs, e, .inr ta, rs⟩
theorem ga_star {e : Expr} (he : GE X Wx e ma) (hr : GA X Wx es ml) (hs : starEach (.Starred e p2 :: es) X.env = (true, eval e X.env) :: starEach es X.env := by rfl) : GA X Wx (.Starred e p2 :: es) (mStar ma ml) :=
  PAimp (StX.pa_star he hr hs) fun σ H Q ⟨p, st, env, hp, S, E, h⟩ => tG_bind hp S E h fun q s1 w v t S1 E1 r h1 => by
    cases c : spread s1 w with
    | none =>
      rw [c] at h1
      exact h1.elim
    | some us =>
      rw [c] at h1
      obtain ⟨d, vs, ev, hd, rs⟩ := spread_of S1 c r
      refine ⟨d, vs, ev, hd, tG_bind rfl S1 E1 h1 fun q2 s2 xs ys t2 S2 E2 r2 h2 => ?_⟩
      exact h2 q2 (vs ++ ys) (.refl S2) S2 (RWs.append (RWs.step t2 us vs rs) r2)

/-! ### a sign in a text; is True, is False -/
def fInS : W → W → Store → Res W
  | .str x, .str z, st => if x.cps.size = 1 then .ok (.bl (z.cps.toList.contains (x.cps[0]!))) st else .bad
  | _, _, _ => .bad
theorem r2_inS : R2ok X Wx (fun x y H Q => ∃ (c : Nat) (z : Str), x = .str ⟨#[c]⟩ ∧ y = .str z ∧ Q (.bl (decide (c ∈ z.cps.toList))) H) fInS := by
  intro p st x y v u σ Q S rx ry h
  unfold fInS at h
  split at h
  · rename_i x z
    have e1 : v = .str x := rx
    have e2 : u = .str z := ry
    subst e1 e2
    by_cases c : x.cps.size = 1
    · rw [if_pos c] at h
      have ex : x = ⟨#[x.cps[0]!]⟩ := by
        obtain ⟨⟨l⟩⟩ := x
        match l, c with
        | [k], _ => rfl
      refine ⟨x.cps[0]!, z, by rw [← ex], rfl, ?_⟩
      refine fin_ok S h ?_
      show V.bl _ = V.bl _
      congr 1
      rw [List.contains_eq_mem]
    · rw [if_neg c] at h
      exact h.elim
  · exact h.elim
/-- x is b, b True or False -/
def isBW (b : Bool) : W → Bool
  | .bl c => c == b
  | _ => false
def fIsB : W → W → Store → Res W
  | x, .bl b, st => .ok (.bl (isBW b x)) st
  | _, _, _ => .bad
def fNotB : W → W → Store → Res W
  | x, .bl b, st => .ok (.bl (!isBW b x)) st
  | _, _, _ => .bad
def isBV (b : Bool) : V → Bool
  | .bl c => c == b
  | _ => false
def wV : V → Bool
  | .non | .bl _ | .int _ | .str _ | .ref _ => true
  | _ => false
theorem is_rel {K : PySem.W.Frag} {p : Wh} {w : W} {v : V} (b : Bool) (r : RW K p w v) : isBV b v = isBW b w ∧ wV v = true := by
  cases w with
  | non => have e : v = .non := r; subst e; exact ⟨rfl, rfl⟩
  | bl c => have e : v = .bl c := r; subst e; exact ⟨rfl, rfl⟩
  | int i => have e : v = .int i := r; subst e; exact ⟨rfl, rfl⟩
  | str z => have e : v = .str z := r; subst e; exact ⟨rfl, rfl⟩
  | tup xs => obtain ⟨a, vs, e, _⟩ := r; subst e; exact ⟨rfl, rfl⟩
  | lst xs => obtain ⟨a, vs, e, _⟩ := r; subst e; exact ⟨rfl, rfl⟩
  | frz xs => obtain ⟨a, vs, e, _⟩ := r; subst e; exact ⟨rfl, rfl⟩
  | ref n => obtain ⟨_, e⟩ := r; subst e; exact ⟨rfl, rfl⟩
theorem op_isB : OpR X (compareOp .Is) (fun x y H Q => ∃ b, y = .bl b ∧ wV x = true ∧ Q (.bl (isBV b x)) H) := by
  intro pins s σ H x y v u Q I rx ry h
  obtain ⟨b, rfl, hw, q⟩ := h
  cases ry
  cases x with
  | non => cases rx; exact PySem.wpAny_is_plain rfl (fin_bl I q rfl)
  | bl c =>
    cases rx
    refine PySem.wpAny_is_plain rfl (fin_bl I q ?_)
    cases b <;> cases c <;> rfl
  | int i => obtain ⟨t, rfl⟩ := rx; exact PySem.wpAny_is_plain rfl (fin_bl I q rfl)
  | str i => obtain ⟨t, rfl⟩ := rx; exact PySem.wpAny_is_plain rfl (fin_bl I q rfl)
  | ref a => cases rx; exact PySem.wpAny_is_plain rfl (fin_bl I q rfl)
  | _ => cases hw
theorem op_notB : OpR X (compareOp .IsNot) (fun x y H Q => ∃ b, y = .bl b ∧ wV x = true ∧ Q (.bl (!isBV b x)) H) := by
  intro pins s σ H x y v u Q I rx ry h
  obtain ⟨b, rfl, hw, q⟩ := h
  cases ry
  cases x with
  | non => cases rx; exact PySem.wpAny_isNot_plain rfl (fin_bl I q rfl)
  | bl c =>
    cases rx
    refine PySem.wpAny_isNot_plain rfl (fin_bl I q ?_)
    cases b <;> cases c <;> rfl
  | int i => obtain ⟨t, rfl⟩ := rx; exact PySem.wpAny_isNot_plain rfl (fin_bl I q rfl)
  | str i => obtain ⟨t, rfl⟩ := rx; exact PySem.wpAny_isNot_plain rfl (fin_bl I q rfl)
  | ref a => cases rx; exact PySem.wpAny_isNot_plain rfl (fin_bl I q rfl)
  | _ => cases hw
theorem r2_isB : R2ok X Wx (fun x y H Q => ∃ b, y = .bl b ∧ wV x = true ∧ Q (.bl (isBV b x)) H) fIsB := by
  intro p st x y v u σ Q S rx ry h
  cases y with
  | bl b =>
    have e : u = .bl b := ry
    obtain ⟨e1, e2⟩ := is_rel b rx
    exact ⟨b, e, e2, by rw [e1]; exact fin_ok S h rfl⟩
  | _ => exact h.elim
theorem r2_notB : R2ok X Wx (fun x y H Q => ∃ b, y = .bl b ∧ wV x = true ∧ Q (.bl (!isBV b x)) H) fNotB := by
  intro p st x y v u σ Q S rx ry h
  cases y with
  | bl b =>
    have e : u = .bl b := ry
    obtain ⟨e1, e2⟩ := is_rel b rx
    exact ⟨b, e, e2, by rw [e1]; exact fin_ok S h rfl⟩
  | _ => exact h.elim
end
end Mi

namespace Mi
open PySem PySem.Spec PyProof.Rows L2
variable [ClsMap]

/-! ### instances of own classes -/
def putW (f : Str) (w : W) : List (Str × W) → List (Str × W)
  | [] => [(f, w)]
  | (g, x) :: r => if g = f then (g, w) :: r else (g, x) :: putW f w r
structure FsR (K : PySem.W.Frag) (p : Wh) (fs : List (Str × W)) (gs : List (Str × V)) : Prop where
  names : gs.map (·.1) = fs.map (·.1)
  vals : RWs K p (fs.map (·.2)) (gs.map (·.2))
section
variable {K : PySem.W.Frag} {p : Wh}
theorem FsR.nil : FsR K p [] [] := ⟨rfl, rfl⟩
theorem FsR.cons {f : Str} {w : W} {v : V} {fs : List (Str × W)} {gs : List (Str × V)} (r : RW K p w v) (h : FsR K p fs gs) : FsR K p ((f, w) :: fs) ((f, v) :: gs) :=
  ⟨by simp only [List.map_cons, h.names], ⟨v, gs.map (·.2), rfl, r, h.vals⟩⟩
theorem FsR.out {f : Str} {w : W} {fs : List (Str × W)} {gs : List (Str × V)} (h : FsR K p ((f, w) :: fs) gs) : ∃ v r, gs = (f, v) :: r ∧ RW K p w v ∧ FsR K p fs r := by
  cases gs with
  | nil =>
    have e := h.names
    cases e
  | cons g r =>
    obtain ⟨v, rs, e, h1, h2⟩ := h.vals
    have e1 := h.names
    simp only [List.map_cons, List.cons.injEq] at e1 e
    obtain ⟨e2, e3⟩ := e1
    refine ⟨v, r, ?_, h1, e3, by rw [e.2]; exact h2⟩
    rw [← e2, ← e.1]
theorem FsR.nilOut {gs : List (Str × V)} (h : FsR K p [] gs) : gs = [] := by
  have e := h.names
  cases gs with
  | nil => rfl
  | cons g r => cases e
theorem FsR.lookup : ∀ {fs : List (Str × W)} {gs : List (Str × V)} {f : Str} {w : W}, FsR K p fs gs → fs.lookup f = some w → ∃ v, gs.lookup f = some v ∧ RW K p w v
  | [], gs, f, w, h, e => by cases e
  | (g, x) :: fs, gs, f, w, h, e => by
    obtain ⟨v, r, rfl, h1, h2⟩ := h.out
    rw [List.lookup_cons] at e ⊢
    cases c : f == g with
    | true =>
      rw [c] at e
      cases e
      exact ⟨v, rfl, h1⟩
    | false =>
      rw [c] at e
      exact h2.lookup e
theorem FsR.put {f : Str} {w : W} {v : V} (hv : RW K p w v) : ∀ {fs : List (Str × W)} {gs : List (Str × V)}, FsR K p fs gs → FsR K p (putW f w fs) (putF f v gs)
  | [], gs, h => by
    rw [h.nilOut]
    exact FsR.nil.cons hv
  | (g, x) :: fs, gs, h => by
    obtain ⟨u, r, rfl, h1, h2⟩ := h.out
    unfold putW putF
    by_cases c : g = f
    · rw [if_pos c, if_pos c]
      exact h2.cons hv
    · rw [if_neg c, if_neg c]
      exact (h2.put hv).cons h1
theorem FsR.length {fs : List (Str × W)} {gs : List (Str × V)} (h : FsR K p fs gs) : gs.length = fs.length := by
  have e := congrArg List.length h.names
  simpa using e
theorem SR.atI {st : Store} (S : SR K p st) {n : Nat} {C : Addr} {fs : List (Str × W)} (h : st[n]? = some (.ins C fs)) : n < p.n ∧ ∃ dx gs, p.H (p.ρ n) = some (.ins (cl C) dx gs) ∧ FsR K p fs gs := by
  refine ⟨by rw [S.len]; exact (List.getElem?_eq_some_iff.mp h).1, ?_⟩
  obtain ⟨dx, gs, e, l, k⟩ := S.obj n _ h
  exact ⟨dx, gs, e, l, k⟩
theorem sr_mutI {st : Store} (S : SR K p st) {n : Nat} (hn : n < p.n) {C : Nat} {dx : Addr} {fs : List (Str × W)} {gs : List (Str × V)} (r : FsR K p fs gs) : SR K { p with H := upd p.H (p.ρ n) (.ins (cl C) dx gs) } (st.set n (.ins C fs)) := by
  have t : Step p { p with H := upd p.H (p.ρ n) (.ins (cl C) dx gs) } := step_mut S hn
  refine ⟨by rw [List.length_set]; exact S.len, S.inj, fun i u e => ?_, fun b z => ⟨t.hth b z, (S.hid b z).2⟩⟩
  show RO K _ u (upd p.H (p.ρ n) (.ins (cl C) dx gs) (p.ρ i))
  by_cases z : n = i
  · subst z
    rw [List.getElem?_set_self (by rw [← S.len]; exact hn)] at e
    cases e
    rw [upd_same]
    exact ⟨dx, gs, rfl, r.names, RWs.step t _ _ r.vals⟩
  · rw [List.getElem?_set_ne z] at e
    have hi : i < p.n := by
      rw [S.len]
      exact (List.getElem?_eq_some_iff.mp e).1
    rw [upd_ne (fun e => z (S.inj i n hi hn e).symm)]
    exact (S.obj i u e).step t
end
/-- o.f, o of the class C -/
def fGet (C : Nat) (f : Str) : W → Store → Res W := fun o st => match o with
  | .ref n => match st[n]? with
    | some (.ins D fs) => if D = C then (match fs.lookup f with | some w => .ok w st | none => .bad) else .bad
    | _ => .bad
  | _ => .bad
/-- o.f = e -/
def putFld (C : Nat) (f : Str) (o v : W) (st : Store) : Option Store := match o with
  | .ref n => match st[n]? with
    | some (.ins D fs) => if D = C ∧ fs.length < 1000 then some (st.set n (.ins D (putW f v fs))) else none
    | _ => none
  | _ => none
def sFldW (C : Nat) (f : Str) (me mo : Ev W) : Sm := liftE me fun v env st => liftE mo (fun o env st => match putFld C f o v st with
  | some s2 => .go (.nx env) s2
  | none => .bad) env st
section
variable {X : Cx} {Wx : WX} {a e : Expr} {ma me : Ev W} {pos p2 : Pos} {f : Str} {C : Nat}
theorem ge_fld (c : Cls X.K (cl C)) (n : NoAttr X.K (cl C) f) (ha : GE X Wx a ma) (hb : attributeBase a f X.env (eval a X.env) = eval a X.env := by rfl) : GE X Wx (.Attribute a f pos) (mUn (fGet C f) ma) :=
  PEimp (pe_fld ha hb) fun σ H Q ⟨p, st, env, hp, S, E, h⟩ => tG_bind hp S E h fun q s1 x v t1 S1 E1 rx h1 => by
    cases x with
    | ref k =>
      dsimp only [fGet] at h1
      cases eo : s1[k]? with
      | none =>
        rw [eo] at h1
        exact h1.elim
      | some o =>
        cases o with
        | lst xs =>
          rw [eo] at h1
          exact h1.elim
        | dct xs =>
          rw [eo] at h1
          exact h1.elim
        | ins D fs =>
          rw [eo] at h1
          dsimp only at h1
          by_cases hD : D = C
          · rw [if_pos hD] at h1
            subst hD
            obtain ⟨hn, dx, gs, hH, r⟩ := S1.atI eo
            cases el : fs.lookup f with
            | none =>
              rw [el] at h1
              exact h1.elim
            | some w =>
              rw [el] at h1
              obtain ⟨u, e2, ru⟩ := r.lookup el
              exact ⟨q.ρ k, cl D, dx, gs, u, rx.2, hH, c, n, e2, fin_ok S1 h1 ru⟩
          · rw [if_neg hD] at h1
            exact h1.elim
    | _ => exact h1.elim
theorem gs_fld (c : Cls X.K (cl C)) (n : NoAttr X.K (cl C) f) (ha : GE X Wx a ma) (he : GE X Wx e me) (hs : swapsWith e (some (.Attribute a f p2)) pos.line X.env = pure false := by rfl) : GS X Wx (.Assign [.Attribute a f p2] e pos) (sFldW C f me ma) :=
  PSimp (ps_fld ha he hs) fun D σ H ⟨p, st, env, hp, S, E, h⟩ => lift_of hp S E h fun q s1 w v t S1 E1 r h1 => lift_of rfl S1 E1 h1 fun q2 s2 x v2 t2 S2 E2 r2 h2 => by
    have r := RW.step t2 w v r
    cases x with
    | ref k =>
      dsimp only [putFld] at h2
      cases eo : s2[k]? with
      | none =>
        rw [eo] at h2
        exact h2.elim
      | some o =>
        cases o with
        | lst xs =>
          rw [eo] at h2
          exact h2.elim
        | dct xs =>
          rw [eo] at h2
          exact h2.elim
        | ins D2 fs =>
          rw [eo] at h2
          dsimp only at h2
          by_cases hD : D2 = C ∧ fs.length < 1000
          · rw [if_pos hD] at h2
            obtain ⟨hD, hl⟩ := hD
            subst hD
            obtain ⟨hn, dx, gs, hH, rf⟩ := S2.atI eo
            refine ⟨q2.ρ k, cl D2, dx, gs, r2.2, hH, c, n, by rw [rf.length]; exact hl, ?_⟩
            exact h2 { q2 with H := upd q2.H (q2.ρ k) (.ins (cl D2) dx (putF f v gs)) } σ (step_mut S2 hn) (sr_mutI S2 hn (rf.put r)) (E2.step (step_mut S2 hn))
          · rw [if_neg hD] at h2
            exact h2.elim
    | _ => exact h2.elim
end
end Mi

namespace Mi
open PySem PySem.Spec PyProof.Rows L2
variable [ClsMap]

/-! ### C(e, ..): a new instance of an own class whose __init__ raises nothing -/
theorem sr_moreO {K : PySem.W.Frag} {p : Wh} {st : Store} (S : SR K p st) {a : Addr} {o : O} {ho : HO} (h : p.H a = none) (r : RO K p o (some ho)) : SR K (p.more a ho) (st ++ [o]) := by
  have t := step_more (o := ho) S h
  refine ⟨by rw [List.length_append, ← S.len]; rfl, fun i j hi hj e => ?_, fun i u e => ?_, fun b z => ⟨t.hth b z, fun i hi e => ?_⟩⟩
  · have hi' : i < p.n + 1 := hi
    have hj' : j < p.n + 1 := hj
    have e' : (if i = p.n then a else p.ρ i) = (if j = p.n then a else p.ρ j) := e
    by_cases h1 : i = p.n
    · by_cases h2 : j = p.n
      · omega
      · rw [if_pos h1, if_neg h2] at e'
        exact absurd (by rw [← e']; exact h) (S.there j (by omega))
    · by_cases h2 : j = p.n
      · rw [if_neg h1, if_pos h2] at e'
        exact absurd (by rw [e']; exact h) (S.there i (by omega))
      · rw [if_neg h1, if_neg h2] at e'
        exact S.inj i j (by omega) (by omega) e'
  · show RO K _ u (upd p.H a ho (if i = p.n then a else p.ρ i))
    by_cases h1 : i = p.n
    · rw [if_pos h1, upd_same]
      rw [h1, S.len, List.getElem?_append_right (Nat.le_refl _)] at e
      have e' : o = u := by simpa using e
      subst e'
      exact r.step t
    · have hi : i < (st ++ [o]).length := (List.getElem?_eq_some_iff.mp e).1
      rw [List.length_append, List.length_singleton, ← S.len] at hi
      rw [if_neg h1, upd_ne (fun z => S.there i (by omega) (by rw [z]; exact h))]
      rw [List.getElem?_append_left (by rw [← S.len]; omega)] at e
      exact (S.obj i u e).step t
  · have hi' : i < p.n + 1 := hi
    have e' : (if i = p.n then a else p.ρ i) = b := e
    by_cases h1 : i = p.n
    · rw [if_pos h1] at e'
      exact (S.hid b z).1 (by rw [← e']; exact h)
    · rw [if_neg h1] at e'
      exact (S.hid b z).2 i (by omega) e'
def fMake (C : Nat) (m : List W → Store → Res W) : List W → Store → Res W := fun ws st => match m (.ref st.length :: ws) (st ++ [.ins C []]) with
  | .ok .non s1 => .ok (.ref st.length) s1
  | _ => .bad
section
variable {X : Cx} {Wx : WX} {k : Nat} {f : Addr} {C : Nat} {fd : FuncData} {ps : List Str} {m : List W → Store → Res W} {x : Str} {p pos : Pos} {e : Expr} {es : List Expr} {ml : Ev (List W)}
theorem run_makeG {pins : List (Addr × Obj)} {σ : L2.St} {H : Hp} {s : Shared} {Q : VK} {us : List Value} {vs : List V} {ws : List W} {q : Wh} {st : Store} (M : Mk X.K (cl C) f) (F : FnG X.prog X.w X.K X.mg X.base k f fd ps m) (hr : Room (k + 1) X.A) (hg : X.A.guards = some [])
    (hb : Binds X.K fd ps []) (I : Inv X pins σ H s) (r : Vals vs us) (hq : q.H = H) (S : SR X.K q st) (rs : RWs X.K q ws vs) (h : Fin X.K X.mg (RW X.K) Wx q σ Q (fMake C m ws st)) :
    wpAny (model X.prog X.w) X.A (call (.ref (cl C)) us) (EP X pins σ Q) X.xe s := by
  subst hq
  have hx : q.H (s.heap.objs.size + 1) = none := I.hok.fresh (Nat.le_succ _)
  have hdx : q.H s.heap.objs.size = none := I.hok.fresh (Nat.le_refl _)
  have ne : s.heap.objs.size + 1 ≠ s.heap.objs.size := Nat.succ_ne_self _
  have t1 := step_new (o := HO.own (s.heap.objs.size + 1)) S hdx
  have S1 := sr_new (o := HO.own (s.heap.objs.size + 1)) S hdx
  have hx1 : ({ q with H := upd q.H s.heap.objs.size (.own (s.heap.objs.size + 1)) } : Wh).H (s.heap.objs.size + 1) = none := by
    show upd q.H s.heap.objs.size (.own (s.heap.objs.size + 1)) (s.heap.objs.size + 1) = none
    rw [upd_ne ne]
    exact hx
  have t2 := step_more (o := HO.ins (cl C) s.heap.objs.size []) S1 hx1
  have S2 : SR X.K _ (st ++ [.ins C []]) := sr_moreO (o := .ins C []) (ho := HO.ins (cl C) s.heap.objs.size []) S1 hx1 ⟨s.heap.objs.size, [], rfl, rfl, rfl⟩
  have I2 := Inv.made (C := cl C) I
  have r2 : Vals (V.ref (s.heap.objs.size + 1) :: vs) (Value.ref (s.heap.objs.size + 1) :: us) := .cons rfl r
  have hn : q.ρ = q.ρ := rfl
  have rw2 : RWs X.K (({ q with H := upd q.H s.heap.objs.size (.own (s.heap.objs.size + 1)) } : Wh).more (s.heap.objs.size + 1) (.ins (cl C) s.heap.objs.size [])) (.ref st.length :: ws) (V.ref (s.heap.objs.size + 1) :: vs) := by
    refine ⟨V.ref (s.heap.objs.size + 1), vs, rfl, ⟨?_, ?_⟩, RWs.step (t1.trans t2) ws vs rs⟩
    · show st.length < q.n + 1
      rw [S.len]
      exact Nat.lt_succ_self _
    · show V.ref (s.heap.objs.size + 1) = V.ref (if st.length = q.n then (s.heap.objs.size + 1) else q.ρ st.length)
      rw [if_pos S.len.symm]
  have h2 : Fin X.K X.mg (RW X.K) (WxE fun _ _ _ => False) (({ q with H := upd q.H s.heap.objs.size (.own (s.heap.objs.size + 1)) } : Wh).more (s.heap.objs.size + 1) (.ins (cl C) s.heap.objs.size [])) [] (fun v H2 => v = .non ∧ Q (.ref (s.heap.objs.size + 1)) H2) (m (.ref st.length :: ws) (st ++ [.ins C []])) := by
    unfold fMake at h
    cases e1 : m (.ref st.length :: ws) (st ++ [.ins C []]) with
    | bad =>
      rw [e1] at h
      exact h
    | exc y s1 =>
      rw [e1] at h
      exact h.elim
    | ok w s1 =>
      rw [e1] at h
      cases w with
      | non =>
        intro q' b t' S' rb
        have eb : b = .non := rb
        refine ⟨eb, h q' (.ref (s.heap.objs.size + 1)) ((t1.trans t2).trans t') S' ⟨?_, ?_⟩⟩
        · have z := t'.le
          have z' : q.n + 1 ≤ q'.n := z
          rw [← S.len]
          omega
        · have z := t'.same st.length (show st.length < q.n + 1 by rw [S.len]; exact Nat.lt_succ_self _)
          have z' : q'.ρ st.length = (if st.length = q.n then (s.heap.objs.size + 1) else q.ρ st.length) := z
          rw [if_pos S.len.symm] at z'
          rw [z']
      | _ => exact h.elim
  have hl : (Value.ref (s.heap.objs.size + 1) :: us).length = ps.length := by
    have e1 := r2.length
    have e2 := rw2.length
    by_cases z : (W.ref st.length :: ws).length = ps.length
    · rw [← e1, ← e2]
      exact z
    · rw [F.len _ _ z] at h2
      exact h2.elim
  have b := hb _ (Value.ref (s.heap.objs.size + 1) :: us) I2.kIn (by rw [List.append_nil]; exact hl)
  rw [List.append_nil] at b
  have c := F.run _ X.stack _ _ ⟨Value.ref (s.heap.objs.size + 1) :: us, []⟩ (Value.ref (s.heap.objs.size + 1) :: us) (V.ref (s.heap.objs.size + 1) :: vs) (.ref st.length :: ws) _ (st ++ [.ins C []]) (fun v H2 => v = .non ∧ Q (.ref (s.heap.objs.size + 1)) H2) (fun _ _ _ => False) (hr.make (cl C) us []) hg (I2.env0.make (cl C) us []) b r2 hl rfl S2 rw2 h2
  refine wpAny_call (make_map (f := f) I.kIn M.makes M.init (beq_iff_eq.mp M.fn) (codeAny_mono c fun res s' z => ?_))
  cases res with
  | error u =>
    obtain ⟨_, _, _, _, _, _, _, _, _, _, _, _, z⟩ := z
    exact z.elim
  | ok fl =>
    cases fl with
    | ret u =>
      obtain ⟨v, H', I3, rv, ev, q3⟩ := I2.after z
      subst ev
      exact ⟨rv, ⟨V.ref (s.heap.objs.size + 1), H', I3, rfl, q3⟩⟩
    | next => exact z.elim
    | brk => exact z.elim
    | cont => exact z.elim
theorem ge_make (M : Mk X.K (cl C) f) (F : FnG X.prog X.w X.K X.mg X.base k f fd ps m) (hr : Room (k + 1) X.A) (hg : X.A.guards = some []) (gl : Gl X x) (hm : X.mg x = some (.ref (cl C))) (hb : Binds X.K fd ps [])
    (ha : GA X Wx (e :: es) ml) (hdb : (x == ("__debug__" : Str)) = false := by decide) (he : starEach (e :: es) X.env = (false, eval e X.env) :: starEach es X.env := by rfl) (hpl : (backTo pos (starEach es X.env)).any (·.1) = false := by rfl) :
    GE X Wx (.Call (.Name x p) (e :: es) [] pos) (mCall (fMake C m) ml) := by
  refine ⟨fun pins s σ H Q I ⟨q0, st, env, hp, S, E, h⟩ => ?_⟩
  refine wpAny_Call_Name_kw (ld_glob I gl hm ?_ hdb)
  have t := tG_bind (R := RWs X.K) (Q := fun vs H' => ∃ (q : Wh) (ws : List W) (s1 : Store), q.H = H' ∧ SR X.K q s1 ∧ RWs X.K q ws vs ∧ Fin X.K X.mg (RW X.K) Wx q σ Q (fMake C m ws s1)) hp S E h
    fun q s1 ws vs t S1 E1 r h1 => ⟨q, ws, s1, rfl, S1, r, h1⟩
  refine PySem.W.callWith_K (h₀ := X.base) I.ok.mod.kin M.kp
    (thn (ha.run pos pins s σ H _ I t) fun us s1 ⟨vs, H1, I1, r, z⟩ => ⟨I1.kIn, ?_⟩) he hpl
  obtain ⟨q, ws, s2, eH, S1, rw1, h1⟩ := z
  exact run_makeG M F hr hg hb I1 r eH S1 rw1 h1
end
end Mi

namespace Mi
open PySem PySem.Spec PyProof.Rows L2
variable [ClsMap]

/-! ### enumerate(t), t a tuple -/
abbrev enumObj (it : Addr) : Obj := { cls := .type "enumerate", data := .fields #[.none, .bool false, .ref it, rawInt 0, .none, .none] }
theorem new_enum {v : Value} {o : Obj} {G : Heap → Prop} (B : Begins v o G) : Meets (Builtin.«enumerate.__new__» ⟨[.type "enumerate", v], []⟩) fun _ R s =>
    G s.heap ∧ R (.ok (.ret (.ref (s.heap.push o).objs.size))) { s with heap := (s.heap.push o).push (enumObj s.heap.objs.size) } := .of_wp fun pr w1 A R s both => by
  obtain ⟨hp, gs, dr, tk, os⟩ := s
  obtain ⟨g1, fin⟩ := both
  have sub := sub_enumerate
  have it : ∀ {A2 : Around} {E2 : Value → Shared → Prop} {Q2 : Value → Shared → Prop}, Q2 (.ref hp.objs.size) ⟨hp.push o, gs, dr, tk, os⟩ → wpAny (model pr w1) A2 (pyIter v) Q2 E2 ⟨hp, gs, dr, tk, os⟩ := fun q => B.iter pr w1 _ _ ⟨hp, gs, dr, tk, os⟩ _ g1 q
  wp_walk using it
  refine wpAny_stack_any fun _ => wpAny_pure ?_
  split
  · rename_i cl _ _ _ _ _
    cases (cl == Value.type "enumerate") <;> (wp_walk using it; exact ⟨_, rfl, fin⟩)
  · wp_walk using it
    exact ⟨_, rfl, fin⟩
theorem call_enum {pr : Program} {w1 : World} {A : Around} {E : Value → Shared → Prop} {s : Shared} {v : Value} {o : Obj} {G : Heap → Prop} {Q : Value → Shared → Prop} (B : Begins v o G) (g : G s.heap)
    (fin : ∀ hp, IsEnum hp (s.heap.objs.size + 1) s.heap.objs.size 0 .none → hp.get? s.heap.objs.size = some o → (∀ b u, s.heap.get? b = some u → hp.get? b = some u) → Q (.ref (s.heap.objs.size + 1)) { s with heap := hp }) :
    wpAny (model pr w1) A (call (.type "enumerate") [v]) Q E s := by
  refine callType_new F.called_enumerate (by decide) (F.typeCall_enumerate_1 _) (F.newCall_enumerate_1 _) (fun ob => F.args_object_init_2 ob _) F.entry_enumerate_new (new_enum B) ⟨g, ?_⟩
  have sz : (s.heap.push o).objs.size = s.heap.objs.size + 1 := Heap.size_push ..
  show _ ∧ _
  rw [sz]
  have en : IsEnum ((s.heap.push o).push (enumObj s.heap.objs.size)) (s.heap.objs.size + 1) s.heap.objs.size 0 .none := by
    have z := Heap.get?_push_size (s.heap.push o) (o := enumObj s.heap.objs.size) rfl
    rw [sz] at z
    exact z
  exact ⟨⟨_, en, rfl⟩, fin _ en (Heap.get?_push_of_some _ (Heap.get?_push_size _ B.free)) fun b u x => Heap.get?_push_of_some _ (Heap.get?_push_of_some _ x)⟩
/-- the tuple at a as it stands at each turn, each item in a new pair -/
def IteT (K : PySem.W.Frag) (a : Addr) : It :=
  ⟨fun i H => ∃ (xs : List V) (x : V), SqT K H a xs ∧ xs[i]? = some x, fun i H v H2 => ∃ T x, v = .ref T ∧ H T = none ∧ H2 = upd H T (.tup [.int (i : Nat), x]) ∧ ∀ xs, SqT K H a xs → xs[i]? = some x,
    fun i H => ∃ xs : List V, SqT K H a xs ∧ xs.length ≤ i⟩
theorem turn_enumT {P : Program} {w : World} {K : PySem.W.Frag} {elts : List Expr} {kk : Nat} {tpos : Pos} (a e it : Addr) (hne : a ≠ it) :
    L2.Turn P w K (.Tuple elts kk tpos) (IteT K a) [e, it] e (fun i h => (∃ old, IsEnum h e it ((i : Nat) : Int) old) ∧ h.IsTupleIter it a i ∧ e ≠ it ∧ e ≠ a) where
  mem := List.mem_cons_self
  obj := fun i h st b hb => by
    obtain ⟨⟨old, he⟩, ⟨o, ho, hc, hd⟩, _⟩ := st
    have eb : b = e ∨ b = it := by simpa using hb
    rcases eb with rfl | rfl
    · exact ⟨_, he, fun v q => nomatch q⟩
    · exact ⟨o, ho, fun v q => by rw [hd] at q; cases q⟩
  keep := fun i h h2 st k => ⟨let ⟨old, he⟩ := st.1; ⟨old, k e List.mem_cons_self _ he⟩, st.2.1.at fun o q => k it (by simp) o q, st.2.2⟩
  item := by
    intro X hP hw hK hc i pins s σ H E I hf st hg
    subst hP hw hK
    obtain ⟨⟨old, he⟩, hit, nei, nea⟩ := st
    obtain ⟨xs, x, hq, hx⟩ := hg
    obtain ⟨its, rv, p, hz⟩ := I.tuple hq
    obtain ⟨u, hu, ru⟩ := rv.get hx
    have elt : e < s.heap.objs.size := Heap.lt_size he
    have ilt : it < s.heap.objs.size := by
      obtain ⟨_, q, _⟩ := hit
      exact Heap.lt_size q
    have hi : i < its.toArray.size := by
      have z := (List.getElem?_eq_some_iff.mp hu).1
      simpa using z
    refine wpAny_pyNext_enum_itemD (Draws.tuple (A := X.A.in1) (I.ok.hd hc) it a hne its.toArray) he ⟨hit, p⟩ hi nei (by simp [nei, nea]) fun y hp tk hy out stn hT hsz hk => ?_
    have ey : y = u := by
      have z : its[i]? = some y := by simpa using hy
      rw [hu] at z
      exact (Option.some.inj z).symm
    subst ey
    refine ⟨_, rfl, wpAny_letOwnedTupleGo_enum (s := { s with heap := hp, toks := tk + 1 }) out fun h2 he2 sb => ?_⟩
    have hT2 : h2.get? s.heap.objs.size = some { cls := .type "tuple", data := .seq #[.int i tk, y] } := (sb.2 _ (Nat.ne_of_gt elt)).trans hT
    have new : ObjOk X.prog X.w (upd H s.heap.objs.size (.tup [.int (i : Nat), x])) h2 s.heap.objs.size (.tup [.int (i : Nat), x]) :=
      ⟨by show 2 ≤ sizeLine; decide, [.int i tk, y], .cons ⟨_, rfl⟩ (.cons ru .nil), ⟨_, hT2, rfl, _, rfl⟩⟩
    have I1 : Inv X pins σ (upd H s.heap.objs.size (.tup [.int (i : Nat), x])) { s with heap := h2, toks := tk + 1 } :=
      I.turnedNew (ch := [e, it]) (fun b ob hb q => (sb.2 b fun z => hb (by simp [z])).trans (hk b ob (fun z => hb (by simp [z])) (fun z => hb (by simp [z])) q)) hf (Nat.le_refl _) new
    refine ⟨.ref s.heap.objs.size, _, I1, rfl, ⟨_, x, rfl, I.hok.fresh (Nat.le_refl _), rfl, fun ys hy => by rw [I.tuple_inj hy hq]; exact hx⟩, ⟨⟨y, ?_⟩, stn.1.at fun o q => (sb.2 it nei.symm).trans q, nei, nea⟩, fun b hb => ?_⟩
    · rw [show ((i + 1 : Nat) : Int) = (i : Int) + 1 by omega]
      exact he2
    · have lt : b < s.heap.objs.size := by
        have eb : b = e ∨ b = it := by simpa using hb
        rcases eb with rfl | rfl
        · exact elt
        · exact ilt
      rw [upd_ne (Nat.ne_of_lt lt)]
      exact (hf b hb).1
  done := by
    intro X hP hw hK hc i pins s σ H E I hf st hg
    subst hP hw hK
    obtain ⟨⟨old, he⟩, hit, nei, nea⟩ := st
    obtain ⟨xs, hq, hx⟩ := hg
    obtain ⟨its, rv, p, hz⟩ := I.tuple hq
    obtain ⟨f0, f1, f2, f3, f4, f5⟩ := hf it (by simp)
    have ends : Draws X.prog X.w X.A.in1 it [it, a] i (fun _ _ => True) (fun j h => j = i ∧ h.IsTupleIter it a i ∧ h.IsTuple a its.toArray) := {
      live := fun _ _ st => let ⟨o, ho, _⟩ := st.2.1; ⟨o, ho⟩
      frame := fun _ _ _ st hk => ⟨st.1, st.2.1.at fun o e => hk it (by simp) o e, st.2.2.at fun o e => hk a (by simp) o e⟩
      item := fun j s Q E hj st _ => absurd st.1 (Nat.ne_of_lt hj)
      done := fun s Q E st hE => wpAny_nextOf_tuple_end (I.ok.hd hc) st.2.1 st.2.2 (by
        have hl := rv.length
        simp
        omega) hE }
    exact wpAny_pyNext_enum_endD ends he ⟨rfl, hit, p⟩ fun hp eb => ⟨rfl, I.turned (t' := s.toks) (fun b o hb q => eb b o hb q) f0 f1 f3 f4 f5⟩
  self := fun A i s Q E st h => let ⟨⟨_, he⟩, _⟩ := st; wpAny_pyIter_enum he h
def iEnumT (K : PySem.W.Frag) (ta : TA) : TI := fun σ H R => ta σ H fun vs H1 => ∃ a xs, vs = [.ref a] ∧ SqT K H1 a xs ∧ R (IteT K a) H1
theorem pi_enumT {X : Cx} {e : Expr} {ta : TA} {p pos tpos : Pos} {elts : List Expr} {kk : Nat} (hg : Gl X "enumerate") (hm : X.mg "enumerate" = none) (ha : PA X [e] ta) (hs : starEach [e] X.env = [(false, eval e X.env)] := by rfl) :
    PI X (.Tuple elts kk tpos) (.Call (.Name "enumerate" p) [e] [] pos) (iEnumT X.K ta) := ⟨fun pins s σ H R I h => by
  refine Call_ (ld_blt I hg hm boot_enumerate (PyProof.Rows.callWith_type1 (thn (ha.run pos pins s σ H _ I h) fun us s1 ⟨vs, H1, I1, r1, q1⟩ => ?_) hs rfl))
  obtain ⟨a, xs, ex, hq, q⟩ := q1
  subst ex
  cases r1 with
  | cons r rr =>
    cases rr
    cases r
    obtain ⟨its, rv, p2, hz⟩ := I1.tuple hq
    have alt : a < s1.heap.objs.size := by
      obtain ⟨_, z, _⟩ := p2
      exact Heap.lt_size z
    refine call_enum (begins_tuple a its.toArray) p2 fun hp he hit hk => wpAny_pyIter_enum he ?_
    have I2 : Inv X pins σ H1 { s1 with heap := hp } := I1.kept (t' := s1.toks) hk
    refine ⟨s1.heap.objs.size + 1, [s1.heap.objs.size + 1, s1.heap.objs.size], _, _, H1, rfl, I2, turn_enumT a (s1.heap.objs.size + 1) s1.heap.objs.size (Nat.ne_of_lt alt), ⟨⟨.none, he⟩, ⟨_, hit, rfl, rfl⟩, Nat.succ_ne_self _, Nat.ne_of_gt (Nat.lt_succ_of_lt alt)⟩, fun b hb => ?_, q⟩
    have le : s1.heap.objs.size ≤ b := by
      have eb : b = s1.heap.objs.size + 1 ∨ b = s1.heap.objs.size := by simpa using hb
      rcases eb with rfl | rfl
      · exact Nat.le_succ _
      · exact Nat.le_refl _
    exact I1.fpOk le (I1.hok.fresh le)⟩
end Mi

namespace Mi
open PySem PySem.Spec PyProof.Rows L2
variable [ClsMap]

/-! ### targets that are tuples of names -/
def putTup (is : List Nat) : W → En → En := fun w e => match w with
  | .tup xs => putAll is xs e
  | _ => e
def tupN (n : Nat) : W → Bool
  | .tup xs => xs.length == n
  | _ => false
def allN (n : Nat) (o : Option (List W)) : Option (List W) := match o with
  | some xs => if xs.all (tupN n) = true then some xs else none
  | none => none
def sForTu (is : List Nat) (m : Ev W) (body : Sm) : Sm := liftE m fun w env st => match allN is.length (tupOf w) with
  | some xs => forEach body (putTup is) xs env st
  | none => .bad
def sForSu (is : List Nat) (m : Ev W) (body : Sm) : Sm := liftE m fun w env st => match allN is.length (seqOf w) with
  | some xs => forEach body (putTup is) xs env st
  | none => .bad
theorem allN_of {n : Nat} {o : Option (List W)} {xs : List W} (h : allN n o = some xs) : o = some xs ∧ ∀ w ∈ xs, ∃ ys, w = .tup ys ∧ ys.length = n := by
  cases o with
  | none => cases h
  | some zs =>
    dsimp only [allN] at h
    by_cases c : zs.all (tupN n) = true
    · rw [if_pos c] at h
      cases h
      refine ⟨rfl, fun w hw => ?_⟩
      have z := List.all_eq_true.mp c w hw
      cases w with
      | tup ys => exact ⟨ys, rfl, beq_iff_eq.mp z⟩
      | _ => cases z
    · rw [if_neg c] at h
      cases h
theorem put_tup {K : PySem.W.Frag} {is : List Nat} {xs : List W} (h : ∀ w ∈ xs, ∃ ys, w = .tup ys ∧ ys.length = is.length) : PutOk K (gTup K is.length (gNames is)) (putTup is) xs := fun q w v env σ Q hw r E k => by
  obtain ⟨ys, rfl, hl⟩ := h w hw
  obtain ⟨a, vs, e, ta, rs⟩ := r
  exact ⟨a, vs, e, ta.seq, by rw [← rs.length]; exact hl, gNames_of is hl rs E k⟩
theorem gNames_lc {K : PySem.W.Frag} {q : Wh} {own : List Nat} : ∀ (is : List Nat) {xs : List W} {vs : List V} {env : En} {σ : L2.St} {Q : L2.St → Hp → Prop}, (∀ i ∈ is, i ∈ own) → xs.length = is.length → RWs K q xs vs → EnvR K q env σ →
    (∀ σ', EnvR K q (putAll is xs env) σ' → wipe σ' own = wipe σ own → Q σ' q.H) → gNames is vs σ q.H Q
  | [], [], vs, env, σ, Q, _, _, r, E, h => by
    have r' : vs = [] := r
    exact ⟨r', h σ E rfl⟩
  | [], x :: xs, _, _, _, _, _, hl, _, _, _ => by simp at hl
  | i :: is, [], _, _, _, _, _, hl, _, _, _ => by simp at hl
  | i :: is, x :: xs, vs, env, σ, Q, ho, hl, ⟨v, r, e, h1, h2⟩, E, h =>
    ⟨v, r, e, gNames_lc is (fun j hj => ho j (List.mem_cons_of_mem _ hj)) (by simpa using hl) h2 (E.set i h1) fun σ' E' ew => h σ' E' (ew.trans (wipe_set (ho i List.mem_cons_self) σ))⟩
theorem putLc_tup {K : PySem.W.Frag} {is own : List Nat} {xs : List W} (ho : ∀ i ∈ is, i ∈ own) (h : ∀ w ∈ xs, ∃ ys, w = .tup ys ∧ ys.length = is.length) : PutLc K (gTup K is.length (gNames is)) (putTup is) own xs := fun q w v env σ Q hw r E k => by
  obtain ⟨ys, rfl, hl⟩ := h w hw
  obtain ⟨a, vs, e, ta, rs⟩ := r
  exact ⟨a, vs, e, ta.seq, by rw [← rs.length]; exact hl, gNames_lc is ho hl rs E k⟩
def mLcTu (own is : List Nat) (me : Ev W) (tt : Ev Bool) (te : Ev W) : Ev W := fun env st => (me env st).bind fun w s1 => match allN is.length (tupOf w) with
  | some xs => asLst (lcEach (putTup is) tt te (wipeE env own) xs [] s1)
  | none => .bad
def mLcSu (own is : List Nat) (me : Ev W) (tt : Ev Bool) (te : Ev W) : Ev W := fun env st => (me env st).bind fun w s1 => match allN is.length (seqOf w) with
  | some xs => asLst (lcEach (putTup is) tt te (wipeE env own) xs [] s1)
  | none => .bad
/-- over a text -/
def signs (z : Str) : List W := z.cps.toList.map fun c => .str ⟨#[c]⟩
def strOf : W → Option (List W)
  | .str z => some (signs z)
  | _ => none
def mLcX (own : List Nat) (put : W → En → En) (me : Ev W) (tt : Ev Bool) (te : Ev W) : Ev W := fun env st => (me env st).bind fun w s1 => match strOf w with
  | some xs => asLst (lcEach put tt te (wipeE env own) xs [] s1)
  | none => .bad
section
variable {X : Cx} {Wx : WX} {elt it : Expr} {ifs body : List Stmt} {m1 : Sm} {me : Ev W} {fpos : Pos} {ts : List Expr} {tk : Nat} {tp : Pos} {is : List Nat}
theorem gs_forTu (hpo : PassesOwn (model X.prog X.w) X.A X.env X.xe) (hc : X.calm = true) (he : GE X Wx it me) (hg : PG X (.Tuple ts tk tp) (gTup X.K is.length (gNames is))) (hb : GSs X Wx body m1)
    (hfo : ∀ z, foldedSetIterable it X.env z = pure z := by intro _; rfl) : GS X Wx (.For (.Tuple ts tk tp) it body [] fpos) (sForTu is me m1) :=
  PSimp (ps_for hpo hc (pi_tup he) hg hb hfo) fun D σ H ⟨p, st, env, hp', S, E, h⟩ => lift_of hp' S E h fun q s1 w v t S1 E1 r h1 => by
    cases e : allN is.length (tupOf w) with
    | none =>
      rw [e] at h1
      exact h1.elim
    | some xs =>
      rw [e] at h1
      obtain ⟨e2, hw⟩ := allN_of e
      obtain ⟨a, vs, ev, ta, rs⟩ := tupOf_of e2 r
      refine ⟨a, ev, ⟨vs, ta.seq⟩, for_tup (xs := vs) (Turn X.K X.mg Wx D m1 (putTup is) xs q) ⟨q, env, s1, rfl, .refl S1, S1, E1, h1⟩ (fun i σ' H' hi ⟨z, _, _, ez, tz, _, _, _⟩ => ?_) (fun i x σ' H' hx hT => turn_of (put_tup hw) rs hx hT) fun σ' H' hT => turn_end rs hT⟩
      subst ez
      exact (tup_step tz.toMv ta).seq
theorem gs_forSu (hpo : PassesOwn (model X.prog X.w) X.A X.env X.xe) (hc : X.calm = true) (he : GE X Wx it me) (hg : PG X (.Tuple ts tk tp) (gTup X.K is.length (gNames is))) (hb : GSs X Wx body m1)
    (hfo : ∀ z, foldedSetIterable it X.env z = pure z := by intro _; rfl) : GS X Wx (.For (.Tuple ts tk tp) it body [] fpos) (sForSu is me m1) :=
  PSimp (ps_for hpo hc (pi_list he) hg hb hfo) fun D σ H ⟨p, st, env, hp', S, E, h⟩ => lift_of hp' S E h fun q s1 w v t S1 E1 r h1 => by
    cases e : allN is.length (seqOf w) with
    | none =>
      rw [e] at h1
      exact h1.elim
    | some xs =>
      rw [e] at h1
      obtain ⟨e2, hw⟩ := allN_of e
      obtain ⟨a, vs, ev, ta, rs⟩ := seqOf_of e2 r
      refine ⟨a, ev, ⟨vs, ta q (Step.refl S1).toMv⟩, for_list (xs := vs) (Turn X.K X.mg Wx D m1 (putTup is) xs q) ⟨q, env, s1, rfl, .refl S1, S1, E1, h1⟩ (fun i σ' H' hi ⟨z, _, _, ez, tz, _, _, _⟩ => ?_) (fun i x σ' H' hx hT => turn_of (put_tup hw) rs hx hT) fun σ' H' hT => turn_end rs hT⟩
      subst ez
      exact ta z tz.toMv
end
section
variable {X : Cx} {Wx : WX} {elt tg it : Expr} {ifs : List Expr} {scope : Scope} {own : List (Str × Nat)} {pos p : Pos} {g : TG} {put : W → En → En} {tt : Ev Bool} {te me : Ev W} {ml : Ev (List W)} {a b : Expr} {is : List Nat}
theorem lcSu_of {σ : L2.St} {H : Hp} {Q : VK} (ho : ∀ i ∈ is, i ∈ own.map (·.2)) (h : tG X.K X.mg (RW X.K) Wx (mLcSu (own.map (·.2)) is me tt te) σ H Q) :
    tLc (iList X.K (tG X.K X.mg (RW X.K) Wx me)) (gTup X.K is.length (gNames is)) (tG X.K X.mg eqR W0 tt) (tG X.K X.mg (RW X.K) W0 te) (own.map (·.2)) σ H Q := by
  obtain ⟨p, st, env, hp, S, E, h⟩ := h
  refine tG_bind hp S E h fun q s1 w v t S1 E1 r h1 => ?_
  cases e : allN is.length (seqOf w) with
  | none =>
    rw [e] at h1
    exact h1.elim
  | some xs =>
    rw [e] at h1
    obtain ⟨e2, hw⟩ := allN_of e
    obtain ⟨a, vs, ev, ta, rs⟩ := seqOf_of e2 r
    refine ⟨a, ev, ⟨vs, ta q (Step.refl S1).toMv⟩, fun D hD => lc_list (xs := vs) (LcT X.K X.mg Wx (putTup is) tt te (wipeE env (own.map (·.2))) q D σ Q xs) (lc_start S1 hD h1) (fun i H' hi hT => ?_) (fun i x H' hx hT => lc_turn S1 hD E1 (putLc_tup ho hw) rs hx hT) fun H' hT => lc_end S1 hD (by rw [rs.length]; exact Nat.le_refl _) hT⟩
    obtain ⟨z, _, _, _, rfl, ez, m, hk, _⟩ := hT
    exact ta z m
theorem lcTu_of {σ : L2.St} {H : Hp} {Q : VK} (ho : ∀ i ∈ is, i ∈ own.map (·.2)) (h : tG X.K X.mg (RW X.K) Wx (mLcTu (own.map (·.2)) is me tt te) σ H Q) :
    tLc (iTup X.K (tG X.K X.mg (RW X.K) Wx me)) (gTup X.K is.length (gNames is)) (tG X.K X.mg eqR W0 tt) (tG X.K X.mg (RW X.K) W0 te) (own.map (·.2)) σ H Q := by
  obtain ⟨p, st, env, hp, S, E, h⟩ := h
  refine tG_bind hp S E h fun q s1 w v t S1 E1 r h1 => ?_
  cases e : allN is.length (tupOf w) with
  | none =>
    rw [e] at h1
    exact h1.elim
  | some xs =>
    rw [e] at h1
    obtain ⟨e2, hw⟩ := allN_of e
    obtain ⟨a, vs, ev, ta, rs⟩ := tupOf_of e2 r
    refine ⟨a, ev, ⟨vs, ta.seq⟩, fun D hD => lc_tup (xs := vs) (LcT X.K X.mg Wx (putTup is) tt te (wipeE env (own.map (·.2))) q D σ Q xs) (lc_start S1 hD h1) (fun i H' hi hT => ?_) (fun i x H' hx hT => lc_turn S1 hD E1 (putLc_tup ho hw) rs hx hT) fun H' hT => lc_end S1 hD (by rw [rs.length]; exact Nat.le_refl _) hT⟩
    obtain ⟨z, _, _, _, rfl, ez, m, hk, _⟩ := hT
    exact (tup_step m ta).seq
theorem ge_lcSu (B : Blk X scope own tg elt ifs (gTup X.K is.length (gNames is)) tt te) (ho : ∀ i ∈ is, i ∈ own.map (·.2)) (hc : X.calm = true) (hN : X.N.Nodup) (he : GE X Wx it me)
    (hf : ∀ x, foldedSetIterable it X.env x = pure x := by intro _; rfl) : GE X Wx (.ListComp elt [⟨tg, it, ifs, 0⟩] scope pos) (mLcSu (own.map (·.2)) is me tt te) :=
  PEimp (pe_lc hc hN (pi_list he) B.ok B.hg B.ht B.he hf) fun σ H Q h => lcSu_of ho h
theorem ge_lcTu (B : Blk X scope own tg elt ifs (gTup X.K is.length (gNames is)) tt te) (ho : ∀ i ∈ is, i ∈ own.map (·.2)) (hc : X.calm = true) (hN : X.N.Nodup) (he : GE X Wx it me)
    (hf : ∀ x, foldedSetIterable it X.env x = pure x := by intro _; rfl) : GE X Wx (.ListComp elt [⟨tg, it, ifs, 0⟩] scope pos) (mLcTu (own.map (·.2)) is me tt te) :=
  PEimp (pe_lc hc hN (pi_tup he) B.ok B.hg B.ht B.he hf) fun σ H Q h => lcTu_of ho h
theorem signs_rel {K : PySem.W.Frag} {p : Wh} (z : Str) : RWs K p (signs z) (z.cps.toList.map fun c => V.str ⟨#[c]⟩) := by
  unfold signs
  generalize z.cps.toList = l
  induction l with
  | nil => exact (rfl : ([] : List V) = [])
  | cons c l ih => exact ⟨_, _, rfl, rfl, ih⟩
theorem lcX_of {σ : L2.St} {H : Hp} {Q : VK} (hg : ∀ xs, PutLc X.K g put (own.map (·.2)) xs) (h : tG X.K X.mg (RW X.K) Wx (mLcX (own.map (·.2)) put me tt te) σ H Q) :
    tLc (iStr (tG X.K X.mg (RW X.K) Wx me)) g (tG X.K X.mg eqR W0 tt) (tG X.K X.mg (RW X.K) W0 te) (own.map (·.2)) σ H Q := by
  obtain ⟨p, st, env, hp, S, E, h⟩ := h
  refine tG_bind hp S E h fun q s1 w v t S1 E1 r h1 => ?_
  cases w with
  | str z =>
    have ev : v = .str z := r
    refine ⟨z, ev, fun D hD => ?_⟩
    have rs := signs_rel (K := X.K) (p := q) z
    have hl : (signs z).length = z.cps.size := by
      unfold signs
      rw [List.length_map]
      rfl
    let Pv := LcT X.K X.mg Wx put tt te (wipeE env (own.map (·.2))) q D σ Q (signs z)
    refine ⟨fun i m H => m = z.cps.size - i ∧ i ≤ z.cps.size ∧ Pv i H, ⟨z.cps.size, by simp, Nat.zero_le _, lc_start S1 hD h1⟩, fun i m H ⟨em, hi, hT⟩ => ?_⟩
    by_cases c : i < z.cps.size
    · refine .inr ⟨c, fun H' => Pv (i + 1) H', fun H' hN => ⟨z.cps.size - (i + 1), by omega, rfl, c, hN⟩, fun x H' ⟨eH, k, hk, ex⟩ => ?_⟩
      subst eH
      have hx : (z.cps.toList.map fun c => V.str ⟨#[c]⟩)[i]? = some x := by
        rw [List.getElem?_map, ← Array.getElem?_toList] at *
        rw [hk, ex]
        rfl
      exact lc_turn S1 hD E1 (hg _) rs hx hT
    · exact .inl ⟨Nat.not_lt.mp c, lc_end S1 hD (by rw [hl]; exact Nat.not_lt.mp c) hT⟩
  | _ => exact h1.elim
theorem ge_lcX (B : Blk X scope own tg elt ifs g tt te) (hp : ∀ xs, PutLc X.K g put (own.map (·.2)) xs) (hc : X.calm = true) (hN : X.N.Nodup) (he : GE X Wx it me)
    (hf : ∀ x, foldedSetIterable it X.env x = pure x := by intro _; rfl) : GE X Wx (.ListComp elt [⟨tg, it, ifs, 0⟩] scope pos) (mLcX (own.map (·.2)) put me tt te) :=
  PEimp (pe_lc hc hN (pi_str he) B.ok B.hg B.ht B.he hf) fun σ H Q h => lcX_of hp h
end
end Mi

namespace Mi
open PySem PySem.Spec PyProof.Rows L2
variable [ClsMap]

/-! ### for i, x in enumerate(t) -/
def enumW : Nat → List W → List W
  | _, [] => []
  | k, x :: xs => .tup [.int (k : Nat), x] :: enumW (k + 1) xs
theorem enumW_get : ∀ (xs : List W) (k i : Nat), (enumW k xs)[i]? = (xs[i]?).map fun x => W.tup [.int ((k + i : Nat) : Int), x]
  | [], k, i => by
    unfold enumW
    simp
  | x :: xs, k, 0 => rfl
  | x :: xs, k, i + 1 => by
    unfold enumW
    rw [List.getElem?_cons_succ, List.getElem?_cons_succ, enumW_get xs (k + 1) i, show k + 1 + i = k + (i + 1) by omega]
theorem enumW_len : ∀ (xs : List W) (k : Nat), (enumW k xs).length = xs.length
  | [], _ => rfl
  | x :: xs, k => by
    unfold enumW
    rw [List.length_cons, List.length_cons, enumW_len xs (k + 1)]
def oneTup : List W → Option (List W)
  | [w] => tupOf w
  | _ => none
def sForE (i j : Nat) (m : Ev (List W)) (body : Sm) : Sm := liftE m fun ws env st => match oneTup ws with
  | some xs => forEach body (putTup [i, j]) (enumW 0 xs) env st
  | none => .bad
section
variable {X : Cx} {Wx : WX} {e : Expr} {body : List Stmt} {m1 : Sm} {ml : Ev (List W)} {fpos p pos tp : Pos} {elts : List Expr} {kk i j : Nat}
theorem gs_forE (hpo : PassesOwn (model X.prog X.w) X.A X.env X.xe) (hc : X.calm = true) (hge : Gl X "enumerate") (hme : X.mg "enumerate" = none) (ha : GA X Wx [e] ml) (hg : PG X (.Tuple elts kk tp) (gTup X.K 2 (gNames [i, j]))) (hb : GSs X Wx body m1)
    (hs : starEach [e] X.env = [(false, eval e X.env)] := by rfl)
    (hfo : ∀ z, foldedSetIterable (.Call (.Name "enumerate" p) [e] [] pos) X.env z = pure z := by intro _; rfl) : GS X Wx (.For (.Tuple elts kk tp) (.Call (.Name "enumerate" p) [e] [] pos) body [] fpos) (sForE i j ml m1) :=
  PSimp (ps_for hpo hc (pi_enumT hge hme ha hs) hg hb hfo) fun D σ H ⟨p, st, env, hp', S, E, h⟩ => lift_of hp' S E h fun q s1 ws us t S1 E1 r h1 => by
    cases eo : oneTup ws with
    | none =>
      rw [eo] at h1
      exact h1.elim
    | some xs =>
      rw [eo] at h1
      match ws, eo, r with
      | [w], eo, ⟨v, _, e1, r1, e2⟩ =>
        obtain ⟨a, vs, ev, ta, rs⟩ := tupOf_of (show tupOf w = some xs from eo) r1
        have e2' : _ = [] := e2
        refine ⟨a, vs, by rw [e1, e2', ev], ta.seq, ?_⟩
        have hl : vs.length = xs.length := rs.length.symm
        refine ⟨fun k m σ' H' => m = vs.length - k ∧ k ≤ vs.length ∧ Turn X.K X.mg Wx D m1 (putTup [i, j]) (enumW 0 xs) q k σ' H', ⟨vs.length, by simp, Nat.zero_le _, ⟨q, env, s1, rfl, .refl S1, S1, E1, h1⟩⟩, fun k m σ' H' ⟨em, hk, hT⟩ => ?_⟩
        have sq : SqT X.K H' a vs := by
          obtain ⟨z, _, _, ez, tz, _, _, _⟩ := hT
          subst ez
          exact (tup_step tz.toMv ta).seq
        by_cases c : k < vs.length
        · have hget : vs[k]? = some vs[k] := List.getElem?_eq_getElem c
          refine .inr ⟨⟨vs, vs[k], sq, hget⟩, fun σ2 H2 => Turn X.K X.mg Wx D m1 (putTup [i, j]) (enumW 0 xs) q (k + 1) σ2 H2, fun σ2 H2 hN => ⟨vs.length - (k + 1), by omega, rfl, c, hN⟩, fun x H2 ⟨T, y, ex, hT0, eH, hy⟩ => ?_⟩
          subst ex eH
          have ey : vs[k]? = some y := hy vs sq
          obtain ⟨z, e3, s3, rfl, tz, S3, E3, h3⟩ := hT
          obtain ⟨w2, hw2, rw2⟩ := rs.getV ey
          have hi : (enumW 0 xs)[k]? = some (.tup [.int ((0 + k : Nat) : Int), w2]) := by
            rw [enumW_get, hw2]
            rfl
          rw [Nat.zero_add] at hi
          obtain ⟨hl2, hi2⟩ := List.getElem?_eq_some_iff.mp hi
          rw [List.drop_eq_getElem_cons hl2, hi2] at h3
          have tn := step_new (o := HO.tup [.int (k : Nat), y]) S3 hT0
          have Sn := sr_new (o := HO.tup [.int (k : Nat), y]) S3 hT0
          have rn : RW X.K { z with H := upd z.H T (.tup [.int (k : Nat), y]) } (.tup [.int (k : Nat), w2]) (.ref T) :=
            new_tup S3 hT0 ⟨_, _, rfl, rfl, y, [], rfl, RW.step tz w2 y rw2, rfl⟩
          have h3' := FinS.later tn h3
          exact put_tup (is := [i, j]) (xs := [.tup [.int (k : Nat), w2]]) (fun w hw => ⟨_, List.mem_singleton.mp hw, rfl⟩) _ _ _ e3 σ' _ List.mem_cons_self rn (E3.step tn) fun σ4 E4 =>
            for_of Sn E4 h3' _ fun q5 σ5 e5 s5 t5 S5 E5 h5 => ⟨q5, e5, s5, rfl, (tz.trans tn).trans t5, S5, E5, h5⟩
        · have ek : k = vs.length := Nat.le_antisymm hk (Nat.not_lt.mp c)
          subst ek
          refine .inl ⟨⟨vs, sq, Nat.le_refl _⟩, ?_⟩
          obtain ⟨z, e3, s3, rfl, tz, S3, E3, h3⟩ := hT
          rw [List.drop_of_length_le (by rw [enumW_len, hl]; exact Nat.le_refl _)] at h3
          exact h3 z σ' (.refl S3) S3 E3
end
end Mi

set_option maxHeartbeats 4000000
namespace Mi
open PySem PySem.Spec PyProof.Rows L2

/-! ### tuple * 1, tuple * 0 -/
section
variable (l : Addr) (items : Array Value) (n : Nat) (dd : Option Addr) (sl : Array (Option Value)) (x : Int) (u : Tok)
def tupObj : Obj := { cls := .type "tuple", dict := dd, data := .seq items n, slots := sl }
theorem tuple_mul1 : Meets (Builtin.«tuple.__mul__» ⟨[.ref l, .int 1 u], []⟩) (fun _ R s => s.heap.get? l = some (tupObj items n dd sl) ∧ R (.ok (.ret (.ref l))) s) :=
  .of_wp fun prog w A R s h => by
    obtain ⟨hp, g, d, tk, os⟩ := s
    obtain ⟨hl, h⟩ := h
    unfold tupObj at hl
    have f1 := AutoSeq1.idx_int
    have c0 : (decide ((1 : Int) < -(2 ^ 63)) || decide ((1 : Int) ≥ 2 ^ 63)) = false := by decide
    have c1 : (items.isEmpty || (1 : Int) == 1) = true := by simp
    wp_walk using wpAny_loadPart' hl
    repeat (first
      | (refine wpAny_ite_false (decide_eq_false (by rw [c0]; exact Bool.false_ne_true)) ?_; wp_walk using wpAny_loadPart' hl)
      | (refine wpAny_ite_true (decide_eq_true (by rw [c1])) ?_; wp_walk using wpAny_loadPart' hl))
    exact ⟨_, rfl, h⟩
theorem tuple_mul0 (ne : items.isEmpty = false) : Meets (Builtin.«tuple.__mul__» ⟨[.ref l, .int 0 u], []⟩) (fun _ R s => s.heap.get? l = some (tupObj items n dd sl) ∧
    R (.ok (.ret (.ref s.heap.objs.size))) { s with heap := s.heap.push { cls := .type "tuple", data := .seq #[] } }) :=
  .of_wp fun prog w A R s h => by
    obtain ⟨hp, g, d, tk, os⟩ := s
    obtain ⟨hl, h⟩ := h
    unfold tupObj at hl
    have f1 := AutoSeq1.idx_int
    have c0 : (decide ((0 : Int) < -(2 ^ 63)) || decide ((0 : Int) ≥ 2 ^ 63)) = false := by decide
    have c1 : (items.isEmpty || (0 : Int) == 1) = false := by
      rw [ne]
      decide
    have c2 : (decide ((0 : Int) ≤ 0) || items.isEmpty) = true := by simp
    wp_walk using wpAny_loadPart' hl
    repeat (first
      | (refine wpAny_ite_false (decide_eq_false (by rw [c0]; exact Bool.false_ne_true)) ?_; wp_walk using wpAny_loadPart' hl)
      | (refine wpAny_ite_false (decide_eq_false (by rw [c1]; exact Bool.false_ne_true)) ?_; wp_walk using wpAny_loadPart' hl)
      | (refine wpAny_ite_true (decide_eq_true (by rw [c2])) ?_; wp_walk using wpAny_loadPart' hl))
    exact ⟨_, rfl, h⟩
end
def rRepX (K : PySem.W.Frag) : R2 := fun x y H Q => ∃ l k xs, x = .ref l ∧ y = .int k ∧ SqT K H l xs ∧ xs ≠ [] ∧ ((k = 1 ∧ Q (.ref l) H) ∨ (k = 0 ∧ ∀ p, H p = none → Q (.ref p) (upd H p (.tup []))))
theorem op_repX {X : Cx} : OpR X (binaryOp .Mult) (rRepX X.K) := by
  rintro pins s σ H x y v u Q I rx ry ⟨l, k, xs, rfl, rfl, hT, hne, h⟩
  cases rx
  obtain ⟨t, rfl⟩ := ry
  obtain ⟨its, r, ⟨⟨cls, dd, data, sl⟩, ho, hc, n, hd⟩, hs⟩ := I.tuple hT
  simp only at hc hd
  subst hc hd
  have hi : its.toArray.isEmpty = false := by
    cases its with
    | nil =>
      cases r
      exact absurd rfl hne
    | cons a b => rfl
  rcases h with ⟨rfl, q⟩ | ⟨rfl, q⟩
  · refine wpAny_binaryOp_repeat_ref (T := "tuple") (U := "int") (by decide) ⟨_, ho, rfl⟩ (fun s' => typeIs_int s' 1 t) noFill_tuple_mul F.fills_int_mul F.slot_int_rmul repeat_tuple F.slot_int_index.lookup
      (call_meets F.slot_int_rmul (typeIs_int s 1 t) F.entry_int_rmul (F.args_int_rmul_2 _ _) (int_rmul_tuple 1 t l its.toArray n dd sl)
        ⟨ho, rfl, ⟨_, ho, rfl⟩, call_meets F.slot_tuple_mul ⟨_, ho, rfl⟩ F.entry_tuple_mul (F.args_tuple_mul_2 _ _) (tuple_mul1 l its.toArray n dd sl t) ⟨ho, ⟨V.ref l, H, I, rfl, q⟩⟩⟩)
  · refine wpAny_binaryOp_repeat_ref (T := "tuple") (U := "int") (by decide) ⟨_, ho, rfl⟩ (fun s' => typeIs_int s' 0 t) noFill_tuple_mul F.fills_int_mul F.slot_int_rmul repeat_tuple F.slot_int_index.lookup
      (call_meets F.slot_int_rmul (typeIs_int s 0 t) F.entry_int_rmul (F.args_int_rmul_2 _ _) (int_rmul_tuple 0 t l its.toArray n dd sl)
        ⟨ho, rfl, ⟨_, ho, rfl⟩, call_meets F.slot_tuple_mul ⟨_, ho, rfl⟩ F.entry_tuple_mul (F.args_tuple_mul_2 _ _) (tuple_mul0 l its.toArray n dd sl t hi) ⟨ho, ?_⟩⟩)
    refine ⟨.ref s.heap.objs.size, _, I.laid (t' := s.toks) (o := .tup []) (fun b ob q => Heap.get?_push_of_some _ q) (Nat.le_refl _) ?_, rfl, q _ (I.hok.fresh (Nat.le_refl _))⟩
    exact ⟨Nat.zero_le _, [], .nil, IsTup.new _ _⟩
end Mi

namespace Mi
open PySem PySem.Spec PyProof.Rows L2
variable [ClsMap]

/-! ### xs + ys, a new list of the store -/
def fAddR : W → W → Store → Res W := fun x y st => match trkIn st x, trkIn st y with
  | some xs, some ys => if xs.length + ys.length ≤ 100000 then .ok (.ref st.length) (st ++ [.lst (xs ++ ys)]) else .bad
  | _, _ => .bad
section
variable {X : Cx} {Wx : WX}
theorem r2_addR : R2ok X Wx rCat fAddR := by
  intro p st x y v u σ Q S rx ry h
  dsimp only [fAddR] at h
  cases ex : trkIn st x with
  | none =>
    rw [ex] at h
    exact h.elim
  | some xs =>
    cases ey : trkIn st y with
    | none =>
      rw [ex, ey] at h
      exact h.elim
    | some ys =>
      rw [ex, ey] at h
      dsimp only at h
      by_cases c : xs.length + ys.length ≤ 100000
      · rw [if_pos c] at h
        obtain ⟨a, vs, rfl, ta, rs⟩ := trkIn_of S ex rx
        obtain ⟨b, us, rfl, tb, rs2⟩ := trkIn_of S ey ry
        refine ⟨a, b, vs, us, rfl, rfl, ta, tb, by rw [← rs.length, ← rs2.length]; exact line_le c, fun n hn => ?_⟩
        refine h (p.more n (.lst (vs ++ us))) (.ref n) (step_more S hn) (sr_more S hn (rs.append rs2)) ⟨?_, ?_⟩
        · show st.length < p.n + 1
          rw [S.len]
          exact Nat.lt_succ_self _
        · show V.ref n = V.ref (if st.length = p.n then n else p.ρ st.length)
          rw [if_pos S.len.symm]
      · rw [if_neg c] at h
        exact h.elim
/-! ### t * n -/
def fMulA : W → W → Store → Res W := fun x y st => match x, y with
  | .tup xs, .int n => if xs ≠ [] ∧ 2 ≤ n ∧ n < 1000 ∧ xs.length ≤ 1000 then .ok (.tup (List.replicate n.toNat xs).flatten) st else if xs.isEmpty = false ∧ n = 1 then .ok (.tup xs) st else if xs.isEmpty = false ∧ n = 0 then .ok (.tup []) st else .bad
  | x, y => fMul x y st
theorem reps_rel {K : PySem.W.Frag} {p : Wh} {xs : List W} {vs : List V} (r : RWs K p xs vs) : ∀ n : Nat, RWs K p (List.replicate n xs).flatten (List.replicate n vs).flatten
  | 0 => (rfl : ([] : List V) = [])
  | n + 1 => by
    rw [List.replicate_succ, List.replicate_succ, List.flatten_cons, List.flatten_cons]
    exact r.append (reps_rel r n)
theorem r2_mulA : R2ok X Wx (fun x y H Q => rI CMulW (fun i j => .int (i * j)) x y H Q ∨ rRepT X.K x y H Q ∨ rRepX X.K x y H Q) fMulA := by
  intro p st x y v u σ Q S rx ry h
  cases x with
  | tup xs =>
    cases y with
    | int n =>
      obtain ⟨a, vs, rfl, ta, rs⟩ := rx
      have eu : u = .int n := ry
      subst eu
      dsimp only [fMulA] at h
      by_cases c : xs ≠ [] ∧ 2 ≤ n ∧ n < 1000 ∧ xs.length ≤ 1000
      · rw [if_pos c] at h
        obtain ⟨c1, c2, c3, c4⟩ := c
        refine .inr (.inl ⟨a, n, vs, rfl, rfl, ta.seq, fun z => c1 (List.length_eq_zero_iff.mp (by rw [rs.length, z]; rfl)), c2, Int.le_of_lt c3, by rw [← rs.length]; exact c4, fun q hq => ?_⟩)
        exact h { p with H := upd p.H q (.tup (List.replicate n.toNat vs).flatten) } (.ref q) (step_new S hq) (sr_new S hq) (new_tup S hq (reps_rel rs n.toNat))
      · rw [if_neg c] at h
        have nn : xs.isEmpty = false → vs ≠ [] := fun z e => by
          have l := rs.length
          rw [e] at l
          rw [List.length_eq_zero_iff.mp l] at z
          cases z
        by_cases c1 : xs.isEmpty = false ∧ n = 1
        · rw [if_pos c1] at h
          exact .inr (.inr ⟨a, n, vs, rfl, rfl, ta.seq, nn c1.1, .inl ⟨c1.2, h p (.ref a) (.refl S) S ⟨a, vs, rfl, ta, rs⟩⟩⟩)
        · rw [if_neg c1] at h
          by_cases c2 : xs.isEmpty = false ∧ n = 0
          · rw [if_pos c2] at h
            exact .inr (.inr ⟨a, n, vs, rfl, rfl, ta.seq, nn c2.1, .inr ⟨c2.2, fun q hq => h { p with H := upd p.H q (.tup []) } (.ref q) (step_new S hq) (sr_new S hq) (new_tup S hq (rfl : ([] : List V) = []))⟩⟩)
          · rw [if_neg c2] at h
            exact h.elim
    | _ => exact h.elim
  | int i =>
    cases y with
    | int j => exact .inl (r2_mul p st (.int i) (.int j) v u σ Q S rx ry h)
    | _ => exact h.elim
  | _ => cases y <;> exact h.elim
end
end Mi

namespace Mi
open PySem PySem.Spec PyProof.Rows L2
variable [ClsMap]

/-! ### defs with defaults; defs that call themselves (by steps) -/
structure DefAtF (K : PySem.W.Frag) (mg : Str → Option Value) (x : Str) (st : Stmt) (dvs : List V) : Prop where
  ex : ∃ (f : Addr) (fd : FuncData), FunD K x x (defArgs st) (defBody st) (defScope st) dvs [] f fd ∧ mg x = some (.ref f)
structure DefOkF (P : Program) (w : World) (K : PySem.W.Frag) (mg : Str → Option Value) (base : Heap) (x : Str) (st : Stmt) (dvs : List V) (k : Nat) (ps : List Str) (m : List W → Store → Res W) : Prop where
  ex : ∃ (f : Addr) (fd : FuncData), FunD K x x (defArgs st) (defBody st) (defScope st) dvs [] f fd ∧ mg x = some (.ref f) ∧ FnG P w K mg base k f fd ps m
section
variable {P : Program} {w : World} {K : PySem.W.Frag} {mg : Str → Option Value} {base : Heap} {x : Str} {st : Stmt} {N ps : List Str} {dvs : List V} {k : Nat} {body : Sm}
theorem defOkF_of (D : DefAtF K mg x st dvs) (S : FnScope N ps (defScope st))
    (hb : ∀ (f : Addr) (cdv : Value) (A : Around) (outer : List Env) (s : Shared) (H : Hp) (E : XK), Room k (A.deeper (envOfC x (defScope st) s.heap.objs.size f cdv)) → A.guards = some [] →
      GSs (cxOf (L2.CX P w) P w K mg base N x (defScope st) f cdv A outer s H E) (WxE E) (defBody st) body) : DefOkF P w K mg base x st dvs (k + 1) ps (fnM ps.length N.length body) := by
  obtain ⟨f, fd, F, hm⟩ := D.ex
  refine ⟨f, fd, F, hm, ?_⟩
  obtain ⟨oc, od, dV, kV, doc, pm, an, cdv, ct, osl, rfl, lk, hcd, _, _⟩ := F.ex
  exact fnG_ofL lk hcd S (hb f)
theorem defOkF_bad (D : DefAtF K mg x st dvs) : DefOkF P w K mg base x st dvs k ps (fun _ _ => .bad) := by
  obtain ⟨f, fd, F, hm⟩ := D.ex
  exact ⟨f, fd, F, hm, fnG_bad⟩
theorem defOk_bad (D : DefAt K mg x st) : DefOk P w K mg base x st k ps (fun _ _ => .bad) := by
  obtain ⟨f, fd, F, hm⟩ := D.ex
  exact ⟨f, fd, F, hm, fnG_bad⟩
end
section
variable {X : Cx} {Wx : WX} {k : Nat} {st : Stmt} {ps : List Str} {dvs : List V} {m : List W → Store → Res W} {x : Str} {p pos : Pos} {e : Expr} {es : List Expr} {ml : Ev (List W)}
theorem ge_callF (D : DefOkF X.prog X.w X.K X.mg X.base x st dvs k ps m) (hr : Room k X.A) (hg : X.A.guards = some []) (tk : Takes X Wx) (gl : Gl X x)
    (hbind : ∀ (dV kV doc pm : Value) (an : Option Addr) (cdv ct : Value) (us : List Value), us.length = ps.length → bindArgs (PySem.W.fnOf x x (defArgs st) (defBody st) (defScope st) dV kV doc pm an cdv ct) ⟨us, []⟩ = pure (ps.zip us))
    (ha : GA X Wx (e :: es) ml) (hdb : (x == ("__debug__" : Str)) = false := by decide) (he : starEach (e :: es) X.env = (false, eval e X.env) :: starEach es X.env := by rfl) (hpl : (backTo pos (starEach es X.env)).any (·.1) = false := by rfl) :
    GE X Wx (.Call (.Name x p) (e :: es) [] pos) (mCall m ml) := by
  obtain ⟨f, fd, F, hm, G⟩ := D.ex
  have b : Binds X.K fd ps [] := by
    obtain ⟨oc, od, dV, kV, doc, pm, an, cdv, ct, osl, rfl, lk, hcd, _, _⟩ := F.ex
    exact .all (hbind dV kV doc pm an cdv ct)
  exact ge_call G hr hg tk gl hm F.kp b ha hdb he hpl
/-- the last defaults, from the j-th on, fill up -/
def moreM (wd : List W) (m : List W → Store → Res W) : List W → Store → Res W := fun ws st => m (ws ++ wd) st
theorem ge_callFd {n j : Nat} {wd : List W} (D : DefOkF X.prog X.w X.K X.mg X.base x st dvs k ps m) (hr : Room k X.A) (hg : X.A.guards = some []) (tk : Takes X Wx) (gl : Gl X x)
    (hd : dvs ≠ []) (hn : n + (dvs.length - j) = ps.length) (hwd : ∀ q, RWs X.K q wd (dvs.drop j))
    (hbind : ∀ (T : Addr) (kV doc pm : Value) (an : Option Addr) (cdv ct : Value) (us its : List Value), us.length = n → its.length = dvs.length →
      ∃ k2, bindArgs (PySem.W.fnOf x x (defArgs st) (defBody st) (defScope st) (.ref T) kV doc pm an cdv ct) ⟨us, []⟩ = seqItems? (.ref T) >>= k2 ∧ k2 (some its.toArray) = pure (ps.zip (us ++ its.drop j)))
    (ha : GA X Wx (e :: es) ml) (hdb : (x == ("__debug__" : Str)) = false := by decide) (he : starEach (e :: es) X.env = (false, eval e X.env) :: starEach es X.env := by rfl) (hpl : (backTo pos (starEach es X.env)).any (·.1) = false := by rfl) :
    GE X Wx (.Call (.Name x p) (e :: es) [] pos) (mCall (moreM wd m) ml) := by
  obtain ⟨f, fd, F, hm, G⟩ := D.ex
  obtain ⟨ds, rd, b⟩ := F.binds1 n j hd hn hbind
  refine ⟨fun pins s σ H Q I ⟨q0, sto, env, hp, S, E, h⟩ => ?_⟩
  refine wpAny_Call_Name_kw (ld_glob I gl hm ?_ hdb)
  have t := tG_bind (R := RWs X.K) (Q := fun vs H' => ∃ (q : Wh) (ws : List W) (s1 : Store), q.H = H' ∧ SR X.K q s1 ∧ RWs X.K q ws vs ∧ Fin X.K X.mg (RW X.K) Wx q σ Q (moreM wd m ws s1)) hp S E h
    fun q s1 ws vs t S1 E1 r h1 => ⟨q, ws, s1, rfl, S1, r, h1⟩
  refine PySem.W.callWith_K (h₀ := X.base) I.ok.mod.kin F.kp
    (thn (ha.run pos pins s σ H _ I t) fun us s1 ⟨vs, H1, I1, r, z⟩ => ⟨I1.kIn, ?_⟩) he hpl
  obtain ⟨q, ws, s2, eH, S1, rw1, h1⟩ := z
  have r2 : Vals (vs ++ dvs.drop j) (us ++ ds) := r.append rd
  have rw2 : RWs X.K q (ws ++ wd) (vs ++ dvs.drop j) := RWs.append rw1 (hwd q)
  have hl : (us ++ ds).length = ps.length := by rw [← r2.length, ← rw2.length, len_of G h1]
  exact run_G G hr hg tk (b s1 us I1.kIn hl) hl I1 r2 eH S1 rw2 h1
end
end Mi

namespace Mi
open PySem PySem.Spec PyProof.Rows L2
variable [ClsMap]

/-! ### constants of a module; the __init__ of a class; different keys -/
section
variable {X : Cx} {Wx : WX} {x : Str} {pos : Pos}
theorem ge_gIntE {i : Int} (hg : Gl X x) (h : ∃ t, X.mg x = some (.int i t)) (hd : (x == ("__debug__" : Str)) = false := by decide) : GE X Wx (.Name x pos) (mC (.int i)) := by
  obtain ⟨t, h⟩ := h
  exact ge_gInt hg h hd
theorem ge_gStrE {z : Str} (hg : Gl X x) (h : ∃ t, X.mg x = some (.str z t)) (hd : (x == ("__debug__" : Str)) = false := by decide) : GE X Wx (.Name x pos) (mC (.str z)) := by
  obtain ⟨t, h⟩ := h
  exact ge_gStr hg h hd
theorem ge_gRefE {w : W} (hg : Gl X x) (h : ∃ d, X.mg x = some (.ref d) ∧ ∀ p, RW X.K p w (.ref d)) (hd : (x == ("__debug__" : Str)) = false := by decide) : GE X Wx (.Name x pos) (mC w) := by
  obtain ⟨d, h, hw⟩ := h
  exact ge_gRef hg h hw hd
end
structure InitAt (K : PySem.W.Frag) (mg : Str → Option Value) (x : Str) (C : Nat) (qual : Str) (st : Stmt) : Prop where
  ex : ∃ (f : Addr) (fd : FuncData), Fun K "__init__" qual st f fd ∧ Mk K (cl C) f ∧ mg x = some (.ref (cl C))
structure InitOk (P : Program) (w : World) (K : PySem.W.Frag) (mg : Str → Option Value) (base : Heap) (x : Str) (C : Nat) (qual : Str) (st : Stmt) (k : Nat) (ps : List Str) (m : List W → Store → Res W) : Prop where
  ex : ∃ (f : Addr) (fd : FuncData), Fun K "__init__" qual st f fd ∧ Mk K (cl C) f ∧ mg x = some (.ref (cl C)) ∧ FnG P w K mg base k f fd ps m
theorem initOk_of {P : Program} {w : World} {K : PySem.W.Frag} {mg : Str → Option Value} {base : Heap} {x qual : Str} {C : Nat} {st : Stmt} {N ps : List Str} {k : Nat} {body : Sm} (D : InitAt K mg x C qual st) (S : FnScope N ps (defScope st))
    (hb : ∀ (f : Addr) (cdv : Value) (A : Around) (outer : List Env) (s : Shared) (H : Hp) (E : XK), Room k (A.deeper (envOfC qual (defScope st) s.heap.objs.size f cdv)) → A.guards = some [] →
      GSs (cxOf (L2.CX P w) P w K mg base N qual (defScope st) f cdv A outer s H E) (WxE E) (defBody st) body) : InitOk P w K mg base x C qual st (k + 1) ps (fnM ps.length N.length body) := by
  obtain ⟨f, fd, F, M, hm⟩ := D.ex
  exact ⟨f, fd, F, M, hm, fnG_of F S (hb f)⟩
section
variable {X : Cx} {Wx : WX} {k : Nat} {st : Stmt} {ps : List Str} {m : List W → Store → Res W} {x qual : Str} {C : Nat} {p pos : Pos} {e : Expr} {es : List Expr} {ml : Ev (List W)}
theorem ge_makeD (D : InitOk X.prog X.w X.K X.mg X.base x C qual st k ps m) (hr : Room (k + 1) X.A) (hg : X.A.guards = some []) (gl : Gl X x)
    (hbind : ∀ (kV doc pm : Value) (an : Option Addr) (cdv ct : Value) (us : List Value), us.length = ps.length → bindArgs (PySem.W.fnOf "__init__" qual (defArgs st) (defBody st) (defScope st) .none kV doc pm an cdv ct) ⟨us, []⟩ = pure (ps.zip us))
    (ha : GA X Wx (e :: es) ml) (hdb : (x == ("__debug__" : Str)) = false := by decide) (he : starEach (e :: es) X.env = (false, eval e X.env) :: starEach es X.env := by rfl) (hpl : (backTo pos (starEach es X.env)).any (·.1) = false := by rfl) :
    GE X Wx (.Call (.Name x p) (e :: es) [] pos) (mCall (fMake C m) ml) := by
  obtain ⟨f, fd, F, M, hm, G⟩ := D.ex
  exact ge_make M G hr hg gl hm (F.binds hbind) ha hdb he hpl
end
/-- a text, or a tuple of texts -/
def isTxt : W → Bool
  | .str _ => true
  | _ => false
def keyOk : W → Bool
  | .str _ => true
  | .tup xs => xs.all isTxt
  | _ => false
def sameTxt : W → W → Bool
  | .str a, .str b => a == b
  | _, _ => false
def sameTxts : List W → List W → Bool
  | [], [] => true
  | x :: xs, y :: ys => sameTxt x y && sameTxts xs ys
  | _, _ => false
def sameKey : W → W → Bool
  | .str a, .str b => a == b
  | .tup xs, .tup ys => sameTxts xs ys
  | _, _ => false
def diffW : List W → Bool
  | [] => true
  | x :: xs => !(xs.any (sameKey x)) && diffW xs
def mDiff : List W → Store → Res W := fun ws st => match ws with
  | [w] => match seqOf w with
    | some xs => if xs.all keyOk = true ∧ xs.length ≤ 60 then .ok (.bl (diffW xs)) st else .bad
    | none => .bad
  | _ => .bad
end Mi

namespace MiSet
open PySem PySem.Spec PyProof.Rows

/-! ### set(l): the set at S grows item by item, J i being what is known of the heap behind i of them -/
def newSet (b : Bool) : Obj := { cls := .type "set", dict := none, data := .set #[] 0 (.fresh 0 0 b) }
def AddOk (pr : Program) (w : World) (A : Around) (S : Addr) (J J2 : Heap → Prop) (v : Value) : Prop :=
  ∀ (E : Value → Shared → Prop) (s : Shared) (Q : Bool → Shared → Prop), J s.heap →
    (∀ b h2 tk, s.toks ≤ tk → Heap.SameBut S s.heap h2 → J2 h2 → Q b { s with heap := h2, toks := tk }) → wpAny (model pr w) A (setAdd S v) Q E s

section
variable {pr : Program} {w : World} {A : Around} {R : Result → Shared → Prop} {I : Addr} {fp wr : List Addr} {G : Array GenState → Array GenState → Prop} {n : Nat} {Pv : Nat → Value → Prop} {St : Nat → Shared → Prop}
theorem grow_loop (Wk : WalksS pr w A.in1 I fp wr G n Pv St) {S : Addr} (nS : S ∉ fp) {J : Nat → Heap → Prop} (keep : ∀ i h h2, J i h → (∀ b o, b ∉ wr → h.get? b = some o → h2.get? b = some o) → J i h2)
    (add : ∀ i v, Pv i v → AddOk pr w A.in1 S (J i) (J (i + 1)) v) : ∀ (k i : Nat) (s : Shared), n = i + k → St i s → J i s.heap →
      (∀ s2, Moved (S :: wr) G s s2 → J n s2.heap → R (.ok (.ret .none)) s2) → codeAny (model pr w) A (.builtin "set.update.loop" ⟨[.ref S, .ref I], []⟩) R s := by
  have more : ∀ b ∈ wr, b ∈ S :: wr := fun _ => List.mem_cons_of_mem _
  intro k
  induction k with
  | zero =>
    rintro i s rfl st j fin
    refine codeAny_builtin PyProof.Rows.F.entry_set_update_loop ?_
    rw [Around.under_plainId PyProof.Rows.F.plain_set_update_loop _]
    show wpAny (model pr w) A.in1 (pyNext (.ref I) >>= _) _ _ s
    refine wpAny_bind (Wk.done s _ _ st ?_)
    intro s2 m
    show wpAny (model pr w) A.in1 (ret .none) _ _ s2
    exact wpAny_pure (fin s2 (m.mono more) (keep _ _ _ j fun b o hb e => m.heap b o hb e))
  | succ k ih =>
    intro i s hn st j fin
    refine codeAny_builtin PyProof.Rows.F.entry_set_update_loop ?_
    rw [Around.under_plainId PyProof.Rows.F.plain_set_update_loop _]
    show wpAny (model pr w) A.in1 (pyNext (.ref I) >>= _) _ _ s
    refine wpAny_bind (Wk.item i s _ _ (by omega) st ?_)
    intro v s2 pv st2 m
    show wpAny (model pr w) A.in1 (holding [v] (setAdd S v) >>= _) _ _ s2
    refine wpAny_bind (wpAny_holding (add i v pv _ s2 _ (keep _ _ _ j fun b o hb e => m.heap b o hb e) ?_))
    intro b h2 tk htk sb j2
    have st3 := Wk.frame _ s2 h2 tk st2 htk fun c hc o e => by
      rw [sb.2 c (fun z : c = S => nS (z ▸ hc))]
      exact e
    refine wpAny_pure ⟨plainId_quiet PyProof.Rows.F.plain_set_update_loop _, ih (i + 1) _ (by omega) st3 j2 fun s4 m4 j4 => fin s4 ?_ j4⟩
    refine Moved.trans Wk.gtrans ((m.mono more).then_heap htk fun c o hc e => ?_) m4
    rw [sb.2 c (fun z : c = S => hc (by rw [z]; exact List.mem_cons_self))]
    exact e
end

section
variable {pr : Program} {w : World} {A : Around} {E : Value → Shared → Prop} {s : Shared}
set_option maxHeartbeats 3200000 in
theorem set_of_list {l : Addr} {items : Array Value} {J : Nat → Heap → Prop} {Q : Value → Shared → Prop} (hh : A.handled = none) (hl : s.heap.IsList l items)
    (start : ∀ (b : Bool) (h : Heap), (∀ c o, s.heap.get? c = some o → h.get? c = some o) → h.get? s.heap.objs.size = some (newSet b) → J 0 h)
    (keep : ∀ i h h2, J i h → (∀ c o, c ≤ s.heap.objs.size → h.get? c = some o → h2.get? c = some o) → J i h2)
    (add : ∀ i v, items[i]? = some v → ∀ A2 : Around, A2.units ≤ A.units + 60 → AddOk pr w A2 s.heap.objs.size (J i) (J (i + 1)) v)
    (fin : ∀ (h2 : Heap) (tk : Nat), J items.size h2 → (∀ c o, c < s.heap.objs.size → s.heap.get? c = some o → h2.get? c = some o) → Q (.ref s.heap.objs.size) { s with heap := h2, toks := tk }) :
    wpAny (model pr w) A (call (.type "set") [.ref l]) Q E s := by
  obtain ⟨mc, mt, hmro⟩ := PySem.F.called_set.mro
  have a1 := PySem.F.called_set.made
  have a2 := PySem.F.called_set.sub
  refine wpAny_call (codeAny_of_tree ?_)
  show wpAny _ _ (callAny (.type "set") ⟨[.ref l], []⟩) _ _ _
  refine wpAny_pure ⟨Code.quiet_builtin _ (by decide +kernel), codeAny_builtin PySem.F.entry_type_call ?_⟩
  rw [Around.under_plain (weight_type_call_type "set" [.ref l] []) rfl]
  have a3 := PySem.F.called_set.notType
  have a4 := PySem.F.called_set.canCreate
  have a5 := PySem.F.typeCall_set_1 (.ref l)
  repeat (any_goals (first | assumption | wp_step))
  refine codeAny_mono (code_set_new_1 (.ref l) (E := E) (Q₁ := fun ob s1 => ∃ b : Bool, ob = .ref s.heap.objs.size ∧ s1 = { s with heap := s.heap.push (newSet b) }) fun b => ⟨b, rfl, rfl⟩) fun r s1 hr => ?_
  cases r with
  | error e => exact hr
  | ok fl =>
   cases fl with
   | ret ob =>
    obtain ⟨b, rfl, rfl⟩ := hr
    have atS : (s.heap.push (newSet b)).get? s.heap.objs.size = some (newSet b) := Heap.get?_push_size _ rfl
    have tyS : Shared.TypeIs { s with heap := s.heap.push (newSet b) } (.ref s.heap.objs.size) "set" := ⟨_, atS, rfl⟩
    have b1 := PySem.F.called_set.init.lookup
    have b2 := PySem.F.called_set.init.bind (.ref s.heap.objs.size)
    repeat (any_goals (first | assumption | wp_step))
    refine codeAny_mono (codeAny_call_builtin (R := wants (fun r s2 => r = .none ∧ ∃ h2 tk, s2 = { s with heap := h2, toks := tk } ∧ J items.size h2 ∧ ∀ c o, c < s.heap.objs.size → s.heap.get? c = some o → h2.get? c = some o) E)
      PySem.F.called_set.init.plain PySem.F.entry_set_init (check_set_init_1 tyS ?_)) fun r2 s2 hr2 => ?_
    · obtain ⟨⟨oc, od, odt, osl⟩, hol, hc, ln, hd⟩ := hl
      simp only at hc hd
      subst hc hd
      have hol2 : (s.heap.push (newSet b)).get? l = some { cls := .type "list", dict := od, data := .seq items ln, slots := osl } := Heap.get?_push_of_some _ hol
      have c1 := PySem.F.sub_list_set
      have c2 := PySem.F.sub_list_frozenset
      have c3 : (Value.type "list" == Value.type "dict") = false := by decide
      have isl : (s.heap.push (newSet b)).IsList l items := ⟨_, hol2, rfl, ln, rfl⟩
      have lt : @LT.lt Nat _ l s.heap.objs.size := Heap.lt_size hol
      have szp : (s.heap.push (newSet b)).objs.size = s.heap.objs.size + 1 := Heap.size_push ..
      unfold Builtin.«set.__init__» noKeywords Builtin.Frozenset.updateFrom
      generalize hPI : pyIter = PI
      wp_walk
      subst hPI
      refine wpAny_pyIter_list isl ?_
      refine wpAny_bind (wpAny_runValue ?_)
      have nl : l ≠ (s.heap.push (newSet b)).objs.size := by
        exact Nat.ne_of_lt (by rw [szp]; exact Nat.lt_succ_of_lt lt)
      have nF : s.heap.objs.size ∉ [(s.heap.push (newSet b)).objs.size, l] := by
        intro z
        rcases List.mem_cons.1 z with z | z
        · exact Nat.ne_of_lt (by rw [szp]; exact Nat.lt_succ_self _) z
        · rcases List.mem_cons.1 z with z | z
          · exact Nat.ne_of_gt lt z
          · cases z
      have nW : ∀ c : Addr, c ≤ s.heap.objs.size → c ∉ [(s.heap.push (newSet b)).objs.size] := by
        intro c hc z
        rcases List.mem_cons.1 z with z | z
        · exact Nat.ne_of_lt (by rw [szp]; exact Nat.lt_succ_of_le hc) z
        · cases z
      refine grow_loop ((Walks.list (by simp [hh]) _ l nl items).toS) (S := s.heap.objs.size) nF (J := J) (fun i h h2 j k => keep i h h2 j fun c o hc e => k c o (nW c hc) e)
        (fun i v hv => add i v hv _ (by simp only [Around.in1_units]; omega)) items.size 0 _ (by omega) ⟨⟨_, Heap.get?_push_size _ rfl, rfl, rfl⟩, isl.push _⟩ (start b _ (fun c o e => Heap.get?_push_of_some _ (Heap.get?_push_of_some _ e)) (Heap.get?_push_of_some _ atS)) ?_
      rintro ⟨h2, g2, d2, tk, os2⟩ m j
      have e1 : g2 = s.gens := m.gens
      have e2 : d2 = s.drawn := m.drawn
      have e3 : os2 = s.os := m.os
      subst e1 e2 e3
      show wpAny _ _ _ _ _ _
      refine wpAny_pure ?_
      show wpAny _ _ (ret Value.none) _ _ _
      refine wpAny_pure ⟨rfl, h2, tk, rfl, j, fun c o hc e => m.heap c o ?_ (Heap.get?_push_of_some _ (Heap.get?_push_of_some _ e))⟩
      intro z
      rcases List.mem_cons.1 z with z | z
      · exact Nat.ne_of_lt hc z
      · exact nW c (Nat.le_of_lt hc) z
    · cases r2 with
      | error e => exact hr2
      | ok fl2 =>
       cases fl2 with
       | ret ob =>
        obtain ⟨rfl, h2, tk, rfl, j, k⟩ := hr2
        repeat (any_goals (first | assumption | wp_step))
        exact fin h2 tk j k
       | _ => exact hr2.elim
   | _ => exact hr.elim
end
end MiSet

namespace MiSet
open PySem PySem.Spec PyProof.Rows L2

section
variable {P : Program} {w : World} {A : Around} {E : Value → Shared → Prop} {s : Shared}
/-- a set of n things: what len asks -/
def SizeIs (h : Heap) (S : Addr) (n : Nat) : Prop := ∃ o es ep t, h.get? S = some o ∧ o.ExactSet ∧ o.data = .set es ep t ∧ t.fits es.size = true ∧ es.size = n
abbrev TxtT (P : Program) (w : World) (h : Heap) (ks : List Str) (b : Addr) : Prop := IsTupleKey (PySem.strKind P w) h ks b
theorem txt_items {k : List Str} {vs : List Value} (h : ItemsAre (PySem.strKind P w) k vs) : ∀ v ∈ vs, ∃ x t, v = Value.str x t := by
  induction h with
  | nil => exact fun _ z => nomatch z
  | cons h1 _ ih =>
    intro v hv
    rcases List.mem_cons.mp hv with e | hv
    · obtain ⟨t, e2⟩ := Value.isStrOf_shape h1
      exact ⟨_, t, by rw [e, e2]⟩
    · exact ih v hv
theorem hashBy_txt (n : Nat) (x : Str) (t : Tok) : hashByValue n (.str x t) = pure false := by
  cases n with
  | zero => rfl
  | succ n => rfl
theorem hashBy_txts {k : List Str} {b : Addr} {Q : Bool → Shared → Prop} (hk : TxtT P w s.heap k b) (h : ∀ c, Q c s) : wpAny (model P w) A (hashByValue 8 (.ref b)) Q E s := by
  have ty := hk.typeIs
  obtain ⟨ob, its, m, hb, _, dt, ia⟩ := hk
  unfold hashByValue
  refine wpAny_bind (wpAny_specialOf ty F.slot_tuple_hash.lookup ?_)
  show wpAny _ _ (seqItems? (.ref b) >>= _) _ _ s
  refine wpAny_bind (wpAny_seqItems hb dt ?_)
  refine wpAny_bind ?_
  show wpAny _ _ (forIn its _ _) _ _ s
  rw [← Array.forIn_toList]
  refine wpAny_forIn_list _ (fun rest r z => r.1 = none ∧ z = s ∧ ∀ v ∈ rest, ∃ x t, v = Value.str x t) _ ?_ ?_ _ _ ⟨rfl, rfl, txt_items ia⟩
  · rintro v rest r z ⟨_, rfl, all⟩
    obtain ⟨x, t, rfl⟩ := all v List.mem_cons_self
    rw [hashBy_txt]
    refine wpAny_bind (wpAny_pure ?_)
    simp only [Bool.not_false, if_true]
    exact wpAny_pure (wpAny_pure (h false))
  · rintro ⟨r1, r2⟩ z ⟨e, rfl, _⟩
    have e' : r1 = none := e
    subst e'
    exact wpAny_pure (h true)
theorem fresh_fits (b : Bool) : (SetTable.fresh 0 0 b).fits (#[] : Array (Int × Value)).size = true := rfl
theorem fresh_tab (b : Bool) : TabOk (SetTable.fresh 0 0 b) [] := ⟨List.Pairwise.nil, rfl, rfl, .inl rfl, fun x hx => (by cases hx), fun i h j hi => (by simp at hi)⟩
/-- a first tuple of texts -/
theorem add_first {S b : Addr} {led : Bool} {k : List Str} {h : Int} {Q : Bool → Shared → Prop} (ho : s.heap.get? S = some (newSet led)) (hk : TxtT P w s.heap k b)
    (hQ : ∀ h2, Heap.SameBut S s.heap h2 → SizeIs h2 S 1 → Q true { s with heap := h2 }) : wpAny (model P w) A (setAddHashed S (.ref b) h) Q E s := by
  have T := fresh_tab led
  have none0 : way 7 h 0 ∉ (SetTable.fresh 0 0 led).place.toList := fun z => nomatch z
  obtain ⟨_, _, q3, _, _, q6, _, _, q9⟩ := T.put (h := h) (K := 0) none0 (fun k hk => absurd hk (Nat.not_lt_zero _))
  unfold setAddHashed
  refine wpAny_holding ?_
  rw [show (100000 : Nat) = 99999 + 1 from rfl, setAddHashedIn_succ]
  refine wpAny_bind (wpAny_setState_of ho rfl (fresh_fits led) ?_)
  dsimp only
  refine wp_if_neg (by simp [byScan, Value.scannable]) ?_
  try refine wpAny_bind (wpAny_pure ?_)
  refine wpAny_bind ?_
  unfold setSearch
  rw [show (100000 : Nat) = 99999 + 1 from rfl, setSearchFrom_succ]
  refine wpAny_bind (wpAny_setState_of ho rfl (fresh_fits led) ?_)
  dsimp only
  refine wp_if_neg (by unfold SetTable.gaveWay; show ¬ ((7 % 2 == 0) = true); decide) ?_
  try refine wpAny_bind (wpAny_pure ?_)
  change wpAny _ _ (Sem.pure (SetFound.free (way 7 h 0) false)) _ _ _
  refine wpAny_pure ?_
  dsimp only
  refine wpAny_bind (wpAny_setState_of ho rfl (fresh_fits led) ?_)
  dsimp only
  have pl : ((SetTable.fresh 0 0 led).put (way 7 h 0)).1.plain = true := q6
  have q3' : TabOk ((SetTable.fresh 0 0 led).put (way 7 h 0)).1 [h] := by
    have z := q3
    simp only [List.take_nil, List.drop_nil, List.nil_append] at z
    exact z
  have q9' : ((SetTable.fresh 0 0 led).put (way 7 h 0)).1.fill = 1 := q9
  have mk : ((SetTable.fresh 0 0 led).put (way 7 h 0)).1.mask = 7 := by assumption
  generalize (SetTable.fresh 0 0 led).put (way 7 h 0) = pt at pl q3' q9' mk ⊢
  obtain ⟨t1, p⟩ := pt
  dsimp only at pl q3' q9' mk ⊢
  first
    | (refine wpAny_bind ?_; refine wp_if_pos pl ?_; refine hashBy_txts hk fun c => ?_)
    | refine wp_if_pos pl (wpAny_bind (hashBy_txts hk fun c => ?_))
  have t2q : ∃ t2 : SetTable, (if c = true then t1 else { t1 with plain := false }) = t2 ∧ t2.fill = 1 ∧ t2.mask = 7 ∧ t2.place.size = 1 := by
    have z := q3'.sz
    rw [List.length_singleton] at z
    cases c with
    | true => exact ⟨_, rfl, q9', mk, z⟩
    | false => exact ⟨_, rfl, q9', mk, z⟩
  obtain ⟨t2, et, tf, tm, tp⟩ := t2q
  rw [et]
  have sz : (SetTable.insertAt (#[] : Array (Int × Value)) p (h, Value.ref b)).size = 1 := by
    rw [← Array.length_toList, SetTable.toList_insertAt]
    simp
  generalize SetTable.insertAt (#[] : Array (Int × Value)) p (h, Value.ref b) = es1 at sz ⊢
  refine wpAny_bind (wpAny_storeSet_of ho rfl ?_ (by rw [sz, sizeLine_eq]; omega))
  have full : ¬ (t2.tooFull = true) := by
    unfold SetTable.tooFull
    rw [tf, tm]
    decide
  have sb : Heap.SameBut S s.heap (s.heap.update S (Obj.putSet es1 t2)) := Heap.SameBut.update ..
  have at1 : (s.heap.update S (Obj.putSet es1 t2)).get? S = some { newSet led with data := .set es1 (0 + 1) t2 } := by
    have z := Heap.get?_update_self (Obj.putSet es1 t2) ho (by rw [putSet_of es1 t2 rfl]; rfl)
    rw [z, putSet_of es1 t2 rfl]
  have fits : t2.fits es1.size = true := by
    unfold SetTable.fits
    rw [sz, tf, tm, tp]
    rfl
  have fin := hQ _ sb ⟨_, es1, 0 + 1, t2, at1, ⟨rfl, rfl, rfl⟩, rfl, fits, sz⟩
  first
    | (refine wp_if_neg (by simp [full]) ?_; exact wpAny_pure fin)
    | (refine wpAny_bind ?_; refine wp_if_neg (by simp [full]) ?_; refine wpAny_pure ?_; exact wpAny_pure fin)
end
end MiSet

namespace Mi
open PySem PySem.Spec PyProof.Rows L2
variable [ClsMap]

/-! ### dicts whose keys are ints and texts, in the store -/
def keyOf : W → Option Key
  | .int i => some (.inl i)
  | .str s => some (.inr s)
  | _ => none
def keq : Key → Key → Bool
  | .inl a, .inl b => a == b
  | .inr a, .inr b => a == b
  | _, _ => false
theorem keq_dec (a b : Key) : keq a b = decide (a = b) := by
  cases a with
  | inl x =>
    cases b with
    | inl y => rw [key_ll]; rfl
    | inr y => rw [key_lr]; rfl
  | inr x =>
    cases b with
    | inl y => rw [key_rl]; rfl
    | inr y =>
      rw [key_rr]
      show (x == y) = decide (x = y)
      by_cases e : x = y
      · subst e
        simp
      · rw [decide_eq_false e]
        exact beq_eq_false_iff_ne.mpr e
def valA : List (Key × W) → Key → Option W
  | [], _ => none
  | (j, w) :: r, k => if keq j k = true then some w else valA r k
def putA (kvs : List (Key × W)) (k : Key) (w : W) : List (Key × W) :=
  if (kvs.any fun kv => keq kv.1 k) = true then kvs.map (fun kv => if keq kv.1 k = true then (kv.1, w) else kv) else kvs ++ [(k, w)]
structure DsR (K : PySem.W.Frag) (p : Wh) (fs : List (Key × W)) (gs : List (Key × V)) : Prop where
  names : gs.map (·.1) = fs.map (·.1)
  vals : RWs K p (fs.map (·.2)) (gs.map (·.2))
section
variable {K : PySem.W.Frag} {p q : Wh}
theorem DsR.nil : DsR K p [] [] := ⟨rfl, rfl⟩
theorem DsR.cons {f : Key} {w : W} {v : V} {fs : List (Key × W)} {gs : List (Key × V)} (r : RW K p w v) (h : DsR K p fs gs) : DsR K p ((f, w) :: fs) ((f, v) :: gs) :=
  ⟨by simp only [List.map_cons, h.names], ⟨v, gs.map (·.2), rfl, r, h.vals⟩⟩
theorem DsR.out {f : Key} {w : W} {fs : List (Key × W)} {gs : List (Key × V)} (h : DsR K p ((f, w) :: fs) gs) : ∃ v r, gs = (f, v) :: r ∧ RW K p w v ∧ DsR K p fs r := by
  cases gs with
  | nil =>
    have e := h.names
    cases e
  | cons g r =>
    obtain ⟨v, rs, e, h1, h2⟩ := h.vals
    have e1 := h.names
    simp only [List.map_cons, List.cons.injEq] at e1 e
    obtain ⟨e2, e3⟩ := e1
    refine ⟨v, r, ?_, h1, e3, by rw [e.2]; exact h2⟩
    rw [← e2, ← e.1]
theorem DsR.nilOut {gs : List (Key × V)} (h : DsR K p [] gs) : gs = [] := by
  have e := h.names
  cases gs with
  | nil => rfl
  | cons g r => cases e
theorem DsR.move (s : Mv p q) {fs : List (Key × W)} {gs : List (Key × V)} (h : DsR K p fs gs) : DsR K q fs gs := ⟨h.names, RWs.move s _ _ h.vals⟩
theorem DsR.val {k : Key} : ∀ {fs : List (Key × W)} {gs : List (Key × V)}, DsR K p fs gs → (∀ w, valA fs k = some w → ∃ v, valV gs k = some v ∧ RW K p w v) ∧ (valA fs k = none → valV gs k = none)
  | [], gs, h => by
    rw [h.nilOut]
    exact ⟨fun w e => (nomatch e), fun _ => rfl⟩
  | (j, x) :: fs, gs, h => by
    obtain ⟨u, r, rfl, h1, h2⟩ := h.out
    unfold valA
    rw [keq_dec]
    by_cases c : j = k
    · rw [if_pos (decide_eq_true c), valV_pos (p := (j, u)) c]
      refine ⟨fun w e => ?_, fun e => (nomatch e)⟩
      cases e
      exact ⟨u, rfl, h1⟩
    · rw [if_neg (by rw [decide_eq_false c]; exact Bool.false_ne_true), valV_neg (p := (j, u)) c]
      exact h2.val
theorem DsR.any {k : Key} : ∀ {fs : List (Key × W)} {gs : List (Key × V)}, DsR K p fs gs → (gs.any fun kv => decide (kv.1 = k)) = fs.any fun kv => keq kv.1 k
  | [], gs, h => by
    rw [h.nilOut]
    rfl
  | (j, x) :: fs, gs, h => by
    obtain ⟨u, r, rfl, h1, h2⟩ := h.out
    rw [List.any_cons, List.any_cons, h2.any, keq_dec]
theorem DsR.over {k : Key} {w : W} {v : V} (hv : RW K p w v) : ∀ {fs : List (Key × W)} {gs : List (Key × V)}, DsR K p fs gs →
    DsR K p (fs.map fun kv => if keq kv.1 k = true then (kv.1, w) else kv) (gs.map fun kv => if kv.1 = k then (kv.1, v) else kv)
  | [], gs, h => by
    rw [h.nilOut]
    exact .nil
  | (j, x) :: fs, gs, h => by
    obtain ⟨u, r, rfl, h1, h2⟩ := h.out
    rw [List.map_cons, List.map_cons, keq_dec]
    by_cases c : j = k
    · rw [if_pos (decide_eq_true c), if_pos c]
      exact (h2.over hv).cons hv
    · rw [if_neg (by rw [decide_eq_false c]; exact Bool.false_ne_true), if_neg c]
      exact (h2.over hv).cons h1
theorem DsR.snoc {k : Key} {w : W} {v : V} (hv : RW K p w v) : ∀ {fs : List (Key × W)} {gs : List (Key × V)}, DsR K p fs gs → DsR K p (fs ++ [(k, w)]) (gs ++ [(k, v)])
  | [], gs, h => by
    rw [h.nilOut]
    exact DsR.nil.cons hv
  | (j, x) :: fs, gs, h => by
    obtain ⟨u, r, rfl, h1, h2⟩ := h.out
    exact (h2.snoc hv).cons h1
theorem DsR.put {k : Key} {w : W} {v : V} {fs : List (Key × W)} {gs : List (Key × V)} (h : DsR K p fs gs) (hv : RW K p w v) : DsR K p (putA fs k w) (putK gs k v) := by
  unfold putA putK
  rw [h.any]
  by_cases c : (fs.any fun kv => keq kv.1 k) = true
  · rw [if_pos c, if_pos c]
    exact h.over hv
  · rw [if_neg c, if_neg c]
    exact h.snoc hv
theorem DsR.length {fs : List (Key × W)} {gs : List (Key × V)} (h : DsR K p fs gs) : gs.length = fs.length := by
  have e := congrArg List.length h.names
  simpa using e
theorem SR.atD {st : Store} (S : SR K p st) {n : Nat} {fs : List (Key × W)} (h : st[n]? = some (.dct fs)) : n < p.n ∧ ∃ gs, p.H (p.ρ n) = some (.dK gs) ∧ DsR K p fs gs := by
  refine ⟨by rw [S.len]; exact (List.getElem?_eq_some_iff.mp h).1, ?_⟩
  obtain ⟨gs, e, l, k⟩ := S.obj n _ h
  exact ⟨gs, e, l, k⟩
theorem sr_mutD {st : Store} (S : SR K p st) {n : Nat} (hn : n < p.n) {fs : List (Key × W)} {gs : List (Key × V)} (r : DsR K p fs gs) : SR K { p with H := upd p.H (p.ρ n) (.dK gs) } (st.set n (.dct fs)) := by
  have t : Step p { p with H := upd p.H (p.ρ n) (.dK gs) } := step_mut S hn
  refine ⟨by rw [List.length_set]; exact S.len, S.inj, fun i u e => ?_, fun b z => ⟨t.hth b z, (S.hid b z).2⟩⟩
  show RO K _ u (upd p.H (p.ρ n) (.dK gs) (p.ρ i))
  by_cases z : n = i
  · subst z
    rw [List.getElem?_set_self (by rw [← S.len]; exact hn)] at e
    cases e
    rw [upd_same]
    exact ⟨gs, rfl, r.names, RWs.step t _ _ r.vals⟩
  · rw [List.getElem?_set_ne z] at e
    have hi : i < p.n := by
      rw [S.len]
      exact (List.getElem?_eq_some_iff.mp e).1
    rw [upd_ne (fun e => z (S.inj i n hi hn e).symm)]
    exact (S.obj i u e).step t
theorem keyOf_of {w : W} {v : V} {k : Key} (h : keyOf w = some k) (r : RW K p w v) : v = kV k := by
  cases w with
  | int i =>
    cases h
    exact r
  | str s =>
    cases h
    exact r
  | _ => cases h
end
/-- the dict that a value leads to -/
def dctOf (st : Store) : W → Option (Nat × List (Key × W))
  | .ref n => match st[n]? with
    | some (.dct kvs) => some (n, kvs)
    | _ => none
  | _ => none
theorem dctOf_of {K : PySem.W.Frag} {p : Wh} {st : Store} (S : SR K p st) {w : W} {v : V} {n : Nat} {kvs : List (Key × W)} (h : dctOf st w = some (n, kvs)) (r : RW K p w v) : w = .ref n ∧ n < p.n ∧ v = .ref (p.ρ n) ∧ ∃ gs, p.H (p.ρ n) = some (.dK gs) ∧ DsR K p kvs gs := by
  cases w with
  | ref m =>
    dsimp only [dctOf] at h
    cases e : st[m]? with
    | none =>
      rw [e] at h
      cases h
    | some o =>
      rw [e] at h
      cases o with
      | dct xs =>
        cases h
        obtain ⟨hn, gs, hH, d⟩ := S.atD e
        exact ⟨rfl, hn, r.2, gs, hH, d⟩
      | _ => cases h
  | _ => cases h
/-- {} | d[k] | k in d | d[k] = v -/
def mNewD : Ev W := fun _ st => .ok (.ref st.length) (st ++ [.dct []])
def fDGet : W → W → Store → Res W := fun o y st => match dctOf st o, keyOf y with
  | some nk, some k => match valA nk.2 k with
    | some w => .ok w st
    | none => .bad
  | _, _ => .bad
def fDIn : W → W → Store → Res W := fun y o st => match dctOf st o, keyOf y with
  | some nk, some k => .ok (.bl (valA nk.2 k).isSome) st
  | _, _ => .bad
def putD (o y v : W) (st : Store) : Option Store := match dctOf st o, keyOf y with
  | some nk, some k => if nk.2.length < 100000 then some (st.set nk.1 (.dct (putA nk.2 k v))) else none
  | _, _ => none
def sDPutM (me mo mi : Ev W) : Sm := liftE me fun v env st => liftE mo (fun o env st => liftE mi (fun y env st => match putD o y v st with
  | some s2 => .go (.nx env) s2
  | none => .bad) env st) env st
section
variable {X : Cx} {Wx : WX} {o i e : Expr} {mo mi me : Ev W} {pos p2 : Pos}
theorem ge_newD : GE X Wx (.Dict [] [] pos) mNewD :=
  PEimp pe_dnewK fun σ H Q ⟨p, st, env, hp, S, E, h⟩ a ha => by
    subst hp
    have t := step_more (o := HO.dK []) S ha
    have S2 := sr_moreO (o := .dct []) (ho := HO.dK []) S ha ⟨[], rfl, rfl, rfl⟩
    refine h _ (.ref a) t S2 ⟨?_, ?_⟩
    · rw [← S.len]
      exact Nat.lt_succ_self _
    · show V.ref a = V.ref (if st.length = p.n then a else p.ρ st.length)
      rw [if_pos S.len.symm]
theorem ge_dget (hu : X.A.units + 1 < cLine) (ho : GE X Wx o mo) (hi : GE X Wx i mi) (hs : NoSl i := by intro _ _; rfl) : GE X Wx (.Subscript o i pos) (mOp fDGet mo mi) :=
  PEimp (pe_dget hu ho hi hs) fun σ H Q ⟨p, st, env, hp, S, E, h⟩ => tG_bind hp S E h fun q s1 x v t1 S1 E1 rx h1 => tG_bind rfl S1 E1 h1 fun q2 s2 y u t2 S2 E2 ry h2 => by
    have rx := RW.step t2 x v rx
    unfold fDGet at h2
    cases ed : dctOf s2 x with
    | none =>
      rw [ed] at h2
      exact h2.elim
    | some nk =>
      cases ek : keyOf y with
      | none =>
        rw [ed, ek] at h2
        exact h2.elim
      | some k =>
        rw [ed, ek] at h2
        dsimp only at h2
        obtain ⟨_, _, ev, gs, hH, d⟩ := dctOf_of S2 (n := nk.1) (kvs := nk.2) ed rx
        cases ew : valA nk.2 k with
        | none =>
          rw [ew] at h2
          exact h2.elim
        | some w =>
          rw [ew] at h2
          obtain ⟨z, hz, rz⟩ := d.val.1 w ew
          have g := DGet.k (k := k) hH
          rw [hz] at g
          rw [keyOf_of ek ry]
          exact ⟨_, z, ev, g, fin_ok S2 h2 rz⟩
theorem din_of {σ : L2.St} {H : Hp} {Q : VK} (h : tG X.K X.mg (RW X.K) Wx (mOp fDIn mi mo) σ H Q) : tDIn (tG X.K X.mg (RW X.K) Wx mi) (tG X.K X.mg (RW X.K) Wx mo) σ H Q := by
  obtain ⟨p, st, env, hp, S, E, h⟩ := h
  refine tG_bind hp S E h fun q s1 y u t1 S1 E1 ry h1 => tG_bind rfl S1 E1 h1 fun q2 s2 x v t2 S2 E2 rx h2 => ?_
  have ry := RW.step t2 y u ry
  unfold fDIn at h2
  cases ed : dctOf s2 x with
  | none =>
    rw [ed] at h2
    exact h2.elim
  | some nk =>
    cases ek : keyOf y with
    | none =>
      rw [ed, ek] at h2
      exact h2.elim
    | some k =>
      rw [ed, ek] at h2
      dsimp only at h2
      obtain ⟨_, _, ev, gs, hH, d⟩ := dctOf_of S2 (n := nk.1) (kvs := nk.2) ed rx
      have g := DGet.k (k := k) hH
      rw [keyOf_of ek ry]
      refine ⟨_, _, ev, g, fin_ok S2 h2 ?_⟩
      cases ew : valA nk.2 k with
      | none =>
        rw [d.val.2 ew]
        exact rfl
      | some w =>
        obtain ⟨z, hz, _⟩ := d.val.1 w ew
        rw [hz]
        exact rfl
theorem ge_din (hu : X.A.units + 1 < cLine) (hi : GE X Wx i mi) (ho : GE X Wx o mo) (hm : behindInMarks .In o = false := by rfl) : GE X Wx (.Compare i [.In] [o] pos) (mOp fDIn mi mo) :=
  PEimp (pe_cmp (pc_din hu hi ho) hm) fun σ H Q h => din_of h
theorem gt_din (hu : X.A.units + 1 < cLine) (hi : GE X Wx i mi) (ho : GE X Wx o mo) (hm : behindInMarks .In o = false := by rfl) : GT X Wx (.Compare i [.In] [o] pos) (mB (mOp fDIn mi mo)) :=
  PTimp (pt_cmp (pc_din hu hi ho) hm) fun σ H Q h => din_of (asB_of h)
theorem gs_dput (hu : X.A.units + 1 < cLine) (ho : GE X Wx o mo) (hi : GE X Wx i mi) (he : GE X Wx e me) (hs : swapsWith e (some (.Subscript o i p2)) pos.line X.env = pure false := by rfl) : GS X Wx (.Assign [.Subscript o i p2] e pos) (sDPutM me mo mi) :=
  PSimp (ps_dput hu ho hi he hs) fun D σ H ⟨p, st, env, hp, S, E, h⟩ => lift_of hp S E h fun q s1 w v t S1 E1 r h1 => lift_of rfl S1 E1 h1 fun q2 s2 x v2 t2 S2 E2 r2 h2 => lift_of rfl S2 E2 h2 fun q3 s3 y v3 t3 S3 E3 r3 h3 => by
    have r := RW.step (t2.trans t3) w v r
    have r2 := RW.step t3 x v2 r2
    unfold putD at h3
    cases ed : dctOf s3 x with
    | none =>
      rw [ed] at h3
      exact h3.elim
    | some nk =>
      cases ek : keyOf y with
      | none =>
        rw [ed, ek] at h3
        exact h3.elim
      | some k =>
        rw [ed, ek] at h3
        dsimp only at h3
        obtain ⟨_, hn, ev, gs, hH, d⟩ := dctOf_of S3 (n := nk.1) (kvs := nk.2) ed r2
        by_cases c : nk.2.length < 100000
        · rw [if_pos c] at h3
          rw [keyOf_of ek r3]
          refine ⟨_, _, ev, DPut.k hH (by rw [d.length]; exact Nat.lt_of_lt_of_le c (by decide)), ?_⟩
          exact h3 { q3 with H := upd q3.H (q3.ρ nk.1) (.dK (putK gs k v)) } σ (step_mut S3 hn) (sr_mutD S3 hn (d.put r)) (E3.step (step_mut S3 hn))
        · rw [if_neg c] at h3
          exact h3.elim
end

/-! ### {k: v for x, y in zip(a, b)} over two tuples -/
def dcEach (put : W → En → En) (tt : Ev Bool) (tk tv : Ev W) (env : En) : List W → List (Key × W) → Store → Res (List (Key × W))
  | [], acc, st => .ok acc st
  | x :: xs, acc, st => (noX (tt (put x env) st)).bind fun b s1 =>
    if b = true then (noX (tk (put x env) s1)).bind fun y s2 => (noX (tv (put x env) s2)).bind fun z s3 => match keyOf y with
      | some k => if acc.length < 100000 then dcEach put tt tk tv env xs (putA acc k z) s3 else .bad
      | none => .bad
    else dcEach put tt tk tv env xs acc s1
def asDct (r : Res (List (Key × W))) : Res W := r.bind fun acc s => .ok (.ref s.length) (s ++ [.dct acc])
def zipW : List W → List W → List W
  | x :: xs, y :: ys => .tup [x, y] :: zipW xs ys
  | _, _ => []
def twoTups : List W → Option (List W × List W)
  | [.tup xs, .tup ys] => some (xs, ys)
  | _ => none
def mDcZ (vs : List Nat) (put : W → En → En) (ml : Ev (List W)) (tt : Ev Bool) (tk tv : Ev W) : Ev W := fun env st => (ml env st).bind fun ws s1 => match twoTups ws with
  | some xy => asDct (dcEach put tt tk tv (wipeE env vs) (zipW xy.1 xy.2) [] s1)
  | none => .bad
section
variable {K : PySem.W.Frag} {mg : Str → Option Value} {p q : Wh} {st : Store} {env : En} {σ : L2.St} {D : Addr}
theorem zipW_get : ∀ {xs ys : List W} {i : Nat} {x y : W}, xs[i]? = some x → ys[i]? = some y → (zipW xs ys)[i]? = some (.tup [x, y])
  | [], _, i, _, _, h, _ => by simp at h
  | _ :: _, [], i, _, _, _, h => by simp at h
  | a :: xs, b :: ys, 0, x, y, h, h2 => by
    simp only [List.getElem?_cons_zero, Option.some.injEq] at h h2
    rw [← h, ← h2]
    rfl
  | a :: xs, b :: ys, i + 1, x, y, h, h2 => by
    simp only [List.getElem?_cons_succ] at h h2
    show (zipW xs ys)[i]? = _
    exact zipW_get h h2
theorem zipW_end : ∀ {xs ys : List W} {i : Nat}, (xs.length ≤ i ∨ ys.length ≤ i) → (zipW xs ys).length ≤ i
  | [], _, i, _ => Nat.zero_le _
  | _ :: _, [], i, _ => Nat.zero_le _
  | a :: xs, b :: ys, 0, h => by simp at h
  | a :: xs, b :: ys, i + 1, h => by
    show (zipW xs ys).length + 1 ≤ i + 1
    exact Nat.succ_le_succ (zipW_end (by simpa using h))
/-- a hidden dict while it is made -/
theorem mv_hideD (S : SR K p st) (h : p.H D = none) (o : HO) : Mv p { p with H := upd p.H D o, x := D :: p.x } := by
  have t := step_new (o := o) S h
  refine ⟨Nat.le_refl _, fun _ _ => rfl, t.keep, fun i h1 h2 => absurd h2 (Nat.not_lt.mpr h1), t.there, fun a z => ?_, t.hth⟩
  rcases List.mem_cons.mp z with z | z
  · exact .inr (by rw [z]; exact h)
  · exact .inl z
theorem sr_hideD (S : SR K p st) (h : p.H D = none) (o : HO) : SR K { p with H := upd p.H D o, x := D :: p.x } st := by
  have t := sr_new (o := o) S h
  have m := mv_hideD S h o
  refine ⟨t.len, t.inj, fun i u e => ?_, fun a z => ?_⟩
  · have hi : i < p.n := by
      rw [S.len]
      exact (List.getElem?_eq_some_iff.mp e).1
    have r := (S.obj i u e).move m
    show RO K _ u (upd p.H D o (p.ρ i))
    rw [upd_ne (fun e => S.there i hi (by rw [e]; exact h))]
    exact r
  · rcases List.mem_cons.mp z with z | z
    · subst z
      refine ⟨?_, fun i hi e => S.there i hi (by rw [e]; exact h)⟩
      show upd p.H a o a ≠ none
      rw [upd_same]
      exact fun z => nomatch z
    · exact ⟨m.hth a z, (S.hid a z).2⟩
/-- what was hidden becomes a thing of the store -/
def Wh.grown (q : Wh) (D : Addr) (x : List Addr) : Wh := ⟨fun i => if i = q.n then D else q.ρ i, q.n + 1, q.H, x⟩
theorem mv_grown (S : SR K q st) (hD : D ∈ q.x) {x : List Addr} (hx : ∀ a, a ∈ x → a ∈ q.x) : Mv q (q.grown D x) := by
  refine ⟨Nat.le_succ _, fun i hi => if_neg (Nat.ne_of_lt hi), fun a o e _ => e, fun i h1 h2 => ?_, fun i hi => ?_, fun a z => .inl (hx a z), fun a z => (S.hid a z).1⟩
  · have e : i = q.n := Nat.le_antisymm (Nat.lt_succ_iff.mp h2) h1
    refine .inr ?_
    show (if i = q.n then D else q.ρ i) ∈ q.x
    rw [if_pos e]
    exact hD
  · show q.H (if i = q.n then D else q.ρ i) ≠ none
    by_cases e : i = q.n
    · rw [if_pos e]
      exact (S.hid D hD).1
    · have hi' : i < q.n + 1 := hi
      rw [if_neg e]
      exact S.there i (by omega)
theorem sr_grown (S : SR K q st) (hD : D ∈ q.x) {x : List Addr} (hx : ∀ a, a ∈ x → a ∈ q.x) (nx : D ∉ x) {o : O} (r : RO K q o (q.H D)) : SR K (q.grown D x) (st ++ [o]) := by
  have m := mv_grown S hD hx
  refine ⟨by rw [List.length_append, ← S.len]; rfl, fun i j hi hj e => ?_, fun i u e => ?_, fun b z => ⟨(S.hid b (hx b z)).1, fun i hi e => ?_⟩⟩
  · have hi' : i < q.n + 1 := hi
    have hj' : j < q.n + 1 := hj
    have e' : (if i = q.n then D else q.ρ i) = (if j = q.n then D else q.ρ j) := e
    by_cases h1 : i = q.n
    · by_cases h2 : j = q.n
      · omega
      · rw [if_pos h1, if_neg h2] at e'
        exact absurd e'.symm ((S.hid D hD).2 j (by omega))
    · by_cases h2 : j = q.n
      · rw [if_neg h1, if_pos h2] at e'
        exact absurd e' ((S.hid D hD).2 i (by omega))
      · rw [if_neg h1, if_neg h2] at e'
        exact S.inj i j (by omega) (by omega) e'
  · show RO K _ u (q.H (if i = q.n then D else q.ρ i))
    by_cases h1 : i = q.n
    · rw [if_pos h1]
      rw [h1, S.len, List.getElem?_append_right (Nat.le_refl _)] at e
      have e' : o = u := by simpa using e
      subst e'
      exact r.move m
    · have hi : i < (st ++ [o]).length := (List.getElem?_eq_some_iff.mp e).1
      rw [List.length_append, List.length_singleton, ← S.len] at hi
      rw [if_neg h1]
      rw [List.getElem?_append_left (by rw [← S.len]; omega)] at e
      exact (S.obj i u e).move m
  · have hi' : i < q.n + 1 := hi
    have e' : (if i = q.n then D else q.ρ i) = b := e
    by_cases h1 : i = q.n
    · rw [if_pos h1] at e'
      exact nx (by rw [e']; exact z)
    · rw [if_neg h1] at e'
      exact (S.hid b (hx b z)).2 i (by omega) e'

def DcT (K : PySem.W.Frag) (mg : Str → Option Value) (Wx : WX) (put : W → En → En) (tt : Ev Bool) (tk tv : Ev W) (env : En) (p : Wh) (D : Addr) (σ : L2.St) (Q : VK) (xs : List W) (i : Nat) (H' : Hp) : Prop :=
  ∃ (q : Wh) (s2 : Store) (acc : List (Key × W)) (accV : List (Key × V)), q.H = H' ∧ q.x = D :: p.x ∧ Mv p q ∧ (∀ a, a ∈ p.x → q.H a = p.H a) ∧ SR K q s2 ∧ q.H D = some (.dK accV) ∧ DsR K q acc accV ∧
    Fin K mg (RW K) Wx p σ Q (asDct (dcEach put tt tk tv env (xs.drop i) acc s2))
theorem dc_start {Wx : WX} {put : W → En → En} {tt : Ev Bool} {tk tv : Ev W} {Q : VK} {xs : List W} (S : SR K p st) (hD : p.H D = none) (h : Fin K mg (RW K) Wx p σ Q (asDct (dcEach put tt tk tv env xs [] st))) :
    DcT K mg Wx put tt tk tv env p D σ Q xs 0 (upd p.H D (.dK [])) :=
  ⟨{ p with H := upd p.H D (.dK []), x := D :: p.x }, st, [], [], rfl, rfl, mv_hideD S hD _, (step_new (o := .dK []) S hD).hk, sr_hideD S hD _, upd_same, .nil, h⟩
theorem dc_turn {Wx : WX} {put : W → En → En} {tt : Ev Bool} {tk tv : Ev W} {Q : VK} {xs : List W} {i : Nat} {g : TG} {w : W} {v : V} {own : List Nat} {H' H'2 : Hp} (S : SR K p st) (hD : p.H D = none) (E : EnvR K p env σ) (hg : PutLc K g put own xs) (hw : xs[i]? = some w)
    (h : DcT K mg Wx put tt tk tv (wipeE env own) p D σ Q xs i H')
    (hv : ∀ q : Wh, q.H = H' → q.x = D :: p.x → Mv p q → (∀ a, a ∈ p.x → q.H a = p.H a) → ∀ s2, SR K q s2 → ∃ q2 : Wh, Step q q2 ∧ SR K q2 s2 ∧ RW K q2 w v ∧ q2.H = H'2) : g v (wipe σ own) H'2 fun σ2 H2 => wipe σ2 own = wipe σ own ∧ tG K mg eqR W0 tt σ2 H2 fun b H3 =>
      if b = true then tG K mg (RW K) W0 tk σ2 H3 fun y H4 => tG K mg (RW K) W0 tv σ2 H4 fun z H5 => ∃ kvs k, y = kV k ∧ H5 D = some (.dK kvs) ∧ kvs.length < sizeLine ∧ DcT K mg Wx put tt tk tv (wipeE env own) p D σ Q xs (i + 1) (upd H5 D (.dK (putK kvs k z)))
      else DcT K mg Wx put tt tk tv (wipeE env own) p D σ Q xs (i + 1) H3 := by
  obtain ⟨q0, s2, acc, accV, e0, ex, m, hk, S2, hA, ra, hF⟩ := h
  obtain ⟨q, tq, Sq, r, rfl⟩ := hv q0 e0 ex m hk s2 S2
  have hD0 : D ∈ q0.x := by
    rw [ex]
    exact List.mem_cons_self
  have hDq : D ∈ q.x := by
    rw [tq.xs]
    exact hD0
  have exq : q.x = D :: p.x := tq.xs.trans ex
  have m := m.trans tq.toMv
  have hk : ∀ a, a ∈ p.x → q.H a = p.H a := fun a z => (tq.hk a (by rw [ex]; exact List.mem_cons_of_mem _ z)).trans (hk a z)
  have hA : q.H D = some (.dK accV) := (tq.hk D hD0).trans hA
  have ra := ra.move tq.toMv
  obtain ⟨hl, hw'⟩ := List.getElem?_eq_some_iff.mp hw
  rw [List.drop_eq_getElem_cons hl, hw'] at hF
  refine hg q w v (wipeE env own) (wipe σ own) _ (List.mem_of_getElem? hw) r ((E.wiped own).move m) fun σ2 E2 ew => ⟨ew.trans (wipe_wipe σ), q, s2, put w (wipeE env own), rfl, Sq, E2, ?_⟩
  unfold asDct dcEach at hF
  cases e1 : tt (put w (wipeE env own)) s2 with
  | bad =>
    rw [e1] at hF
    exact hF
  | exc x s3 =>
    rw [e1] at hF
    exact hF.elim
  | ok b s3 =>
    rw [e1] at hF
    intro q3 b' t3 S3 eb
    have eb' : b = b' := eb
    subst eb'
    have keep3 : ∀ a, a ∈ p.x → q3.H a = p.H a := fun a z => (t3.hk a (by rw [exq]; exact List.mem_cons_of_mem _ z)).trans (hk a z)
    have hA3 : q3.H D = some (.dK accV) := (t3.hk D hDq).trans hA
    cases b with
    | false => exact ⟨q3, s3, acc, accV, rfl, t3.xs.trans exq, m.trans t3.toMv, keep3, S3, hA3, ra.move t3.toMv, hF⟩
    | true =>
      refine ⟨q3, s3, put w (wipeE env own), rfl, S3, E2.step t3, ?_⟩
      have hF' : Fin K mg (RW K) Wx p σ Q (((noX (tk (put w (wipeE env own)) s3)).bind fun y s2 => (noX (tv (put w (wipeE env own)) s2)).bind fun z s3 => match keyOf y with
        | some k => if acc.length < 100000 then dcEach put tt tk tv (wipeE env own) (List.drop (i + 1) xs) (putA acc k z) s3 else .bad
        | none => .bad).bind fun acc s => .ok (.ref s.length) (s ++ [.dct acc])) := hF
      cases e2 : tk (put w (wipeE env own)) s3 with
      | bad =>
        rw [e2] at hF'
        exact hF'
      | exc x s4 =>
        rw [e2] at hF'
        exact hF'.elim
      | ok y s4 =>
        rw [e2] at hF'
        intro q4 yv t4 S4 r4
        refine ⟨q4, s4, put w (wipeE env own), rfl, S4, E2.step (t3.trans t4), ?_⟩
        have hF2 : Fin K mg (RW K) Wx p σ Q (((noX (tv (put w (wipeE env own)) s4)).bind fun z s3 => match keyOf y with
          | some k => if acc.length < 100000 then dcEach put tt tk tv (wipeE env own) (List.drop (i + 1) xs) (putA acc k z) s3 else .bad
          | none => .bad).bind fun acc s => .ok (.ref s.length) (s ++ [.dct acc])) := hF'
        cases e3 : tv (put w (wipeE env own)) s4 with
        | bad =>
          rw [e3] at hF2
          exact hF2
        | exc x s5 =>
          rw [e3] at hF2
          exact hF2.elim
        | ok z s5 =>
          rw [e3] at hF2
          intro q5 zv t5 S5 r5
          have hF3 : Fin K mg (RW K) Wx p σ Q ((match keyOf y with
            | some k => if acc.length < 100000 then dcEach put tt tk tv (wipeE env own) (List.drop (i + 1) xs) (putA acc k z) s5 else .bad
            | none => .bad : Res (List (Key × W))).bind fun acc s => .ok (.ref s.length) (s ++ [.dct acc])) := hF2
          cases ek : keyOf y with
          | none =>
            rw [ek] at hF3
            exact hF3.elim
          | some k =>
            rw [ek] at hF3
            dsimp only at hF3
            by_cases c : acc.length < 100000
            · rw [if_pos c] at hF3
              have t35 := (t3.trans t4).trans t5
              have hD5 : D ∈ q5.x := by
                rw [t35.xs]
                exact hDq
              have ma := mv_write S5 hD5 (.dK (putK accV k zv))
              have r5' := RW.move ma z zv r5
              refine ⟨accV, k, keyOf_of ek r4, (t35.hk D hDq).trans hA, by rw [ra.length]; exact Nat.lt_of_lt_of_le c (by decide), { q5 with H := upd q5.H D (.dK (putK accV k zv)) }, s5, putA acc k z, putK accV k zv, rfl, t35.xs.trans exq,
                (m.trans t35.toMv).trans ma, fun a za => ?_, sr_write S5 hD5 _, upd_same, ((ra.move t35.toMv).move ma).put r5', hF3⟩
              have hne : a ≠ D := fun e => (S.hid a za).1 (by rw [e]; exact hD)
              show upd q5.H D _ a = p.H a
              rw [upd_ne hne]
              exact (t35.hk a (by rw [exq]; exact List.mem_cons_of_mem _ za)).trans (hk a za)
            · rw [if_neg c] at hF3
              exact hF3.elim
theorem dc_end {Wx : WX} {put : W → En → En} {tt : Ev Bool} {tk tv : Ev W} {Q : VK} {xs : List W} {H' : Hp} {i : Nat} (S : SR K p st) (hD : p.H D = none) (hi : xs.length ≤ i) (h : DcT K mg Wx put tt tk tv env p D σ Q xs i H') : Q (.ref D) H' := by
  obtain ⟨q, s2, acc, accV, rfl, ex, m, hk, S2, hA, ra, hF⟩ := h
  rw [List.drop_of_length_le hi] at hF
  have sub : ∀ a, a ∈ p.x → a ∈ q.x := fun a z => by
    rw [ex]
    exact List.mem_cons_of_mem _ z
  have hDq : D ∈ q.x := by
    rw [ex]
    exact List.mem_cons_self
  have nx : D ∉ p.x := fun z => (S.hid D z).1 hD
  have ms := mv_grown S2 hDq sub
  refine hF (q.grown D p.x) (.ref D) ⟨m.trans ms, rfl, hk⟩ (sr_grown S2 hDq sub nx ⟨accV, hA, ra.names, ra.vals⟩) ⟨?_, ?_⟩
  · rw [← S2.len]
    exact Nat.lt_succ_self _
  · show V.ref D = V.ref (if s2.length = q.n then D else q.ρ s2.length)
    rw [if_pos S2.len.symm]
end
end Mi

namespace Mi
open PySem PySem.Spec PyProof.Rows L2
variable [ClsMap]

section
variable {X : Cx}
/-- name = {..} on one line, the name a local -/
theorem ps_setDc {i : Nat} {y : Str} {py : Pos} {kx vx tg iter : Expr} {ifs : List Expr} {scope : Scope} {own : List (Str × Nat)} {pos spos : Pos} {wi : TI} {g : TG} {tt : TT} {tk tv : TE} (hc : X.calm = true) (hN : X.N.Nodup) (hy : X.N[i]? = some y) (hyl : X.env.scope.names.lookup y = some .local)
    (hsw : swapsWith (.DictComp kx vx [⟨tg, iter, ifs, 0⟩] scope pos) (some (.Name y py)) spos.line X.env = pure true) (hi : PI X tg iter wi) (ok : BlkOk X.N X.env.scope scope own)
    (hg : ∀ (s : Shared) (H : Hp) (C : Addr) (cl : List (Str × Addr)) (fp : List Addr), PG (X.blk s H scope (compEnvC scope cl C X.env) fp) tg g) (ht : ∀ (s : Shared) (H : Hp) (C : Addr) (cl : List (Str × Addr)) (fp : List Addr), PTs (X.blk s H scope (compEnvC scope cl C X.env) fp) ifs tt)
    (hk : ∀ (s : Shared) (H : Hp) (C : Addr) (cl : List (Str × Addr)) (fp : List Addr), PE (X.blk s H scope (compEnvC scope cl C X.env) fp) kx tk)
    (he : ∀ (s : Shared) (H : Hp) (C : Addr) (cl : List (Str × Addr)) (fp : List Addr), PE (X.blk s H scope (compEnvC scope cl C X.env) fp) vx tv) (hs : ∀ x, foldedSetIterable iter X.env x = pure x := by intro _; rfl) :
    PS X (.Assign [.Name y py] (.DictComp kx vx [⟨tg, iter, ifs, 0⟩] scope pos) spos) (tAsg (tDc wi g tt tk tv (own.map (·.2))) (gName i)) := by
  refine ⟨fun pins s σ H D I h => ?_⟩
  rw [exec_Assign_Name_used _ _ _ _ hsw]
  refine wpAny_bind (wpAny_standAt (wpAny_bind ?_))
  show wpAny _ X.A (do let _ ← comprehension (.DictComp kx vx [⟨tg, iter, ifs, 0⟩] scope pos) scope X.env (firstIterPos [⟨tg, iter, ifs, 0⟩] pos) newDict false (eval iter X.env) (some (assign (.Name y py) X.env))) _ _ s
  have h : tDc wi g tt tk tv (own.map (·.2)) σ H (fun x H1 => gName i x σ H1 D.nx) := h
  refine wpAny_bind (thn (dc_core (Qf := fun _ s' => SP X pins D .next s') hc hN I hi ok hg ht hk he hs h fun L C s' m H' I' q hn f => ?_) fun _ s' hq => wpAny_pure (wpAny_pure hq))
  show wpAny _ _ (assign (.Name y py) X.env (.ref L)) _ _ _
  obtain ⟨f0, f1, f2, f3, f4, f5⟩ := f
  refine wpAny_assign_Name (store_ok2 (v := V.ref L) I' hN hy (.inl hyl) rfl (fun s2 I2 ⟨a, sb, ha⟩ => ⟨m, hn.sameBut sb ?_, fun h3 sb3 => ?_⟩) (.inr hyl))
  · rcases ha with z | z
    · exact fun e => f1 (e.trans z)
    · exact fun e => f4 y a z e.symm
  · exact ⟨_, H', I2.turned (t' := s2.toks) (fun b o hb e => (sb3.2 b hb).trans e) f0 f1 f3 f4 f5, q⟩
end
theorem zipW_two {xs ys : List W} : ∀ w ∈ zipW xs ys, ∃ zs, w = .tup zs ∧ zs.length = 2 := by
  induction xs generalizing ys with
  | nil =>
    intro w h
    cases ys <;> cases h
  | cons x xs ih =>
    intro w h
    cases ys with
    | nil => cases h
    | cons y ys =>
      rcases List.mem_cons.mp h with z | z
      · exact ⟨[x, y], z, rfl⟩
      · exact ih w z
structure BlkD (X : Cx) (Wx : WX) (scope : Scope) (own : List (Str × Nat)) (tg kx vx : Expr) (ifs : List Expr) (g : TG) (tt : Ev Bool) (tk tv : Ev W) : Prop where
  ok : BlkOk X.N X.env.scope scope own
  hg : ∀ (s : Shared) (H : Hp) (C : Addr) (cl : List (Str × Addr)) (fp : List Addr), PG (X.blk s H scope (compEnvC scope cl C X.env) fp) tg g
  ht : ∀ (s : Shared) (H : Hp) (C : Addr) (cl : List (Str × Addr)) (fp : List Addr), GP (X.blk s H scope (compEnvC scope cl C X.env) fp) W0 ifs tt
  hk : ∀ (s : Shared) (H : Hp) (C : Addr) (cl : List (Str × Addr)) (fp : List Addr), GE (X.blk s H scope (compEnvC scope cl C X.env) fp) W0 kx tk
  he : ∀ (s : Shared) (H : Hp) (C : Addr) (cl : List (Str × Addr)) (fp : List Addr), GE (X.blk s H scope (compEnvC scope cl C X.env) fp) W0 vx tv
section
variable {X : Cx} {Wx : WX} {kx vx tg e e2 : Expr} {ifs : List Expr} {scope : Scope} {own : List (Str × Nat)} {pos p tpos : Pos} {g : TG} {put : W → En → En} {tt : Ev Bool} {tk tv : Ev W} {ml : Ev (List W)} {elts : List Expr} {kk : Nat}
theorem dcZ_of {σ : L2.St} {H : Hp} {Q : VK} (hg : ∀ xs ys, PutLc X.K g put (own.map (·.2)) (zipW xs ys)) (h : tG X.K X.mg (RW X.K) Wx (mDcZ (own.map (·.2)) put ml tt tk tv) σ H Q) :
    tDc (RZ.iZipA X.K (tG X.K X.mg (RWs X.K) Wx ml)) g (tG X.K X.mg eqR W0 tt) (tG X.K X.mg (RW X.K) W0 tk) (tG X.K X.mg (RW X.K) W0 tv) (own.map (·.2)) σ H Q := by
  obtain ⟨p, st, env, hp, S, E, h⟩ := h
  refine tG_bind hp S E h fun q s1 ws vs t S1 E1 r h1 => ?_
  cases ez : twoTups ws with
  | none =>
    rw [ez] at h1
    exact h1.elim
  | some xy =>
    rw [ez] at h1
    dsimp only at h1
    have ew : ws = [.tup xy.1, .tup xy.2] := by
      unfold twoTups at ez
      split at ez
      · cases ez
        rfl
      · cases ez
    subst ew
    obtain ⟨v1, r1, ev, ⟨a, avs, ea, ta, ra⟩, v2, r2, e2, ⟨b, bvs, eb, tb, rb⟩, e3⟩ := r
    have e3' : r2 = [] := e3
    subst e3' ea eb e2 ev
    refine ⟨a, b, avs, bvs, rfl, .inr ⟨ta.seq, tb.seq, fun D hD => ?_⟩⟩
    let Pv := DcT X.K X.mg Wx put tt tk tv (wipeE env (own.map (·.2))) q D σ Q (zipW xy.1 xy.2)
    have sq : ∀ i H', Pv i H' → SqT X.K H' a avs ∧ SqT X.K H' b bvs := by
      rintro i H' ⟨z, _, _, _, rfl, _, m, _⟩
      exact ⟨(tup_step m ta).seq, (tup_step m tb).seq⟩
    refine ⟨fun i m H => m = avs.length - i ∧ Pv i H, ⟨avs.length, by simp, dc_start S1 hD h1⟩, ?_⟩
    rintro i m H' ⟨em, hT⟩
    obtain ⟨sa, sb⟩ := sq i H' hT
    by_cases c : i < avs.length ∧ i < bvs.length
    · obtain ⟨c1, c2⟩ := c
      refine .inr ⟨⟨avs, bvs, avs[i], bvs[i], sa, sb, List.getElem?_eq_getElem c1, List.getElem?_eq_getElem c2⟩, Pv (i + 1), fun H2 nx => ⟨avs.length - (i + 1), by omega, rfl, nx⟩, fun x H2 ⟨T, xv, yv, ex, hTn, eH, hx, hy⟩ => ?_⟩
      obtain ⟨xw, hxw, rx⟩ := ra.getV (hx avs sa)
      obtain ⟨yw, hyw, ry⟩ := rb.getV (hy bvs sb)
      subst ex
      refine dc_turn S1 hD E1 (hg _ _) (zipW_get hxw hyw) hT fun q0 e0 ex0 m0 hk0 s2 S2 => ?_
      subst e0
      refine ⟨{ q0 with H := upd q0.H T (.tup [xv, yv]) }, step_new S2 hTn, sr_new S2 hTn, new_tup S2 hTn ⟨xv, [yv], rfl, RW.move m0 xw xv rx, yv, [], rfl, RW.move m0 yw yv ry, rfl⟩, eH.symm⟩
    · refine .inl ⟨⟨avs, bvs, sa, sb, by omega⟩, dc_end S1 hD (zipW_end (by rw [ra.length, rb.length]; omega)) hT⟩
theorem gs_dcZ {i : Nat} {y : Str} {py spos zp : Pos} (B : BlkD X Wx scope own (.Tuple elts kk tpos) kx vx ifs g tt tk tv) (hp : ∀ xs ys, PutLc X.K g put (own.map (·.2)) (zipW xs ys)) (hc : X.calm = true) (hN : X.N.Nodup) (hy : X.N[i]? = some y) (hyl : X.env.scope.names.lookup y = some .local)
    (hsw : swapsWith (.DictComp kx vx [⟨.Tuple elts kk tpos, .Call (.Name "zip" p) [e, e2] [] zp, ifs, 0⟩] scope pos) (some (.Name y py)) spos.line X.env = pure true) (hg : Gl X "zip") (hm : X.mg "zip" = none) (ha : GA X Wx [e, e2] ml)
    (hs : starEach [e, e2] X.env = (false, eval e X.env) :: starEach [e2] X.env := by rfl) (hpl : (backTo zp (starEach [e2] X.env)).any (·.1) = false := by rfl) (hf : ∀ x, foldedSetIterable (.Call (.Name "zip" p) [e, e2] [] zp) X.env x = pure x := by intro _; rfl) :
    GS X Wx (.Assign [.Name y py] (.DictComp kx vx [⟨.Tuple elts kk tpos, .Call (.Name "zip" p) [e, e2] [] zp, ifs, 0⟩] scope pos) spos) (sSet i (mDcZ (own.map (·.2)) put ml tt tk tv)) :=
  PSimp (ps_setDc hc hN hy hyl hsw (RZ.pi_zipA hg hm ha hs hpl) B.ok B.hg B.ht B.hk B.he hf) fun D σ H h => dcZ_of hp (lc_set h)
end
theorem putLc_zip {K : PySem.W.Frag} {i j : Nat} {own : List Nat} (hi : i ∈ own) (hj : j ∈ own) : ∀ xs ys, PutLc K (gTup K 2 (gNames [i, j])) (putTup [i, j]) own (zipW xs ys) := fun xs ys =>
  putLc_tup (is := [i, j]) (fun k hk => by
    rcases List.mem_cons.mp hk with z | z
    · rw [z]; exact hi
    · rcases List.mem_cons.mp z with z | z
      · rw [z]; exact hj
      · cases z) zipW_two
end Mi

namespace Mi
open PySem PySem.Spec PyProof.Rows L2 MiSet
variable [ClsMap]

/-! ### len(set(xs)) of different texts, and of one tuple of texts -/
def allTxt : List W → Option (List Str)
  | [] => some []
  | .str s :: r => match allTxt r with
    | some ks => some (s :: ks)
    | none => none
  | _ => none
def distinct : List Str → Bool
  | [] => true
  | x :: xs => !(xs.any (x == ·)) && distinct xs
def oneTxts : List W → Option (List Str)
  | [.tup ys] => allTxt ys
  | _ => none
def fLenSet : W → Store → Res W := fun w st => match seqOf w with
  | some xs => match allTxt xs with
    | some ks => if distinct ks = true ∧ ks.length ≤ 60 then .ok (.int ks.length) st else .bad
    | none => match oneTxts xs with
      | some _ => .ok (.int 1) st
      | none => .bad
  | none => .bad
theorem distinct_nodup : ∀ {ks : List Str}, distinct ks = true → ks.Nodup
  | [], _ => List.nodup_nil
  | x :: xs, h => by
    unfold distinct at h
    rw [Bool.and_eq_true, Bool.not_eq_true'] at h
    refine List.nodup_cons.mpr ⟨fun z => ?_, distinct_nodup h.2⟩
    have z2 : xs.any (x == ·) = true := List.any_eq_true.mpr ⟨x, z, beq_self_eq_true x⟩
    rw [h.1] at z2
    cases z2
theorem allTxt_of {K : PySem.W.Frag} {p : Wh} : ∀ {ws : List W} {vs : List V} {ks : List Str}, allTxt ws = some ks → RWs K p ws vs → vs = ks.map V.str
  | [], vs, ks, h, r => by
    cases h
    exact r
  | .str s :: ws, vs, ks, h, ⟨v, r, e, h1, h2⟩ => by
    unfold allTxt at h
    cases e2 : allTxt ws with
    | none =>
      rw [e2] at h
      cases h
    | some js =>
      rw [e2] at h
      cases h
      rw [e, allTxt_of e2 h2, show v = V.str s from h1]
      rfl
  | .non :: _, _, _, h, _ => by cases h
  | .bl _ :: _, _, _, h, _ => by cases h
  | .int _ :: _, _, _, h, _ => by cases h
  | .tup _ :: _, _, _, h, _ => by cases h
  | .lst _ :: _, _, _, h, _ => by cases h
  | .frz _ :: _, _, _, h, _ => by cases h
  | .ref _ :: _, _, _, h, _ => by cases h

theorem vals_txt : ∀ {ks : List Str} {us : List Value}, Vals (ks.map V.str) us → ∀ (i : Nat) (v : Value), us[i]? = some v → ∃ x t, ks[i]? = some x ∧ v = .str x t
  | [], _, .nil, i, v, h => by simp at h
  | k :: ks, _, .cons r t, 0, v, h => by
    obtain ⟨t, rfl⟩ := r
    have e : Value.str k t = v := by simpa using h
    exact ⟨k, t, rfl, e.symm⟩
  | k :: ks, _, .cons r t, i + 1, v, h => by
    obtain ⟨x, tk, e1, e2⟩ := vals_txt t i v (by simpa using h)
    exact ⟨x, tk, by simpa using e1, e2⟩
theorem items_txt {P : Program} {w : World} : ∀ {ks : List Str} {us : List Value}, Vals (ks.map V.str) us → ItemsAre (PySem.strKind P w) ks us
  | [], _, .nil => .nil
  | k :: ks, _, .cons r t => by
    obtain ⟨t0, rfl⟩ := r
    exact .cons (by show Value.isStrOf k (.str k t0) = true; simp [Value.isStrOf]) (items_txt t)
theorem take_any {ks : List Str} (nd : ks.Nodup) {i : Nat} {x : Str} (h : ks[i]? = some x) : ((ks.take i).any (· == x)) = false := by
  cases e : (ks.take i).any (· == x) with
  | false => rfl
  | true =>
    obtain ⟨y, hy, ey⟩ := List.any_eq_true.mp e
    have ey' : y = x := eq_of_beq ey
    subst ey'
    obtain ⟨j, hj, ej⟩ := List.getElem_of_mem hy
    have hj2 : j < i := by
      rw [List.length_take] at hj
      omega
    obtain ⟨hi, ei⟩ := List.getElem?_eq_some_iff.mp h
    rw [List.getElem_take] at ej
    exact absurd (ej.trans ei.symm) (List.pairwise_iff_getElem.mp nd j i (by omega) hi hj2)
section
variable {P : Program} {w : World} {A : Around} {E : Value → Shared → Prop} {s : Shared}
/-- the set of different texts -/
theorem set_txts {l : Addr} {us : List Value} {ks : List Str} {Q : Value → Shared → Prop} (hh : A.handled = none) (hl : s.heap.IsList l us.toArray) (nd : ks.Nodup) (few : ks.length ≤ 60) (r : Vals (ks.map V.str) us)
    (fin : ∀ h2 tk, SizeIs h2 s.heap.objs.size ks.length → (∀ c o, c < s.heap.objs.size → s.heap.get? c = some o → h2.get? c = some o) → Q (.ref s.heap.objs.size) { s with heap := h2, toks := tk }) :
    wpAny (model P w) A (call (.type "set") [.ref l]) Q E s := by
  have hn : us.toArray.size = ks.length := by
    have z := r.length
    rw [List.length_map] at z
    rw [List.size_toArray, ← z]
  refine set_of_list (J := fun i h => h.SetOf (PySem.strKind P w) s.heap.objs.size (fun k => (ks.take i).any (· == k)) i) hh hl ?_ ?_ ?_ ?_
  · intro b h _ at1
    exact SetOf_congr ((setObjOf_fresh (knd := PySem.strKind P w) b).setOf at1 (by unfold scanBound; omega)) (fun _ => rfl) rfl
  · rintro i h h2 ⟨o, es, ep, t, ho, z⟩ k
    exact ⟨o, es, ep, t, k _ o (Nat.le_refl _) ho, z⟩
  · intro i v hv A2 _ E2 s2 Q2 j go
    obtain ⟨x, t, hx, rfl⟩ := vals_txt r i v (by simpa using hv)
    have hi : i < ks.length := (List.getElem?_eq_some_iff.mp hx).1
    have no := take_any nd hx
    unfold setAdd
    refine wpAny_holding (wpAny_bind (PySem.wpAny_pyHash_str ?_))
    refine wpAny_setAddHashed_of (knd := PySem.strKind P w) (k := x) (s := { s2 with toks := s2.toks + 1 }) (by show Value.isStrOf x (.str x t) = true; simp [Value.isStrOf]) rfl j (by unfold scanBound; omega) fun h2 sb so => ?_
    refine go _ h2 (s2.toks + 1) (Nat.le_succ _) sb (SetOf_congr so (fun k => ?_) (by rw [no]; rfl))
    rw [List.take_succ, hx]
    show ((ks.take i).any (· == k) || decide (k = x)) = (ks.take i ++ [x]).any (· == k)
    rw [List.any_append]
    congr 1
    by_cases e : k = x
    · subst e
      simp
    · rw [decide_eq_false e]
      have e2 : (x == k) = false := beq_eq_false_iff_ne.mpr fun z => e z.symm
      simp [e2]
  · intro h2 tk j k
    obtain ⟨o, es, ep, t, ho, hex, hd, _, _, _, hf, en⟩ := j
    exact fin h2 tk ⟨o, es, ep, t, ho, hex, hd, hf, en.trans hn⟩ k
/-- the set of one tuple of texts -/
theorem set_one {l b : Addr} {ks : List Str} {Q : Value → Shared → Prop} (hh : A.handled = none) (hu : A.units + 60 < cLine) (hl : s.heap.IsList l #[.ref b]) (tx : TxtT P w s.heap ks b)
    (fin : ∀ h2 tk, SizeIs h2 s.heap.objs.size 1 → (∀ c o, c < s.heap.objs.size → s.heap.get? c = some o → h2.get? c = some o) → Q (.ref s.heap.objs.size) { s with heap := h2, toks := tk }) :
    wpAny (model P w) A (call (.type "set") [.ref l]) Q E s := by
  have hb : @LT.lt Nat _ b s.heap.objs.size := by
    obtain ⟨o, _, _, ho, _⟩ := tx
    exact Heap.lt_size ho
  have txk : ∀ {h h2 : Heap}, TxtT P w h ks b → (∀ o, h.get? b = some o → h2.get? b = some o) → TxtT P w h2 ks b := fun {h h2} ⟨o, its, n, ho, z⟩ k => ⟨o, its, n, k o ho, z⟩
  refine set_of_list (J := fun i h => TxtT P w h ks b ∧ (i = 0 → ∃ led, h.get? s.heap.objs.size = some (MiSet.newSet led)) ∧ (i = 1 → SizeIs h s.heap.objs.size 1)) hh hl ?_ ?_ ?_ ?_
  · exact fun led h k at1 => ⟨txk tx fun o ho => k b o ho, fun _ => ⟨led, at1⟩, fun z => nomatch z⟩
  · rintro i h h2 ⟨j1, j2, j3⟩ k
    refine ⟨txk j1 fun o ho => k b o (Nat.le_of_lt hb) ho, fun e => ?_, fun e => ?_⟩
    · obtain ⟨led, z⟩ := j2 e
      exact ⟨led, k _ _ (Nat.le_refl _) z⟩
    · obtain ⟨o, es, ep, t, ho, z⟩ := j3 e
      exact ⟨o, es, ep, t, k _ o (Nat.le_refl _) ho, z⟩
  · rintro i v hv A2 hA E2 s2 Q2 ⟨j1, j2, _⟩ go
    have hi : i = 0 ∧ v = .ref b := by
      cases i with
      | zero =>
        have e : Value.ref b = v := by simpa using hv
        exact ⟨rfl, e.symm⟩
      | succ i => simp at hv
    obtain ⟨rfl, rfl⟩ := hi
    obtain ⟨led, at1⟩ := j2 rfl
    unfold setAdd
    refine wpAny_holding (wpAny_bind (wpAny_pyHash_tuple (by omega) j1 ?_))
    refine add_first (s := { s2 with toks := s2.toks + (ks.length + 1) }) at1 j1 fun h2 sb sz => ?_
    exact go true h2 (s2.toks + (ks.length + 1)) (Nat.le_add_right _ _) sb ⟨txk j1 fun o ho => (sb.2 b (Nat.ne_of_lt hb)).trans ho, fun z => (nomatch z), fun _ => sz⟩
  · exact fun h2 tk j k => fin h2 tk (j.2.2 rfl) k
end
def tLenSetG (K : PySem.W.Frag) (ta : TE) : TE := fun σ H Q => ta σ H fun x H1 => ∃ (l : Addr) (vs : List V) (n : Nat), x = .ref l ∧ SqL K H1 l vs ∧
  ((∃ ks : List Str, vs = ks.map V.str ∧ ks.Nodup ∧ ks.length ≤ 60 ∧ n = ks.length) ∨ ∃ (b : Addr) (ks : List Str), vs = [.ref b] ∧ SqT K H1 b (ks.map V.str) ∧ n = 1) ∧ Q (.int (n : Nat)) H1
section
variable {X : Cx} {Wx : WX} {a : Expr} {ta : TE} {me : Ev W} {p p2 q pos : Pos}
theorem pe_lenSetG (hu : X.A.units + 100 < cLine) (hg : Gl X "len") (hm : X.mg "len" = none) (hg2 : Gl X "set") (hm2 : X.mg "set" = none) (ha : PE X a ta) (hc : X.calm = true)
    (na : starEach [a] X.env = (false, eval a X.env) :: starEach [] X.env := by rfl) : PE X (.Call (.Name "len" p) [.Call (.Name "set" p2) [a] [] q] [] pos) (tLenSetG X.K ta) := by
  refine ⟨fun pins s σ H Q I h => ?_⟩
  refine Call_ (ld_blt I hg hm boot_len (PyProof.Rows.callWith_builtin1 (PyProof.Rows.args_cons ?_ rfl) rfl rfl))
  refine Call_ (ld_blt I hg2 hm2 boot_set (PyProof.Rows.callWith_type1 (PyProof.Rows.args_cons (thn (ha.run pins s σ H _ I h) fun v s1 ⟨x, H1, I1, r1, q1⟩ => PyProof.Rows.args_nil ?_) na) na rfl))
  obtain ⟨l, vs, n, rfl, hq, cs, q1⟩ := q1
  cases r1
  obtain ⟨its, r, pl, hz⟩ := I1.list hq
  have after : ∀ (h2 : Heap) (tk : Nat), n ≤ 60 → SizeIs h2 s1.heap.objs.size n → (∀ c o, c < s1.heap.objs.size → s1.heap.get? c = some o → h2.get? c = some o) → wpAny (model X.prog X.w) X.A (call (.builtin "len") [.ref s1.heap.objs.size]) (EP X pins σ Q) X.xe { s1 with heap := h2, toks := tk } := by
    rintro h2 tk hn ⟨o, es, ep, t, ho, hex, hd, hf, en⟩ k
    have I2 : Inv X pins σ H1 { s1 with heap := h2, toks := tk } := I1.kept fun b o e => k b o (Heap.lt_size e) e
    exact call_len_set ho hex hd hf (by rw [en]; omega) ⟨.int n, H1, I2.tok _, ⟨_, by rw [en]⟩, q1⟩
  rcases cs with ⟨ks, rfl, nd, few, rfl⟩ | ⟨b, ks, rfl, hb, rfl⟩
  · exact set_txts (I1.ok.hd hc) pl.isList nd few r fun h2 tk sz k => PyProof.Rows.args_nil (after h2 tk few sz k)
  · cases r with
    | cons r0 rr =>
      cases rr
      cases r0
      obtain ⟨its2, rv2, p2, _⟩ := I1.tuple hb
      obtain ⟨o, ho, hcl, n, hd⟩ := p2
      exact set_one (ks := ks) (I1.ok.hd hc) (by omega) pl.isList ⟨o, its2.toArray, n, ho, hcl, hd, by simpa using items_txt rv2⟩ fun h2 tk sz k => PyProof.Rows.args_nil (after h2 tk (by omega) sz k)
theorem ge_lenSet (hu : X.A.units + 100 < cLine) (hg : Gl X "len") (hm : X.mg "len" = none) (hg2 : Gl X "set") (hm2 : X.mg "set" = none) (hc : X.calm = true) (ha : GE X Wx a me)
    (na : starEach [a] X.env = (false, eval a X.env) :: starEach [] X.env := by rfl) : GE X Wx (.Call (.Name "len" p) [.Call (.Name "set" p2) [a] [] q] [] pos) (mUn fLenSet me) :=
  PEimp (pe_lenSetG hu hg hm hg2 hm2 ha hc na) fun σ H Q ⟨p, st, env, hp, S, E, h⟩ => tG_bind hp S E h fun q s1 w v t1 S1 E1 r h1 => by
    unfold fLenSet at h1
    cases e : seqOf w with
    | none =>
      rw [e] at h1
      exact h1.elim
    | some xs =>
      rw [e] at h1
      dsimp only at h1
      obtain ⟨l, vs, ev, ta, rs⟩ := seqOf_of e r
      have hq := ta q (Step.refl S1).toMv
      cases e1 : allTxt xs with
      | some ks =>
        rw [e1] at h1
        dsimp only at h1
        by_cases c : distinct ks = true ∧ ks.length ≤ 60
        · rw [if_pos c] at h1
          exact ⟨l, vs, ks.length, ev, hq, .inl ⟨ks, allTxt_of e1 rs, distinct_nodup c.1, c.2, rfl⟩, fin_ok S1 h1 rfl⟩
        · rw [if_neg c] at h1
          exact h1.elim
      | none =>
        rw [e1] at h1
        dsimp only at h1
        cases e2 : oneTxts xs with
        | none =>
          rw [e2] at h1
          exact h1.elim
        | some ks =>
          rw [e2] at h1
          unfold oneTxts at e2
          split at e2
          · obtain ⟨v1, r1, ev1, ⟨b, bs, eb, tb, rb⟩, er⟩ := rs
            have er' : r1 = [] := er
            subst er' eb ev1
            exact ⟨l, _, 1, ev, hq, .inr ⟨b, ks, rfl, by rw [← allTxt_of e2 rb]; exact tb.seq, rfl⟩, fin_ok S1 h1 rfl⟩
          · cases e2
end
end Mi

namespace Mi
open PySem PySem.Spec PyProof.Rows L2
variable [ClsMap]

/-! ### a def that is given data alone and gives data alone may be evaluated on the empty store -/
mutual
def noRef : W → Bool
  | .ref _ => false
  | .tup xs => noRefs xs
  | .lst xs => noRefs xs
  | .frz xs => noRefs xs
  | _ => true
def noRefs : List W → Bool
  | [] => true
  | x :: xs => noRef x && noRefs xs
end
mutual
def pureW : W → Bool
  | .ref _ => false
  | .lst _ => false
  | .frz _ => false
  | .tup xs => pureWs xs
  | _ => true
def pureWs : List W → Bool
  | [] => true
  | x :: xs => pureW x && pureWs xs
end
def boxR (st : Store) : Res W → Res W
  | .ok w _ => if pureW w = true then .ok w st else .bad
  | .exc x _ => if pureWs (x.args.map (·.2)) = true then .exc x st else .bad
  | .bad => .bad
def mBox (m : List W → Store → Res W) : List W → Store → Res W := fun ws st => if noRefs ws = true then boxR st (m ws []) else .bad

def Wh.bare (p : Wh) : Wh := { p with n := 0 }
section
variable {K : PySem.W.Frag} {p q : Wh}
theorem Wh.bare_out {a : Addr} (h : p.out a) : p.bare.out a := ⟨fun i hi => absurd hi (Nat.not_lt_zero _), h.2⟩
mutual
theorem rw_bare : ∀ (w : W) (v : V), noRef w = true → RW K p w v → RW K p.bare w v
  | .non, v, _, h => h
  | .bl b, v, _, h => h
  | .int i, v, _, h => h
  | .str x, v, _, h => h
  | .tup xs, v, e, ⟨a, vs, ev, h, k⟩ => ⟨a, vs, ev, h.imp (fun z => ⟨z.1, Wh.bare_out z.2⟩) (fun z => z), rws_bare xs vs e k⟩
  | .lst xs, v, e, ⟨a, vs, ev, h, k⟩ => ⟨a, vs, ev, ⟨h.1, Wh.bare_out h.2⟩, rws_bare xs vs e k⟩
  | .frz xs, v, e, ⟨a, vs, ev, h, k⟩ => ⟨a, vs, ev, h.imp (fun z => ⟨z.1, Wh.bare_out z.2⟩) (fun z => z), rws_bare xs vs e k⟩
  | .ref n, v, e, _ => (nomatch e)
theorem rws_bare : ∀ (ws : List W) (vs : List V), noRefs ws = true → RWs K p ws vs → RWs K p.bare ws vs
  | [], vs, _, h => h
  | x :: xs, vs, e, ⟨v, r, ev, h, k⟩ => by
    unfold noRefs at e
    rw [Bool.and_eq_true] at e
    exact ⟨v, r, ev, rw_bare x v e.1 h, rws_bare xs r e.2 k⟩
end
theorem sr_bare {st : Store} (S : SR K p st) : SR K p.bare [] :=
  ⟨rfl, fun i j hi => absurd hi (Nat.not_lt_zero _), fun i o h => by simp at h, fun a h => ⟨(S.hid a h).1, fun i hi => absurd hi (Nat.not_lt_zero _)⟩⟩
/-- the store as it was, the heap as it is -/
def Wh.back (p q : Wh) : Wh := { p with H := q.H }
theorem kept_bare {st : Store} (S : SR K p st) (t : Step p.bare q) {i : Nat} (hi : i < p.n) : q.H (p.ρ i) = p.H (p.ρ i) := by
  cases e : p.H (p.ρ i) with
  | none => exact absurd e (S.there i hi)
  | some o => exact t.keep _ _ e ⟨fun j hj => absurd hj (Nat.not_lt_zero _), fun z => (S.hid _ z).2 i hi rfl⟩
theorem step_back {st : Store} (S : SR K p st) (t : Step p.bare q) : Step p (p.back q) := by
  refine ⟨⟨Nat.le_refl _, fun _ _ => rfl, fun a o e u => t.keep a o e (Wh.bare_out u), fun i h1 h2 => absurd h2 (Nat.not_lt.mpr h1), fun i hi => ?_, fun a z => .inl z, fun a z => t.hth a z⟩, rfl, t.hk⟩
  show q.H (p.ρ i) ≠ none
  rw [kept_bare S t hi]
  exact S.there i hi
theorem sr_back {st : Store} (S : SR K p st) (t : Step p.bare q) : SR K (p.back q) st := by
  have t2 := step_back S t
  refine ⟨S.len, S.inj, fun i o h => ?_, fun a z => ⟨t.hth a z, (S.hid a z).2⟩⟩
  have hi : i < p.n := by
    rw [S.len]
    exact (List.getElem?_eq_some_iff.mp h).1
  show RO K _ o (q.H (p.ρ i))
  rw [kept_bare S t hi]
  exact (S.obj i o h).step t2
theorem ro_nontup {o : O} {h : Option HO} (r : RO K p o h) : (∀ vs, h ≠ some (.tup vs)) ∧ (∀ ob u, h ≠ some (.frz ob u)) ∧ ∀ fs, h ≠ some (.xd fs) := by
  cases o with
  | lst xs =>
    obtain ⟨vs, e, _⟩ := r
    rw [e]
    exact ⟨fun _ z => (nomatch z), fun _ _ z => (nomatch z), fun _ z => (nomatch z)⟩
  | ins C fs =>
    obtain ⟨dx, gs, e, _⟩ := r
    rw [e]
    exact ⟨fun _ z => (nomatch z), fun _ _ z => (nomatch z), fun _ z => (nomatch z)⟩
  | dct fs =>
    obtain ⟨gs, e, _⟩ := r
    rw [e]
    exact ⟨fun _ z => (nomatch z), fun _ _ z => (nomatch z), fun _ z => (nomatch z)⟩
theorem out_back {st : Store} (S : SR K p st) (t : Step p.bare q) {a : Addr} (u : q.out a) (no : ∀ (i : Nat) (o : O), st[i]? = some o → RO K (p.back q) o (q.H a) → False) : (p.back q).out a := by
  refine ⟨fun i hi e => ?_, fun z => u.2 (by rw [t.xs]; exact z)⟩
  have hi' : i < p.n := hi
  have e' : p.ρ i = a := e
  have hl : i < st.length := by
    rw [← S.len]
    exact hi'
  have r := (sr_back S t).obj i st[i] (List.getElem?_eq_getElem hl)
  have r' : RO K (p.back q) st[i] (q.H (p.ρ i)) := r
  rw [e'] at r'
  exact no i _ (List.getElem?_eq_getElem hl) r'
mutual
theorem rw_back {st : Store} (S : SR K p st) (t : Step p.bare q) : ∀ (w : W) (v : V), pureW w = true → RW K q w v → RW K (p.back q) w v
  | .non, v, _, h => h
  | .bl b, v, _, h => h
  | .int i, v, _, h => h
  | .str x, v, _, h => h
  | .tup xs, v, e, ⟨a, vs, ev, h, k⟩ => ⟨a, vs, ev, h.imp (fun z => ⟨z.1, out_back S t z.2 fun i o _ r => by
      obtain ⟨r1, r2, _⟩ := ro_nontup r
      rcases z.1 with c | ⟨ob, c⟩
      · exact r1 _ c
      · exact r2 _ _ c⟩) (fun z => z), rws_back S t xs vs e k⟩
  | .lst xs, v, e, _ => (nomatch e)
  | .frz xs, v, e, _ => (nomatch e)
  | .ref n, v, e, _ => (nomatch e)
theorem rws_back {st : Store} (S : SR K p st) (t : Step p.bare q) : ∀ (ws : List W) (vs : List V), pureWs ws = true → RWs K q ws vs → RWs K (p.back q) ws vs
  | [], vs, _, h => h
  | x :: xs, vs, e, ⟨v, r, ev, h, k⟩ => by
    unfold pureWs at e
    rw [Bool.and_eq_true] at e
    exact ⟨v, r, ev, rw_back S t x v e.1 h, rws_back S t xs r e.2 k⟩
end
end
theorem FnG.box {P : Program} {w : World} {K : PySem.W.Frag} {mg : Str → Option Value} {base : Heap} {k : Nat} {f : Addr} {fd : FuncData} {ps : List Str} {m : List W → Store → Res W} (F : FnG P w K mg base k f fd ps m) : FnG P w K mg base k f fd ps (mBox m) := by
  refine ⟨fun ws st h => ?_, fun A outer s H args us vs ws p st Q E hr hg e0 hb rv hl hp S rs h => ?_⟩
  · unfold mBox
    rw [F.len ws [] h]
    split <;> rfl
  · unfold mBox at h
    by_cases c : noRefs ws = true
    · rw [if_pos c] at h
      refine F.run A outer s H args us vs ws p.bare [] Q E hr hg e0 hb rv hl hp (sr_bare S) (rws_bare ws vs c rs) ?_
      cases e : m ws [] with
      | ok w0 s1 =>
        rw [e] at h
        unfold boxR at h
        dsimp only at h
        by_cases c2 : pureW w0 = true
        · rw [if_pos c2] at h
          exact fun q b t S1 r => h (p.back q) b (step_back S t) (sr_back S t) (rw_back S t w0 b c2 r)
        · rw [if_neg c2] at h
          exact h.elim
      | exc x s1 =>
        rw [e] at h
        unfold boxR at h
        dsimp only at h
        by_cases c2 : pureWs (x.args.map (·.2)) = true
        · rw [if_pos c2] at h
          intro q cls d t S1 xr
          obtain ⟨C, h1, h2, dx, fs, h3, h4, h5, h6, h7⟩ := xr
          refine h (p.back q) cls d (step_back S t) (sr_back S t) ⟨C, h1, h2, dx, fs, h3, h4, out_back S t h5 fun i o _ r => (ro_nontup r).2.2 _ h4, h6, rws_back S t _ _ c2 h7⟩
        · rw [if_neg c2] at h
          exact h.elim
      | bad =>
        rw [e] at h
        exact h.elim
    · rw [if_neg c] at h
      exact h.elim
end Mi

namespace Mi
open PySem PySem.Spec PyProof.Rows L2
variable [ClsMap]

theorem u_1 {k : Nat} {A : Around} (r : Room k A) : A.units + 1 < cLine := by
  have z := r.un
  omega
theorem u_100 {k : Nat} {A : Around} (r : Room k A) : A.units + 100 < cLine := by
  have z := r.un
  omega
theorem sw_trueD {kx vx : Expr} {gs : List Comprehension} {scope : Scope} {pos py : Pos} {y : Str} {l : Nat} {env : Env} (hk : env.scope.kind = .function) (hy : env.scope.names.lookup y = some .local) (hl : (py.line == pos.line) = true)
    (ha : (scope.names.any fun (n, k) => n == y && (k == .local || k == .cell)) = false) : swapsWith (.DictComp kx vx gs scope pos) (some (.Name y py)) l env = pure true := by
  have e1 : env.kindOf y = some .local := hy
  have e2 : env.blockKind = .function := by
    unfold Env.blockKind
    rw [hk]
    rfl
  unfold swapsWith
  simp only [e2, e1, ha, Expr.pos, hl]
  rfl
theorem DefOk.box {P : Program} {w : World} {K : PySem.W.Frag} {mg : Str → Option Value} {base : Heap} {x : Str} {st : Stmt} {k : Nat} {ps : List Str} {m : List W → Store → Res W} (D : DefOk P w K mg base x st k ps m) : DefOk P w K mg base x st k ps (mBox m) := by
  obtain ⟨f, fd, F, hm, g⟩ := D.ex
  exact ⟨f, fd, F, hm, g.box⟩
/-! ### texts as numbers, kinds as numbers: what the kernel reckons quickly -/
def isK (t : Nat) : W → Bool
  | .non => false
  | .bl _ => Nat.beq t 0 || Nat.beq t 1
  | .int _ => Nat.beq t 0
  | .str _ => Nat.beq t 2
  | .tup _ => Nat.beq t 3
  | _ => Nat.beq t 4
def fIsK (t : Nat) : W → Store → Res W := fun w st => match w with
  | .ref n => match st[n]? with
    | some (.lst _) => .ok (.bl (Nat.beq t 4)) st
    | _ => .bad
  | w => .ok (.bl (isK t w)) st
theorem isk_of {T : String} {t : Nat} (h : ∀ w, isTy T w = isK t w) (h2 : (T == "list") = Nat.beq t 4) : fIsi T = fIsK t := by
  funext w st
  cases w with
  | ref n =>
    unfold fIsi fIsK
    dsimp only
    rw [h2]
    try
      cases st[n]? with
      | none => rfl
      | some o => cases o <;> rfl
  | _ =>
    unfold fIsi fIsK
    dsimp only
    rw [h]
theorem isk_int : fIsi "int" = fIsK 0 := isk_of (fun w => by cases w <;> rfl) (by decide)
theorem isk_bool : fIsi "bool" = fIsK 1 := isk_of (fun w => by cases w <;> rfl) (by decide)
theorem isk_str : fIsi "str" = fIsK 2 := isk_of (fun w => by cases w <;> rfl) (by decide)
theorem isk_tuple : fIsi "tuple" = fIsK 3 := isk_of (fun w => by cases w <;> rfl) (by decide)
theorem isk_list : fIsi "list" = fIsK 4 := isk_of (fun w => by cases w <;> rfl) (by decide)
section
variable {X : Cx} {Wx : WX} {a e : Expr} {me ma : Ev W} {p pos p2 : Pos} {x : Str} {f z : Str} {C : Nat}
theorem ge_isiZ {T : String} {k : W → Store → Res W} {pT : Pos} (hk : fIsi T = k) (hT : TyOk T) (hg : Gl X "isinstance") (hm : X.mg "isinstance" = none) (hgT : Gl X T) (hmT : X.mg T = none) (hvT : bootBuiltins T = some (.type T)) (he : GE X Wx e me)
    (hs : starEach [e, .Name T pT] X.env = (false, eval e X.env) :: starEach [.Name T pT] X.env := by rfl) (hpl : (backTo pos (starEach [.Name T pT] X.env)).any (·.1) = false := by rfl)
    (hs2 : starEach [.Name T pT] X.env = (false, eval (.Name T pT) X.env) :: starEach [] X.env := by rfl) (hn : (T : Str) ≠ "__name__" := by decide) (hd : ((T : Str) == ("__debug__" : Str)) = false := by decide) :
    GE X Wx (.Call (.Name "isinstance" p) [e, .Name T pT] [] pos) (mUn k me) := by
  rw [← hk]
  exact ge_isi hT hg hm hgT hmT hvT he hs hpl hs2 hn hd
theorem ge_strZ {j} (h : x = z) : GE X Wx (.Constant (.str x) j pos) (mC (.str z)) := by
  rw [← h]
  exact ge_str
theorem ge_gStrZ {y : Str} (hz : y = z) (hg : Gl X x) (h : ∃ t, X.mg x = some (.str y t)) (hd : (x == ("__debug__" : Str)) = false := by decide) : GE X Wx (.Name x pos) (mC (.str z)) := by
  rw [← hz]
  exact ge_gStrE hg h hd
theorem ge_fldE (h : f = z) (c : Cls X.K (cl C)) (n : NoAttr X.K (cl C) f) (ha : GE X Wx a ma) (hb : attributeBase a f X.env (eval a X.env) = eval a X.env := by rfl) : GE X Wx (.Attribute a f pos) (mUn (fGet C z) ma) := by
  rw [← h]
  exact ge_fld c n ha hb
theorem gs_fldE (h : f = z) (c : Cls X.K (cl C)) (n : NoAttr X.K (cl C) f) (ha : GE X Wx a ma) (he : GE X Wx e me) (hs : swapsWith e (some (.Attribute a f p2)) pos.line X.env = pure false := by rfl) : GS X Wx (.Assign [.Attribute a f p2] e pos) (sFldW C z me ma) := by
  rw [← h]
  exact gs_fld c n ha he hs
end
/-- the answer is True -/
def saysTrue : Res W → Bool
  | .ok (.bl true) _ => true
  | _ => false
theorem box_true {m : List W → Store → Res W} {ws : List W} {st : Store} (h1 : noRefs ws = true) (h : saysTrue (m ws []) = true) : mBox m ws st = .ok (.bl true) st := by
  unfold mBox
  rw [if_pos h1]
  cases e : m ws [] with
  | ok w s =>
    rw [e] at h
    cases w with
    | bl b =>
      cases b with
      | true => rfl
      | false => cases h
    | _ => cases h
  | exc x s =>
    rw [e] at h
    cases h
  | bad =>
    rw [e] at h
    cases h
end Mi

namespace Mi
open PySem PySem.Spec PyProof.Rows L2
variable [ClsMap]

/-! ### less work for the kernel: what is asked twice is reckoned once -/
mutual
def eqW : W → W → Bool
  | .non, .non => true
  | .bl a, .bl b => a == b
  | .int i, .int j => i == j
  | .str x, .str y => x == y
  | .tup xs, .tup ys => eqWs xs ys
  | .lst xs, .lst ys => eqWs xs ys
  | .frz xs, .frz ys => eqWs xs ys
  | .ref n, .ref m => n == m
  | _, _ => false
def eqWs : List W → List W → Bool
  | [], [] => true
  | x :: xs, y :: ys => eqW x y && eqWs xs ys
  | _, _ => false
end
mutual
theorem eqW_of : ∀ (x y : W), eqW x y = true → x = y
  | .non, y, h => by
    cases y with
    | non => rfl
    | _ => cases h
  | .bl a, y, h => by
    cases y with
    | bl b => exact congrArg W.bl (eq_of_beq h)
    | _ => cases h
  | .int i, y, h => by
    cases y with
    | int j => exact congrArg W.int (eq_of_beq h)
    | _ => cases h
  | .str a, y, h => by
    cases y with
    | str b => exact congrArg W.str (eq_of_beq h)
    | _ => cases h
  | .tup xs, y, h => by
    cases y with
    | tup ys => exact congrArg W.tup (eqWs_of xs ys h)
    | _ => cases h
  | .lst xs, y, h => by
    cases y with
    | lst ys => exact congrArg W.lst (eqWs_of xs ys h)
    | _ => cases h
  | .frz xs, y, h => by
    cases y with
    | frz ys => exact congrArg W.frz (eqWs_of xs ys h)
    | _ => cases h
  | .ref n, y, h => by
    cases y with
    | ref m => exact congrArg W.ref (eq_of_beq h)
    | _ => cases h
theorem eqWs_of : ∀ (xs ys : List W), eqWs xs ys = true → xs = ys
  | [], [], _ => rfl
  | [], _ :: _, h => by cases h
  | _ :: _, [], h => by cases h
  | x :: xs, y :: ys, h => by
    unfold eqWs at h
    rw [Bool.and_eq_true] at h
    rw [eqW_of x y h.1, eqWs_of xs ys h.2]
end
section
variable {X : Cx} {Wx : WX} {e : Expr} {ss : List Stmt}
theorem gss_weak {m m' : Sm} (h : GSs X Wx ss m') (le : ∀ env st, m env st = .bad ∨ m env st = m' env st) : GSs X Wx ss m :=
  PSsimp h fun D σ H ⟨p, st, env, hp, S, E, z⟩ => ⟨p, st, env, hp, S, E, by
    rcases le env st with c | c
    · rw [c] at z
      exact z.elim
    · rw [← c]
      exact z⟩
theorem ge_weak {m m' : Ev W} (h : GE X Wx e m') (le : ∀ env st, m env st = .bad ∨ m env st = m' env st) : GE X Wx e m :=
  PEimp h fun σ H Q ⟨p, st, env, hp, S, E, z⟩ => ⟨p, st, env, hp, S, E, by
    rcases le env st with c | c
    · rw [c] at z
      exact z.elim
    · rw [← c]
      exact z⟩
theorem gt_weak {m m' : Ev Bool} (h : GT X Wx e m') (le : ∀ env st, m env st = .bad ∨ m env st = m' env st) : GT X Wx e m :=
  PTimp h fun σ H Q ⟨p, st, env, hp, S, E, z⟩ => ⟨p, st, env, hp, S, E, by
    rcases le env st with c | c
    · rw [c] at z
      exact z.elim
    · rw [← c]
      exact z⟩
end
/-- repr(a) == repr(b), a and b alike -/
def mEqRep (a b : Ev W) : Ev W := fun env st => match a env st with
  | .ok x s1 => match b env s1 with
    | .ok y s2 => if eqW x y = true then (match fRepr [x] s1 with
      | .ok _ _ => .ok (.bl true) s2
      | _ => .bad) else .bad
    | _ => .bad
  | _ => .bad
theorem eq_str (t : Str) (st : Store) : fEq (.str t) (.str t) st = .ok (.bl true) st := by
  show (if cEq (.str t) (.str t) = true then Res.ok (W.bl (PyData.eqv (.str t) (.str t))) st else .bad) = _
  have h1 : cEq (.str t) (.str t) = true := by
    unfold cEq
    rfl
  have h2 : PyData.eqv (.str t) (.str t) = true := by simp [PyData.eqv]
  rw [if_pos h1, h2]
theorem repr_cases (x : W) : (∀ s, fRepr [x] s = .bad) ∨ ∃ t, ∀ s, fRepr [x] s = .ok (.str t) s := by
  cases ed : x.toD with
  | none =>
    refine .inl fun s => ?_
    unfold fRepr
    dsimp only
    rw [ed]
  | some d =>
    by_cases c : cRepr d = true
    · refine .inr ⟨d.shown, fun s => ?_⟩
      unfold fRepr
      dsimp only
      rw [ed]
      exact if_pos c
    · refine .inl fun s => ?_
      unfold fRepr
      dsimp only
      rw [ed]
      exact if_neg c
theorem eqRep_le (a b : Ev W) (env : En) (st : Store) : mEqRep a b env st = .bad ∨ mEqRep a b env st = mOp fEq (mCall fRepr (mCons a mNil)) (mCall fRepr (mCons b mNil)) env st := by
  cases e1 : a env st with
  | exc x s => exact .inl (by simp only [mEqRep, e1])
  | bad => exact .inl (by simp only [mEqRep, e1])
  | ok x s1 =>
    rcases repr_cases x with r | ⟨t, r⟩
    · refine .inl ?_
      cases e2 : b env s1 with
      | exc y s => simp only [mEqRep, e1, e2]
      | bad => simp only [mEqRep, e1, e2]
      | ok y s2 =>
        simp only [mEqRep, e1, e2, r]
        split <;> rfl
    · cases e2 : b env s1 with
      | exc y s => exact .inl (by simp only [mEqRep, e1, e2])
      | bad => exact .inl (by simp only [mEqRep, e1, e2])
      | ok y s2 =>
        by_cases c : eqW x y = true
        · obtain rfl := eqW_of x y c
          refine .inr ?_
          simp only [mEqRep, mOp, mCall, mCons, mNil, Res.bind, e1, e2, r, c, if_pos, eq_str]
        · refine .inl ?_
          simp only [mEqRep, e1, e2]
          rw [if_neg c]
theorem eqRep_leB (a b : Ev W) (env : En) (st : Store) : mB (mEqRep a b) env st = .bad ∨ mB (mEqRep a b) env st = mB (mOp fEq (mCall fRepr (mCons a mNil)) (mCall fRepr (mCons b mNil))) env st := by
  unfold mB
  rcases eqRep_le a b env st with e | e
  · exact .inl (by rw [e]; rfl)
  · exact .inr (by rw [e])
/-- y = f(..); z = f(k=..), with the same arguments; then the rest -/
def sTwice (i j n : Nat) (ix : List Nat) (m : List W → Store → Res W) (a1 a2 : Ev (List W)) (R : Sm) : Sm := fun env st => match a1 env st with
  | .ok ws1 s1 => match mBox m ws1 s1 with
    | .ok w s2 => match a2 (env.set i (some w)) s2 with
      | .ok ws2 s3 => if ws2.length = n ∧ eqWs (pick ix ws2) ws1 = true then R ((env.set i (some w)).set j (some w)) s3 else .bad
      | _ => .bad
    | _ => .bad
  | _ => .bad
theorem box_again {m : List W → Store → Res W} {ws : List W} {s1 s2 : Store} {w : W} (h : mBox m ws s1 = .ok w s2) (s3 : Store) : s2 = s1 ∧ mBox m ws s3 = .ok w s3 := by
  unfold mBox at h ⊢
  by_cases c : noRefs ws = true
  · rw [if_pos c] at h ⊢
    cases e : m ws [] with
    | ok w0 s0 =>
      rw [e] at h
      unfold boxR at h ⊢
      dsimp only at h ⊢
      by_cases c2 : pureW w0 = true
      · rw [if_pos c2] at h ⊢
        cases h
        exact ⟨rfl, rfl⟩
      · rw [if_neg c2] at h
        cases h
    | exc x s0 =>
      rw [e] at h
      unfold boxR at h
      dsimp only at h
      split at h <;> cases h
    | bad =>
      rw [e] at h
      cases h
  · rw [if_neg c] at h
    cases h
theorem twice_le (i j n : Nat) (ix : List Nat) (m : List W → Store → Res W) (a1 a2 : Ev (List W)) (R : Sm) (env : En) (st : Store) :
    sTwice i j n ix m a1 a2 R env st = .bad ∨ sTwice i j n ix m a1 a2 R env st = sSeq (sSet i (mCall (mBox m) a1)) (sSeq (sSet j (mCall (kwM n ix (mBox m)) a2)) R) env st := by
  cases e1 : a1 env st with
  | exc x s => exact .inl (by simp only [sTwice, e1])
  | bad => exact .inl (by simp only [sTwice, e1])
  | ok ws1 s1 =>
    cases e2 : mBox m ws1 s1 with
    | exc x s => exact .inl (by simp only [sTwice, e1, e2])
    | bad => exact .inl (by simp only [sTwice, e1, e2])
    | ok w s2 =>
      cases e3 : a2 (env.set i (some w)) s2 with
      | exc x s => exact .inl (by simp only [sTwice, e1, e2, e3])
      | bad => exact .inl (by simp only [sTwice, e1, e2, e3])
      | ok ws2 s3 =>
        by_cases c : ws2.length = n ∧ eqWs (pick ix ws2) ws1 = true
        · refine .inr ?_
          have k : kwM n ix (mBox m) ws2 s3 = .ok w s3 := by
            unfold kwM
            rw [if_pos c.1, eqWs_of _ _ c.2, (box_again e2 s3).2]
          simp only [sTwice, sSeq, sSet, mCall, liftE, Res.bind, e1, e2, e3, k]
          rw [if_pos c]
        · refine .inl ?_
          simp only [sTwice, e1, e2, e3]
          rw [if_neg c]
end Mi

namespace Mi
open PySem PySem.Spec PyProof.Rows L2
variable [ClsMap]

/-! ### {k: v, ..}, a new dict of the store -/
def mPairs : List (Ev W × Ev W) → En → Store → Res (List (Key × W))
  | [], _, st => .ok [] st
  | (k, v) :: r, env, st => (noX (k env st)).bind fun x s1 => (noX (v env s1)).bind fun y s2 => match keyOf x with
    | some key => (mPairs r env s2).bind fun ps s3 => .ok ((key, y) :: ps) s3
    | none => .bad
def putAll2 (acc more : List (Key × W)) : List (Key × W) := match more with
  | [] => acc
  | kv :: r => putAll2 (putA acc kv.1 kv.2) r
def mDisp (es : List (Ev W × Ev W)) : Ev W := fun env st => match mPairs es env st with
  | .ok ps s => if ps.length ≤ 15 then .ok (.ref s.length) (s ++ [.dct (putAll2 [] ps)]) else .bad
  | _ => .bad
section
variable {X : Cx} {Wx : WX} {pos : Pos} {σ : L2.St}
abbrev trG (X : Cx) (Wx : WX) (es : List (Ev W × Ev W)) : List (TE × TE) := es.map fun m => (tG X.K X.mg (RW X.K) Wx m.1, tG X.K X.mg (RW X.K) Wx m.2)
theorem DsR.merge {K : PySem.W.Frag} {p : Wh} : ∀ {more : List (Key × W)} {gs : List (Key × V)} {acc : List (Key × W)} {bs : List (Key × V)}, DsR K p more gs → DsR K p acc bs → DsR K p (putAll2 acc more) (mergeK bs gs)
  | [], gs, acc, bs, h, r => by
    rw [h.nilOut]
    exact r
  | (k, w) :: more, gs, acc, bs, h, r => by
    obtain ⟨v, r2, rfl, h1, h2⟩ := h.out
    show DsR K p (putAll2 (putA acc k w) more) (mergeK (putK bs k v) r2)
    exact DsR.merge h2 (r.put h1)
theorem pairs_of : ∀ (es : List (Ev W × Ev W)) (q : Wh) (st : Store) (env : En) (ps : List (Key × W)) (s2 : Store) (Qf : List (V × V) → Hp → Prop), SR X.K q st → EnvR X.K q env σ → mPairs es env st = .ok ps s2 →
    (∀ (q2 : Wh) (gs : List (Key × V)), Step q q2 → SR X.K q2 s2 → DsR X.K q2 ps gs → Qf (gs.map fun kv => (kV kv.1, kv.2)) q2.H) → tPairs (trG X Wx es) σ q.H Qf
  | [], q, st, env, ps, s2, Qf, S, E, e, h => by
    cases e
    exact h q [] (.refl S) S .nil
  | (mk, mv) :: es, q, st, env, ps, s2, Qf, S, E, e, h => by
    unfold mPairs at e
    cases e1 : mk env st with
    | exc x s =>
      rw [e1] at e
      cases e
    | bad =>
      rw [e1] at e
      cases e
    | ok x s1 =>
      rw [e1] at e
      refine ⟨q, st, env, rfl, S, E, ?_⟩
      show Fin _ _ _ _ _ _ _ (mk env st)
      rw [e1]
      intro q1 v1 t1 S1 r1
      refine ⟨q1, s1, env, rfl, S1, E.step t1, ?_⟩
      show Fin _ _ _ _ _ _ _ (mv env s1)
      have e' : ((noX (mv env s1)).bind fun y s2 => match keyOf x with
        | some key => (mPairs es env s2).bind fun ps s3 => .ok ((key, y) :: ps) s3
        | none => .bad) = .ok ps s2 := e
      cases e2 : mv env s1 with
      | exc y s =>
        rw [e2] at e'
        cases e'
      | bad =>
        rw [e2] at e'
        cases e'
      | ok y s3 =>
        rw [e2] at e'
        intro q3 v3 t3 S3 r3
        have e3 : (match keyOf x with
          | some key => (mPairs es env s3).bind fun ps s3 => .ok ((key, y) :: ps) s3
          | none => .bad : Res (List (Key × W))) = .ok ps s2 := e'
        cases ek : keyOf x with
        | none =>
          rw [ek] at e3
          cases e3
        | some key =>
          rw [ek] at e3
          dsimp only at e3
          cases e4 : mPairs es env s3 with
          | exc z s =>
            rw [e4] at e3
            cases e3
          | bad =>
            rw [e4] at e3
            cases e3
          | ok ps' s4 =>
            rw [e4] at e3
            have e5 : Res.ok ((key, y) :: ps') s4 = .ok ps s2 := e3
            cases e5
            refine pairs_of es q3 s3 env ps' _ _ S3 (E.step (t1.trans t3)) e4 fun q4 gs t4 S4 d => ?_
            have hk := keyOf_of ek r1
            have z := h q4 ((key, v3) :: gs) ((t1.trans t3).trans t4) S4 (d.cons (RW.step t4 y v3 r3))
            rw [List.map_cons, ← hk] at z
            exact z
theorem disp_of {es : List (Ev W × Ev W)} {H : Hp} {Q : VK} (h : tG X.K X.mg (RW X.K) Wx (mDisp es) σ H Q) : tDisp (trG X Wx es) σ H Q := by
  obtain ⟨p, st, env, hp, S, E, h⟩ := h
  subst hp
  intro D hD
  unfold mDisp at h
  cases e : mPairs es env st with
  | exc x s =>
    rw [e] at h
    exact h.elim
  | bad =>
    rw [e] at h
    exact h.elim
  | ok ps s2 =>
    rw [e] at h
    dsimp only at h
    by_cases c : ps.length ≤ 15
    · rw [if_pos c] at h
      have m0 := mv_hideD S hD (.dK [])
      refine pairs_of es { p with H := upd p.H D (.dK []), x := D :: p.x } st env ps s2 _ (sr_hideD S hD _) (E.move m0) e fun q gs t Sq d => ?_
      have hDq : D ∈ q.x := by
        rw [t.xs]
        exact List.mem_cons_self
      have at0 : q.H D = some (.dK []) := (t.hk D List.mem_cons_self).trans upd_same
      refine ⟨at0, gs, rfl, by rw [d.length]; exact c, ?_⟩
      have m1 := mv_write Sq hDq (.dK (mergeK [] gs))
      have S1 := sr_write Sq hDq (.dK (mergeK [] gs))
      have hD1 : D ∈ ({ q with H := upd q.H D (.dK (mergeK [] gs)) } : Wh).x := hDq
      have sub : ∀ a, a ∈ p.x → a ∈ ({ q with H := upd q.H D (.dK (mergeK [] gs)) } : Wh).x := fun a z => by
        show a ∈ q.x
        rw [t.xs]
        exact List.mem_cons_of_mem _ z
      have nx : D ∉ p.x := fun z => (S.hid D z).1 hD
      have ms := mv_grown S1 hD1 sub
      have dm := ((d.merge (acc := []) (bs := []) .nil).move m1)
      refine h (({ q with H := upd q.H D (.dK (mergeK [] gs)) } : Wh).grown D p.x) (.ref D) ⟨((m0.trans t.toMv).trans m1).trans ms, rfl, fun a z => ?_⟩ (sr_grown S1 hD1 sub nx ⟨_, upd_same, dm.names, dm.vals⟩) ⟨?_, ?_⟩
      · have hne : a ≠ D := fun e => nx (by rw [← e]; exact z)
        show upd q.H D _ a = p.H a
        rw [upd_ne hne]
        refine (t.hk a (List.mem_cons_of_mem _ z)).trans ?_
        show upd p.H D _ a = p.H a
        rw [upd_ne hne]
      · rw [← Sq.len]
        exact Nat.lt_succ_self _
      · show V.ref D = V.ref (if s2.length = q.n then D else q.ρ s2.length)
        rw [if_pos Sq.len.symm]
    · rw [if_neg c] at h
      exact h.elim
abbrev GPP (X : Cx) (Wx : WX) (pos : Pos) (ks : List (Option Expr)) (vs : List Expr) (es : List (Ev W × Ev W)) : Prop := PPs X pos ks vs (trG X Wx es)
theorem gpp_nil : GPP X Wx pos [] [] [] := pps_nil
theorem gpp_cons {k v : Expr} {ks : List (Option Expr)} {vs : List Expr} {mk mv : Ev W} {es : List (Ev W × Ev W)} (hk : GE X Wx k mk) (hv : GE X Wx v mv) (hr : GPP X Wx pos ks vs es) : GPP X Wx pos (some k :: ks) (v :: vs) ((mk, mv) :: es) := pps_cons hk hv hr
theorem ge_disp {ks : List (Option Expr)} {vs : List Expr} {es : List (Ev W × Ev W)} (h : GPP X Wx pos ks vs es) (hall : ks.all (·.isSome) = true := by rfl) (hl : ks.length = vs.length := by rfl) (h0 : ks ≠ [] := by exact fun z => nomatch z) (h15 : ks.length ≤ 15 := by decide) :
    GE X Wx (.Dict ks vs pos) (mDisp es) := PEimp (pe_disp h hall hl h0 h15) fun σ H Q z => disp_of z
end
end Mi

namespace K08gen
open PySem PySem.Spec PyProof.Rows L2 Mi
variable [ClsMap]
def topS (i : Nat) : Stmt := PySem.Challenge.pw_farasnothing_k08_expressions_reckoned.main.body.getD i (.Pass ⟨0, 0, 0, 0⟩)
def z_abcdefghijklmnopqrstuvwxyz : Str := ⟨#[97, 98, 99, 100, 101, 102, 103, 104, 105, 106, 107, 108, 109, 110, 111, 112, 113, 114, 115, 116, 117, 118, 119, 120, 121, 122]⟩
theorem y_abcdefghijklmnopqrstuvwxyz : ("abcdefghijklmnopqrstuvwxyz" : Str) = z_abcdefghijklmnopqrstuvwxyz := by decide +kernel
def z_set : Str := ⟨#[115, 101, 116]⟩
theorem y_set : ("set" : Str) = z_set := by decide +kernel
def z_cells : Str := ⟨#[99, 101, 108, 108, 115]⟩
theorem y_cells : ("cells" : Str) = z_cells := by decide +kernel
def z_send : Str := ⟨#[115, 101, 110, 100]⟩
theorem y_send : ("send" : Str) = z_send := by decide +kernel
def z_outs : Str := ⟨#[111, 117, 116, 115]⟩
theorem y_outs : ("outs" : Str) = z_outs := by decide +kernel
def z_wait : Str := ⟨#[119, 97, 105, 116]⟩
theorem y_wait : ("wait" : Str) = z_wait := by decide +kernel
def z_alarms : Str := ⟨#[97, 108, 97, 114, 109, 115]⟩
theorem y_alarms : ("alarms" : Str) = z_alarms := by decide +kernel
def z__2b : Str := ⟨#[43]⟩
theorem y__2b : ("+" : Str) = z__2b := by decide +kernel
def z__2d : Str := ⟨#[45]⟩
theorem y__2d : ("-" : Str) = z__2d := by decide +kernel
def z_size : Str := ⟨#[115, 105, 122, 101]⟩
theorem y_size : ("size" : Str) = z_size := by decide +kernel
def z_it : Str := ⟨#[105, 116]⟩
theorem y_it : ("it" : Str) = z_it := by decide +kernel
def z_sends : Str := ⟨#[115, 101, 110, 100, 115]⟩
theorem y_sends : ("sends" : Str) = z_sends := by decide +kernel
def z_rings : Str := ⟨#[114, 105, 110, 103, 115]⟩
theorem y_rings : ("rings" : Str) = z_rings := by decide +kernel
def z_says : Str := ⟨#[115, 97, 121, 115]⟩
theorem y_says : ("says" : Str) = z_says := by decide +kernel
def z__2a : Str := ⟨#[42]⟩
theorem y__2a : ("*" : Str) = z__2a := by decide +kernel
def z__3d : Str := ⟨#[61]⟩
theorem y__3d : ("=" : Str) = z__3d := by decide +kernel
def z_drop : Str := ⟨#[100, 114, 111, 112]⟩
theorem y_drop : ("drop" : Str) = z_drop := by decide +kernel
def z_say : Str := ⟨#[115, 97, 121]⟩
theorem y_say : ("say" : Str) = z_say := by decide +kernel
def z_if : Str := ⟨#[105, 102]⟩
theorem y_if : ("if" : Str) = z_if := by decide +kernel
def z__3c : Str := ⟨#[60]⟩
theorem y__3c : ("<" : Str) = z__3c := by decide +kernel
def z_repeat : Str := ⟨#[114, 101, 112, 101, 97, 116]⟩
theorem y_repeat : ("repeat" : Str) = z_repeat := by decide +kernel
def z_o : Str := ⟨#[111]⟩
theorem y_o : ("o" : Str) = z_o := by decide +kernel
def z_n : Str := ⟨#[110]⟩
theorem y_n : ("n" : Str) = z_n := by decide +kernel
def z_m : Str := ⟨#[109]⟩
theorem y_m : ("m" : Str) = z_m := by decide +kernel
def z_k : Str := ⟨#[107]⟩
theorem y_k : ("k" : Str) = z_k := by decide +kernel
def z_u : Str := ⟨#[117]⟩
theorem y_u : ("u" : Str) = z_u := by decide +kernel
def z_y : Str := ⟨#[121]⟩
theorem y_y : ("y" : Str) = z_y := by decide +kernel
def z_x : Str := ⟨#[120]⟩
theorem y_x : ("x" : Str) = z_x := by decide +kernel
def z_st : Str := ⟨#[115, 116]⟩
theorem y_st : ("st" : Str) = z_st := by decide +kernel
structure Blt (K : PySem.W.Frag) (mg : Str → Option Value) : Prop where
  abs : mg "abs" = none
  all : mg "all" = none
  bool : mg "bool" = none
  enumerate : mg "enumerate" = none
  int : mg "int" = none
  isinstance : mg "isinstance" = none
  len : mg "len" = none
  max : mg "max" = none
  min : mg "min" = none
  range : mg "range" = none
  repr : mg "repr" = none
  set : mg "set" = none
  str : mg "str" = none
  tuple : mg "tuple" = none
  zip : mg "zip" = none
  DEEPEST : ∃ t, mg "DEEPEST" = some (.int 3 t)
  GREATEST : ∃ t, mg "GREATEST" = some (.int 6 t)
  LETTERS : ∃ t, mg "LETTERS" = some (.str "abcdefghijklmnopqrstuvwxyz" t)
  LONGEST : ∃ t, mg "LONGEST" = some (.int 8 t)
  LONGEST_DELAY : ∃ t, mg "LONGEST_DELAY" = some (.int 20 t)
  MOST_ALARMS : ∃ t, mg "MOST_ALARMS" = some (.int 2 t)
  MOST_NAMES : ∃ t, mg "MOST_NAMES" = some (.int 3 t)
  MOST_STATEMENTS : ∃ t, mg "MOST_STATEMENTS" = some (.int 6 t)
  SIGNS : ∃ d, mg "SIGNS" = some (.ref d) ∧ ∀ p, RW K p (.tup [(.str z__2b), (.str z__2d), (.str z__2a)]) (.ref d)
  SMALLEST : ∃ t, mg "SMALLEST" = some (.int 2 t)
  cls_Names : Cls K (cl 0)
  cls_Doing : Cls K (cl 1)
  na_Doing_cells : NoAttr K (cl 1) "cells"
  na_Doing_it : NoAttr K (cl 1) "it"
  na_Doing_rings : NoAttr K (cl 1) "rings"
  na_Doing_says : NoAttr K (cl 1) "says"
  na_Doing_sends : NoAttr K (cl 1) "sends"
  na_Doing_size : NoAttr K (cl 1) "size"
  na_Names_alarms : NoAttr K (cl 0) "alarms"
  na_Names_cells : NoAttr K (cl 0) "cells"
  na_Names_outs : NoAttr K (cl 0) "outs"
  na_Names_size : NoAttr K (cl 0) "size"
section
variable {P : Program} {w : World} {K : PySem.W.Frag} {mg : Str → Option Value} {base : Heap}
abbrev s_is_integer : Stmt := topS 10
theorem sc_is_integer : FnScope ["value"] ["value"] (defScope s_is_integer) := ⟨rfl, rfl, rfl, by decide +kernel, rfl, by decide +kernel, by decide +kernel⟩
def m_is_integer : List W → Store → Res W := fnM 1 1
  (sRet (mAndV (mUn (fIsK 0) (mV 0)) (mNotV (mUn (fIsK 1) (mV 0)))))
theorem ok_is_integer (T : Blt K mg) (D : DefAt K mg "is_integer" s_is_integer) : DefOk P w K mg base "is_integer" s_is_integer 1 ["value"] m_is_integer :=
  defOk_of (N := ["value"]) D sc_is_integer fun f cdv A outer s H E hr hg =>
  (gss_one (gs_ret (ge_and (ge_isiZ isk_int (T := "int") ty_int rfl T.isinstance rfl T.int (by decide +kernel) (ge_var 0)) (ge_one (ge_not (ge_isiZ isk_bool (T := "bool") ty_bool rfl T.isinstance rfl T.bool (by decide +kernel) (ge_var 0)))))))
abbrev s_is_tuple_of : Stmt := topS 13
theorem sc_is_tuple_of : FnScope ["value", "many"] ["value", "many"] (defScope s_is_tuple_of) := ⟨rfl, rfl, rfl, by decide +kernel, rfl, by decide +kernel, by decide +kernel⟩
def m_is_tuple_of : List W → Store → Res W := fnM 2 2
  (sRet (mAndV (mUn (fIsK 3) (mV 0)) (mOp fEq (mCall fLen (mCons (mV 0) (mNil))) (mV 1))))
theorem ok_is_tuple_of (T : Blt K mg) (D : DefAt K mg "is_tuple_of" s_is_tuple_of) : DefOk P w K mg base "is_tuple_of" s_is_tuple_of 1 ["value", "many"] m_is_tuple_of :=
  defOk_of (N := ["value", "many"]) D sc_is_tuple_of fun f cdv A outer s H E hr hg =>
  (gss_one (gs_ret (ge_and (ge_isiZ isk_tuple (T := "tuple") ty_tuple rfl T.isinstance rfl T.tuple (by decide +kernel) (ge_var 0)) (ge_one (ge_cmp (op_eqP hr.units) r2_data (ge_callB call_len rc_len rfl T.len (by decide +kernel) (ga_cons (ge_var 0) (ga_nil))) (ge_var 1) (nomark _))))))
abbrev s_is_name : Stmt := topS 14
theorem sc_is_name : FnScope ["value", "letter"] ["value"] (defScope s_is_name) := ⟨rfl, rfl, rfl, by decide +kernel, rfl, by decide +kernel, by decide +kernel⟩
def m_is_name_e1 : Ev W := mOp fInS (mV 1) (mC (.str z_abcdefghijklmnopqrstuvwxyz))
def m_is_name : List W → Store → Res W := fnM 1 2
  (sSeq (sIf (mOr (mNot (mTru (mUn (fIsK 2) (mV 0)))) (mNot (mB (mChain fLe fLe (mC (.int 1)) (mCall fLen (mCons (mV 0) (mNil))) (mC (.int 8)))))) (sRet (mC (.bl false))) (sNx))
  (sRet (mCall fAll (mCons (mLcX [1] (setN 1) (mV 0) (yes) (m_is_name_e1)) (mNil)))))
theorem ok_is_name (T : Blt K mg) (D : DefAt K mg "is_name" s_is_name) : DefOk P w K mg base "is_name" s_is_name 1 ["value"] m_is_name :=
  defOk_of (N := ["value", "letter"]) D sc_is_name fun f cdv A outer s H E hr hg =>
  (gss_cons (gs_if (GW.pt (gw_or (gt_not (gt_tru (ge_isiZ isk_str (T := "str") ty_str rfl T.isinstance rfl T.str (by decide +kernel) (ge_var 0)) (fun _ => rfl))) (gw_or1 (gt_not (gt_chain (op_leP hr.units) r2_data (op_leP hr.units) r2_data (ge_int) (ge_callB call_len rc_len rfl T.len (by decide +kernel) (ga_cons (ge_var 0) (ga_nil))) (ge_gIntE rfl T.LONGEST)))))) (gss_one (gs_ret (ge_bl))) (gss_nil))
  (gss_one (gs_ret (ge_callB (cr_all rfl) rc_all rfl T.all (by decide +kernel) (ga_cons (ge_lcX (own := [("letter", 1)]) ⟨blkOk_by (N := ["value", "letter"]) (sc := defScope s_is_name) (by decide +kernel), fun _ _ _ _ _ => pg_name (i := 1) sc_is_name.nd rfl (by first | exact Or.inl rfl | exact Or.inr rfl), fun _ _ _ _ _ => gp_nil, fun _ _ _ _ _ => ge_cmp op_in_sign r2_inS (ge_var 1) (ge_gStrZ y_abcdefghijklmnopqrstuvwxyz rfl T.LETTERS) (by rfl)⟩ (fun _ => putLc_name (by decide)) rfl sc_is_name.nd (ge_var 0)) (ga_nil))))))
abbrev s_are_different : Stmt := topS 15
theorem sc_are_different : FnScope ["hashables"] ["hashables"] (defScope s_are_different) := ⟨rfl, rfl, rfl, by decide +kernel, rfl, by decide +kernel, by decide +kernel⟩
def m_are_different : List W → Store → Res W := fnM 1 1
  (sRet (mOp fEq (mUn fLenSet (mV 0)) (mCall fLen (mCons (mV 0) (mNil)))))
theorem ok_are_different (T : Blt K mg) (D : DefAt K mg "are_different" s_are_different) : DefOk P w K mg base "are_different" s_are_different 1 ["hashables"] m_are_different :=
  defOk_of (N := ["hashables"]) D sc_are_different fun f cdv A outer s H E hr hg =>
  (gss_one (gs_ret (ge_cmp (op_eqP hr.units) r2_data (ge_lenSet (u_100 hr) rfl T.len rfl T.set rfl (ge_var 0)) (ge_callB call_len rc_len rfl T.len (by decide +kernel) (ga_cons (ge_var 0) (ga_nil))) (nomark _))))
abbrev s_find_place : Stmt := topS 17
theorem sc_find_place : FnScope ["stations", "name", "place", "station"] ["stations", "name"] (defScope s_find_place) := ⟨rfl, rfl, rfl, by decide +kernel, rfl, by decide +kernel, by decide +kernel⟩
def m_find_place_b1 : Sm := sIf (mB (mOp fEq (mOp fIx (mV 3) (mC (.int 0))) (mV 1))) (sRet (mV 2)) (sNx)
def m_find_place : List W → Store → Res W := fnM 2 4
  (sSeq (sForE 2 3 (mCons (mV 0) (mNil)) (m_find_place_b1))
  (sRet (mC .non)))
theorem ok_find_place (T : Blt K mg) (D : DefAt K mg "find_place" s_find_place) : DefOk P w K mg base "find_place" s_find_place 1 ["stations", "name"] m_find_place :=
  defOk_of (N := ["stations", "name", "place", "station"]) D sc_find_place fun f cdv A outer s H E hr hg =>
  (gss_cons (gs_forE (i := 2) (j := 3) (passes_of rfl) rfl rfl T.enumerate (ga_cons (ge_var 0) (ga_nil)) (pg_tup rfl (pgs_cons (pg_name (i := 2) sc_find_place.nd rfl (by first | exact Or.inl rfl | exact Or.inr rfl)) (pgs_cons (pg_name (i := 3) sc_find_place.nd rfl (by first | exact Or.inl rfl | exact Or.inr rfl)) (pgs_nil)))) (gss_one (gs_if (gt_cmp (op_eqP hr.units) r2_data (ge_ix (ge_var 3) (ge_int) (fun _ _ => rfl)) (ge_var 1) (nomark _)) (gss_one (gs_ret (ge_var 2))) (gss_nil))))
  (gss_one (gs_ret (ge_non))))
abbrev s_handlers_of : Stmt := topS 19
theorem sc_handlers_of : FnScope ["station"] ["station"] (defScope s_handlers_of) := ⟨rfl, rfl, rfl, by decide +kernel, rfl, by decide +kernel, by decide +kernel⟩
def m_handlers_of : List W → Store → Res W := fnM 1 1
  (sRet (mOp fAdd (mOp fIx (mV 0) (mC (.int 4))) (mOp fIx (mV 0) (mC (.int 2)))))
theorem ok_handlers_of (T : Blt K mg) (D : DefAt K mg "handlers_of" s_handlers_of) : DefOk P w K mg base "handlers_of" s_handlers_of 1 ["station"] m_handlers_of :=
  defOk_of (N := ["station"]) D sc_handlers_of fun f cdv A outer s H E hr hg =>
  (gss_one (gs_ret (ge_op op_addA r2_add (ge_ix (ge_var 0) (ge_int) (fun _ _ => rfl)) (ge_ix (ge_var 0) (ge_int) (fun _ _ => rfl)))))
abbrev s_is_alarm : Stmt := topS 20
theorem sc_is_alarm : FnScope ["station", "rank"] ["station", "rank"] (defScope s_is_alarm) := ⟨rfl, rfl, rfl, by decide +kernel, rfl, by decide +kernel, by decide +kernel⟩
def m_is_alarm : List W → Store → Res W := fnM 2 2
  (sRet (mOp fLt (mV 1) (mCall fLen (mCons (mOp fIx (mV 0) (mC (.int 4))) (mNil)))))
theorem ok_is_alarm (T : Blt K mg) (D : DefAt K mg "is_alarm" s_is_alarm) : DefOk P w K mg base "is_alarm" s_is_alarm 1 ["station", "rank"] m_is_alarm :=
  defOk_of (N := ["station", "rank"]) D sc_is_alarm fun f cdv A outer s H E hr hg =>
  (gss_one (gs_ret (ge_cmp (op_ltP hr.units) r2_data (ge_var 1) (ge_callB call_len rc_len rfl T.len (by decide +kernel) (ga_cons (ge_ix (ge_var 0) (ge_int) (fun _ _ => rfl)) (ga_nil))) (nomark _))))
abbrev s_find_line_into : Stmt := topS 22
theorem sc_find_line_into : FnScope ["model", "place", "name", "own", "number", "line"] ["model", "place", "name"] (defScope s_find_line_into) := ⟨rfl, rfl, rfl, by decide +kernel, rfl, by decide +kernel, by decide +kernel⟩
def m_find_line_into_b1 : Sm := sIf (mAnd (mB (mOp fEq (mOp fIx (mV 5) (mC (.int 2))) (mV 3))) (mB (mOp fEq (mOp fIx (mV 5) (mC (.int 3))) (mV 2)))) (sRet (mV 4)) (sNx)
def m_find_line_into : List W → Store → Res W := fnM 3 6
  (sSeq (sSet 3 (mOp fIx (mOp fIx (mOp fIx (mV 0) (mC (.int 1))) (mV 1)) (mC (.int 0))))
  (sSeq (sForE 4 5 (mCons (mOp fIx (mV 0) (mC (.int 2))) (mNil)) (m_find_line_into_b1))
  (sRet (mC .non))))
theorem ok_find_line_into (T : Blt K mg) (D : DefAt K mg "find_line_into" s_find_line_into) : DefOk P w K mg base "find_line_into" s_find_line_into 1 ["model", "place", "name"] m_find_line_into :=
  defOk_of (N := ["model", "place", "name", "own", "number", "line"]) D sc_find_line_into fun f cdv A outer s H E hr hg =>
  (gss_cons (gs_set (i := 3) sc_find_line_into.nd rfl (by first | exact Or.inl rfl | exact Or.inr rfl) (ge_ix (ge_ix (ge_ix (ge_var 0) (ge_int) (fun _ _ => rfl)) (ge_var 1) (fun _ _ => rfl)) (ge_int) (fun _ _ => rfl)))
  (gss_cons (gs_forE (i := 4) (j := 5) (passes_of rfl) rfl rfl T.enumerate (ga_cons (ge_ix (ge_var 0) (ge_int) (fun _ _ => rfl)) (ga_nil)) (pg_tup rfl (pgs_cons (pg_name (i := 4) sc_find_line_into.nd rfl (by first | exact Or.inl rfl | exact Or.inr rfl)) (pgs_cons (pg_name (i := 5) sc_find_line_into.nd rfl (by first | exact Or.inl rfl | exact Or.inr rfl)) (pgs_nil)))) (gss_one (gs_if (GW.pt (gw_and (gt_cmp (op_eqP hr.units) r2_data (ge_ix (ge_var 5) (ge_int) (fun _ _ => rfl)) (ge_var 3) (nomark _)) (gw_and1 (gt_cmp (op_eqP hr.units) r2_data (ge_ix (ge_var 5) (ge_int) (fun _ _ => rfl)) (ge_var 2) (nomark _))))) (gss_one (gs_ret (ge_var 4))) (gss_nil))))
  (gss_one (gs_ret (ge_non)))))
abbrev s_is_program : Stmt := topS 29
theorem sc_is_program : FnScope ["names", "value", "depth", "statement"] ["names", "value", "depth"] (defScope s_is_program) := ⟨rfl, rfl, rfl, by decide +kernel, rfl, by decide +kernel, by decide +kernel⟩
def m_is_program_0 : List W → Store → Res W := fun _ _ => .bad
theorem ok_is_program_0 (T : Blt K mg) (D : DefAtF K mg "is_program" s_is_program [.int 1]) : DefOkF P w K mg base "is_program" s_is_program [.int 1] 1 ["names", "value", "depth"] m_is_program_0 := defOkF_bad D
abbrev s_named_by : Stmt := topS 32
theorem sc_named_by : FnScope ["names", "word"] ["names", "word"] (defScope s_named_by) := ⟨rfl, rfl, rfl, by decide +kernel, rfl, by decide +kernel, by decide +kernel⟩
def m_named_by : List W → Store → Res W := fnM 2 2
  (sSeq (sIf (mB (mOp fEq (mV 1) (mC (.str z_set)))) (sRet (mUn (fGet 0 z_cells) (mV 0))) (sNx))
  (sSeq (sIf (mB (mOp fEq (mV 1) (mC (.str z_send)))) (sRet (mUn (fGet 0 z_outs) (mV 0))) (sNx))
  (sSeq (sIf (mB (mOp fEq (mV 1) (mC (.str z_wait)))) (sRet (mUn (fGet 0 z_alarms) (mV 0))) (sNx))
  (sRet (mTup (mNil))))))
theorem ok_named_by (T : Blt K mg) (D : DefAt K mg "named_by" s_named_by) : DefOk P w K mg base "named_by" s_named_by 1 ["names", "word"] m_named_by :=
  defOk_of (N := ["names", "word"]) D sc_named_by fun f cdv A outer s H E hr hg =>
  (gss_cons (gs_if (gt_cmp (op_eqP hr.units) r2_data (ge_var 1) (ge_strZ y_set) (nomark _)) (gss_one (gs_ret (ge_fldE y_cells T.cls_Names T.na_Names_cells (ge_var 0)))) (gss_nil))
  (gss_cons (gs_if (gt_cmp (op_eqP hr.units) r2_data (ge_var 1) (ge_strZ y_send) (nomark _)) (gss_one (gs_ret (ge_fldE y_outs T.cls_Names T.na_Names_outs (ge_var 0)))) (gss_nil))
  (gss_cons (gs_if (gt_cmp (op_eqP hr.units) r2_data (ge_var 1) (ge_strZ y_wait) (nomark _)) (gss_one (gs_ret (ge_fldE y_alarms T.cls_Names T.na_Names_alarms (ge_var 0)))) (gss_nil))
  (gss_one (gs_ret (ge_tup (ga_nil)))))))
abbrev s_is_expression : Stmt := topS 35
theorem sc_is_expression : FnScope ["names", "value", "signs"] ["names", "value", "signs"] (defScope s_is_expression) := ⟨rfl, rfl, rfl, by decide +kernel, rfl, by decide +kernel, by decide +kernel⟩
def m_is_expression_0 : List W → Store → Res W := fun _ _ => .bad
theorem ok_is_expression_0 (T : Blt K mg) (D : DefAtF K mg "is_expression" s_is_expression [.int 3]) : DefOkF P w K mg base "is_expression" s_is_expression [.int 3] 1 ["names", "value", "signs"] m_is_expression_0 := defOkF_bad D
abbrev s_do_block : Stmt := topS 61
theorem sc_do_block : FnScope ["doing", "block", "statement"] ["doing", "block"] (defScope s_do_block) := ⟨rfl, rfl, rfl, by decide +kernel, rfl, by decide +kernel, by decide +kernel⟩
def m_do_block_0 : List W → Store → Res W := fun _ _ => .bad
theorem ok_do_block_0 (T : Blt K mg) (D : DefAt K mg "do_block" s_do_block) : DefOk P w K mg base "do_block" s_do_block 1 ["doing", "block"] m_do_block_0 := defOk_bad D
abbrev s_worth_of : Stmt := topS 64
theorem sc_worth_of : FnScope ["doing", "expression", "left", "right"] ["doing", "expression"] (defScope s_worth_of) := ⟨rfl, rfl, rfl, by decide +kernel, rfl, by decide +kernel, by decide +kernel⟩
def m_worth_of_0 : List W → Store → Res W := fun _ _ => .bad
theorem ok_worth_of_0 (T : Blt K mg) (D : DefAt K mg "worth_of" s_worth_of) : DefOk P w K mg base "worth_of" s_worth_of 1 ["doing", "expression"] m_worth_of_0 := defOk_bad D
abbrev s_reckoned : Stmt := topS 65
theorem sc_reckoned : FnScope ["sign", "left", "right"] ["sign", "left", "right"] (defScope s_reckoned) := ⟨rfl, rfl, rfl, by decide +kernel, rfl, by decide +kernel, by decide +kernel⟩
def m_reckoned : List W → Store → Res W := fnM 3 3
  (sSeq (sIf (mB (mOp fEq (mV 0) (mC (.str z__2b)))) (sRet (mOp fAdd (mV 1) (mV 2))) (sNx))
  (sSeq (sIf (mB (mOp fEq (mV 0) (mC (.str z__2d)))) (sRet (mOp fSub (mV 1) (mV 2))) (sNx))
  (sRet (mOp fMulA (mV 1) (mV 2)))))
theorem ok_reckoned (T : Blt K mg) (D : DefAt K mg "reckoned" s_reckoned) : DefOk P w K mg base "reckoned" s_reckoned 1 ["sign", "left", "right"] m_reckoned :=
  defOk_of (N := ["sign", "left", "right"]) D sc_reckoned fun f cdv A outer s H E hr hg =>
  (gss_cons (gs_if (gt_cmp (op_eqP hr.units) r2_data (ge_var 0) (ge_strZ y__2b) (nomark _)) (gss_one (gs_ret (ge_op op_addA r2_add (ge_var 1) (ge_var 2)))) (gss_nil))
  (gss_cons (gs_if (gt_cmp (op_eqP hr.units) r2_data (ge_var 0) (ge_strZ y__2d) (nomark _)) (gss_one (gs_ret (ge_op op_sub r2_sub (ge_var 1) (ge_var 2)))) (gss_nil))
  (gss_one (gs_ret (ge_op (op_mulW.or (op_repT.or op_repX)) r2_mulA (ge_var 1) (ge_var 2))))))
abbrev s_l_pot : Stmt := topS 67
theorem sc_l_pot : FnScope ["_law_script", "_law_k", "_law_cell", "_law_own"] ["_law_script", "_law_k"] (defScope s_l_pot) := ⟨rfl, rfl, rfl, by decide +kernel, rfl, by decide +kernel, by decide +kernel⟩
def m_l_pot : List W → Store → Res W := fnM 2 4
  (sSeq (sSet 2 (mIf (mB (mOp fLt (mV 1) (mCall fLen (mCons (mV 0) (mNil))))) (mOp fIx (mV 0) (mV 1)) (mOp fAdd (mOp fMulA (mC (.int 43)) (mV 1)) (mC (.int 19)))))
  (sSeq (sSet 3 (mOp fMulA (mOp fMod (mCall fInt (mCons (mCall fAbs (mCons (mV 2) (mNil))) (mNil))) (mOp fPow (mOp fPow (mC (.int 10)) (mC (.int 60))) (mC (.int 5)))) (mCall fInt (mCons (mOp fGe (mCall fAbs (mCons (mV 2) (mNil))) (mOp fPow (mC (.int 10)) (mC (.int 18)))) (mNil)))))
  (sRet (mNew (mCons (mV 3) (mCons (mOp fMod (mCall fInt (mCons (mOp fAdd (mOp fAdd (mOp fMulA (mOp fMod (mCall fInt (mCons (mV 2) (mNil))) (mC (.int 2305843009213693951))) (mC (.int 70663))) (mOp fMulA (mOp fMulA (mC (.int 6421)) (mV 1)) (mV 1))) (mC (.int 83))) (mNil))) (mC (.int 2305843009213693921))) (mCons (mC (.int 0)) (mNil))))))))
theorem ok_l_pot (T : Blt K mg) (D : DefAt K mg "_law_pot" s_l_pot) : DefOk P w K mg base "_law_pot" s_l_pot 1 ["_law_script", "_law_k"] m_l_pot :=
  defOk_of (N := ["_law_script", "_law_k", "_law_cell", "_law_own"]) D sc_l_pot fun f cdv A outer s H E hr hg =>
  (gss_cons (gs_set (i := 2) sc_l_pot.nd rfl (by first | exact Or.inl rfl | exact Or.inr rfl) (ge_if (gt_cmp (op_ltP hr.units) r2_data (ge_var 1) (ge_callB call_len rc_len rfl T.len (by decide +kernel) (ga_cons (ge_var 0) (ga_nil))) (nomark _)) (ge_ix (ge_var 0) (ge_var 1) (fun _ _ => rfl)) (ge_op op_addA r2_add (ge_op (op_mulW.or (op_repT.or op_repX)) r2_mulA (ge_int) (ge_var 1)) (ge_int))))
  (gss_cons (gs_set (i := 3) sc_l_pot.nd rfl (by first | exact Or.inl rfl | exact Or.inr rfl) (ge_op (op_mulW.or (op_repT.or op_repX)) r2_mulA (ge_op op_mod r2_mod (ge_callTy call_int1 rc_int rfl T.int (by decide +kernel) (ga_cons (ge_callB call_abs rc_abs rfl T.abs (by decide +kernel) (ga_cons (ge_var 2) (ga_nil))) (ga_nil))) (ge_op op_powW r2_pow (ge_op op_powW r2_pow (ge_int) (ge_int)) (ge_int))) (ge_callTy call_int1 rc_int rfl T.int (by decide +kernel) (ga_cons (ge_cmp (op_geP hr.units) r2_data (ge_callB call_abs rc_abs rfl T.abs (by decide +kernel) (ga_cons (ge_var 2) (ga_nil))) (ge_op op_powW r2_pow (ge_int) (ge_int)) (nomark _)) (ga_nil)))))
  (gss_one (gs_ret (ge_new (ga_cons (ge_var 3) (ga_cons (ge_op op_mod r2_mod (ge_callTy call_int1 rc_int rfl T.int (by decide +kernel) (ga_cons (ge_op op_addA r2_add (ge_op op_addA r2_add (ge_op (op_mulW.or (op_repT.or op_repX)) r2_mulA (ge_op op_mod r2_mod (ge_callTy call_int1 rc_int rfl T.int (by decide +kernel) (ga_cons (ge_var 2) (ga_nil))) (ge_int)) (ge_int)) (ge_op (op_mulW.or (op_repT.or op_repX)) r2_mulA (ge_op (op_mulW.or (op_repT.or op_repX)) r2_mulA (ge_int) (ge_var 1)) (ge_var 1))) (ge_int)) (ga_nil))) (ge_int)) (ga_cons (ge_int) (ga_nil)))))))))
abbrev s_l_take : Stmt := topS 68
theorem sc_l_take : FnScope ["_law_pot_here", "_law_upto", "_law_prime", "_law_mixed", "_law_digit"] ["_law_pot_here", "_law_upto"] (defScope s_l_take) := ⟨rfl, rfl, rfl, by decide +kernel, rfl, by decide +kernel, by decide +kernel⟩
def m_l_take : List W → Store → Res W := fnM 2 5
  (sSeq (sIf (mB (mOp fGt (mOp fIx (mV 0) (mC (.int 0))) (mC (.int 0)))) (sSeq (sSet 4 (mOp fMod (mCall fInt (mCons (mOp fIx (mV 0) (mC (.int 0))) (mNil))) (mV 1)))
  (sSeq (sPut (mOp fDiv (mOp fIx (mV 0) (mC (.int 0))) (mV 1)) (mV 0) (mC (.int 0)))
  (sRet (mV 4)))) (sNx))
  (sSeq (sPut (mOp fAdd (mOp fIx (mV 0) (mC (.int 2))) (mC (.int 1))) (mV 0) (mC (.int 2)))
  (sSeq (sSet 2 (mOp fIx (mLst (mCons (mC (.int 2147483647)) (mCons (mC (.int 2147483629)) (mCons (mC (.int 2147483587)) (mCons (mC (.int 2147483579)) (mCons (mC (.int 2147483563)) (mNil))))))) (mOp fMod (mCall fInt (mCons (mOp fIx (mV 0) (mC (.int 2))) (mNil))) (mC (.int 5)))))
  (sSeq (sSet 3 (mOp fMod (mCall fInt (mCons (mOp fPow (mCall fInt (mCons (mOp fAdd (mOp fAdd (mOp fIx (mV 0) (mC (.int 1))) (mOp fMulA (mOp fMulA (mC (.int 99989)) (mOp fIx (mV 0) (mC (.int 2)))) (mOp fIx (mV 0) (mC (.int 2))))) (mC (.int 61))) (mNil))) (mC (.int 3))) (mNil))) (mV 2)))
  (sSeq (sSet 3 (mOp fMod (mCall fInt (mCons (mOp fMulA (mV 3) (mOp fAdd (mOp fMod (mCall fInt (mCons (mV 3) (mNil))) (mC (.int 10009))) (mOp fMulA (mC (.int 91)) (mOp fIx (mV 0) (mC (.int 2)))))) (mNil))) (mC (.int 2305843009213693907))))
  (sRet (mOp fMod (mCall fInt (mCons (mOp fDiv (mV 3) (mC (.int 107))) (mNil))) (mV 1))))))))
theorem ok_l_take (T : Blt K mg) (D : DefAt K mg "_law_take" s_l_take) : DefOk P w K mg base "_law_take" s_l_take 1 ["_law_pot_here", "_law_upto"] m_l_take :=
  defOk_of (N := ["_law_pot_here", "_law_upto", "_law_prime", "_law_mixed", "_law_digit"]) D sc_l_take fun f cdv A outer s H E hr hg =>
  (gss_cons (gs_if (gt_cmp (op_gtP hr.units) r2_data (ge_ix (ge_var 0) (ge_int) (fun _ _ => rfl)) (ge_int) (nomark _)) (gss_cons (gs_set (i := 4) sc_l_take.nd rfl (by first | exact Or.inl rfl | exact Or.inr rfl) (ge_op op_mod r2_mod (ge_callTy call_int1 rc_int rfl T.int (by decide +kernel) (ga_cons (ge_ix (ge_var 0) (ge_int) (fun _ _ => rfl)) (ga_nil))) (ge_var 1)))
  (gss_cons (gs_put (ge_var 0) (ge_int) (ge_op op_fdivW r2_div (ge_ix (ge_var 0) (ge_int) (fun _ _ => rfl)) (ge_var 1)))
  (gss_one (gs_ret (ge_var 4))))) (gss_nil))
  (gss_cons (gs_put (ge_var 0) (ge_int) (ge_op op_addA r2_add (ge_ix (ge_var 0) (ge_int) (fun _ _ => rfl)) (ge_int)))
  (gss_cons (gs_set (i := 2) sc_l_take.nd rfl (by first | exact Or.inl rfl | exact Or.inr rfl) (ge_ix (ge_lst (ga_cons (ge_int) (ga_cons (ge_int) (ga_cons (ge_int) (ga_cons (ge_int) (ga_cons (ge_int) (ga_nil))))))) (ge_op op_mod r2_mod (ge_callTy call_int1 rc_int rfl T.int (by decide +kernel) (ga_cons (ge_ix (ge_var 0) (ge_int) (fun _ _ => rfl)) (ga_nil))) (ge_int)) (fun _ _ => rfl)))
  (gss_cons (gs_set (i := 3) sc_l_take.nd rfl (by first | exact Or.inl rfl | exact Or.inr rfl) (ge_op op_mod r2_mod (ge_callTy call_int1 rc_int rfl T.int (by decide +kernel) (ga_cons (ge_op op_powW r2_pow (ge_callTy call_int1 rc_int rfl T.int (by decide +kernel) (ga_cons (ge_op op_addA r2_add (ge_op op_addA r2_add (ge_ix (ge_var 0) (ge_int) (fun _ _ => rfl)) (ge_op (op_mulW.or (op_repT.or op_repX)) r2_mulA (ge_op (op_mulW.or (op_repT.or op_repX)) r2_mulA (ge_int) (ge_ix (ge_var 0) (ge_int) (fun _ _ => rfl))) (ge_ix (ge_var 0) (ge_int) (fun _ _ => rfl)))) (ge_int)) (ga_nil))) (ge_int)) (ga_nil))) (ge_var 2)))
  (gss_cons (gs_set (i := 3) sc_l_take.nd rfl (by first | exact Or.inl rfl | exact Or.inr rfl) (ge_op op_mod r2_mod (ge_callTy call_int1 rc_int rfl T.int (by decide +kernel) (ga_cons (ge_op (op_mulW.or (op_repT.or op_repX)) r2_mulA (ge_var 3) (ge_op op_addA r2_add (ge_op op_mod r2_mod (ge_callTy call_int1 rc_int rfl T.int (by decide +kernel) (ga_cons (ge_var 3) (ga_nil))) (ge_int)) (ge_op (op_mulW.or (op_repT.or op_repX)) r2_mulA (ge_int) (ge_ix (ge_var 0) (ge_int) (fun _ _ => rfl))))) (ga_nil))) (ge_int)))
  (gss_one (gs_ret (ge_op op_mod r2_mod (ge_callTy call_int1 rc_int rfl T.int (by decide +kernel) (ga_cons (ge_op op_fdivW r2_div (ge_var 3) (ge_int)) (ga_nil))) (ge_var 1)))))))))
abbrev s_l_sum : Stmt := topS 70
theorem sc_l_sum : FnScope ["_law_pot_here", "_law_names", "_law_size", "_law_deep", "_law_sign"] ["_law_pot_here", "_law_names", "_law_size", "_law_deep"] (defScope s_l_sum) := ⟨rfl, rfl, rfl, by decide +kernel, rfl, by decide +kernel, by decide +kernel⟩
def m_l_sum_0 : List W → Store → Res W := fun _ _ => .bad
theorem ok_l_sum_0 (T : Blt K mg) (D : DefAt K mg "_law_sum" s_l_sum) : DefOk P w K mg base "_law_sum" s_l_sum 1 ["_law_pot_here", "_law_names", "_law_size", "_law_deep"] m_l_sum_0 := defOk_bad D
abbrev s_l_plain : Stmt := topS 71
theorem sc_l_plain : FnScope ["_law_e", "_law_held", "_law_one", "_law_other"] ["_law_e", "_law_held"] (defScope s_l_plain) := ⟨rfl, rfl, rfl, by decide +kernel, rfl, by decide +kernel, by decide +kernel⟩
def m_l_plain_0 : List W → Store → Res W := fun _ _ => .bad
theorem ok_l_plain_0 (T : Blt K mg) (D : DefAt K mg "_law_plain" s_l_plain) : DefOk P w K mg base "_law_plain" s_l_plain 1 ["_law_e", "_law_held"] m_l_plain_0 := defOk_bad D
abbrev s_Names_init : Stmt := inClass (topS 28) 0
theorem sc_Names_init : FnScope ["self", "size", "station", "cell"] ["self", "size", "station"] (defScope s_Names_init) := ⟨rfl, rfl, rfl, by decide +kernel, rfl, by decide +kernel, by decide +kernel⟩
def m_Names_init_e1 : Ev W := mOp fIx (mV 3) (mC (.int 0))
def m_Names_init : List W → Store → Res W := fnM 3 4
  (sSeq (sFldW 0 z_size (mV 1) (mV 0))
  (sSeq (sFldW 0 z_cells (mCall fTuple (mCons (mLcT [3] (setN 3) (mOp fIx (mV 2) (mC (.int 1))) (yes) (m_Names_init_e1)) (mNil))) (mV 0))
  (sSeq (sFldW 0 z_outs (mOp fIx (mV 2) (mC (.int 3))) (mV 0))
  (sFldW 0 z_alarms (mOp fIx (mV 2) (mC (.int 4))) (mV 0)))))
theorem ok_Names_init (T : Blt K mg) (D : InitAt K mg "Names" 0 "Names.__init__" s_Names_init) : InitOk P w K mg base "Names" 0 "Names.__init__" s_Names_init 1 ["self", "size", "station"] m_Names_init :=
  initOk_of (N := ["self", "size", "station", "cell"]) D sc_Names_init fun f cdv A outer s H E hr hg =>
  (gss_cons (gs_fldE y_size T.cls_Names T.na_Names_size (ge_var 0) (ge_var 1))
  (gss_cons (gs_fldE y_cells T.cls_Names T.na_Names_cells (ge_var 0) (ge_callTy call_tuple_of rc_tuple rfl T.tuple (by decide +kernel) (ga_cons (ge_lcT (own := [("cell", 3)]) ⟨blkOk_by (N := ["self", "size", "station", "cell"]) (sc := defScope s_Names_init) (by decide +kernel), fun _ _ _ _ _ => pg_name (i := 3) sc_Names_init.nd rfl (by first | exact Or.inl rfl | exact Or.inr rfl), fun _ _ _ _ _ => gp_nil, fun _ _ _ _ _ => ge_ix (ge_var 3) (ge_int) (fun _ _ => rfl)⟩ (fun _ => putLc_name (by decide)) rfl sc_Names_init.nd (ge_ix (ge_var 2) (ge_int) (fun _ _ => rfl))) (ga_nil))))
  (gss_cons (gs_fldE y_outs T.cls_Names T.na_Names_outs (ge_var 0) (ge_ix (ge_var 2) (ge_int) (fun _ _ => rfl)))
  (gss_one (gs_fldE y_alarms T.cls_Names T.na_Names_alarms (ge_var 0) (ge_ix (ge_var 2) (ge_int) (fun _ _ => rfl)))))))
abbrev s_Doing_init : Stmt := inClass (topS 56) 0
theorem sc_Doing_init : FnScope ["self", "size", "cells", "it"] ["self", "size", "cells", "it"] (defScope s_Doing_init) := ⟨rfl, rfl, rfl, by decide +kernel, rfl, by decide +kernel, by decide +kernel⟩
def m_Doing_init : List W → Store → Res W := fnM 4 4
  (sSeq (sFldW 1 z_size (mV 1) (mV 0))
  (sSeq (sFldW 1 z_cells (mV 2) (mV 0))
  (sSeq (sFldW 1 z_it (mV 3) (mV 0))
  (sSeq (sFldW 1 z_sends (mNew (mNil)) (mV 0))
  (sSeq (sFldW 1 z_rings (mNewD) (mV 0))
  (sFldW 1 z_says (mNew (mNil)) (mV 0)))))))
theorem ok_Doing_init (T : Blt K mg) (D : InitAt K mg "Doing" 1 "Doing.__init__" s_Doing_init) : InitOk P w K mg base "Doing" 1 "Doing.__init__" s_Doing_init 1 ["self", "size", "cells", "it"] m_Doing_init :=
  initOk_of (N := ["self", "size", "cells", "it"]) D sc_Doing_init fun f cdv A outer s H E hr hg =>
  (gss_cons (gs_fldE y_size T.cls_Doing T.na_Doing_size (ge_var 0) (ge_var 1))
  (gss_cons (gs_fldE y_cells T.cls_Doing T.na_Doing_cells (ge_var 0) (ge_var 2))
  (gss_cons (gs_fldE y_it T.cls_Doing T.na_Doing_it (ge_var 0) (ge_var 3))
  (gss_cons (gs_fldE y_sends T.cls_Doing T.na_Doing_sends (ge_var 0) (ge_new (ga_nil)))
  (gss_cons (gs_fldE y_rings T.cls_Doing T.na_Doing_rings (ge_var 0) (ge_newD))
  (gss_one (gs_fldE y_says T.cls_Doing T.na_Doing_says (ge_var 0) (ge_new (ga_nil)))))))))
abbrev s_is_count : Stmt := topS 11
theorem sc_is_count : FnScope ["value"] ["value"] (defScope s_is_count) := ⟨rfl, rfl, rfl, by decide +kernel, rfl, by decide +kernel, by decide +kernel⟩
def m_is_count : List W → Store → Res W := fnM 1 1
  (sRet (mAndV (mCall m_is_integer (mCons (mV 0) (mNil))) (mOp fGe (mV 0) (mC (.int 0)))))
theorem ok_is_count (T : Blt K mg) (D : DefAt K mg "is_count" s_is_count) (D_is_integer : DefOk P w K mg base "is_integer" s_is_integer 1 ["value"] m_is_integer) : DefOk P w K mg base "is_count" s_is_count 2 ["value"] m_is_count :=
  defOk_of (N := ["value"]) D sc_is_count fun f cdv A outer s H E hr hg =>
  (gss_one (gs_ret (ge_and (ge_callD D_is_integer hr hg (takes_of rfl rfl rfl rfl) rfl (fun _ _ _ _ _ _ us hl => match us, hl with | [_], _ => rfl) (ga_cons (ge_var 0) (ga_nil))) (ge_one (ge_cmp (op_geP hr.units) r2_data (ge_var 0) (ge_int) (nomark _))))))
abbrev s_place_of : Stmt := topS 18
theorem sc_place_of : FnScope ["model", "station", "place"] ["model", "station"] (defScope s_place_of) := ⟨rfl, rfl, rfl, by decide +kernel, rfl, by decide +kernel, by decide +kernel⟩
def m_place_of : List W → Store → Res W := fnM 2 3
  (sSeq (sSet 2 (mCall m_find_place (mCons (mOp fIx (mV 0) (mC (.int 1))) (mCons (mV 1) (mNil)))))
  (sSeq (sIf (mB (mOp fIs (mV 2) (mC .non))) (sBad) (sNx))
  (sRet (mV 2))))
theorem ok_place_of (T : Blt K mg) (D : DefAt K mg "place_of" s_place_of) (D_find_place : DefOk P w K mg base "find_place" s_find_place 1 ["stations", "name"] m_find_place) : DefOk P w K mg base "place_of" s_place_of 2 ["model", "station"] m_place_of :=
  defOk_of (N := ["model", "station", "place"]) D sc_place_of fun f cdv A outer s H E hr hg =>
  (gss_cons (gs_set (i := 2) sc_place_of.nd rfl (by first | exact Or.inl rfl | exact Or.inr rfl) (ge_callD D_find_place hr hg (takes_of rfl rfl rfl rfl) rfl (fun _ _ _ _ _ _ us hl => match us, hl with | [_, _], _ => rfl) (ga_cons (ge_ix (ge_var 0) (ge_int) (fun _ _ => rfl)) (ga_cons (ge_var 1) (ga_nil)))))
  (gss_cons (gs_if (gt_cmp op_isN r2_is (ge_var 2) (ge_non) (nomark _)) (gss_one (gs_never)) (gss_nil))
  (gss_one (gs_ret (ge_var 2)))))
abbrev s_find_rank : Stmt := topS 21
theorem sc_find_rank : FnScope ["station", "name", "rank", "handler"] ["station", "name"] (defScope s_find_rank) := ⟨rfl, rfl, rfl, by decide +kernel, rfl, by decide +kernel, by decide +kernel⟩
def m_find_rank_b1 : Sm := sIf (mB (mOp fEq (mV 3) (mV 1))) (sRet (mV 2)) (sNx)
def m_find_rank : List W → Store → Res W := fnM 2 4
  (sSeq (sForE 2 3 (mCons (mCall m_handlers_of (mCons (mV 0) (mNil))) (mNil)) (m_find_rank_b1))
  (sRet (mC .non)))
theorem ok_find_rank (T : Blt K mg) (D : DefAt K mg "find_rank" s_find_rank) (D_handlers_of : DefOk P w K mg base "handlers_of" s_handlers_of 1 ["station"] m_handlers_of) : DefOk P w K mg base "find_rank" s_find_rank 2 ["station", "name"] m_find_rank :=
  defOk_of (N := ["station", "name", "rank", "handler"]) D sc_find_rank fun f cdv A outer s H E hr hg =>
  (gss_cons (gs_forE (i := 2) (j := 3) (passes_of rfl) rfl rfl T.enumerate (ga_cons (ge_callD D_handlers_of hr hg (takes_of rfl rfl rfl rfl) rfl (fun _ _ _ _ _ _ us hl => match us, hl with | [_], _ => rfl) (ga_cons (ge_var 0) (ga_nil))) (ga_nil)) (pg_tup rfl (pgs_cons (pg_name (i := 2) sc_find_rank.nd rfl (by first | exact Or.inl rfl | exact Or.inr rfl)) (pgs_cons (pg_name (i := 3) sc_find_rank.nd rfl (by first | exact Or.inl rfl | exact Or.inr rfl)) (pgs_nil)))) (gss_one (gs_if (gt_cmp (op_eqP hr.units) r2_data (ge_var 3) (ge_var 1) (nomark _)) (gss_one (gs_ret (ge_var 2))) (gss_nil))))
  (gss_one (gs_ret (ge_non))))
abbrev s_are_names : Stmt := topS 49
theorem sc_are_names : FnScope ["value", "most", "name"] ["value", "most"] (defScope s_are_names) := ⟨rfl, rfl, rfl, by decide +kernel, rfl, by decide +kernel, by decide +kernel⟩
def m_are_names_e1 : Ev W := mCall m_is_name (mCons (mV 2) (mNil))
def m_are_names : List W → Store → Res W := fnM 2 3
  (sSeq (sIf (mOr (mNot (mTru (mUn (fIsK 3) (mV 0)))) (mB (mOp fGt (mCall fLen (mCons (mV 0) (mNil))) (mV 1)))) (sRet (mC (.bl false))) (sNx))
  (sRet (mCall fAll (mCons (mLcT [2] (setN 2) (mV 0) (yes) (m_are_names_e1)) (mNil)))))
theorem ok_are_names (T : Blt K mg) (D : DefAt K mg "are_names" s_are_names) (D_is_name : DefOk P w K mg base "is_name" s_is_name 1 ["value"] m_is_name) : DefOk P w K mg base "are_names" s_are_names 2 ["value", "most"] m_are_names :=
  defOk_of (N := ["value", "most", "name"]) D sc_are_names fun f cdv A outer s H E hr hg =>
  (gss_cons (gs_if (GW.pt (gw_or (gt_not (gt_tru (ge_isiZ isk_tuple (T := "tuple") ty_tuple rfl T.isinstance rfl T.tuple (by decide +kernel) (ge_var 0)) (fun _ => rfl))) (gw_or1 (gt_cmp (op_gtP hr.units) r2_data (ge_callB call_len rc_len rfl T.len (by decide +kernel) (ga_cons (ge_var 0) (ga_nil))) (ge_var 1) (nomark _))))) (gss_one (gs_ret (ge_bl))) (gss_nil))
  (gss_one (gs_ret (ge_callB (cr_all rfl) rc_all rfl T.all (by decide +kernel) (ga_cons (ge_lcT (own := [("name", 2)]) ⟨blkOk_by (N := ["value", "most", "name"]) (sc := defScope s_are_names) (by decide +kernel), fun _ _ _ _ _ => pg_name (i := 2) sc_are_names.nd rfl (by first | exact Or.inl rfl | exact Or.inr rfl), fun _ _ _ _ _ => gp_nil, fun _ _ _ _ _ => ge_callD D_is_name hr hg takes0 rfl (fun _ _ _ _ _ _ us hl => match us, hl with | [_], _ => rfl) (ga_cons (ge_var 2) (ga_nil))⟩ (fun _ => putLc_name (by decide)) rfl sc_are_names.nd (ge_var 0)) (ga_nil))))))
abbrev s_is_first_alarm : Stmt := topS 54
theorem sc_is_first_alarm : FnScope ["model", "item", "place"] ["model", "item"] (defScope s_is_first_alarm) := ⟨rfl, rfl, rfl, by decide +kernel, rfl, by decide +kernel, by decide +kernel⟩
def m_is_first_alarm : List W → Store → Res W := fnM 2 3
  (sSeq (sSet 2 (mCall m_find_place (mCons (mOp fIx (mV 0) (mC (.int 1))) (mCons (mOp fIx (mV 1) (mC (.int 1))) (mNil)))))
  (sRet (mOp fIn (mOp fIx (mV 1) (mC (.int 2))) (mOp fIx (mOp fIx (mOp fIx (mV 0) (mC (.int 1))) (mV 2)) (mC (.int 4))))))
theorem ok_is_first_alarm (T : Blt K mg) (D : DefAt K mg "is_first_alarm" s_is_first_alarm) (D_find_place : DefOk P w K mg base "find_place" s_find_place 1 ["stations", "name"] m_find_place) : DefOk P w K mg base "is_first_alarm" s_is_first_alarm 2 ["model", "item"] m_is_first_alarm :=
  defOk_of (N := ["model", "item", "place"]) D sc_is_first_alarm fun f cdv A outer s H E hr hg =>
  (gss_cons (gs_set (i := 2) sc_is_first_alarm.nd rfl (by first | exact Or.inl rfl | exact Or.inr rfl) (ge_callD D_find_place hr hg (takes_of rfl rfl rfl rfl) rfl (fun _ _ _ _ _ _ us hl => match us, hl with | [_, _], _ => rfl) (ga_cons (ge_ix (ge_var 0) (ge_int) (fun _ _ => rfl)) (ga_cons (ge_ix (ge_var 1) (ge_int) (fun _ _ => rfl)) (ga_nil)))))
  (gss_one (gs_ret (ge_cmp (op_inP hr.units) r2_data (ge_ix (ge_var 1) (ge_int) (fun _ _ => rfl)) (ge_ix (ge_ix (ge_ix (ge_var 0) (ge_int) (fun _ _ => rfl)) (ge_var 2) (fun _ _ => rfl)) (ge_int) (fun _ _ => rfl)) (by rfl)))))
def m_worth_of_1 : List W → Store → Res W := fnM 2 4
  (sSeq (sIf (mTru (mUn (fIsK 0) (mV 1))) (sRet (mV 1)) (sNx))
  (sSeq (sIf (mB (mOp fEq (mV 1) (mC (.str z_it)))) (sRet (mUn (fGet 1 z_it) (mV 0))) (sNx))
  (sSeq (sIf (mTru (mUn (fIsK 2) (mV 1))) (sRet (mOp fDGet (mUn (fGet 1 z_cells) (mV 0)) (mV 1))) (sNx))
  (sSeq (sSet 2 (mCall m_worth_of_0 (mCons (mV 0) (mCons (mOp fIx (mV 1) (mC (.int 1))) (mNil)))))
  (sSeq (sSet 3 (mCall m_worth_of_0 (mCons (mV 0) (mCons (mOp fIx (mV 1) (mC (.int 2))) (mNil)))))
  (sRet (mOp fMod (mCall m_reckoned (mCons (mOp fIx (mV 1) (mC (.int 0))) (mCons (mV 2) (mCons (mV 3) (mNil))))) (mUn (fGet 1 z_size) (mV 0)))))))))
theorem ok_worth_of_1 (T : Blt K mg) (D : DefAt K mg "worth_of" s_worth_of) (D_worth_of_0 : DefOk P w K mg base "worth_of" s_worth_of 1 ["doing", "expression"] m_worth_of_0) (D_reckoned : DefOk P w K mg base "reckoned" s_reckoned 1 ["sign", "left", "right"] m_reckoned) : DefOk P w K mg base "worth_of" s_worth_of 2 ["doing", "expression"] m_worth_of_1 :=
  defOk_of (N := ["doing", "expression", "left", "right"]) D sc_worth_of fun f cdv A outer s H E hr hg =>
  (gss_cons (gs_if (gt_tru (ge_isiZ isk_int (T := "int") ty_int rfl T.isinstance rfl T.int (by decide +kernel) (ge_var 1)) (fun _ => rfl)) (gss_one (gs_ret (ge_var 1))) (gss_nil))
  (gss_cons (gs_if (gt_cmp (op_eqP hr.units) r2_data (ge_var 1) (ge_strZ y_it) (nomark _)) (gss_one (gs_ret (ge_fldE y_it T.cls_Doing T.na_Doing_it (ge_var 0)))) (gss_nil))
  (gss_cons (gs_if (gt_tru (ge_isiZ isk_str (T := "str") ty_str rfl T.isinstance rfl T.str (by decide +kernel) (ge_var 1)) (fun _ => rfl)) (gss_one (gs_ret (ge_dget (u_1 hr) (ge_fldE y_cells T.cls_Doing T.na_Doing_cells (ge_var 0)) (ge_var 1) (fun _ _ => rfl)))) (gss_nil))
  (gss_cons (gs_set (i := 2) sc_worth_of.nd rfl (by first | exact Or.inl rfl | exact Or.inr rfl) (ge_callD D_worth_of_0 hr hg (takes_of rfl rfl rfl rfl) rfl (fun _ _ _ _ _ _ us hl => match us, hl with | [_, _], _ => rfl) (ga_cons (ge_var 0) (ga_cons (ge_ix (ge_var 1) (ge_int) (fun _ _ => rfl)) (ga_nil)))))
  (gss_cons (gs_set (i := 3) sc_worth_of.nd rfl (by first | exact Or.inl rfl | exact Or.inr rfl) (ge_callD D_worth_of_0 hr hg (takes_of rfl rfl rfl rfl) rfl (fun _ _ _ _ _ _ us hl => match us, hl with | [_, _], _ => rfl) (ga_cons (ge_var 0) (ga_cons (ge_ix (ge_var 1) (ge_int) (fun _ _ => rfl)) (ga_nil)))))
  (gss_one (gs_ret (ge_op op_mod r2_mod (ge_callD D_reckoned hr hg (takes_of rfl rfl rfl rfl) rfl (fun _ _ _ _ _ _ us hl => match us, hl with | [_, _, _], _ => rfl) (ga_cons (ge_ix (ge_var 1) (ge_int) (fun _ _ => rfl)) (ga_cons (ge_var 2) (ga_cons (ge_var 3) (ga_nil))))) (ge_fldE y_size T.cls_Doing T.na_Doing_size (ge_var 0))))))))))
abbrev s_l_of : Stmt := topS 69
theorem sc_l_of : FnScope ["_law_pot_here", "_law_some"] ["_law_pot_here", "_law_some"] (defScope s_l_of) := ⟨rfl, rfl, rfl, by decide +kernel, rfl, by decide +kernel, by decide +kernel⟩
def m_l_of : List W → Store → Res W := fnM 2 2
  (sRet (mOp fIx (mV 1) (mCall m_l_take (mCons (mV 0) (mCons (mCall fLen (mCons (mV 1) (mNil))) (mNil))))))
theorem ok_l_of (T : Blt K mg) (D : DefAt K mg "_law_of" s_l_of) (D_l_take : DefOk P w K mg base "_law_take" s_l_take 1 ["_law_pot_here", "_law_upto"] m_l_take) : DefOk P w K mg base "_law_of" s_l_of 2 ["_law_pot_here", "_law_some"] m_l_of :=
  defOk_of (N := ["_law_pot_here", "_law_some"]) D sc_l_of fun f cdv A outer s H E hr hg =>
  (gss_one (gs_ret (ge_ix (ge_var 1) (ge_callD D_l_take hr hg (takes_of rfl rfl rfl rfl) rfl (fun _ _ _ _ _ _ us hl => match us, hl with | [_, _], _ => rfl) (ga_cons (ge_var 0) (ga_cons (ge_callB call_len rc_len rfl T.len (by decide +kernel) (ga_cons (ge_var 1) (ga_nil))) (ga_nil)))) (fun _ _ => rfl))))
def m_l_plain_1 : List W → Store → Res W := fnM 2 4
  (sSeq (sIf (mTru (mUn (fIsK 3) (mV 0))) (sSeq (sPar 2 3 (mCons (mCall m_l_plain_0 (mCons (mOp fIx (mV 0) (mC (.int 1))) (mCons (mV 1) (mNil)))) (mCons (mCall m_l_plain_0 (mCons (mOp fIx (mV 0) (mC (.int 2))) (mCons (mV 1) (mNil)))) (mNil))))
  (sRet (mOp fDGet (mDisp (((mC (.str z__2b)), (mOp fAdd (mV 2) (mV 3))) :: ((mC (.str z__2d)), (mOp fSub (mV 2) (mV 3))) :: ((mC (.str z__2a)), (mOp fMulA (mV 2) (mV 3))) :: [])) (mOp fIx (mV 0) (mC (.int 0)))))) (sNx))
  (sRet (mIf (mTru (mUn (fIsK 2) (mV 0))) (mOp fDGet (mV 1) (mV 0)) (mV 0))))
theorem ok_l_plain_1 (T : Blt K mg) (D : DefAt K mg "_law_plain" s_l_plain) (D_l_plain_0 : DefOk P w K mg base "_law_plain" s_l_plain 1 ["_law_e", "_law_held"] m_l_plain_0) : DefOk P w K mg base "_law_plain" s_l_plain 2 ["_law_e", "_law_held"] m_l_plain_1 :=
  defOk_of (N := ["_law_e", "_law_held", "_law_one", "_law_other"]) D sc_l_plain fun f cdv A outer s H E hr hg =>
  (gss_cons (gs_if (gt_tru (ge_isiZ isk_tuple (T := "tuple") ty_tuple rfl T.isinstance rfl T.tuple (by decide +kernel) (ge_var 0)) (fun _ => rfl)) (gss_cons (gs_par (i := 2) (j := 3) rfl sc_l_plain.nd rfl rfl (by decide) rfl rfl (ga_cons (ge_callD D_l_plain_0 hr hg (takes_of rfl rfl rfl rfl) rfl (fun _ _ _ _ _ _ us hl => match us, hl with | [_, _], _ => rfl) (ga_cons (ge_ix (ge_var 0) (ge_int) (fun _ _ => rfl)) (ga_cons (ge_var 1) (ga_nil)))) (ga_cons (ge_callD D_l_plain_0 hr hg (takes_of rfl rfl rfl rfl) rfl (fun _ _ _ _ _ _ us hl => match us, hl with | [_, _], _ => rfl) (ga_cons (ge_ix (ge_var 0) (ge_int) (fun _ _ => rfl)) (ga_cons (ge_var 1) (ga_nil)))) (ga_nil))) (by rfl))
  (gss_one (gs_ret (ge_dget (u_1 hr) (ge_disp (gpp_cons (ge_strZ y__2b) (ge_op op_addA r2_add (ge_var 2) (ge_var 3)) (gpp_cons (ge_strZ y__2d) (ge_op op_sub r2_sub (ge_var 2) (ge_var 3)) (gpp_cons (ge_strZ y__2a) (ge_op (op_mulW.or (op_repT.or op_repX)) r2_mulA (ge_var 2) (ge_var 3)) (gpp_nil))))) (ge_ix (ge_var 0) (ge_int) (fun _ _ => rfl)) (fun _ _ => rfl))))) (gss_nil))
  (gss_one (gs_ret (ge_if (gt_tru (ge_isiZ isk_str (T := "str") ty_str rfl T.isinstance rfl T.str (by decide +kernel) (ge_var 0)) (fun _ => rfl)) (ge_dget (u_1 hr) (ge_var 1) (ge_var 0) (fun _ _ => rfl)) (ge_var 0)))))
abbrev s_is_within : Stmt := topS 12
theorem sc_is_within : FnScope ["value", "many"] ["value", "many"] (defScope s_is_within) := ⟨rfl, rfl, rfl, by decide +kernel, rfl, by decide +kernel, by decide +kernel⟩
def m_is_within : List W → Store → Res W := fnM 2 2
  (sRet (mAndV (mCall m_is_count (mCons (mV 0) (mNil))) (mOp fLt (mV 0) (mV 1))))
theorem ok_is_within (T : Blt K mg) (D : DefAt K mg "is_within" s_is_within) (D_is_count : DefOk P w K mg base "is_count" s_is_count 2 ["value"] m_is_count) : DefOk P w K mg base "is_within" s_is_within 3 ["value", "many"] m_is_within :=
  defOk_of (N := ["value", "many"]) D sc_is_within fun f cdv A outer s H E hr hg =>
  (gss_one (gs_ret (ge_and (ge_callD D_is_count hr hg (takes_of rfl rfl rfl rfl) rfl (fun _ _ _ _ _ _ us hl => match us, hl with | [_], _ => rfl) (ga_cons (ge_var 0) (ga_nil))) (ge_one (ge_cmp (op_ltP hr.units) r2_data (ge_var 0) (ge_var 1) (nomark _))))))
def m_worth_of_2 : List W → Store → Res W := fnM 2 4
  (sSeq (sIf (mTru (mUn (fIsK 0) (mV 1))) (sRet (mV 1)) (sNx))
  (sSeq (sIf (mB (mOp fEq (mV 1) (mC (.str z_it)))) (sRet (mUn (fGet 1 z_it) (mV 0))) (sNx))
  (sSeq (sIf (mTru (mUn (fIsK 2) (mV 1))) (sRet (mOp fDGet (mUn (fGet 1 z_cells) (mV 0)) (mV 1))) (sNx))
  (sSeq (sSet 2 (mCall m_worth_of_1 (mCons (mV 0) (mCons (mOp fIx (mV 1) (mC (.int 1))) (mNil)))))
  (sSeq (sSet 3 (mCall m_worth_of_1 (mCons (mV 0) (mCons (mOp fIx (mV 1) (mC (.int 2))) (mNil)))))
  (sRet (mOp fMod (mCall m_reckoned (mCons (mOp fIx (mV 1) (mC (.int 0))) (mCons (mV 2) (mCons (mV 3) (mNil))))) (mUn (fGet 1 z_size) (mV 0)))))))))
theorem ok_worth_of_2 (T : Blt K mg) (D : DefAt K mg "worth_of" s_worth_of) (D_worth_of_1 : DefOk P w K mg base "worth_of" s_worth_of 2 ["doing", "expression"] m_worth_of_1) (D_reckoned : DefOk P w K mg base "reckoned" s_reckoned 1 ["sign", "left", "right"] m_reckoned) : DefOk P w K mg base "worth_of" s_worth_of 3 ["doing", "expression"] m_worth_of_2 :=
  defOk_of (N := ["doing", "expression", "left", "right"]) D sc_worth_of fun f cdv A outer s H E hr hg =>
  (gss_cons (gs_if (gt_tru (ge_isiZ isk_int (T := "int") ty_int rfl T.isinstance rfl T.int (by decide +kernel) (ge_var 1)) (fun _ => rfl)) (gss_one (gs_ret (ge_var 1))) (gss_nil))
  (gss_cons (gs_if (gt_cmp (op_eqP hr.units) r2_data (ge_var 1) (ge_strZ y_it) (nomark _)) (gss_one (gs_ret (ge_fldE y_it T.cls_Doing T.na_Doing_it (ge_var 0)))) (gss_nil))
  (gss_cons (gs_if (gt_tru (ge_isiZ isk_str (T := "str") ty_str rfl T.isinstance rfl T.str (by decide +kernel) (ge_var 1)) (fun _ => rfl)) (gss_one (gs_ret (ge_dget (u_1 hr) (ge_fldE y_cells T.cls_Doing T.na_Doing_cells (ge_var 0)) (ge_var 1) (fun _ _ => rfl)))) (gss_nil))
  (gss_cons (gs_set (i := 2) sc_worth_of.nd rfl (by first | exact Or.inl rfl | exact Or.inr rfl) (ge_callD D_worth_of_1 hr hg (takes_of rfl rfl rfl rfl) rfl (fun _ _ _ _ _ _ us hl => match us, hl with | [_, _], _ => rfl) (ga_cons (ge_var 0) (ga_cons (ge_ix (ge_var 1) (ge_int) (fun _ _ => rfl)) (ga_nil)))))
  (gss_cons (gs_set (i := 3) sc_worth_of.nd rfl (by first | exact Or.inl rfl | exact Or.inr rfl) (ge_callD D_worth_of_1 hr hg (takes_of rfl rfl rfl rfl) rfl (fun _ _ _ _ _ _ us hl => match us, hl with | [_, _], _ => rfl) (ga_cons (ge_var 0) (ga_cons (ge_ix (ge_var 1) (ge_int) (fun _ _ => rfl)) (ga_nil)))))
  (gss_one (gs_ret (ge_op op_mod r2_mod (ge_callD D_reckoned (hr.mono (by decide)) hg (takes_of rfl rfl rfl rfl) rfl (fun _ _ _ _ _ _ us hl => match us, hl with | [_, _, _], _ => rfl) (ga_cons (ge_ix (ge_var 1) (ge_int) (fun _ _ => rfl)) (ga_cons (ge_var 2) (ga_cons (ge_var 3) (ga_nil))))) (ge_fldE y_size T.cls_Doing T.na_Doing_size (ge_var 0))))))))))
def m_l_sum_1 : List W → Store → Res W := fnM 4 5
  (sSeq (sIf (mOr (mB (mOp fEq (mV 3) (mC (.int 0)))) (mB (mOp fEq (mCall m_l_take (mCons (mV 0) (mCons (mC (.int 4)) (mNil)))) (mC (.int 0))))) (sRet (mIf (mB (mOp fGt (mCall m_l_take (mCons (mV 0) (mCons (mC (.int 3)) (mNil)))) (mC (.int 0)))) (mCall m_l_of (mCons (mV 0) (mCons (mV 1) (mNil)))) (mCall m_l_take (mCons (mV 0) (mCons (mV 2) (mNil)))))) (sNx))
  (sSeq (sSet 4 (mCall m_l_of (mCons (mV 0) (mCons (mLst (mCons (mC (.str z__2b)) (mCons (mC (.str z__2d)) (mCons (mC (.str z__2a)) (mNil))))) (mNil)))))
  (sRet (mTup (mCons (mV 4) (mCons (mCall m_l_sum_0 (mCons (mV 0) (mCons (mV 1) (mCons (mV 2) (mCons (mOp fSub (mV 3) (mC (.int 1))) (mNil)))))) (mCons (mCall m_l_sum_0 (mCons (mV 0) (mCons (mV 1) (mCons (mV 2) (mCons (mOp fSub (mV 3) (mC (.int 1))) (mNil)))))) (mNil))))))))
theorem ok_l_sum_1 (T : Blt K mg) (D : DefAt K mg "_law_sum" s_l_sum) (D_l_take : DefOk P w K mg base "_law_take" s_l_take 1 ["_law_pot_here", "_law_upto"] m_l_take) (D_l_of : DefOk P w K mg base "_law_of" s_l_of 2 ["_law_pot_here", "_law_some"] m_l_of) (D_l_sum_0 : DefOk P w K mg base "_law_sum" s_l_sum 1 ["_law_pot_here", "_law_names", "_law_size", "_law_deep"] m_l_sum_0) : DefOk P w K mg base "_law_sum" s_l_sum 3 ["_law_pot_here", "_law_names", "_law_size", "_law_deep"] m_l_sum_1 :=
  defOk_of (N := ["_law_pot_here", "_law_names", "_law_size", "_law_deep", "_law_sign"]) D sc_l_sum fun f cdv A outer s H E hr hg =>
  (gss_cons (gs_if (GW.pt (gw_or (gt_cmp (op_eqP hr.units) r2_data (ge_var 3) (ge_int) (nomark _)) (gw_or1 (gt_cmp (op_eqP hr.units) r2_data (ge_callD D_l_take (hr.mono (by decide)) hg (takes_of rfl rfl rfl rfl) rfl (fun _ _ _ _ _ _ us hl => match us, hl with | [_, _], _ => rfl) (ga_cons (ge_var 0) (ga_cons (ge_int) (ga_nil)))) (ge_int) (nomark _))))) (gss_one (gs_ret (ge_if (gt_cmp (op_gtP hr.units) r2_data (ge_callD D_l_take (hr.mono (by decide)) hg (takes_of rfl rfl rfl rfl) rfl (fun _ _ _ _ _ _ us hl => match us, hl with | [_, _], _ => rfl) (ga_cons (ge_var 0) (ga_cons (ge_int) (ga_nil)))) (ge_int) (nomark _)) (ge_callD D_l_of hr hg (takes_of rfl rfl rfl rfl) rfl (fun _ _ _ _ _ _ us hl => match us, hl with | [_, _], _ => rfl) (ga_cons (ge_var 0) (ga_cons (ge_var 1) (ga_nil)))) (ge_callD D_l_take (hr.mono (by decide)) hg (takes_of rfl rfl rfl rfl) rfl (fun _ _ _ _ _ _ us hl => match us, hl with | [_, _], _ => rfl) (ga_cons (ge_var 0) (ga_cons (ge_var 2) (ga_nil))))))) (gss_nil))
  (gss_cons (gs_set (i := 4) sc_l_sum.nd rfl (by first | exact Or.inl rfl | exact Or.inr rfl) (ge_callD D_l_of hr hg (takes_of rfl rfl rfl rfl) rfl (fun _ _ _ _ _ _ us hl => match us, hl with | [_, _], _ => rfl) (ga_cons (ge_var 0) (ga_cons (ge_lst (ga_cons (ge_strZ y__2b) (ga_cons (ge_strZ y__2d) (ga_cons (ge_strZ y__2a) (ga_nil))))) (ga_nil)))))
  (gss_one (gs_ret (ge_tup (ga_cons (ge_var 4) (ga_cons (ge_callD D_l_sum_0 (hr.mono (by decide)) hg (takes_of rfl rfl rfl rfl) rfl (fun _ _ _ _ _ _ us hl => match us, hl with | [_, _, _, _], _ => rfl) (ga_cons (ge_var 0) (ga_cons (ge_var 1) (ga_cons (ge_var 2) (ga_cons (ge_op op_sub r2_sub (ge_var 3) (ge_int)) (ga_nil)))))) (ga_cons (ge_callD D_l_sum_0 (hr.mono (by decide)) hg (takes_of rfl rfl rfl rfl) rfl (fun _ _ _ _ _ _ us hl => match us, hl with | [_, _, _, _], _ => rfl) (ga_cons (ge_var 0) (ga_cons (ge_var 1) (ga_cons (ge_var 2) (ga_cons (ge_op op_sub r2_sub (ge_var 3) (ge_int)) (ga_nil)))))) (ga_nil)))))))))
def m_l_plain_2 : List W → Store → Res W := fnM 2 4
  (sSeq (sIf (mTru (mUn (fIsK 3) (mV 0))) (sSeq (sPar 2 3 (mCons (mCall m_l_plain_1 (mCons (mOp fIx (mV 0) (mC (.int 1))) (mCons (mV 1) (mNil)))) (mCons (mCall m_l_plain_1 (mCons (mOp fIx (mV 0) (mC (.int 2))) (mCons (mV 1) (mNil)))) (mNil))))
  (sRet (mOp fDGet (mDisp (((mC (.str z__2b)), (mOp fAdd (mV 2) (mV 3))) :: ((mC (.str z__2d)), (mOp fSub (mV 2) (mV 3))) :: ((mC (.str z__2a)), (mOp fMulA (mV 2) (mV 3))) :: [])) (mOp fIx (mV 0) (mC (.int 0)))))) (sNx))
  (sRet (mIf (mTru (mUn (fIsK 2) (mV 0))) (mOp fDGet (mV 1) (mV 0)) (mV 0))))
theorem ok_l_plain_2 (T : Blt K mg) (D : DefAt K mg "_law_plain" s_l_plain) (D_l_plain_1 : DefOk P w K mg base "_law_plain" s_l_plain 2 ["_law_e", "_law_held"] m_l_plain_1) : DefOk P w K mg base "_law_plain" s_l_plain 3 ["_law_e", "_law_held"] m_l_plain_2 :=
  defOk_of (N := ["_law_e", "_law_held", "_law_one", "_law_other"]) D sc_l_plain fun f cdv A outer s H E hr hg =>
  (gss_cons (gs_if (gt_tru (ge_isiZ isk_tuple (T := "tuple") ty_tuple rfl T.isinstance rfl T.tuple (by decide +kernel) (ge_var 0)) (fun _ => rfl)) (gss_cons (gs_par (i := 2) (j := 3) rfl sc_l_plain.nd rfl rfl (by decide) rfl rfl (ga_cons (ge_callD D_l_plain_1 hr hg (takes_of rfl rfl rfl rfl) rfl (fun _ _ _ _ _ _ us hl => match us, hl with | [_, _], _ => rfl) (ga_cons (ge_ix (ge_var 0) (ge_int) (fun _ _ => rfl)) (ga_cons (ge_var 1) (ga_nil)))) (ga_cons (ge_callD D_l_plain_1 hr hg (takes_of rfl rfl rfl rfl) rfl (fun _ _ _ _ _ _ us hl => match us, hl with | [_, _], _ => rfl) (ga_cons (ge_ix (ge_var 0) (ge_int) (fun _ _ => rfl)) (ga_cons (ge_var 1) (ga_nil)))) (ga_nil))) (by rfl))
  (gss_one (gs_ret (ge_dget (u_1 hr) (ge_disp (gpp_cons (ge_strZ y__2b) (ge_op op_addA r2_add (ge_var 2) (ge_var 3)) (gpp_cons (ge_strZ y__2d) (ge_op op_sub r2_sub (ge_var 2) (ge_var 3)) (gpp_cons (ge_strZ y__2a) (ge_op (op_mulW.or (op_repT.or op_repX)) r2_mulA (ge_var 2) (ge_var 3)) (gpp_nil))))) (ge_ix (ge_var 0) (ge_int) (fun _ _ => rfl)) (fun _ _ => rfl))))) (gss_nil))
  (gss_one (gs_ret (ge_if (gt_tru (ge_isiZ isk_str (T := "str") ty_str rfl T.isinstance rfl T.str (by decide +kernel) (ge_var 0)) (fun _ => rfl)) (ge_dget (u_1 hr) (ge_var 1) (ge_var 0) (fun _ _ => rfl)) (ge_var 0)))))
def m_is_expression_1 : List W → Store → Res W := fnM 3 3
  (sSeq (sIf (mTru (mUn (fIsK 2) (mV 1))) (sRet (mOrV (mOp fEq (mV 1) (mC (.str z_it))) (mOp fIn (mV 1) (mUn (fGet 0 z_cells) (mV 0))))) (sNx))
  (sSeq (sIf (mTru (mUn (fIsK 3) (mV 1))) (sSeq (sIf (mOr (mB (mOp fNe (mCall fLen (mCons (mV 1) (mNil))) (mC (.int 3)))) (mOr (mB (mOp fNin (mOp fIx (mV 1) (mC (.int 0))) (mC (.tup [(.str z__2b), (.str z__2d), (.str z__2a)])))) (mNot (mTru (mV 2))))) (sRet (mC (.bl false))) (sNx))
  (sRet (mAndV (mCall (moreM [] m_is_expression_0) (mCons (mV 0) (mCons (mOp fIx (mV 1) (mC (.int 1))) (mCons (mOp fSub (mV 2) (mC (.int 1))) (mNil))))) (mCall (moreM [] m_is_expression_0) (mCons (mV 0) (mCons (mOp fIx (mV 1) (mC (.int 2))) (mCons (mOp fSub (mV 2) (mC (.int 1))) (mNil)))))))) (sNx))
  (sRet (mCall m_is_within (mCons (mV 1) (mCons (mUn (fGet 0 z_size) (mV 0)) (mNil)))))))
theorem ok_is_expression_1 (T : Blt K mg) (D : DefAtF K mg "is_expression" s_is_expression [.int 3]) (D_is_expression_0 : DefOkF P w K mg base "is_expression" s_is_expression [.int 3] 1 ["names", "value", "signs"] m_is_expression_0) (D_is_within : DefOk P w K mg base "is_within" s_is_within 3 ["value", "many"] m_is_within) : DefOkF P w K mg base "is_expression" s_is_expression [.int 3] 4 ["names", "value", "signs"] m_is_expression_1 :=
  defOkF_of (N := ["names", "value", "signs"]) D sc_is_expression fun f cdv A outer s H E hr hg =>
  (gss_cons (gs_if (gt_tru (ge_isiZ isk_str (T := "str") ty_str rfl T.isinstance rfl T.str (by decide +kernel) (ge_var 1)) (fun _ => rfl)) (gss_one (gs_ret (ge_or (ge_cmp (op_eqP hr.units) r2_data (ge_var 1) (ge_strZ y_it) (nomark _)) (ge_one (ge_cmp (op_inP hr.units) r2_data (ge_var 1) (ge_fldE y_cells T.cls_Names T.na_Names_cells (ge_var 0)) (by rfl)))))) (gss_nil))
  (gss_cons (gs_if (gt_tru (ge_isiZ isk_tuple (T := "tuple") ty_tuple rfl T.isinstance rfl T.tuple (by decide +kernel) (ge_var 1)) (fun _ => rfl)) (gss_cons (gs_if (GW.pt (gw_or (gt_cmp (op_neP hr.units) r2_data (ge_callB call_len rc_len rfl T.len (by decide +kernel) (ga_cons (ge_var 1) (ga_nil))) (ge_int) (nomark _)) (gw_or (gt_cmp (op_ninP hr.units) r2_data (ge_ix (ge_var 1) (ge_int) (fun _ _ => rfl)) (ge_gRefE rfl T.SIGNS) (by rfl)) (gw_or1 (gt_not (gt_tru (ge_var 2) (fun _ => rfl))))))) (gss_one (gs_ret (ge_bl))) (gss_nil))
  (gss_one (gs_ret (ge_and (ge_callFd (n := 3) (j := 1) (wd := []) D_is_expression_0 (hr.mono (by decide)) hg (takes_of rfl rfl rfl rfl) rfl (by decide) rfl (fun _ => rfl) (fun _ _ _ _ _ _ _ us its h1 h2 => match us, its, h1, h2 with | [_, _, _], [_], _, _ => ⟨_, rfl, rfl⟩) (ga_cons (ge_var 0) (ga_cons (ge_ix (ge_var 1) (ge_int) (fun _ _ => rfl)) (ga_cons (ge_op op_sub r2_sub (ge_var 2) (ge_int)) (ga_nil))))) (ge_one (ge_callFd (n := 3) (j := 1) (wd := []) D_is_expression_0 (hr.mono (by decide)) hg (takes_of rfl rfl rfl rfl) rfl (by decide) rfl (fun _ => rfl) (fun _ _ _ _ _ _ _ us its h1 h2 => match us, its, h1, h2 with | [_, _, _], [_], _, _ => ⟨_, rfl, rfl⟩) (ga_cons (ge_var 0) (ga_cons (ge_ix (ge_var 1) (ge_int) (fun _ _ => rfl)) (ga_cons (ge_op op_sub r2_sub (ge_var 2) (ge_int)) (ga_nil)))))))))) (gss_nil))
  (gss_one (gs_ret (ge_callD D_is_within hr hg (takes_of rfl rfl rfl rfl) rfl (fun _ _ _ _ _ _ us hl => match us, hl with | [_, _], _ => rfl) (ga_cons (ge_var 1) (ga_cons (ge_fldE y_size T.cls_Names T.na_Names_size (ge_var 0)) (ga_nil))))))))
abbrev s_is_delay : Stmt := topS 45
theorem sc_is_delay : FnScope ["value"] ["value"] (defScope s_is_delay) := ⟨rfl, rfl, rfl, by decide +kernel, rfl, by decide +kernel, by decide +kernel⟩
def m_is_delay : List W → Store → Res W := fnM 1 1
  (sRet (mCall m_is_within (mCons (mV 0) (mCons (mOp fAdd (mC (.int 20)) (mC (.int 1))) (mNil)))))
theorem ok_is_delay (T : Blt K mg) (D : DefAt K mg "is_delay" s_is_delay) (D_is_within : DefOk P w K mg base "is_within" s_is_within 3 ["value", "many"] m_is_within) : DefOk P w K mg base "is_delay" s_is_delay 4 ["value"] m_is_delay :=
  defOk_of (N := ["value"]) D sc_is_delay fun f cdv A outer s H E hr hg =>
  (gss_one (gs_ret (ge_callD D_is_within hr hg (takes_of rfl rfl rfl rfl) rfl (fun _ _ _ _ _ _ us hl => match us, hl with | [_, _], _ => rfl) (ga_cons (ge_var 0) (ga_cons (ge_op op_addA r2_add (ge_gIntE rfl T.LONGEST_DELAY) (ge_int)) (ga_nil))))))
abbrev s_are_cells : Stmt := topS 48
theorem sc_are_cells : FnScope ["size", "value", "cell"] ["size", "value"] (defScope s_are_cells) := ⟨rfl, rfl, rfl, by decide +kernel, rfl, by decide +kernel, by decide +kernel⟩
def m_are_cells_e1 : Ev W := mAndV (mCall m_is_tuple_of (mCons (mV 2) (mCons (mC (.int 2)) (mNil)))) (mAndV (mCall m_is_name (mCons (mOp fIx (mV 2) (mC (.int 0))) (mNil))) (mCall m_is_within (mCons (mOp fIx (mV 2) (mC (.int 1))) (mCons (mV 0) (mNil)))))
def m_are_cells : List W → Store → Res W := fnM 2 3
  (sSeq (sIf (mOr (mNot (mTru (mUn (fIsK 3) (mV 1)))) (mB (mOp fGt (mCall fLen (mCons (mV 1) (mNil))) (mC (.int 3))))) (sRet (mC (.bl false))) (sNx))
  (sRet (mCall fAll (mCons (mLcT [2] (setN 2) (mV 1) (yes) (m_are_cells_e1)) (mNil)))))
theorem ok_are_cells (T : Blt K mg) (D : DefAt K mg "are_cells" s_are_cells) (D_is_tuple_of : DefOk P w K mg base "is_tuple_of" s_is_tuple_of 1 ["value", "many"] m_is_tuple_of) (D_is_name : DefOk P w K mg base "is_name" s_is_name 1 ["value"] m_is_name) (D_is_within : DefOk P w K mg base "is_within" s_is_within 3 ["value", "many"] m_is_within) : DefOk P w K mg base "are_cells" s_are_cells 4 ["size", "value"] m_are_cells :=
  defOk_of (N := ["size", "value", "cell"]) D sc_are_cells fun f cdv A outer s H E hr hg =>
  (gss_cons (gs_if (GW.pt (gw_or (gt_not (gt_tru (ge_isiZ isk_tuple (T := "tuple") ty_tuple rfl T.isinstance rfl T.tuple (by decide +kernel) (ge_var 1)) (fun _ => rfl))) (gw_or1 (gt_cmp (op_gtP hr.units) r2_data (ge_callB call_len rc_len rfl T.len (by decide +kernel) (ga_cons (ge_var 1) (ga_nil))) (ge_gIntE rfl T.MOST_NAMES) (nomark _))))) (gss_one (gs_ret (ge_bl))) (gss_nil))
  (gss_one (gs_ret (ge_callB (cr_all rfl) rc_all rfl T.all (by decide +kernel) (ga_cons (ge_lcT (own := [("cell", 2)]) ⟨blkOk_by (N := ["size", "value", "cell"]) (sc := defScope s_are_cells) (by decide +kernel), fun _ _ _ _ _ => pg_name (i := 2) sc_are_cells.nd rfl (by first | exact Or.inl rfl | exact Or.inr rfl), fun _ _ _ _ _ => gp_nil, fun _ _ _ _ _ => ge_and (ge_callD D_is_tuple_of (hr.mono (by decide)) hg takes0 rfl (fun _ _ _ _ _ _ us hl => match us, hl with | [_, _], _ => rfl) (ga_cons (ge_var 2) (ga_cons (ge_int) (ga_nil)))) (ge_and (ge_callD D_is_name (hr.mono (by decide)) hg takes0 rfl (fun _ _ _ _ _ _ us hl => match us, hl with | [_], _ => rfl) (ga_cons (ge_ix (ge_var 2) (ge_int) (fun _ _ => rfl)) (ga_nil))) (ge_one (ge_callD D_is_within hr hg takes0 rfl (fun _ _ _ _ _ _ us hl => match us, hl with | [_, _], _ => rfl) (ga_cons (ge_ix (ge_var 2) (ge_int) (fun _ _ => rfl)) (ga_cons (ge_var 0) (ga_nil))))))⟩ (fun _ => putLc_name (by decide)) rfl sc_are_cells.nd (ge_var 1)) (ga_nil))))))
abbrev s_is_first : Stmt := topS 53
theorem sc_is_first : FnScope ["model", "value", "place"] ["model", "value"] (defScope s_is_first) := ⟨rfl, rfl, rfl, by decide +kernel, rfl, by decide +kernel, by decide +kernel⟩
def m_is_first : List W → Store → Res W := fnM 2 3
  (sSeq (sIf (mOr (mNot (mTru (mCall m_is_tuple_of (mCons (mV 1) (mCons (mC (.int 4)) (mNil)))))) (mOr (mNot (mTru (mCall m_is_count (mCons (mOp fIx (mV 1) (mC (.int 0))) (mNil))))) (mNot (mTru (mCall m_is_within (mCons (mOp fIx (mV 1) (mC (.int 3))) (mCons (mOp fIx (mV 0) (mC (.int 0))) (mNil)))))))) (sRet (mC (.bl false))) (sNx))
  (sSeq (sSet 2 (mCall m_find_place (mCons (mOp fIx (mV 0) (mC (.int 1))) (mCons (mOp fIx (mV 1) (mC (.int 1))) (mNil)))))
  (sSeq (sIf (mB (mOp fIs (mV 2) (mC .non))) (sRet (mC (.bl false))) (sNx))
  (sSeq (sIf (mTru (mCall m_is_first_alarm (mCons (mV 0) (mCons (mV 1) (mNil))))) (sRet (mOp fEq (mOp fIx (mV 1) (mC (.int 3))) (mC (.int 0)))) (sNx))
  (sRet (mAndV (mOp fIn (mOp fIx (mV 1) (mC (.int 2))) (mOp fIx (mOp fIx (mOp fIx (mV 0) (mC (.int 1))) (mV 2)) (mC (.int 2)))) (mOp fIs (mCall m_find_line_into (mCons (mV 0) (mCons (mV 2) (mCons (mOp fIx (mV 1) (mC (.int 2))) (mNil))))) (mC .non))))))))
theorem ok_is_first (T : Blt K mg) (D : DefAt K mg "is_first" s_is_first) (D_is_tuple_of : DefOk P w K mg base "is_tuple_of" s_is_tuple_of 1 ["value", "many"] m_is_tuple_of) (D_is_count : DefOk P w K mg base "is_count" s_is_count 2 ["value"] m_is_count) (D_is_within : DefOk P w K mg base "is_within" s_is_within 3 ["value", "many"] m_is_within) (D_find_place : DefOk P w K mg base "find_place" s_find_place 1 ["stations", "name"] m_find_place) (D_is_first_alarm : DefOk P w K mg base "is_first_alarm" s_is_first_alarm 2 ["model", "item"] m_is_first_alarm) (D_find_line_into : DefOk P w K mg base "find_line_into" s_find_line_into 1 ["model", "place", "name"] m_find_line_into) : DefOk P w K mg base "is_first" s_is_first 4 ["model", "value"] m_is_first :=
  defOk_of (N := ["model", "value", "place"]) D sc_is_first fun f cdv A outer s H E hr hg =>
  (gss_cons (gs_if (GW.pt (gw_or (gt_not (gt_tru (ge_callD D_is_tuple_of (hr.mono (by decide)) hg (takes_of rfl rfl rfl rfl) rfl (fun _ _ _ _ _ _ us hl => match us, hl with | [_, _], _ => rfl) (ga_cons (ge_var 1) (ga_cons (ge_int) (ga_nil)))) (fun _ => rfl))) (gw_or (gt_not (gt_tru (ge_callD D_is_count (hr.mono (by decide)) hg (takes_of rfl rfl rfl rfl) rfl (fun _ _ _ _ _ _ us hl => match us, hl with | [_], _ => rfl) (ga_cons (ge_ix (ge_var 1) (ge_int) (fun _ _ => rfl)) (ga_nil))) (fun _ => rfl))) (gw_or1 (gt_not (gt_tru (ge_callD D_is_within hr hg (takes_of rfl rfl rfl rfl) rfl (fun _ _ _ _ _ _ us hl => match us, hl with | [_, _], _ => rfl) (ga_cons (ge_ix (ge_var 1) (ge_int) (fun _ _ => rfl)) (ga_cons (ge_ix (ge_var 0) (ge_int) (fun _ _ => rfl)) (ga_nil)))) (fun _ => rfl))))))) (gss_one (gs_ret (ge_bl))) (gss_nil))
  (gss_cons (gs_set (i := 2) sc_is_first.nd rfl (by first | exact Or.inl rfl | exact Or.inr rfl) (ge_callD D_find_place (hr.mono (by decide)) hg (takes_of rfl rfl rfl rfl) rfl (fun _ _ _ _ _ _ us hl => match us, hl with | [_, _], _ => rfl) (ga_cons (ge_ix (ge_var 0) (ge_int) (fun _ _ => rfl)) (ga_cons (ge_ix (ge_var 1) (ge_int) (fun _ _ => rfl)) (ga_nil)))))
  (gss_cons (gs_if (gt_cmp op_isN r2_is (ge_var 2) (ge_non) (nomark _)) (gss_one (gs_ret (ge_bl))) (gss_nil))
  (gss_cons (gs_if (gt_tru (ge_callD D_is_first_alarm (hr.mono (by decide)) hg (takes_of rfl rfl rfl rfl) rfl (fun _ _ _ _ _ _ us hl => match us, hl with | [_, _], _ => rfl) (ga_cons (ge_var 0) (ga_cons (ge_var 1) (ga_nil)))) (fun _ => rfl)) (gss_one (gs_ret (ge_cmp (op_eqP hr.units) r2_data (ge_ix (ge_var 1) (ge_int) (fun _ _ => rfl)) (ge_int) (nomark _)))) (gss_nil))
  (gss_one (gs_ret (ge_and (ge_cmp (op_inP hr.units) r2_data (ge_ix (ge_var 1) (ge_int) (fun _ _ => rfl)) (ge_ix (ge_ix (ge_ix (ge_var 0) (ge_int) (fun _ _ => rfl)) (ge_var 2) (fun _ _ => rfl)) (ge_int) (fun _ _ => rfl)) (by rfl)) (ge_one (ge_cmp op_isN r2_is (ge_callD D_find_line_into (hr.mono (by decide)) hg (takes_of rfl rfl rfl rfl) rfl (fun _ _ _ _ _ _ us hl => match us, hl with | [_, _, _], _ => rfl) (ga_cons (ge_var 0) (ga_cons (ge_var 2) (ga_cons (ge_ix (ge_var 1) (ge_int) (fun _ _ => rfl)) (ga_nil))))) (ge_non) (nomark _))))))))))
abbrev s_are_worths : Stmt := topS 58
theorem sc_are_worths : FnScope ["size", "station", "value", "worth"] ["size", "station", "value"] (defScope s_are_worths) := ⟨rfl, rfl, rfl, by decide +kernel, rfl, by decide +kernel, by decide +kernel⟩
def m_are_worths_e1 : Ev W := mCall m_is_within (mCons (mV 3) (mCons (mV 0) (mNil)))
def m_are_worths : List W → Store → Res W := fnM 3 4
  (sSeq (sIf (mNot (mTru (mCall m_is_tuple_of (mCons (mV 2) (mCons (mCall fLen (mCons (mOp fIx (mV 1) (mC (.int 1))) (mNil))) (mNil)))))) (sRet (mC (.bl false))) (sNx))
  (sRet (mCall fAll (mCons (mLcT [3] (setN 3) (mV 2) (yes) (m_are_worths_e1)) (mNil)))))
theorem ok_are_worths (T : Blt K mg) (D : DefAt K mg "are_worths" s_are_worths) (D_is_tuple_of : DefOk P w K mg base "is_tuple_of" s_is_tuple_of 1 ["value", "many"] m_is_tuple_of) (D_is_within : DefOk P w K mg base "is_within" s_is_within 3 ["value", "many"] m_is_within) : DefOk P w K mg base "are_worths" s_are_worths 4 ["size", "station", "value"] m_are_worths :=
  defOk_of (N := ["size", "station", "value", "worth"]) D sc_are_worths fun f cdv A outer s H E hr hg =>
  (gss_cons (gs_if (gt_not (gt_tru (ge_callD D_is_tuple_of (hr.mono (by decide)) hg (takes_of rfl rfl rfl rfl) rfl (fun _ _ _ _ _ _ us hl => match us, hl with | [_, _], _ => rfl) (ga_cons (ge_var 2) (ga_cons (ge_callB call_len rc_len rfl T.len (by decide +kernel) (ga_cons (ge_ix (ge_var 1) (ge_int) (fun _ _ => rfl)) (ga_nil))) (ga_nil)))) (fun _ => rfl))) (gss_one (gs_ret (ge_bl))) (gss_nil))
  (gss_one (gs_ret (ge_callB (cr_all rfl) rc_all rfl T.all (by decide +kernel) (ga_cons (ge_lcT (own := [("worth", 3)]) ⟨blkOk_by (N := ["size", "station", "value", "worth"]) (sc := defScope s_are_worths) (by decide +kernel), fun _ _ _ _ _ => pg_name (i := 3) sc_are_worths.nd rfl (by first | exact Or.inl rfl | exact Or.inr rfl), fun _ _ _ _ _ => gp_nil, fun _ _ _ _ _ => ge_callD D_is_within hr hg takes0 rfl (fun _ _ _ _ _ _ us hl => match us, hl with | [_, _], _ => rfl) (ga_cons (ge_var 3) (ga_cons (ge_var 0) (ga_nil)))⟩ (fun _ => putLc_name (by decide)) rfl sc_are_worths.nd (ge_var 2)) (ga_nil))))))
abbrev s_may_be_it : Stmt := topS 59
theorem sc_may_be_it : FnScope ["size", "station", "rank", "value"] ["size", "station", "rank", "value"] (defScope s_may_be_it) := ⟨rfl, rfl, rfl, by decide +kernel, rfl, by decide +kernel, by decide +kernel⟩
def m_may_be_it : List W → Store → Res W := fnM 4 4
  (sSeq (sIf (mTru (mCall m_is_alarm (mCons (mV 1) (mCons (mV 2) (mNil))))) (sRet (mCall m_is_within (mCons (mV 3) (mCons (mC (.int 1)) (mNil))))) (sNx))
  (sRet (mCall m_is_within (mCons (mV 3) (mCons (mV 0) (mNil))))))
theorem ok_may_be_it (T : Blt K mg) (D : DefAt K mg "may_be_it" s_may_be_it) (D_is_alarm : DefOk P w K mg base "is_alarm" s_is_alarm 1 ["station", "rank"] m_is_alarm) (D_is_within : DefOk P w K mg base "is_within" s_is_within 3 ["value", "many"] m_is_within) : DefOk P w K mg base "may_be_it" s_may_be_it 4 ["size", "station", "rank", "value"] m_may_be_it :=
  defOk_of (N := ["size", "station", "rank", "value"]) D sc_may_be_it fun f cdv A outer s H E hr hg =>
  (gss_cons (gs_if (gt_tru (ge_callD D_is_alarm (hr.mono (by decide)) hg (takes_of rfl rfl rfl rfl) rfl (fun _ _ _ _ _ _ us hl => match us, hl with | [_, _], _ => rfl) (ga_cons (ge_var 1) (ga_cons (ge_var 2) (ga_nil)))) (fun _ => rfl)) (gss_one (gs_ret (ge_callD D_is_within hr hg (takes_of rfl rfl rfl rfl) rfl (fun _ _ _ _ _ _ us hl => match us, hl with | [_, _], _ => rfl) (ga_cons (ge_var 3) (ga_cons (ge_int) (ga_nil)))))) (gss_nil))
  (gss_one (gs_ret (ge_callD D_is_within hr hg (takes_of rfl rfl rfl rfl) rfl (fun _ _ _ _ _ _ us hl => match us, hl with | [_, _], _ => rfl) (ga_cons (ge_var 3) (ga_cons (ge_var 0) (ga_nil)))))))
def m_worth_of_3 : List W → Store → Res W := fnM 2 4
  (sSeq (sIf (mTru (mUn (fIsK 0) (mV 1))) (sRet (mV 1)) (sNx))
  (sSeq (sIf (mB (mOp fEq (mV 1) (mC (.str z_it)))) (sRet (mUn (fGet 1 z_it) (mV 0))) (sNx))
  (sSeq (sIf (mTru (mUn (fIsK 2) (mV 1))) (sRet (mOp fDGet (mUn (fGet 1 z_cells) (mV 0)) (mV 1))) (sNx))
  (sSeq (sSet 2 (mCall m_worth_of_2 (mCons (mV 0) (mCons (mOp fIx (mV 1) (mC (.int 1))) (mNil)))))
  (sSeq (sSet 3 (mCall m_worth_of_2 (mCons (mV 0) (mCons (mOp fIx (mV 1) (mC (.int 2))) (mNil)))))
  (sRet (mOp fMod (mCall m_reckoned (mCons (mOp fIx (mV 1) (mC (.int 0))) (mCons (mV 2) (mCons (mV 3) (mNil))))) (mUn (fGet 1 z_size) (mV 0)))))))))
theorem ok_worth_of_3 (T : Blt K mg) (D : DefAt K mg "worth_of" s_worth_of) (D_worth_of_2 : DefOk P w K mg base "worth_of" s_worth_of 3 ["doing", "expression"] m_worth_of_2) (D_reckoned : DefOk P w K mg base "reckoned" s_reckoned 1 ["sign", "left", "right"] m_reckoned) : DefOk P w K mg base "worth_of" s_worth_of 4 ["doing", "expression"] m_worth_of_3 :=
  defOk_of (N := ["doing", "expression", "left", "right"]) D sc_worth_of fun f cdv A outer s H E hr hg =>
  (gss_cons (gs_if (gt_tru (ge_isiZ isk_int (T := "int") ty_int rfl T.isinstance rfl T.int (by decide +kernel) (ge_var 1)) (fun _ => rfl)) (gss_one (gs_ret (ge_var 1))) (gss_nil))
  (gss_cons (gs_if (gt_cmp (op_eqP hr.units) r2_data (ge_var 1) (ge_strZ y_it) (nomark _)) (gss_one (gs_ret (ge_fldE y_it T.cls_Doing T.na_Doing_it (ge_var 0)))) (gss_nil))
  (gss_cons (gs_if (gt_tru (ge_isiZ isk_str (T := "str") ty_str rfl T.isinstance rfl T.str (by decide +kernel) (ge_var 1)) (fun _ => rfl)) (gss_one (gs_ret (ge_dget (u_1 hr) (ge_fldE y_cells T.cls_Doing T.na_Doing_cells (ge_var 0)) (ge_var 1) (fun _ _ => rfl)))) (gss_nil))
  (gss_cons (gs_set (i := 2) sc_worth_of.nd rfl (by first | exact Or.inl rfl | exact Or.inr rfl) (ge_callD D_worth_of_2 hr hg (takes_of rfl rfl rfl rfl) rfl (fun _ _ _ _ _ _ us hl => match us, hl with | [_, _], _ => rfl) (ga_cons (ge_var 0) (ga_cons (ge_ix (ge_var 1) (ge_int) (fun _ _ => rfl)) (ga_nil)))))
  (gss_cons (gs_set (i := 3) sc_worth_of.nd rfl (by first | exact Or.inl rfl | exact Or.inr rfl) (ge_callD D_worth_of_2 hr hg (takes_of rfl rfl rfl rfl) rfl (fun _ _ _ _ _ _ us hl => match us, hl with | [_, _], _ => rfl) (ga_cons (ge_var 0) (ga_cons (ge_ix (ge_var 1) (ge_int) (fun _ _ => rfl)) (ga_nil)))))
  (gss_one (gs_ret (ge_op op_mod r2_mod (ge_callD D_reckoned (hr.mono (by decide)) hg (takes_of rfl rfl rfl rfl) rfl (fun _ _ _ _ _ _ us hl => match us, hl with | [_, _, _], _ => rfl) (ga_cons (ge_ix (ge_var 1) (ge_int) (fun _ _ => rfl)) (ga_cons (ge_var 2) (ga_cons (ge_var 3) (ga_nil))))) (ge_fldE y_size T.cls_Doing T.na_Doing_size (ge_var 0))))))))))
def m_l_sum_2 : List W → Store → Res W := fnM 4 5
  (sSeq (sIf (mOr (mB (mOp fEq (mV 3) (mC (.int 0)))) (mB (mOp fEq (mCall m_l_take (mCons (mV 0) (mCons (mC (.int 4)) (mNil)))) (mC (.int 0))))) (sRet (mIf (mB (mOp fGt (mCall m_l_take (mCons (mV 0) (mCons (mC (.int 3)) (mNil)))) (mC (.int 0)))) (mCall m_l_of (mCons (mV 0) (mCons (mV 1) (mNil)))) (mCall m_l_take (mCons (mV 0) (mCons (mV 2) (mNil)))))) (sNx))
  (sSeq (sSet 4 (mCall m_l_of (mCons (mV 0) (mCons (mLst (mCons (mC (.str z__2b)) (mCons (mC (.str z__2d)) (mCons (mC (.str z__2a)) (mNil))))) (mNil)))))
  (sRet (mTup (mCons (mV 4) (mCons (mCall m_l_sum_1 (mCons (mV 0) (mCons (mV 1) (mCons (mV 2) (mCons (mOp fSub (mV 3) (mC (.int 1))) (mNil)))))) (mCons (mCall m_l_sum_1 (mCons (mV 0) (mCons (mV 1) (mCons (mV 2) (mCons (mOp fSub (mV 3) (mC (.int 1))) (mNil)))))) (mNil))))))))
theorem ok_l_sum_2 (T : Blt K mg) (D : DefAt K mg "_law_sum" s_l_sum) (D_l_take : DefOk P w K mg base "_law_take" s_l_take 1 ["_law_pot_here", "_law_upto"] m_l_take) (D_l_of : DefOk P w K mg base "_law_of" s_l_of 2 ["_law_pot_here", "_law_some"] m_l_of) (D_l_sum_1 : DefOk P w K mg base "_law_sum" s_l_sum 3 ["_law_pot_here", "_law_names", "_law_size", "_law_deep"] m_l_sum_1) : DefOk P w K mg base "_law_sum" s_l_sum 4 ["_law_pot_here", "_law_names", "_law_size", "_law_deep"] m_l_sum_2 :=
  defOk_of (N := ["_law_pot_here", "_law_names", "_law_size", "_law_deep", "_law_sign"]) D sc_l_sum fun f cdv A outer s H E hr hg =>
  (gss_cons (gs_if (GW.pt (gw_or (gt_cmp (op_eqP hr.units) r2_data (ge_var 3) (ge_int) (nomark _)) (gw_or1 (gt_cmp (op_eqP hr.units) r2_data (ge_callD D_l_take (hr.mono (by decide)) hg (takes_of rfl rfl rfl rfl) rfl (fun _ _ _ _ _ _ us hl => match us, hl with | [_, _], _ => rfl) (ga_cons (ge_var 0) (ga_cons (ge_int) (ga_nil)))) (ge_int) (nomark _))))) (gss_one (gs_ret (ge_if (gt_cmp (op_gtP hr.units) r2_data (ge_callD D_l_take (hr.mono (by decide)) hg (takes_of rfl rfl rfl rfl) rfl (fun _ _ _ _ _ _ us hl => match us, hl with | [_, _], _ => rfl) (ga_cons (ge_var 0) (ga_cons (ge_int) (ga_nil)))) (ge_int) (nomark _)) (ge_callD D_l_of (hr.mono (by decide)) hg (takes_of rfl rfl rfl rfl) rfl (fun _ _ _ _ _ _ us hl => match us, hl with | [_, _], _ => rfl) (ga_cons (ge_var 0) (ga_cons (ge_var 1) (ga_nil)))) (ge_callD D_l_take (hr.mono (by decide)) hg (takes_of rfl rfl rfl rfl) rfl (fun _ _ _ _ _ _ us hl => match us, hl with | [_, _], _ => rfl) (ga_cons (ge_var 0) (ga_cons (ge_var 2) (ga_nil))))))) (gss_nil))
  (gss_cons (gs_set (i := 4) sc_l_sum.nd rfl (by first | exact Or.inl rfl | exact Or.inr rfl) (ge_callD D_l_of (hr.mono (by decide)) hg (takes_of rfl rfl rfl rfl) rfl (fun _ _ _ _ _ _ us hl => match us, hl with | [_, _], _ => rfl) (ga_cons (ge_var 0) (ga_cons (ge_lst (ga_cons (ge_strZ y__2b) (ga_cons (ge_strZ y__2d) (ga_cons (ge_strZ y__2a) (ga_nil))))) (ga_nil)))))
  (gss_one (gs_ret (ge_tup (ga_cons (ge_var 4) (ga_cons (ge_callD D_l_sum_1 hr hg (takes_of rfl rfl rfl rfl) rfl (fun _ _ _ _ _ _ us hl => match us, hl with | [_, _, _, _], _ => rfl) (ga_cons (ge_var 0) (ga_cons (ge_var 1) (ga_cons (ge_var 2) (ga_cons (ge_op op_sub r2_sub (ge_var 3) (ge_int)) (ga_nil)))))) (ga_cons (ge_callD D_l_sum_1 hr hg (takes_of rfl rfl rfl rfl) rfl (fun _ _ _ _ _ _ us hl => match us, hl with | [_, _, _, _], _ => rfl) (ga_cons (ge_var 0) (ga_cons (ge_var 1) (ga_cons (ge_var 2) (ga_cons (ge_op op_sub r2_sub (ge_var 3) (ge_int)) (ga_nil)))))) (ga_nil)))))))))
def m_l_plain_3 : List W → Store → Res W := fnM 2 4
  (sSeq (sIf (mTru (mUn (fIsK 3) (mV 0))) (sSeq (sPar 2 3 (mCons (mCall m_l_plain_2 (mCons (mOp fIx (mV 0) (mC (.int 1))) (mCons (mV 1) (mNil)))) (mCons (mCall m_l_plain_2 (mCons (mOp fIx (mV 0) (mC (.int 2))) (mCons (mV 1) (mNil)))) (mNil))))
  (sRet (mOp fDGet (mDisp (((mC (.str z__2b)), (mOp fAdd (mV 2) (mV 3))) :: ((mC (.str z__2d)), (mOp fSub (mV 2) (mV 3))) :: ((mC (.str z__2a)), (mOp fMulA (mV 2) (mV 3))) :: [])) (mOp fIx (mV 0) (mC (.int 0)))))) (sNx))
  (sRet (mIf (mTru (mUn (fIsK 2) (mV 0))) (mOp fDGet (mV 1) (mV 0)) (mV 0))))
theorem ok_l_plain_3 (T : Blt K mg) (D : DefAt K mg "_law_plain" s_l_plain) (D_l_plain_2 : DefOk P w K mg base "_law_plain" s_l_plain 3 ["_law_e", "_law_held"] m_l_plain_2) : DefOk P w K mg base "_law_plain" s_l_plain 4 ["_law_e", "_law_held"] m_l_plain_3 :=
  defOk_of (N := ["_law_e", "_law_held", "_law_one", "_law_other"]) D sc_l_plain fun f cdv A outer s H E hr hg =>
  (gss_cons (gs_if (gt_tru (ge_isiZ isk_tuple (T := "tuple") ty_tuple rfl T.isinstance rfl T.tuple (by decide +kernel) (ge_var 0)) (fun _ => rfl)) (gss_cons (gs_par (i := 2) (j := 3) rfl sc_l_plain.nd rfl rfl (by decide) rfl rfl (ga_cons (ge_callD D_l_plain_2 hr hg (takes_of rfl rfl rfl rfl) rfl (fun _ _ _ _ _ _ us hl => match us, hl with | [_, _], _ => rfl) (ga_cons (ge_ix (ge_var 0) (ge_int) (fun _ _ => rfl)) (ga_cons (ge_var 1) (ga_nil)))) (ga_cons (ge_callD D_l_plain_2 hr hg (takes_of rfl rfl rfl rfl) rfl (fun _ _ _ _ _ _ us hl => match us, hl with | [_, _], _ => rfl) (ga_cons (ge_ix (ge_var 0) (ge_int) (fun _ _ => rfl)) (ga_cons (ge_var 1) (ga_nil)))) (ga_nil))) (by rfl))
  (gss_one (gs_ret (ge_dget (u_1 hr) (ge_disp (gpp_cons (ge_strZ y__2b) (ge_op op_addA r2_add (ge_var 2) (ge_var 3)) (gpp_cons (ge_strZ y__2d) (ge_op op_sub r2_sub (ge_var 2) (ge_var 3)) (gpp_cons (ge_strZ y__2a) (ge_op (op_mulW.or (op_repT.or op_repX)) r2_mulA (ge_var 2) (ge_var 3)) (gpp_nil))))) (ge_ix (ge_var 0) (ge_int) (fun _ _ => rfl)) (fun _ _ => rfl))))) (gss_nil))
  (gss_one (gs_ret (ge_if (gt_tru (ge_isiZ isk_str (T := "str") ty_str rfl T.isinstance rfl T.str (by decide +kernel) (ge_var 0)) (fun _ => rfl)) (ge_dget (u_1 hr) (ge_var 1) (ge_var 0) (fun _ _ => rfl)) (ge_var 0)))))
def m_is_expression_2 : List W → Store → Res W := fnM 3 3
  (sSeq (sIf (mTru (mUn (fIsK 2) (mV 1))) (sRet (mOrV (mOp fEq (mV 1) (mC (.str z_it))) (mOp fIn (mV 1) (mUn (fGet 0 z_cells) (mV 0))))) (sNx))
  (sSeq (sIf (mTru (mUn (fIsK 3) (mV 1))) (sSeq (sIf (mOr (mB (mOp fNe (mCall fLen (mCons (mV 1) (mNil))) (mC (.int 3)))) (mOr (mB (mOp fNin (mOp fIx (mV 1) (mC (.int 0))) (mC (.tup [(.str z__2b), (.str z__2d), (.str z__2a)])))) (mNot (mTru (mV 2))))) (sRet (mC (.bl false))) (sNx))
  (sRet (mAndV (mCall (moreM [] m_is_expression_1) (mCons (mV 0) (mCons (mOp fIx (mV 1) (mC (.int 1))) (mCons (mOp fSub (mV 2) (mC (.int 1))) (mNil))))) (mCall (moreM [] m_is_expression_1) (mCons (mV 0) (mCons (mOp fIx (mV 1) (mC (.int 2))) (mCons (mOp fSub (mV 2) (mC (.int 1))) (mNil)))))))) (sNx))
  (sRet (mCall m_is_within (mCons (mV 1) (mCons (mUn (fGet 0 z_size) (mV 0)) (mNil)))))))
theorem ok_is_expression_2 (T : Blt K mg) (D : DefAtF K mg "is_expression" s_is_expression [.int 3]) (D_is_expression_1 : DefOkF P w K mg base "is_expression" s_is_expression [.int 3] 4 ["names", "value", "signs"] m_is_expression_1) (D_is_within : DefOk P w K mg base "is_within" s_is_within 3 ["value", "many"] m_is_within) : DefOkF P w K mg base "is_expression" s_is_expression [.int 3] 5 ["names", "value", "signs"] m_is_expression_2 :=
  defOkF_of (N := ["names", "value", "signs"]) D sc_is_expression fun f cdv A outer s H E hr hg =>
  (gss_cons (gs_if (gt_tru (ge_isiZ isk_str (T := "str") ty_str rfl T.isinstance rfl T.str (by decide +kernel) (ge_var 1)) (fun _ => rfl)) (gss_one (gs_ret (ge_or (ge_cmp (op_eqP hr.units) r2_data (ge_var 1) (ge_strZ y_it) (nomark _)) (ge_one (ge_cmp (op_inP hr.units) r2_data (ge_var 1) (ge_fldE y_cells T.cls_Names T.na_Names_cells (ge_var 0)) (by rfl)))))) (gss_nil))
  (gss_cons (gs_if (gt_tru (ge_isiZ isk_tuple (T := "tuple") ty_tuple rfl T.isinstance rfl T.tuple (by decide +kernel) (ge_var 1)) (fun _ => rfl)) (gss_cons (gs_if (GW.pt (gw_or (gt_cmp (op_neP hr.units) r2_data (ge_callB call_len rc_len rfl T.len (by decide +kernel) (ga_cons (ge_var 1) (ga_nil))) (ge_int) (nomark _)) (gw_or (gt_cmp (op_ninP hr.units) r2_data (ge_ix (ge_var 1) (ge_int) (fun _ _ => rfl)) (ge_gRefE rfl T.SIGNS) (by rfl)) (gw_or1 (gt_not (gt_tru (ge_var 2) (fun _ => rfl))))))) (gss_one (gs_ret (ge_bl))) (gss_nil))
  (gss_one (gs_ret (ge_and (ge_callFd (n := 3) (j := 1) (wd := []) D_is_expression_1 hr hg (takes_of rfl rfl rfl rfl) rfl (by decide) rfl (fun _ => rfl) (fun _ _ _ _ _ _ _ us its h1 h2 => match us, its, h1, h2 with | [_, _, _], [_], _, _ => ⟨_, rfl, rfl⟩) (ga_cons (ge_var 0) (ga_cons (ge_ix (ge_var 1) (ge_int) (fun _ _ => rfl)) (ga_cons (ge_op op_sub r2_sub (ge_var 2) (ge_int)) (ga_nil))))) (ge_one (ge_callFd (n := 3) (j := 1) (wd := []) D_is_expression_1 hr hg (takes_of rfl rfl rfl rfl) rfl (by decide) rfl (fun _ => rfl) (fun _ _ _ _ _ _ _ us its h1 h2 => match us, its, h1, h2 with | [_, _, _], [_], _, _ => ⟨_, rfl, rfl⟩) (ga_cons (ge_var 0) (ga_cons (ge_ix (ge_var 1) (ge_int) (fun _ _ => rfl)) (ga_cons (ge_op op_sub r2_sub (ge_var 2) (ge_int)) (ga_nil)))))))))) (gss_nil))
  (gss_one (gs_ret (ge_callD D_is_within (hr.mono (by decide)) hg (takes_of rfl rfl rfl rfl) rfl (fun _ _ _ _ _ _ us hl => match us, hl with | [_, _], _ => rfl) (ga_cons (ge_var 1) (ga_cons (ge_fldE y_size T.cls_Names T.na_Names_size (ge_var 0)) (ga_nil))))))))
abbrev s_is_line : Stmt := topS 51
theorem sc_is_line : FnScope ["stations", "value", "sender", "receiver"] ["stations", "value"] (defScope s_is_line) := ⟨rfl, rfl, rfl, by decide +kernel, rfl, by decide +kernel, by decide +kernel⟩
def m_is_line : List W → Store → Res W := fnM 2 4
  (sSeq (sIf (mOr (mNot (mTru (mCall m_is_tuple_of (mCons (mV 1) (mCons (mC (.int 5)) (mNil)))))) (mNot (mTru (mCall m_is_delay (mCons (mOp fIx (mV 1) (mC (.int 4))) (mNil)))))) (sRet (mC (.bl false))) (sNx))
  (sSeq (sSet 2 (mCall m_find_place (mCons (mV 0) (mCons (mOp fIx (mV 1) (mC (.int 0))) (mNil)))))
  (sSeq (sSet 3 (mCall m_find_place (mCons (mV 0) (mCons (mOp fIx (mV 1) (mC (.int 2))) (mNil)))))
  (sSeq (sIf (mOr (mB (mOp fIs (mV 2) (mC .non))) (mB (mOp fIs (mV 3) (mC .non)))) (sRet (mC (.bl false))) (sNx))
  (sRet (mAndV (mOp fIn (mOp fIx (mV 1) (mC (.int 1))) (mOp fIx (mOp fIx (mV 0) (mV 2)) (mC (.int 3)))) (mOp fIn (mOp fIx (mV 1) (mC (.int 3))) (mOp fIx (mOp fIx (mV 0) (mV 3)) (mC (.int 2))))))))))
theorem ok_is_line (T : Blt K mg) (D : DefAt K mg "is_line" s_is_line) (D_is_tuple_of : DefOk P w K mg base "is_tuple_of" s_is_tuple_of 1 ["value", "many"] m_is_tuple_of) (D_is_delay : DefOk P w K mg base "is_delay" s_is_delay 4 ["value"] m_is_delay) (D_find_place : DefOk P w K mg base "find_place" s_find_place 1 ["stations", "name"] m_find_place) : DefOk P w K mg base "is_line" s_is_line 5 ["stations", "value"] m_is_line :=
  defOk_of (N := ["stations", "value", "sender", "receiver"]) D sc_is_line fun f cdv A outer s H E hr hg =>
  (gss_cons (gs_if (GW.pt (gw_or (gt_not (gt_tru (ge_callD D_is_tuple_of (hr.mono (by decide)) hg (takes_of rfl rfl rfl rfl) rfl (fun _ _ _ _ _ _ us hl => match us, hl with | [_, _], _ => rfl) (ga_cons (ge_var 1) (ga_cons (ge_int) (ga_nil)))) (fun _ => rfl))) (gw_or1 (gt_not (gt_tru (ge_callD D_is_delay hr hg (takes_of rfl rfl rfl rfl) rfl (fun _ _ _ _ _ _ us hl => match us, hl with | [_], _ => rfl) (ga_cons (ge_ix (ge_var 1) (ge_int) (fun _ _ => rfl)) (ga_nil))) (fun _ => rfl)))))) (gss_one (gs_ret (ge_bl))) (gss_nil))
  (gss_cons (gs_set (i := 2) sc_is_line.nd rfl (by first | exact Or.inl rfl | exact Or.inr rfl) (ge_callD D_find_place (hr.mono (by decide)) hg (takes_of rfl rfl rfl rfl) rfl (fun _ _ _ _ _ _ us hl => match us, hl with | [_, _], _ => rfl) (ga_cons (ge_var 0) (ga_cons (ge_ix (ge_var 1) (ge_int) (fun _ _ => rfl)) (ga_nil)))))
  (gss_cons (gs_set (i := 3) sc_is_line.nd rfl (by first | exact Or.inl rfl | exact Or.inr rfl) (ge_callD D_find_place (hr.mono (by decide)) hg (takes_of rfl rfl rfl rfl) rfl (fun _ _ _ _ _ _ us hl => match us, hl with | [_, _], _ => rfl) (ga_cons (ge_var 0) (ga_cons (ge_ix (ge_var 1) (ge_int) (fun _ _ => rfl)) (ga_nil)))))
  (gss_cons (gs_if (GW.pt (gw_or (gt_cmp op_isN r2_is (ge_var 2) (ge_non) (nomark _)) (gw_or1 (gt_cmp op_isN r2_is (ge_var 3) (ge_non) (nomark _))))) (gss_one (gs_ret (ge_bl))) (gss_nil))
  (gss_one (gs_ret (ge_and (ge_cmp (op_inP hr.units) r2_data (ge_ix (ge_var 1) (ge_int) (fun _ _ => rfl)) (ge_ix (ge_ix (ge_var 0) (ge_var 2) (fun _ _ => rfl)) (ge_int) (fun _ _ => rfl)) (by rfl)) (ge_one (ge_cmp (op_inP hr.units) r2_data (ge_ix (ge_var 1) (ge_int) (fun _ _ => rfl)) (ge_ix (ge_ix (ge_var 0) (ge_var 3) (fun _ _ => rfl)) (ge_int) (fun _ _ => rfl)) (by rfl))))))))))
abbrev s_are_first : Stmt := topS 52
theorem sc_are_first : FnScope ["model", "first", "alarms", "item"] ["model"] (defScope s_are_first) := ⟨rfl, rfl, rfl, by decide +kernel, rfl, by decide +kernel, by decide +kernel⟩
def m_are_first_e1 : Ev W := mCall m_is_first (mCons (mV 0) (mCons (mV 3) (mNil)))
def m_are_first_e2 : Ev W := mTup (mCons (mOp fIx (mV 3) (mC (.int 1))) (mCons (mOp fIx (mV 3) (mC (.int 2))) (mNil)))
def m_are_first_t1 : Ev Bool := mTru (mCall m_is_first_alarm (mCons (mV 0) (mCons (mV 3) (mNil))))
def m_are_first : List W → Store → Res W := fnM 1 4
  (sSeq (sSet 1 (mOp fIx (mV 0) (mC (.int 3))))
  (sSeq (sIf (mOr (mNot (mTru (mUn (fIsK 3) (mV 1)))) (mNot (mTru (mCall fAll (mCons (mLcT [3] (setN 3) (mV 1) (yes) (m_are_first_e1)) (mNil)))))) (sRet (mC (.bl false))) (sNx))
  (sSeq (sSet 2 (mLcT [3] (setN 3) (mV 1) (m_are_first_t1) (m_are_first_e2)))
  (sRet (mCall m_are_different (mCons (mV 2) (mNil)))))))
theorem ok_are_first (T : Blt K mg) (D : DefAt K mg "are_first" s_are_first) (D_is_first : DefOk P w K mg base "is_first" s_is_first 4 ["model", "value"] m_is_first) (D_is_first_alarm : DefOk P w K mg base "is_first_alarm" s_is_first_alarm 2 ["model", "item"] m_is_first_alarm) (D_are_different : DefOk P w K mg base "are_different" s_are_different 1 ["hashables"] m_are_different) : DefOk P w K mg base "are_first" s_are_first 5 ["model"] m_are_first :=
  defOk_of (N := ["model", "first", "alarms", "item"]) D sc_are_first fun f cdv A outer s H E hr hg =>
  (gss_cons (gs_set (i := 1) sc_are_first.nd rfl (by first | exact Or.inl rfl | exact Or.inr rfl) (ge_ix (ge_var 0) (ge_int) (fun _ _ => rfl)))
  (gss_cons (gs_if (GW.pt (gw_or (gt_not (gt_tru (ge_isiZ isk_tuple (T := "tuple") ty_tuple rfl T.isinstance rfl T.tuple (by decide +kernel) (ge_var 1)) (fun _ => rfl))) (gw_or1 (gt_not (gt_tru (ge_callB (cr_all rfl) rc_all rfl T.all (by decide +kernel) (ga_cons (ge_lcT (own := [("item", 3)]) ⟨blkOk_by (N := ["model", "first", "alarms", "item"]) (sc := defScope s_are_first) (by decide +kernel), fun _ _ _ _ _ => pg_name (i := 3) sc_are_first.nd rfl (by first | exact Or.inl rfl | exact Or.inr rfl), fun _ _ _ _ _ => gp_nil, fun _ _ _ _ _ => ge_callD D_is_first hr hg takes0 rfl (fun _ _ _ _ _ _ us hl => match us, hl with | [_, _], _ => rfl) (ga_cons (ge_var 0) (ga_cons (ge_var 3) (ga_nil)))⟩ (fun _ => putLc_name (by decide)) rfl sc_are_first.nd (ge_var 1)) (ga_nil))) (fun _ => rfl)))))) (gss_one (gs_ret (ge_bl))) (gss_nil))
  (gss_cons (gs_lcT (i := 2) (own := [("item", 3)]) ⟨blkOk_by (N := ["model", "first", "alarms", "item"]) (sc := defScope s_are_first) (by decide +kernel), fun _ _ _ _ _ => pg_name (i := 3) sc_are_first.nd rfl (by first | exact Or.inl rfl | exact Or.inr rfl), fun _ _ _ _ _ => gp_one (gt_tru (ge_callD D_is_first_alarm (hr.mono (by decide)) hg takes0 rfl (fun _ _ _ _ _ _ us hl => match us, hl with | [_, _], _ => rfl) (ga_cons (ge_var 0) (ga_cons (ge_var 3) (ga_nil)))) (fun _ => rfl)), fun _ _ _ _ _ => ge_tup (ga_cons (ge_ix (ge_var 3) (ge_int) (fun _ _ => rfl)) (ga_cons (ge_ix (ge_var 3) (ge_int) (fun _ _ => rfl)) (ga_nil)))⟩ (fun _ => putLc_name (by decide)) rfl sc_are_first.nd rfl rfl (sw_true rfl rfl rfl (by decide +kernel)) (ge_var 1))
  (gss_one (gs_ret (ge_callD D_are_different (hr.mono (by decide)) hg (takes_of rfl rfl rfl rfl) rfl (fun _ _ _ _ _ _ us hl => match us, hl with | [_], _ => rfl) (ga_cons (ge_var 2) (ga_nil))))))))
def m_worth_of_4 : List W → Store → Res W := fnM 2 4
  (sSeq (sIf (mTru (mUn (fIsK 0) (mV 1))) (sRet (mV 1)) (sNx))
  (sSeq (sIf (mB (mOp fEq (mV 1) (mC (.str z_it)))) (sRet (mUn (fGet 1 z_it) (mV 0))) (sNx))
  (sSeq (sIf (mTru (mUn (fIsK 2) (mV 1))) (sRet (mOp fDGet (mUn (fGet 1 z_cells) (mV 0)) (mV 1))) (sNx))
  (sSeq (sSet 2 (mCall m_worth_of_3 (mCons (mV 0) (mCons (mOp fIx (mV 1) (mC (.int 1))) (mNil)))))
  (sSeq (sSet 3 (mCall m_worth_of_3 (mCons (mV 0) (mCons (mOp fIx (mV 1) (mC (.int 2))) (mNil)))))
  (sRet (mOp fMod (mCall m_reckoned (mCons (mOp fIx (mV 1) (mC (.int 0))) (mCons (mV 2) (mCons (mV 3) (mNil))))) (mUn (fGet 1 z_size) (mV 0)))))))))
theorem ok_worth_of_4 (T : Blt K mg) (D : DefAt K mg "worth_of" s_worth_of) (D_worth_of_3 : DefOk P w K mg base "worth_of" s_worth_of 4 ["doing", "expression"] m_worth_of_3) (D_reckoned : DefOk P w K mg base "reckoned" s_reckoned 1 ["sign", "left", "right"] m_reckoned) : DefOk P w K mg base "worth_of" s_worth_of 5 ["doing", "expression"] m_worth_of_4 :=
  defOk_of (N := ["doing", "expression", "left", "right"]) D sc_worth_of fun f cdv A outer s H E hr hg =>
  (gss_cons (gs_if (gt_tru (ge_isiZ isk_int (T := "int") ty_int rfl T.isinstance rfl T.int (by decide +kernel) (ge_var 1)) (fun _ => rfl)) (gss_one (gs_ret (ge_var 1))) (gss_nil))
  (gss_cons (gs_if (gt_cmp (op_eqP hr.units) r2_data (ge_var 1) (ge_strZ y_it) (nomark _)) (gss_one (gs_ret (ge_fldE y_it T.cls_Doing T.na_Doing_it (ge_var 0)))) (gss_nil))
  (gss_cons (gs_if (gt_tru (ge_isiZ isk_str (T := "str") ty_str rfl T.isinstance rfl T.str (by decide +kernel) (ge_var 1)) (fun _ => rfl)) (gss_one (gs_ret (ge_dget (u_1 hr) (ge_fldE y_cells T.cls_Doing T.na_Doing_cells (ge_var 0)) (ge_var 1) (fun _ _ => rfl)))) (gss_nil))
  (gss_cons (gs_set (i := 2) sc_worth_of.nd rfl (by first | exact Or.inl rfl | exact Or.inr rfl) (ge_callD D_worth_of_3 hr hg (takes_of rfl rfl rfl rfl) rfl (fun _ _ _ _ _ _ us hl => match us, hl with | [_, _], _ => rfl) (ga_cons (ge_var 0) (ga_cons (ge_ix (ge_var 1) (ge_int) (fun _ _ => rfl)) (ga_nil)))))
  (gss_cons (gs_set (i := 3) sc_worth_of.nd rfl (by first | exact Or.inl rfl | exact Or.inr rfl) (ge_callD D_worth_of_3 hr hg (takes_of rfl rfl rfl rfl) rfl (fun _ _ _ _ _ _ us hl => match us, hl with | [_, _], _ => rfl) (ga_cons (ge_var 0) (ga_cons (ge_ix (ge_var 1) (ge_int) (fun _ _ => rfl)) (ga_nil)))))
  (gss_one (gs_ret (ge_op op_mod r2_mod (ge_callD D_reckoned (hr.mono (by decide)) hg (takes_of rfl rfl rfl rfl) rfl (fun _ _ _ _ _ _ us hl => match us, hl with | [_, _, _], _ => rfl) (ga_cons (ge_ix (ge_var 1) (ge_int) (fun _ _ => rfl)) (ga_cons (ge_var 2) (ga_cons (ge_var 3) (ga_nil))))) (ge_fldE y_size T.cls_Doing T.na_Doing_size (ge_var 0))))))))))
def m_l_sum_3 : List W → Store → Res W := fnM 4 5
  (sSeq (sIf (mOr (mB (mOp fEq (mV 3) (mC (.int 0)))) (mB (mOp fEq (mCall m_l_take (mCons (mV 0) (mCons (mC (.int 4)) (mNil)))) (mC (.int 0))))) (sRet (mIf (mB (mOp fGt (mCall m_l_take (mCons (mV 0) (mCons (mC (.int 3)) (mNil)))) (mC (.int 0)))) (mCall m_l_of (mCons (mV 0) (mCons (mV 1) (mNil)))) (mCall m_l_take (mCons (mV 0) (mCons (mV 2) (mNil)))))) (sNx))
  (sSeq (sSet 4 (mCall m_l_of (mCons (mV 0) (mCons (mLst (mCons (mC (.str z__2b)) (mCons (mC (.str z__2d)) (mCons (mC (.str z__2a)) (mNil))))) (mNil)))))
  (sRet (mTup (mCons (mV 4) (mCons (mCall m_l_sum_2 (mCons (mV 0) (mCons (mV 1) (mCons (mV 2) (mCons (mOp fSub (mV 3) (mC (.int 1))) (mNil)))))) (mCons (mCall m_l_sum_2 (mCons (mV 0) (mCons (mV 1) (mCons (mV 2) (mCons (mOp fSub (mV 3) (mC (.int 1))) (mNil)))))) (mNil))))))))
theorem ok_l_sum_3 (T : Blt K mg) (D : DefAt K mg "_law_sum" s_l_sum) (D_l_take : DefOk P w K mg base "_law_take" s_l_take 1 ["_law_pot_here", "_law_upto"] m_l_take) (D_l_of : DefOk P w K mg base "_law_of" s_l_of 2 ["_law_pot_here", "_law_some"] m_l_of) (D_l_sum_2 : DefOk P w K mg base "_law_sum" s_l_sum 4 ["_law_pot_here", "_law_names", "_law_size", "_law_deep"] m_l_sum_2) : DefOk P w K mg base "_law_sum" s_l_sum 5 ["_law_pot_here", "_law_names", "_law_size", "_law_deep"] m_l_sum_3 :=
  defOk_of (N := ["_law_pot_here", "_law_names", "_law_size", "_law_deep", "_law_sign"]) D sc_l_sum fun f cdv A outer s H E hr hg =>
  (gss_cons (gs_if (GW.pt (gw_or (gt_cmp (op_eqP hr.units) r2_data (ge_var 3) (ge_int) (nomark _)) (gw_or1 (gt_cmp (op_eqP hr.units) r2_data (ge_callD D_l_take (hr.mono (by decide)) hg (takes_of rfl rfl rfl rfl) rfl (fun _ _ _ _ _ _ us hl => match us, hl with | [_, _], _ => rfl) (ga_cons (ge_var 0) (ga_cons (ge_int) (ga_nil)))) (ge_int) (nomark _))))) (gss_one (gs_ret (ge_if (gt_cmp (op_gtP hr.units) r2_data (ge_callD D_l_take (hr.mono (by decide)) hg (takes_of rfl rfl rfl rfl) rfl (fun _ _ _ _ _ _ us hl => match us, hl with | [_, _], _ => rfl) (ga_cons (ge_var 0) (ga_cons (ge_int) (ga_nil)))) (ge_int) (nomark _)) (ge_callD D_l_of (hr.mono (by decide)) hg (takes_of rfl rfl rfl rfl) rfl (fun _ _ _ _ _ _ us hl => match us, hl with | [_, _], _ => rfl) (ga_cons (ge_var 0) (ga_cons (ge_var 1) (ga_nil)))) (ge_callD D_l_take (hr.mono (by decide)) hg (takes_of rfl rfl rfl rfl) rfl (fun _ _ _ _ _ _ us hl => match us, hl with | [_, _], _ => rfl) (ga_cons (ge_var 0) (ga_cons (ge_var 2) (ga_nil))))))) (gss_nil))
  (gss_cons (gs_set (i := 4) sc_l_sum.nd rfl (by first | exact Or.inl rfl | exact Or.inr rfl) (ge_callD D_l_of (hr.mono (by decide)) hg (takes_of rfl rfl rfl rfl) rfl (fun _ _ _ _ _ _ us hl => match us, hl with | [_, _], _ => rfl) (ga_cons (ge_var 0) (ga_cons (ge_lst (ga_cons (ge_strZ y__2b) (ga_cons (ge_strZ y__2d) (ga_cons (ge_strZ y__2a) (ga_nil))))) (ga_nil)))))
  (gss_one (gs_ret (ge_tup (ga_cons (ge_var 4) (ga_cons (ge_callD D_l_sum_2 hr hg (takes_of rfl rfl rfl rfl) rfl (fun _ _ _ _ _ _ us hl => match us, hl with | [_, _, _, _], _ => rfl) (ga_cons (ge_var 0) (ga_cons (ge_var 1) (ga_cons (ge_var 2) (ga_cons (ge_op op_sub r2_sub (ge_var 3) (ge_int)) (ga_nil)))))) (ga_cons (ge_callD D_l_sum_2 hr hg (takes_of rfl rfl rfl rfl) rfl (fun _ _ _ _ _ _ us hl => match us, hl with | [_, _, _, _], _ => rfl) (ga_cons (ge_var 0) (ga_cons (ge_var 1) (ga_cons (ge_var 2) (ga_cons (ge_op op_sub r2_sub (ge_var 3) (ge_int)) (ga_nil)))))) (ga_nil)))))))))
def m_l_plain_4 : List W → Store → Res W := fnM 2 4
  (sSeq (sIf (mTru (mUn (fIsK 3) (mV 0))) (sSeq (sPar 2 3 (mCons (mCall m_l_plain_3 (mCons (mOp fIx (mV 0) (mC (.int 1))) (mCons (mV 1) (mNil)))) (mCons (mCall m_l_plain_3 (mCons (mOp fIx (mV 0) (mC (.int 2))) (mCons (mV 1) (mNil)))) (mNil))))
  (sRet (mOp fDGet (mDisp (((mC (.str z__2b)), (mOp fAdd (mV 2) (mV 3))) :: ((mC (.str z__2d)), (mOp fSub (mV 2) (mV 3))) :: ((mC (.str z__2a)), (mOp fMulA (mV 2) (mV 3))) :: [])) (mOp fIx (mV 0) (mC (.int 0)))))) (sNx))
  (sRet (mIf (mTru (mUn (fIsK 2) (mV 0))) (mOp fDGet (mV 1) (mV 0)) (mV 0))))
theorem ok_l_plain_4 (T : Blt K mg) (D : DefAt K mg "_law_plain" s_l_plain) (D_l_plain_3 : DefOk P w K mg base "_law_plain" s_l_plain 4 ["_law_e", "_law_held"] m_l_plain_3) : DefOk P w K mg base "_law_plain" s_l_plain 5 ["_law_e", "_law_held"] m_l_plain_4 :=
  defOk_of (N := ["_law_e", "_law_held", "_law_one", "_law_other"]) D sc_l_plain fun f cdv A outer s H E hr hg =>
  (gss_cons (gs_if (gt_tru (ge_isiZ isk_tuple (T := "tuple") ty_tuple rfl T.isinstance rfl T.tuple (by decide +kernel) (ge_var 0)) (fun _ => rfl)) (gss_cons (gs_par (i := 2) (j := 3) rfl sc_l_plain.nd rfl rfl (by decide) rfl rfl (ga_cons (ge_callD D_l_plain_3 hr hg (takes_of rfl rfl rfl rfl) rfl (fun _ _ _ _ _ _ us hl => match us, hl with | [_, _], _ => rfl) (ga_cons (ge_ix (ge_var 0) (ge_int) (fun _ _ => rfl)) (ga_cons (ge_var 1) (ga_nil)))) (ga_cons (ge_callD D_l_plain_3 hr hg (takes_of rfl rfl rfl rfl) rfl (fun _ _ _ _ _ _ us hl => match us, hl with | [_, _], _ => rfl) (ga_cons (ge_ix (ge_var 0) (ge_int) (fun _ _ => rfl)) (ga_cons (ge_var 1) (ga_nil)))) (ga_nil))) (by rfl))
  (gss_one (gs_ret (ge_dget (u_1 hr) (ge_disp (gpp_cons (ge_strZ y__2b) (ge_op op_addA r2_add (ge_var 2) (ge_var 3)) (gpp_cons (ge_strZ y__2d) (ge_op op_sub r2_sub (ge_var 2) (ge_var 3)) (gpp_cons (ge_strZ y__2a) (ge_op (op_mulW.or (op_repT.or op_repX)) r2_mulA (ge_var 2) (ge_var 3)) (gpp_nil))))) (ge_ix (ge_var 0) (ge_int) (fun _ _ => rfl)) (fun _ _ => rfl))))) (gss_nil))
  (gss_one (gs_ret (ge_if (gt_tru (ge_isiZ isk_str (T := "str") ty_str rfl T.isinstance rfl T.str (by decide +kernel) (ge_var 0)) (fun _ => rfl)) (ge_dget (u_1 hr) (ge_var 1) (ge_var 0) (fun _ _ => rfl)) (ge_var 0)))))
def m_is_expression_3 : List W → Store → Res W := fnM 3 3
  (sSeq (sIf (mTru (mUn (fIsK 2) (mV 1))) (sRet (mOrV (mOp fEq (mV 1) (mC (.str z_it))) (mOp fIn (mV 1) (mUn (fGet 0 z_cells) (mV 0))))) (sNx))
  (sSeq (sIf (mTru (mUn (fIsK 3) (mV 1))) (sSeq (sIf (mOr (mB (mOp fNe (mCall fLen (mCons (mV 1) (mNil))) (mC (.int 3)))) (mOr (mB (mOp fNin (mOp fIx (mV 1) (mC (.int 0))) (mC (.tup [(.str z__2b), (.str z__2d), (.str z__2a)])))) (mNot (mTru (mV 2))))) (sRet (mC (.bl false))) (sNx))
  (sRet (mAndV (mCall (moreM [] m_is_expression_2) (mCons (mV 0) (mCons (mOp fIx (mV 1) (mC (.int 1))) (mCons (mOp fSub (mV 2) (mC (.int 1))) (mNil))))) (mCall (moreM [] m_is_expression_2) (mCons (mV 0) (mCons (mOp fIx (mV 1) (mC (.int 2))) (mCons (mOp fSub (mV 2) (mC (.int 1))) (mNil)))))))) (sNx))
  (sRet (mCall m_is_within (mCons (mV 1) (mCons (mUn (fGet 0 z_size) (mV 0)) (mNil)))))))
theorem ok_is_expression_3 (T : Blt K mg) (D : DefAtF K mg "is_expression" s_is_expression [.int 3]) (D_is_expression_2 : DefOkF P w K mg base "is_expression" s_is_expression [.int 3] 5 ["names", "value", "signs"] m_is_expression_2) (D_is_within : DefOk P w K mg base "is_within" s_is_within 3 ["value", "many"] m_is_within) : DefOkF P w K mg base "is_expression" s_is_expression [.int 3] 6 ["names", "value", "signs"] m_is_expression_3 :=
  defOkF_of (N := ["names", "value", "signs"]) D sc_is_expression fun f cdv A outer s H E hr hg =>
  (gss_cons (gs_if (gt_tru (ge_isiZ isk_str (T := "str") ty_str rfl T.isinstance rfl T.str (by decide +kernel) (ge_var 1)) (fun _ => rfl)) (gss_one (gs_ret (ge_or (ge_cmp (op_eqP hr.units) r2_data (ge_var 1) (ge_strZ y_it) (nomark _)) (ge_one (ge_cmp (op_inP hr.units) r2_data (ge_var 1) (ge_fldE y_cells T.cls_Names T.na_Names_cells (ge_var 0)) (by rfl)))))) (gss_nil))
  (gss_cons (gs_if (gt_tru (ge_isiZ isk_tuple (T := "tuple") ty_tuple rfl T.isinstance rfl T.tuple (by decide +kernel) (ge_var 1)) (fun _ => rfl)) (gss_cons (gs_if (GW.pt (gw_or (gt_cmp (op_neP hr.units) r2_data (ge_callB call_len rc_len rfl T.len (by decide +kernel) (ga_cons (ge_var 1) (ga_nil))) (ge_int) (nomark _)) (gw_or (gt_cmp (op_ninP hr.units) r2_data (ge_ix (ge_var 1) (ge_int) (fun _ _ => rfl)) (ge_gRefE rfl T.SIGNS) (by rfl)) (gw_or1 (gt_not (gt_tru (ge_var 2) (fun _ => rfl))))))) (gss_one (gs_ret (ge_bl))) (gss_nil))
  (gss_one (gs_ret (ge_and (ge_callFd (n := 3) (j := 1) (wd := []) D_is_expression_2 hr hg (takes_of rfl rfl rfl rfl) rfl (by decide) rfl (fun _ => rfl) (fun _ _ _ _ _ _ _ us its h1 h2 => match us, its, h1, h2 with | [_, _, _], [_], _, _ => ⟨_, rfl, rfl⟩) (ga_cons (ge_var 0) (ga_cons (ge_ix (ge_var 1) (ge_int) (fun _ _ => rfl)) (ga_cons (ge_op op_sub r2_sub (ge_var 2) (ge_int)) (ga_nil))))) (ge_one (ge_callFd (n := 3) (j := 1) (wd := []) D_is_expression_2 hr hg (takes_of rfl rfl rfl rfl) rfl (by decide) rfl (fun _ => rfl) (fun _ _ _ _ _ _ _ us its h1 h2 => match us, its, h1, h2 with | [_, _, _], [_], _, _ => ⟨_, rfl, rfl⟩) (ga_cons (ge_var 0) (ga_cons (ge_ix (ge_var 1) (ge_int) (fun _ _ => rfl)) (ga_cons (ge_op op_sub r2_sub (ge_var 2) (ge_int)) (ga_nil)))))))))) (gss_nil))
  (gss_one (gs_ret (ge_callD D_is_within (hr.mono (by decide)) hg (takes_of rfl rfl rfl rfl) rfl (fun _ _ _ _ _ _ us hl => match us, hl with | [_, _], _ => rfl) (ga_cons (ge_var 1) (ga_cons (ge_fldE y_size T.cls_Names T.na_Names_size (ge_var 0)) (ga_nil))))))))
abbrev s_are_lines : Stmt := topS 50
theorem sc_are_lines : FnScope ["stations", "value", "begins", "ends", "line"] ["stations", "value"] (defScope s_are_lines) := ⟨rfl, rfl, rfl, by decide +kernel, rfl, by decide +kernel, by decide +kernel⟩
def m_are_lines_e1 : Ev W := mCall m_is_line (mCons (mV 0) (mCons (mV 4) (mNil)))
def m_are_lines_e2 : Ev W := mTup (mCons (mOp fIx (mV 4) (mC (.int 0))) (mCons (mOp fIx (mV 4) (mC (.int 1))) (mNil)))
def m_are_lines_e3 : Ev W := mTup (mCons (mOp fIx (mV 4) (mC (.int 2))) (mCons (mOp fIx (mV 4) (mC (.int 3))) (mNil)))
def m_are_lines : List W → Store → Res W := fnM 2 5
  (sSeq (sIf (mOr (mNot (mTru (mUn (fIsK 3) (mV 1)))) (mNot (mTru (mCall fAll (mCons (mLcT [4] (setN 4) (mV 1) (yes) (m_are_lines_e1)) (mNil)))))) (sRet (mC (.bl false))) (sNx))
  (sSeq (sSet 2 (mLcT [4] (setN 4) (mV 1) (yes) (m_are_lines_e2)))
  (sSeq (sSet 3 (mLcT [4] (setN 4) (mV 1) (yes) (m_are_lines_e3)))
  (sRet (mAndV (mCall m_are_different (mCons (mV 2) (mNil))) (mCall m_are_different (mCons (mV 3) (mNil))))))))
theorem ok_are_lines (T : Blt K mg) (D : DefAt K mg "are_lines" s_are_lines) (D_is_line : DefOk P w K mg base "is_line" s_is_line 5 ["stations", "value"] m_is_line) (D_are_different : DefOk P w K mg base "are_different" s_are_different 1 ["hashables"] m_are_different) : DefOk P w K mg base "are_lines" s_are_lines 6 ["stations", "value"] m_are_lines :=
  defOk_of (N := ["stations", "value", "begins", "ends", "line"]) D sc_are_lines fun f cdv A outer s H E hr hg =>
  (gss_cons (gs_if (GW.pt (gw_or (gt_not (gt_tru (ge_isiZ isk_tuple (T := "tuple") ty_tuple rfl T.isinstance rfl T.tuple (by decide +kernel) (ge_var 1)) (fun _ => rfl))) (gw_or1 (gt_not (gt_tru (ge_callB (cr_all rfl) rc_all rfl T.all (by decide +kernel) (ga_cons (ge_lcT (own := [("line", 4)]) ⟨blkOk_by (N := ["stations", "value", "begins", "ends", "line"]) (sc := defScope s_are_lines) (by decide +kernel), fun _ _ _ _ _ => pg_name (i := 4) sc_are_lines.nd rfl (by first | exact Or.inl rfl | exact Or.inr rfl), fun _ _ _ _ _ => gp_nil, fun _ _ _ _ _ => ge_callD D_is_line hr hg takes0 rfl (fun _ _ _ _ _ _ us hl => match us, hl with | [_, _], _ => rfl) (ga_cons (ge_var 0) (ga_cons (ge_var 4) (ga_nil)))⟩ (fun _ => putLc_name (by decide)) rfl sc_are_lines.nd (ge_var 1)) (ga_nil))) (fun _ => rfl)))))) (gss_one (gs_ret (ge_bl))) (gss_nil))
  (gss_cons (gs_lcT (i := 2) (own := [("line", 4)]) ⟨blkOk_by (N := ["stations", "value", "begins", "ends", "line"]) (sc := defScope s_are_lines) (by decide +kernel), fun _ _ _ _ _ => pg_name (i := 4) sc_are_lines.nd rfl (by first | exact Or.inl rfl | exact Or.inr rfl), fun _ _ _ _ _ => gp_nil, fun _ _ _ _ _ => ge_tup (ga_cons (ge_ix (ge_var 4) (ge_int) (fun _ _ => rfl)) (ga_cons (ge_ix (ge_var 4) (ge_int) (fun _ _ => rfl)) (ga_nil)))⟩ (fun _ => putLc_name (by decide)) rfl sc_are_lines.nd rfl rfl (sw_true rfl rfl rfl (by decide +kernel)) (ge_var 1))
  (gss_cons (gs_lcT (i := 3) (own := [("line", 4)]) ⟨blkOk_by (N := ["stations", "value", "begins", "ends", "line"]) (sc := defScope s_are_lines) (by decide +kernel), fun _ _ _ _ _ => pg_name (i := 4) sc_are_lines.nd rfl (by first | exact Or.inl rfl | exact Or.inr rfl), fun _ _ _ _ _ => gp_nil, fun _ _ _ _ _ => ge_tup (ga_cons (ge_ix (ge_var 4) (ge_int) (fun _ _ => rfl)) (ga_cons (ge_ix (ge_var 4) (ge_int) (fun _ _ => rfl)) (ga_nil)))⟩ (fun _ => putLc_name (by decide)) rfl sc_are_lines.nd rfl rfl (sw_true rfl rfl rfl (by decide +kernel)) (ge_var 1))
  (gss_one (gs_ret (ge_and (ge_callD D_are_different (hr.mono (by decide)) hg (takes_of rfl rfl rfl rfl) rfl (fun _ _ _ _ _ _ us hl => match us, hl with | [_], _ => rfl) (ga_cons (ge_var 2) (ga_nil))) (ge_one (ge_callD D_are_different (hr.mono (by decide)) hg (takes_of rfl rfl rfl rfl) rfl (fun _ _ _ _ _ _ us hl => match us, hl with | [_], _ => rfl) (ga_cons (ge_var 3) (ga_nil))))))))))
abbrev s_holds : Stmt := topS 63
theorem sc_holds : FnScope ["doing", "condition", "left", "right"] ["doing", "condition"] (defScope s_holds) := ⟨rfl, rfl, rfl, by decide +kernel, rfl, by decide +kernel, by decide +kernel⟩
def m_holds : List W → Store → Res W := fnM 2 4
  (sSeq (sSet 2 (mCall m_worth_of_4 (mCons (mV 0) (mCons (mOp fIx (mV 1) (mC (.int 1))) (mNil)))))
  (sSeq (sSet 3 (mCall m_worth_of_4 (mCons (mV 0) (mCons (mOp fIx (mV 1) (mC (.int 2))) (mNil)))))
  (sSeq (sIf (mB (mOp fEq (mOp fIx (mV 1) (mC (.int 0))) (mC (.str z__3d)))) (sRet (mOp fEq (mV 2) (mV 3))) (sNx))
  (sRet (mOp fLt (mV 2) (mV 3))))))
theorem ok_holds (T : Blt K mg) (D : DefAt K mg "holds" s_holds) (D_worth_of_4 : DefOk P w K mg base "worth_of" s_worth_of 5 ["doing", "expression"] m_worth_of_4) : DefOk P w K mg base "holds" s_holds 6 ["doing", "condition"] m_holds :=
  defOk_of (N := ["doing", "condition", "left", "right"]) D sc_holds fun f cdv A outer s H E hr hg =>
  (gss_cons (gs_set (i := 2) sc_holds.nd rfl (by first | exact Or.inl rfl | exact Or.inr rfl) (ge_callD D_worth_of_4 hr hg (takes_of rfl rfl rfl rfl) rfl (fun _ _ _ _ _ _ us hl => match us, hl with | [_, _], _ => rfl) (ga_cons (ge_var 0) (ga_cons (ge_ix (ge_var 1) (ge_int) (fun _ _ => rfl)) (ga_nil)))))
  (gss_cons (gs_set (i := 3) sc_holds.nd rfl (by first | exact Or.inl rfl | exact Or.inr rfl) (ge_callD D_worth_of_4 hr hg (takes_of rfl rfl rfl rfl) rfl (fun _ _ _ _ _ _ us hl => match us, hl with | [_, _], _ => rfl) (ga_cons (ge_var 0) (ga_cons (ge_ix (ge_var 1) (ge_int) (fun _ _ => rfl)) (ga_nil)))))
  (gss_cons (gs_if (gt_cmp (op_eqP hr.units) r2_data (ge_ix (ge_var 1) (ge_int) (fun _ _ => rfl)) (ge_strZ y__3d) (nomark _)) (gss_one (gs_ret (ge_cmp (op_eqP hr.units) r2_data (ge_var 2) (ge_var 3) (nomark _)))) (gss_nil))
  (gss_one (gs_ret (ge_cmp (op_ltP hr.units) r2_data (ge_var 2) (ge_var 3) (nomark _)))))))
def m_l_sum_4 : List W → Store → Res W := fnM 4 5
  (sSeq (sIf (mOr (mB (mOp fEq (mV 3) (mC (.int 0)))) (mB (mOp fEq (mCall m_l_take (mCons (mV 0) (mCons (mC (.int 4)) (mNil)))) (mC (.int 0))))) (sRet (mIf (mB (mOp fGt (mCall m_l_take (mCons (mV 0) (mCons (mC (.int 3)) (mNil)))) (mC (.int 0)))) (mCall m_l_of (mCons (mV 0) (mCons (mV 1) (mNil)))) (mCall m_l_take (mCons (mV 0) (mCons (mV 2) (mNil)))))) (sNx))
  (sSeq (sSet 4 (mCall m_l_of (mCons (mV 0) (mCons (mLst (mCons (mC (.str z__2b)) (mCons (mC (.str z__2d)) (mCons (mC (.str z__2a)) (mNil))))) (mNil)))))
  (sRet (mTup (mCons (mV 4) (mCons (mCall m_l_sum_3 (mCons (mV 0) (mCons (mV 1) (mCons (mV 2) (mCons (mOp fSub (mV 3) (mC (.int 1))) (mNil)))))) (mCons (mCall m_l_sum_3 (mCons (mV 0) (mCons (mV 1) (mCons (mV 2) (mCons (mOp fSub (mV 3) (mC (.int 1))) (mNil)))))) (mNil))))))))
theorem ok_l_sum_4 (T : Blt K mg) (D : DefAt K mg "_law_sum" s_l_sum) (D_l_take : DefOk P w K mg base "_law_take" s_l_take 1 ["_law_pot_here", "_law_upto"] m_l_take) (D_l_of : DefOk P w K mg base "_law_of" s_l_of 2 ["_law_pot_here", "_law_some"] m_l_of) (D_l_sum_3 : DefOk P w K mg base "_law_sum" s_l_sum 5 ["_law_pot_here", "_law_names", "_law_size", "_law_deep"] m_l_sum_3) : DefOk P w K mg base "_law_sum" s_l_sum 6 ["_law_pot_here", "_law_names", "_law_size", "_law_deep"] m_l_sum_4 :=
  defOk_of (N := ["_law_pot_here", "_law_names", "_law_size", "_law_deep", "_law_sign"]) D sc_l_sum fun f cdv A outer s H E hr hg =>
  (gss_cons (gs_if (GW.pt (gw_or (gt_cmp (op_eqP hr.units) r2_data (ge_var 3) (ge_int) (nomark _)) (gw_or1 (gt_cmp (op_eqP hr.units) r2_data (ge_callD D_l_take (hr.mono (by decide)) hg (takes_of rfl rfl rfl rfl) rfl (fun _ _ _ _ _ _ us hl => match us, hl with | [_, _], _ => rfl) (ga_cons (ge_var 0) (ga_cons (ge_int) (ga_nil)))) (ge_int) (nomark _))))) (gss_one (gs_ret (ge_if (gt_cmp (op_gtP hr.units) r2_data (ge_callD D_l_take (hr.mono (by decide)) hg (takes_of rfl rfl rfl rfl) rfl (fun _ _ _ _ _ _ us hl => match us, hl with | [_, _], _ => rfl) (ga_cons (ge_var 0) (ga_cons (ge_int) (ga_nil)))) (ge_int) (nomark _)) (ge_callD D_l_of (hr.mono (by decide)) hg (takes_of rfl rfl rfl rfl) rfl (fun _ _ _ _ _ _ us hl => match us, hl with | [_, _], _ => rfl) (ga_cons (ge_var 0) (ga_cons (ge_var 1) (ga_nil)))) (ge_callD D_l_take (hr.mono (by decide)) hg (takes_of rfl rfl rfl rfl) rfl (fun _ _ _ _ _ _ us hl => match us, hl with | [_, _], _ => rfl) (ga_cons (ge_var 0) (ga_cons (ge_var 2) (ga_nil))))))) (gss_nil))
  (gss_cons (gs_set (i := 4) sc_l_sum.nd rfl (by first | exact Or.inl rfl | exact Or.inr rfl) (ge_callD D_l_of (hr.mono (by decide)) hg (takes_of rfl rfl rfl rfl) rfl (fun _ _ _ _ _ _ us hl => match us, hl with | [_, _], _ => rfl) (ga_cons (ge_var 0) (ga_cons (ge_lst (ga_cons (ge_strZ y__2b) (ga_cons (ge_strZ y__2d) (ga_cons (ge_strZ y__2a) (ga_nil))))) (ga_nil)))))
  (gss_one (gs_ret (ge_tup (ga_cons (ge_var 4) (ga_cons (ge_callD D_l_sum_3 hr hg (takes_of rfl rfl rfl rfl) rfl (fun _ _ _ _ _ _ us hl => match us, hl with | [_, _, _, _], _ => rfl) (ga_cons (ge_var 0) (ga_cons (ge_var 1) (ga_cons (ge_var 2) (ga_cons (ge_op op_sub r2_sub (ge_var 3) (ge_int)) (ga_nil)))))) (ga_cons (ge_callD D_l_sum_3 hr hg (takes_of rfl rfl rfl rfl) rfl (fun _ _ _ _ _ _ us hl => match us, hl with | [_, _, _, _], _ => rfl) (ga_cons (ge_var 0) (ga_cons (ge_var 1) (ga_cons (ge_var 2) (ga_cons (ge_op op_sub r2_sub (ge_var 3) (ge_int)) (ga_nil)))))) (ga_nil)))))))))
def m_is_expression_4 : List W → Store → Res W := fnM 3 3
  (sSeq (sIf (mTru (mUn (fIsK 2) (mV 1))) (sRet (mOrV (mOp fEq (mV 1) (mC (.str z_it))) (mOp fIn (mV 1) (mUn (fGet 0 z_cells) (mV 0))))) (sNx))
  (sSeq (sIf (mTru (mUn (fIsK 3) (mV 1))) (sSeq (sIf (mOr (mB (mOp fNe (mCall fLen (mCons (mV 1) (mNil))) (mC (.int 3)))) (mOr (mB (mOp fNin (mOp fIx (mV 1) (mC (.int 0))) (mC (.tup [(.str z__2b), (.str z__2d), (.str z__2a)])))) (mNot (mTru (mV 2))))) (sRet (mC (.bl false))) (sNx))
  (sRet (mAndV (mCall (moreM [] m_is_expression_3) (mCons (mV 0) (mCons (mOp fIx (mV 1) (mC (.int 1))) (mCons (mOp fSub (mV 2) (mC (.int 1))) (mNil))))) (mCall (moreM [] m_is_expression_3) (mCons (mV 0) (mCons (mOp fIx (mV 1) (mC (.int 2))) (mCons (mOp fSub (mV 2) (mC (.int 1))) (mNil)))))))) (sNx))
  (sRet (mCall m_is_within (mCons (mV 1) (mCons (mUn (fGet 0 z_size) (mV 0)) (mNil)))))))
theorem ok_is_expression_4 (T : Blt K mg) (D : DefAtF K mg "is_expression" s_is_expression [.int 3]) (D_is_expression_3 : DefOkF P w K mg base "is_expression" s_is_expression [.int 3] 6 ["names", "value", "signs"] m_is_expression_3) (D_is_within : DefOk P w K mg base "is_within" s_is_within 3 ["value", "many"] m_is_within) : DefOkF P w K mg base "is_expression" s_is_expression [.int 3] 7 ["names", "value", "signs"] m_is_expression_4 :=
  defOkF_of (N := ["names", "value", "signs"]) D sc_is_expression fun f cdv A outer s H E hr hg =>
  (gss_cons (gs_if (gt_tru (ge_isiZ isk_str (T := "str") ty_str rfl T.isinstance rfl T.str (by decide +kernel) (ge_var 1)) (fun _ => rfl)) (gss_one (gs_ret (ge_or (ge_cmp (op_eqP hr.units) r2_data (ge_var 1) (ge_strZ y_it) (nomark _)) (ge_one (ge_cmp (op_inP hr.units) r2_data (ge_var 1) (ge_fldE y_cells T.cls_Names T.na_Names_cells (ge_var 0)) (by rfl)))))) (gss_nil))
  (gss_cons (gs_if (gt_tru (ge_isiZ isk_tuple (T := "tuple") ty_tuple rfl T.isinstance rfl T.tuple (by decide +kernel) (ge_var 1)) (fun _ => rfl)) (gss_cons (gs_if (GW.pt (gw_or (gt_cmp (op_neP hr.units) r2_data (ge_callB call_len rc_len rfl T.len (by decide +kernel) (ga_cons (ge_var 1) (ga_nil))) (ge_int) (nomark _)) (gw_or (gt_cmp (op_ninP hr.units) r2_data (ge_ix (ge_var 1) (ge_int) (fun _ _ => rfl)) (ge_gRefE rfl T.SIGNS) (by rfl)) (gw_or1 (gt_not (gt_tru (ge_var 2) (fun _ => rfl))))))) (gss_one (gs_ret (ge_bl))) (gss_nil))
  (gss_one (gs_ret (ge_and (ge_callFd (n := 3) (j := 1) (wd := []) D_is_expression_3 hr hg (takes_of rfl rfl rfl rfl) rfl (by decide) rfl (fun _ => rfl) (fun _ _ _ _ _ _ _ us its h1 h2 => match us, its, h1, h2 with | [_, _, _], [_], _, _ => ⟨_, rfl, rfl⟩) (ga_cons (ge_var 0) (ga_cons (ge_ix (ge_var 1) (ge_int) (fun _ _ => rfl)) (ga_cons (ge_op op_sub r2_sub (ge_var 2) (ge_int)) (ga_nil))))) (ge_one (ge_callFd (n := 3) (j := 1) (wd := []) D_is_expression_3 hr hg (takes_of rfl rfl rfl rfl) rfl (by decide) rfl (fun _ => rfl) (fun _ _ _ _ _ _ _ us its h1 h2 => match us, its, h1, h2 with | [_, _, _], [_], _, _ => ⟨_, rfl, rfl⟩) (ga_cons (ge_var 0) (ga_cons (ge_ix (ge_var 1) (ge_int) (fun _ _ => rfl)) (ga_cons (ge_op op_sub r2_sub (ge_var 2) (ge_int)) (ga_nil)))))))))) (gss_nil))
  (gss_one (gs_ret (ge_callD D_is_within (hr.mono (by decide)) hg (takes_of rfl rfl rfl rfl) rfl (fun _ _ _ _ _ _ us hl => match us, hl with | [_, _], _ => rfl) (ga_cons (ge_var 1) (ga_cons (ge_fldE y_size T.cls_Names T.na_Names_size (ge_var 0)) (ga_nil))))))))
abbrev s_do_statement : Stmt := topS 62
theorem sc_do_statement : FnScope ["doing", "statement", "word", "_"] ["doing", "statement"] (defScope s_do_statement) := ⟨rfl, rfl, rfl, by decide +kernel, rfl, by decide +kernel, by decide +kernel⟩
def m_do_statement_1_b1 : Sm := sDrop (mCall m_do_block_0 (mCons (mV 0) (mCons (mOp fIx (mV 1) (mC (.int 2))) (mNil))))
def m_do_statement_1 : List W → Store → Res W := fnM 2 4
  (sSeq (sSet 2 (mOp fIx (mV 1) (mC (.int 0))))
  (sIf (mB (mOp fEq (mV 2) (mC (.str z_set)))) (sDPutM (mCall m_worth_of_4 (mCons (mV 0) (mCons (mOp fIx (mV 1) (mC (.int 2))) (mNil)))) (mUn (fGet 1 z_cells) (mV 0)) (mOp fIx (mV 1) (mC (.int 1)))) (sIf (mB (mOp fEq (mV 2) (mC (.str z_send)))) (sDrop (mBM fAppend (mUn (fGet 1 z_sends) (mV 0)) (mCons (mTup (mCons (mOp fIx (mV 1) (mC (.int 1))) (mCons (mCall m_worth_of_4 (mCons (mV 0) (mCons (mOp fIx (mV 1) (mC (.int 2))) (mNil)))) (mNil)))) (mNil)))) (sIf (mB (mOp fEq (mV 2) (mC (.str z_wait)))) (sDPutM (mCall m_worth_of_4 (mCons (mV 0) (mCons (mOp fIx (mV 1) (mC (.int 2))) (mNil)))) (mUn (fGet 1 z_rings) (mV 0)) (mOp fIx (mV 1) (mC (.int 1)))) (sIf (mB (mOp fEq (mV 2) (mC (.str z_drop)))) (sDPutM (mC .non) (mUn (fGet 1 z_rings) (mV 0)) (mOp fIx (mV 1) (mC (.int 1)))) (sIf (mB (mOp fEq (mV 2) (mC (.str z_say)))) (sDrop (mBM fAppend (mUn (fGet 1 z_says) (mV 0)) (mCons (mCall m_worth_of_4 (mCons (mV 0) (mCons (mOp fIx (mV 1) (mC (.int 1))) (mNil)))) (mNil)))) (sIf (mB (mOp fEq (mV 2) (mC (.str z_if)))) (sDrop (mCall m_do_block_0 (mCons (mV 0) (mCons (mIf (mTru (mCall m_holds (mCons (mV 0) (mCons (mOp fIx (mV 1) (mC (.int 1))) (mNil))))) (mOp fIx (mV 1) (mC (.int 2))) (mOp fIx (mV 1) (mC (.int 3)))) (mNil))))) (sForR1 (mCons (mCall m_worth_of_4 (mCons (mV 0) (mCons (mOp fIx (mV 1) (mC (.int 1))) (mNil)))) (mNil)) 3 (m_do_statement_1_b1)))))))))
theorem ok_do_statement_1 (T : Blt K mg) (D : DefAt K mg "do_statement" s_do_statement) (D_worth_of_4 : DefOk P w K mg base "worth_of" s_worth_of 5 ["doing", "expression"] m_worth_of_4) (D_do_block_0 : DefOk P w K mg base "do_block" s_do_block 1 ["doing", "block"] m_do_block_0) (D_holds : DefOk P w K mg base "holds" s_holds 6 ["doing", "condition"] m_holds) : DefOk P w K mg base "do_statement" s_do_statement 7 ["doing", "statement"] m_do_statement_1 :=
  defOk_of (N := ["doing", "statement", "word", "_"]) D sc_do_statement fun f cdv A outer s H E hr hg =>
  (gss_cons (gs_set (i := 2) sc_do_statement.nd rfl (by first | exact Or.inl rfl | exact Or.inr rfl) (ge_ix (ge_var 1) (ge_int) (fun _ _ => rfl)))
  (gss_one (gs_if (gt_cmp (op_eqP hr.units) r2_data (ge_var 2) (ge_strZ y_set) (nomark _)) (gss_one (gs_dput (u_1 hr) (ge_fldE y_cells T.cls_Doing T.na_Doing_cells (ge_var 0)) (ge_ix (ge_var 1) (ge_int) (fun _ _ => rfl)) (ge_callD D_worth_of_4 (hr.mono (by decide)) hg (takes_of rfl rfl rfl rfl) rfl (fun _ _ _ _ _ _ us hl => match us, hl with | [_, _], _ => rfl) (ga_cons (ge_var 0) (ga_cons (ge_ix (ge_var 1) (ge_int) (fun _ _ => rfl)) (ga_nil)))))) (gss_one (gs_if (gt_cmp (op_eqP hr.units) r2_data (ge_var 2) (ge_strZ y_send) (nomark _)) (gss_one (gs_expr (ge_lm PySem.F.slot_list_append PySem.F.type_list_append mt_append rm_append (ge_fldE y_sends T.cls_Doing T.na_Doing_sends (ge_var 0)) (ga_cons (ge_tup (ga_cons (ge_ix (ge_var 1) (ge_int) (fun _ _ => rfl)) (ga_cons (ge_callD D_worth_of_4 (hr.mono (by decide)) hg (takes_of rfl rfl rfl rfl) rfl (fun _ _ _ _ _ _ us hl => match us, hl with | [_, _], _ => rfl) (ga_cons (ge_var 0) (ga_cons (ge_ix (ge_var 1) (ge_int) (fun _ _ => rfl)) (ga_nil)))) (ga_nil)))) (ga_nil))))) (gss_one (gs_if (gt_cmp (op_eqP hr.units) r2_data (ge_var 2) (ge_strZ y_wait) (nomark _)) (gss_one (gs_dput (u_1 hr) (ge_fldE y_rings T.cls_Doing T.na_Doing_rings (ge_var 0)) (ge_ix (ge_var 1) (ge_int) (fun _ _ => rfl)) (ge_callD D_worth_of_4 (hr.mono (by decide)) hg (takes_of rfl rfl rfl rfl) rfl (fun _ _ _ _ _ _ us hl => match us, hl with | [_, _], _ => rfl) (ga_cons (ge_var 0) (ga_cons (ge_ix (ge_var 1) (ge_int) (fun _ _ => rfl)) (ga_nil)))))) (gss_one (gs_if (gt_cmp (op_eqP hr.units) r2_data (ge_var 2) (ge_strZ y_drop) (nomark _)) (gss_one (gs_dput (u_1 hr) (ge_fldE y_rings T.cls_Doing T.na_Doing_rings (ge_var 0)) (ge_ix (ge_var 1) (ge_int) (fun _ _ => rfl)) (ge_non))) (gss_one (gs_if (gt_cmp (op_eqP hr.units) r2_data (ge_var 2) (ge_strZ y_say) (nomark _)) (gss_one (gs_expr (ge_lm PySem.F.slot_list_append PySem.F.type_list_append mt_append rm_append (ge_fldE y_says T.cls_Doing T.na_Doing_says (ge_var 0)) (ga_cons (ge_callD D_worth_of_4 (hr.mono (by decide)) hg (takes_of rfl rfl rfl rfl) rfl (fun _ _ _ _ _ _ us hl => match us, hl with | [_, _], _ => rfl) (ga_cons (ge_var 0) (ga_cons (ge_ix (ge_var 1) (ge_int) (fun _ _ => rfl)) (ga_nil)))) (ga_nil))))) (gss_one (gs_if (gt_cmp (op_eqP hr.units) r2_data (ge_var 2) (ge_strZ y_if) (nomark _)) (gss_one (gs_expr (ge_callD D_do_block_0 (hr.mono (by decide)) hg (takes_of rfl rfl rfl rfl) rfl (fun _ _ _ _ _ _ us hl => match us, hl with | [_, _], _ => rfl) (ga_cons (ge_var 0) (ga_cons (ge_if (gt_tru (ge_callD D_holds hr hg (takes_of rfl rfl rfl rfl) rfl (fun _ _ _ _ _ _ us hl => match us, hl with | [_, _], _ => rfl) (ga_cons (ge_var 0) (ga_cons (ge_ix (ge_var 1) (ge_int) (fun _ _ => rfl)) (ga_nil)))) (fun _ => rfl)) (ge_ix (ge_var 1) (ge_int) (fun _ _ => rfl)) (ge_ix (ge_var 1) (ge_int) (fun _ _ => rfl))) (ga_nil)))))) (gss_one (gs_forR1 (i := 3) (passes_of rfl) rfl rfl T.range (ga_cons (ge_callD D_worth_of_4 (hr.mono (by decide)) hg (takes_of rfl rfl rfl rfl) rfl (fun _ _ _ _ _ _ us hl => match us, hl with | [_, _], _ => rfl) (ga_cons (ge_var 0) (ga_cons (ge_ix (ge_var 1) (ge_int) (fun _ _ => rfl)) (ga_nil)))) (ga_nil)) sc_do_statement.nd rfl (by first | exact Or.inl rfl | exact Or.inr rfl) (gss_one (gs_expr (ge_callD D_do_block_0 (hr.mono (by decide)) hg (takes_of rfl rfl rfl rfl) rfl (fun _ _ _ _ _ _ us hl => match us, hl with | [_, _], _ => rfl) (ga_cons (ge_var 0) (ga_cons (ge_ix (ge_var 1) (ge_int) (fun _ _ => rfl)) (ga_nil)))))))))))))))))))))
abbrev s_is_short : Stmt := topS 31
theorem sc_is_short : FnScope ["names", "word", "value"] ["names", "word", "value"] (defScope s_is_short) := ⟨rfl, rfl, rfl, by decide +kernel, rfl, by decide +kernel, by decide +kernel⟩
def m_is_short : List W → Store → Res W := fnM 3 3
  (sSeq (sIf (mB (mOp fEq (mV 1) (mC (.str z_drop)))) (sRet (mOp fIn (mV 2) (mUn (fGet 0 z_alarms) (mV 0)))) (sNx))
  (sRet (mCall (moreM [.int 3] m_is_expression_4) (mCons (mV 0) (mCons (mV 2) (mNil))))))
theorem ok_is_short (T : Blt K mg) (D : DefAt K mg "is_short" s_is_short) (D_is_expression_4 : DefOkF P w K mg base "is_expression" s_is_expression [.int 3] 7 ["names", "value", "signs"] m_is_expression_4) : DefOk P w K mg base "is_short" s_is_short 8 ["names", "word", "value"] m_is_short :=
  defOk_of (N := ["names", "word", "value"]) D sc_is_short fun f cdv A outer s H E hr hg =>
  (gss_cons (gs_if (gt_cmp (op_eqP hr.units) r2_data (ge_var 1) (ge_strZ y_drop) (nomark _)) (gss_one (gs_ret (ge_cmp (op_inP hr.units) r2_data (ge_var 2) (ge_fldE y_alarms T.cls_Names T.na_Names_alarms (ge_var 0)) (by rfl)))) (gss_nil))
  (gss_one (gs_ret (ge_callFd (n := 2) (j := 0) (wd := [.int 3]) D_is_expression_4 hr hg (takes_of rfl rfl rfl rfl) rfl (by decide) rfl (fun _ => ⟨_, _, rfl, rfl, rfl⟩) (fun _ _ _ _ _ _ _ us its h1 h2 => match us, its, h1, h2 with | [_, _], [_], _, _ => ⟨_, rfl, rfl⟩) (ga_cons (ge_var 0) (ga_cons (ge_var 2) (ga_nil)))))))
abbrev s_is_condition : Stmt := topS 34
theorem sc_is_condition : FnScope ["names", "value"] ["names", "value"] (defScope s_is_condition) := ⟨rfl, rfl, rfl, by decide +kernel, rfl, by decide +kernel, by decide +kernel⟩
def m_is_condition : List W → Store → Res W := fnM 2 2
  (sSeq (sIf (mOr (mNot (mTru (mCall m_is_tuple_of (mCons (mV 1) (mCons (mC (.int 3)) (mNil)))))) (mB (mOp fNin (mOp fIx (mV 1) (mC (.int 0))) (mTup (mCons (mC (.str z__3d)) (mCons (mC (.str z__3c)) (mNil))))))) (sRet (mC (.bl false))) (sNx))
  (sRet (mAndV (mCall (moreM [.int 3] m_is_expression_4) (mCons (mV 0) (mCons (mOp fIx (mV 1) (mC (.int 1))) (mNil)))) (mCall (moreM [.int 3] m_is_expression_4) (mCons (mV 0) (mCons (mOp fIx (mV 1) (mC (.int 2))) (mNil)))))))
theorem ok_is_condition (T : Blt K mg) (D : DefAt K mg "is_condition" s_is_condition) (D_is_tuple_of : DefOk P w K mg base "is_tuple_of" s_is_tuple_of 1 ["value", "many"] m_is_tuple_of) (D_is_expression_4 : DefOkF P w K mg base "is_expression" s_is_expression [.int 3] 7 ["names", "value", "signs"] m_is_expression_4) : DefOk P w K mg base "is_condition" s_is_condition 8 ["names", "value"] m_is_condition :=
  defOk_of (N := ["names", "value"]) D sc_is_condition fun f cdv A outer s H E hr hg =>
  (gss_cons (gs_if (GW.pt (gw_or (gt_not (gt_tru (ge_callD D_is_tuple_of (hr.mono (by decide)) hg (takes_of rfl rfl rfl rfl) rfl (fun _ _ _ _ _ _ us hl => match us, hl with | [_, _], _ => rfl) (ga_cons (ge_var 1) (ga_cons (ge_int) (ga_nil)))) (fun _ => rfl))) (gw_or1 (gt_cmp (op_ninP hr.units) r2_data (ge_ix (ge_var 1) (ge_int) (fun _ _ => rfl)) (ge_tup (ga_cons (ge_strZ y__3d) (ga_cons (ge_strZ y__3c) (ga_nil)))) (by rfl))))) (gss_one (gs_ret (ge_bl))) (gss_nil))
  (gss_one (gs_ret (ge_and (ge_callFd (n := 2) (j := 0) (wd := [.int 3]) D_is_expression_4 hr hg (takes_of rfl rfl rfl rfl) rfl (by decide) rfl (fun _ => ⟨_, _, rfl, rfl, rfl⟩) (fun _ _ _ _ _ _ _ us its h1 h2 => match us, its, h1, h2 with | [_, _], [_], _, _ => ⟨_, rfl, rfl⟩) (ga_cons (ge_var 0) (ga_cons (ge_ix (ge_var 1) (ge_int) (fun _ _ => rfl)) (ga_nil)))) (ge_one (ge_callFd (n := 2) (j := 0) (wd := [.int 3]) D_is_expression_4 hr hg (takes_of rfl rfl rfl rfl) rfl (by decide) rfl (fun _ => ⟨_, _, rfl, rfl, rfl⟩) (fun _ _ _ _ _ _ _ us its h1 h2 => match us, its, h1, h2 with | [_, _], [_], _, _ => ⟨_, rfl, rfl⟩) (ga_cons (ge_var 0) (ga_cons (ge_ix (ge_var 1) (ge_int) (fun _ _ => rfl)) (ga_nil)))))))))
def m_do_block_1_b1 : Sm := sDrop (mCall m_do_statement_1 (mCons (mV 0) (mCons (mV 2) (mNil))))
def m_do_block_1 : List W → Store → Res W := fnM 2 3
  (sForT (mV 1) (setN 2) (m_do_block_1_b1))
theorem ok_do_block_1 (T : Blt K mg) (D : DefAt K mg "do_block" s_do_block) (D_do_statement_1 : DefOk P w K mg base "do_statement" s_do_statement 7 ["doing", "statement"] m_do_statement_1) : DefOk P w K mg base "do_block" s_do_block 8 ["doing", "block"] m_do_block_1 :=
  defOk_of (N := ["doing", "block", "statement"]) D sc_do_block fun f cdv A outer s H E hr hg =>
  (gss_one (gs_forT (passes_of rfl) rfl (ge_var 1) (pg_name (i := 2) sc_do_block.nd rfl (by first | exact Or.inl rfl | exact Or.inr rfl)) (fun _ => put_name) (gss_one (gs_expr (ge_callD D_do_statement_1 hr hg (takes_of rfl rfl rfl rfl) rfl (fun _ _ _ _ _ _ us hl => match us, hl with | [_, _], _ => rfl) (ga_cons (ge_var 0) (ga_cons (ge_var 2) (ga_nil))))))))
abbrev s_is_branch : Stmt := topS 33
theorem sc_is_branch : FnScope ["names", "value", "depth"] ["names", "value", "depth"] (defScope s_is_branch) := ⟨rfl, rfl, rfl, by decide +kernel, rfl, by decide +kernel, by decide +kernel⟩
def m_is_branch_1 : List W → Store → Res W := fnM 3 3
  (sSeq (sIf (mB (mOp fEq (mOp fIx (mV 1) (mC (.int 0))) (mC (.str z_repeat)))) (sRet (mAndV (mOp fEq (mCall fLen (mCons (mV 1) (mNil))) (mC (.int 3))) (mAndV (mCall (moreM [.int 3] m_is_expression_4) (mCons (mV 0) (mCons (mOp fIx (mV 1) (mC (.int 1))) (mNil)))) (mCall (moreM [] m_is_program_0) (mCons (mV 0) (mCons (mOp fIx (mV 1) (mC (.int 2))) (mCons (mOp fAdd (mV 2) (mC (.int 1))) (mNil)))))))) (sNx))
  (sSeq (sIf (mOr (mB (mOp fNe (mCall fLen (mCons (mV 1) (mNil))) (mC (.int 4)))) (mNot (mTru (mCall m_is_condition (mCons (mV 0) (mCons (mOp fIx (mV 1) (mC (.int 1))) (mNil))))))) (sRet (mC (.bl false))) (sNx))
  (sRet (mAndV (mCall (moreM [] m_is_program_0) (mCons (mV 0) (mCons (mOp fIx (mV 1) (mC (.int 2))) (mCons (mOp fAdd (mV 2) (mC (.int 1))) (mNil))))) (mCall (moreM [] m_is_program_0) (mCons (mV 0) (mCons (mOp fIx (mV 1) (mC (.int 3))) (mCons (mOp fAdd (mV 2) (mC (.int 1))) (mNil)))))))))
theorem ok_is_branch_1 (T : Blt K mg) (D : DefAt K mg "is_branch" s_is_branch) (D_is_expression_4 : DefOkF P w K mg base "is_expression" s_is_expression [.int 3] 7 ["names", "value", "signs"] m_is_expression_4) (D_is_program_0 : DefOkF P w K mg base "is_program" s_is_program [.int 1] 1 ["names", "value", "depth"] m_is_program_0) (D_is_condition : DefOk P w K mg base "is_condition" s_is_condition 8 ["names", "value"] m_is_condition) : DefOk P w K mg base "is_branch" s_is_branch 9 ["names", "value", "depth"] m_is_branch_1 :=
  defOk_of (N := ["names", "value", "depth"]) D sc_is_branch fun f cdv A outer s H E hr hg =>
  (gss_cons (gs_if (gt_cmp (op_eqP hr.units) r2_data (ge_ix (ge_var 1) (ge_int) (fun _ _ => rfl)) (ge_strZ y_repeat) (nomark _)) (gss_one (gs_ret (ge_and (ge_cmp (op_eqP hr.units) r2_data (ge_callB call_len rc_len rfl T.len (by decide +kernel) (ga_cons (ge_var 1) (ga_nil))) (ge_int) (nomark _)) (ge_and (ge_callFd (n := 2) (j := 0) (wd := [.int 3]) D_is_expression_4 (hr.mono (by decide)) hg (takes_of rfl rfl rfl rfl) rfl (by decide) rfl (fun _ => ⟨_, _, rfl, rfl, rfl⟩) (fun _ _ _ _ _ _ _ us its h1 h2 => match us, its, h1, h2 with | [_, _], [_], _, _ => ⟨_, rfl, rfl⟩) (ga_cons (ge_var 0) (ga_cons (ge_ix (ge_var 1) (ge_int) (fun _ _ => rfl)) (ga_nil)))) (ge_one (ge_callFd (n := 3) (j := 1) (wd := []) D_is_program_0 (hr.mono (by decide)) hg (takes_of rfl rfl rfl rfl) rfl (by decide) rfl (fun _ => rfl) (fun _ _ _ _ _ _ _ us its h1 h2 => match us, its, h1, h2 with | [_, _, _], [_], _, _ => ⟨_, rfl, rfl⟩) (ga_cons (ge_var 0) (ga_cons (ge_ix (ge_var 1) (ge_int) (fun _ _ => rfl)) (ga_cons (ge_op op_addA r2_add (ge_var 2) (ge_int)) (ga_nil)))))))))) (gss_nil))
  (gss_cons (gs_if (GW.pt (gw_or (gt_cmp (op_neP hr.units) r2_data (ge_callB call_len rc_len rfl T.len (by decide +kernel) (ga_cons (ge_var 1) (ga_nil))) (ge_int) (nomark _)) (gw_or1 (gt_not (gt_tru (ge_callD D_is_condition hr hg (takes_of rfl rfl rfl rfl) rfl (fun _ _ _ _ _ _ us hl => match us, hl with | [_, _], _ => rfl) (ga_cons (ge_var 0) (ga_cons (ge_ix (ge_var 1) (ge_int) (fun _ _ => rfl)) (ga_nil)))) (fun _ => rfl)))))) (gss_one (gs_ret (ge_bl))) (gss_nil))
  (gss_one (gs_ret (ge_and (ge_callFd (n := 3) (j := 1) (wd := []) D_is_program_0 (hr.mono (by decide)) hg (takes_of rfl rfl rfl rfl) rfl (by decide) rfl (fun _ => rfl) (fun _ _ _ _ _ _ _ us its h1 h2 => match us, its, h1, h2 with | [_, _, _], [_], _, _ => ⟨_, rfl, rfl⟩) (ga_cons (ge_var 0) (ga_cons (ge_ix (ge_var 1) (ge_int) (fun _ _ => rfl)) (ga_cons (ge_op op_addA r2_add (ge_var 2) (ge_int)) (ga_nil))))) (ge_one (ge_callFd (n := 3) (j := 1) (wd := []) D_is_program_0 (hr.mono (by decide)) hg (takes_of rfl rfl rfl rfl) rfl (by decide) rfl (fun _ => rfl) (fun _ _ _ _ _ _ _ us its h1 h2 => match us, its, h1, h2 with | [_, _, _], [_], _, _ => ⟨_, rfl, rfl⟩) (ga_cons (ge_var 0) (ga_cons (ge_ix (ge_var 1) (ge_int) (fun _ _ => rfl)) (ga_cons (ge_op op_addA r2_add (ge_var 2) (ge_int)) (ga_nil)))))))))))
def m_do_statement_2_b1 : Sm := sDrop (mCall m_do_block_1 (mCons (mV 0) (mCons (mOp fIx (mV 1) (mC (.int 2))) (mNil))))
def m_do_statement_2 : List W → Store → Res W := fnM 2 4
  (sSeq (sSet 2 (mOp fIx (mV 1) (mC (.int 0))))
  (sIf (mB (mOp fEq (mV 2) (mC (.str z_set)))) (sDPutM (mCall m_worth_of_4 (mCons (mV 0) (mCons (mOp fIx (mV 1) (mC (.int 2))) (mNil)))) (mUn (fGet 1 z_cells) (mV 0)) (mOp fIx (mV 1) (mC (.int 1)))) (sIf (mB (mOp fEq (mV 2) (mC (.str z_send)))) (sDrop (mBM fAppend (mUn (fGet 1 z_sends) (mV 0)) (mCons (mTup (mCons (mOp fIx (mV 1) (mC (.int 1))) (mCons (mCall m_worth_of_4 (mCons (mV 0) (mCons (mOp fIx (mV 1) (mC (.int 2))) (mNil)))) (mNil)))) (mNil)))) (sIf (mB (mOp fEq (mV 2) (mC (.str z_wait)))) (sDPutM (mCall m_worth_of_4 (mCons (mV 0) (mCons (mOp fIx (mV 1) (mC (.int 2))) (mNil)))) (mUn (fGet 1 z_rings) (mV 0)) (mOp fIx (mV 1) (mC (.int 1)))) (sIf (mB (mOp fEq (mV 2) (mC (.str z_drop)))) (sDPutM (mC .non) (mUn (fGet 1 z_rings) (mV 0)) (mOp fIx (mV 1) (mC (.int 1)))) (sIf (mB (mOp fEq (mV 2) (mC (.str z_say)))) (sDrop (mBM fAppend (mUn (fGet 1 z_says) (mV 0)) (mCons (mCall m_worth_of_4 (mCons (mV 0) (mCons (mOp fIx (mV 1) (mC (.int 1))) (mNil)))) (mNil)))) (sIf (mB (mOp fEq (mV 2) (mC (.str z_if)))) (sDrop (mCall m_do_block_1 (mCons (mV 0) (mCons (mIf (mTru (mCall m_holds (mCons (mV 0) (mCons (mOp fIx (mV 1) (mC (.int 1))) (mNil))))) (mOp fIx (mV 1) (mC (.int 2))) (mOp fIx (mV 1) (mC (.int 3)))) (mNil))))) (sForR1 (mCons (mCall m_worth_of_4 (mCons (mV 0) (mCons (mOp fIx (mV 1) (mC (.int 1))) (mNil)))) (mNil)) 3 (m_do_statement_2_b1)))))))))
theorem ok_do_statement_2 (T : Blt K mg) (D : DefAt K mg "do_statement" s_do_statement) (D_worth_of_4 : DefOk P w K mg base "worth_of" s_worth_of 5 ["doing", "expression"] m_worth_of_4) (D_do_block_1 : DefOk P w K mg base "do_block" s_do_block 8 ["doing", "block"] m_do_block_1) (D_holds : DefOk P w K mg base "holds" s_holds 6 ["doing", "condition"] m_holds) : DefOk P w K mg base "do_statement" s_do_statement 9 ["doing", "statement"] m_do_statement_2 :=
  defOk_of (N := ["doing", "statement", "word", "_"]) D sc_do_statement fun f cdv A outer s H E hr hg =>
  (gss_cons (gs_set (i := 2) sc_do_statement.nd rfl (by first | exact Or.inl rfl | exact Or.inr rfl) (ge_ix (ge_var 1) (ge_int) (fun _ _ => rfl)))
  (gss_one (gs_if (gt_cmp (op_eqP hr.units) r2_data (ge_var 2) (ge_strZ y_set) (nomark _)) (gss_one (gs_dput (u_1 hr) (ge_fldE y_cells T.cls_Doing T.na_Doing_cells (ge_var 0)) (ge_ix (ge_var 1) (ge_int) (fun _ _ => rfl)) (ge_callD D_worth_of_4 (hr.mono (by decide)) hg (takes_of rfl rfl rfl rfl) rfl (fun _ _ _ _ _ _ us hl => match us, hl with | [_, _], _ => rfl) (ga_cons (ge_var 0) (ga_cons (ge_ix (ge_var 1) (ge_int) (fun _ _ => rfl)) (ga_nil)))))) (gss_one (gs_if (gt_cmp (op_eqP hr.units) r2_data (ge_var 2) (ge_strZ y_send) (nomark _)) (gss_one (gs_expr (ge_lm PySem.F.slot_list_append PySem.F.type_list_append mt_append rm_append (ge_fldE y_sends T.cls_Doing T.na_Doing_sends (ge_var 0)) (ga_cons (ge_tup (ga_cons (ge_ix (ge_var 1) (ge_int) (fun _ _ => rfl)) (ga_cons (ge_callD D_worth_of_4 (hr.mono (by decide)) hg (takes_of rfl rfl rfl rfl) rfl (fun _ _ _ _ _ _ us hl => match us, hl with | [_, _], _ => rfl) (ga_cons (ge_var 0) (ga_cons (ge_ix (ge_var 1) (ge_int) (fun _ _ => rfl)) (ga_nil)))) (ga_nil)))) (ga_nil))))) (gss_one (gs_if (gt_cmp (op_eqP hr.units) r2_data (ge_var 2) (ge_strZ y_wait) (nomark _)) (gss_one (gs_dput (u_1 hr) (ge_fldE y_rings T.cls_Doing T.na_Doing_rings (ge_var 0)) (ge_ix (ge_var 1) (ge_int) (fun _ _ => rfl)) (ge_callD D_worth_of_4 (hr.mono (by decide)) hg (takes_of rfl rfl rfl rfl) rfl (fun _ _ _ _ _ _ us hl => match us, hl with | [_, _], _ => rfl) (ga_cons (ge_var 0) (ga_cons (ge_ix (ge_var 1) (ge_int) (fun _ _ => rfl)) (ga_nil)))))) (gss_one (gs_if (gt_cmp (op_eqP hr.units) r2_data (ge_var 2) (ge_strZ y_drop) (nomark _)) (gss_one (gs_dput (u_1 hr) (ge_fldE y_rings T.cls_Doing T.na_Doing_rings (ge_var 0)) (ge_ix (ge_var 1) (ge_int) (fun _ _ => rfl)) (ge_non))) (gss_one (gs_if (gt_cmp (op_eqP hr.units) r2_data (ge_var 2) (ge_strZ y_say) (nomark _)) (gss_one (gs_expr (ge_lm PySem.F.slot_list_append PySem.F.type_list_append mt_append rm_append (ge_fldE y_says T.cls_Doing T.na_Doing_says (ge_var 0)) (ga_cons (ge_callD D_worth_of_4 (hr.mono (by decide)) hg (takes_of rfl rfl rfl rfl) rfl (fun _ _ _ _ _ _ us hl => match us, hl with | [_, _], _ => rfl) (ga_cons (ge_var 0) (ga_cons (ge_ix (ge_var 1) (ge_int) (fun _ _ => rfl)) (ga_nil)))) (ga_nil))))) (gss_one (gs_if (gt_cmp (op_eqP hr.units) r2_data (ge_var 2) (ge_strZ y_if) (nomark _)) (gss_one (gs_expr (ge_callD D_do_block_1 hr hg (takes_of rfl rfl rfl rfl) rfl (fun _ _ _ _ _ _ us hl => match us, hl with | [_, _], _ => rfl) (ga_cons (ge_var 0) (ga_cons (ge_if (gt_tru (ge_callD D_holds (hr.mono (by decide)) hg (takes_of rfl rfl rfl rfl) rfl (fun _ _ _ _ _ _ us hl => match us, hl with | [_, _], _ => rfl) (ga_cons (ge_var 0) (ga_cons (ge_ix (ge_var 1) (ge_int) (fun _ _ => rfl)) (ga_nil)))) (fun _ => rfl)) (ge_ix (ge_var 1) (ge_int) (fun _ _ => rfl)) (ge_ix (ge_var 1) (ge_int) (fun _ _ => rfl))) (ga_nil)))))) (gss_one (gs_forR1 (i := 3) (passes_of rfl) rfl rfl T.range (ga_cons (ge_callD D_worth_of_4 (hr.mono (by decide)) hg (takes_of rfl rfl rfl rfl) rfl (fun _ _ _ _ _ _ us hl => match us, hl with | [_, _], _ => rfl) (ga_cons (ge_var 0) (ga_cons (ge_ix (ge_var 1) (ge_int) (fun _ _ => rfl)) (ga_nil)))) (ga_nil)) sc_do_statement.nd rfl (by first | exact Or.inl rfl | exact Or.inr rfl) (gss_one (gs_expr (ge_callD D_do_block_1 hr hg (takes_of rfl rfl rfl rfl) rfl (fun _ _ _ _ _ _ us hl => match us, hl with | [_, _], _ => rfl) (ga_cons (ge_var 0) (ga_cons (ge_ix (ge_var 1) (ge_int) (fun _ _ => rfl)) (ga_nil)))))))))))))))))))))
abbrev s_is_statement : Stmt := topS 30
theorem sc_is_statement : FnScope ["names", "value", "depth", "word", "named"] ["names", "value", "depth"] (defScope s_is_statement) := ⟨rfl, rfl, rfl, by decide +kernel, rfl, by decide +kernel, by decide +kernel⟩
def m_is_statement_1 : List W → Store → Res W := fnM 3 5
  (sSeq (sIf (mOr (mNot (mTru (mUn (fIsK 3) (mV 1)))) (mNot (mTru (mV 1)))) (sRet (mC (.bl false))) (sNx))
  (sSeq (sSet 3 (mOp fIx (mV 1) (mC (.int 0))))
  (sSeq (sIf (mB (mOp fIn (mV 3) (mTup (mCons (mC (.str z_if)) (mCons (mC (.str z_repeat)) (mNil)))))) (sRet (mAndV (mOp fLt (mV 2) (mC (.int 3))) (mCall m_is_branch_1 (mCons (mV 0) (mCons (mV 1) (mCons (mV 2) (mNil))))))) (sNx))
  (sSeq (sIf (mB (mOp fIn (mV 3) (mTup (mCons (mC (.str z_drop)) (mCons (mC (.str z_say)) (mNil)))))) (sRet (mAndV (mOp fEq (mCall fLen (mCons (mV 1) (mNil))) (mC (.int 2))) (mCall m_is_short (mCons (mV 0) (mCons (mV 3) (mCons (mOp fIx (mV 1) (mC (.int 1))) (mNil))))))) (sNx))
  (sSeq (sSet 4 (mCall m_named_by (mCons (mV 0) (mCons (mV 3) (mNil)))))
  (sRet (mAndV (mOp fEq (mCall fLen (mCons (mV 1) (mNil))) (mC (.int 3))) (mAndV (mOp fIn (mOp fIx (mV 1) (mC (.int 1))) (mV 4)) (mCall (moreM [.int 3] m_is_expression_4) (mCons (mV 0) (mCons (mOp fIx (mV 1) (mC (.int 2))) (mNil))))))))))))
theorem ok_is_statement_1 (T : Blt K mg) (D : DefAt K mg "is_statement" s_is_statement) (D_is_branch_1 : DefOk P w K mg base "is_branch" s_is_branch 9 ["names", "value", "depth"] m_is_branch_1) (D_is_short : DefOk P w K mg base "is_short" s_is_short 8 ["names", "word", "value"] m_is_short) (D_named_by : DefOk P w K mg base "named_by" s_named_by 1 ["names", "word"] m_named_by) (D_is_expression_4 : DefOkF P w K mg base "is_expression" s_is_expression [.int 3] 7 ["names", "value", "signs"] m_is_expression_4) : DefOk P w K mg base "is_statement" s_is_statement 10 ["names", "value", "depth"] m_is_statement_1 :=
  defOk_of (N := ["names", "value", "depth", "word", "named"]) D sc_is_statement fun f cdv A outer s H E hr hg =>
  (gss_cons (gs_if (GW.pt (gw_or (gt_not (gt_tru (ge_isiZ isk_tuple (T := "tuple") ty_tuple rfl T.isinstance rfl T.tuple (by decide +kernel) (ge_var 1)) (fun _ => rfl))) (gw_or1 (gt_not (gt_tru (ge_var 1) (fun _ => rfl)))))) (gss_one (gs_ret (ge_bl))) (gss_nil))
  (gss_cons (gs_set (i := 3) sc_is_statement.nd rfl (by first | exact Or.inl rfl | exact Or.inr rfl) (ge_ix (ge_var 1) (ge_int) (fun _ _ => rfl)))
  (gss_cons (gs_if (gt_cmp (op_inP hr.units) r2_data (ge_var 3) (ge_tup (ga_cons (ge_strZ y_if) (ga_cons (ge_strZ y_repeat) (ga_nil)))) (by rfl)) (gss_one (gs_ret (ge_and (ge_cmp (op_ltP hr.units) r2_data (ge_var 2) (ge_gIntE rfl T.DEEPEST) (nomark _)) (ge_one (ge_callD D_is_branch_1 hr hg (takes_of rfl rfl rfl rfl) rfl (fun _ _ _ _ _ _ us hl => match us, hl with | [_, _, _], _ => rfl) (ga_cons (ge_var 0) (ga_cons (ge_var 1) (ga_cons (ge_var 2) (ga_nil))))))))) (gss_nil))
  (gss_cons (gs_if (gt_cmp (op_inP hr.units) r2_data (ge_var 3) (ge_tup (ga_cons (ge_strZ y_drop) (ga_cons (ge_strZ y_say) (ga_nil)))) (by rfl)) (gss_one (gs_ret (ge_and (ge_cmp (op_eqP hr.units) r2_data (ge_callB call_len rc_len rfl T.len (by decide +kernel) (ga_cons (ge_var 1) (ga_nil))) (ge_int) (nomark _)) (ge_one (ge_callD D_is_short (hr.mono (by decide)) hg (takes_of rfl rfl rfl rfl) rfl (fun _ _ _ _ _ _ us hl => match us, hl with | [_, _, _], _ => rfl) (ga_cons (ge_var 0) (ga_cons (ge_var 3) (ga_cons (ge_ix (ge_var 1) (ge_int) (fun _ _ => rfl)) (ga_nil))))))))) (gss_nil))
  (gss_cons (gs_set (i := 4) sc_is_statement.nd rfl (by first | exact Or.inl rfl | exact Or.inr rfl) (ge_callD D_named_by (hr.mono (by decide)) hg (takes_of rfl rfl rfl rfl) rfl (fun _ _ _ _ _ _ us hl => match us, hl with | [_, _], _ => rfl) (ga_cons (ge_var 0) (ga_cons (ge_var 3) (ga_nil)))))
  (gss_one (gs_ret (ge_and (ge_cmp (op_eqP hr.units) r2_data (ge_callB call_len rc_len rfl T.len (by decide +kernel) (ga_cons (ge_var 1) (ga_nil))) (ge_int) (nomark _)) (ge_and (ge_cmp (op_inP hr.units) r2_data (ge_ix (ge_var 1) (ge_int) (fun _ _ => rfl)) (ge_var 4) (by rfl)) (ge_one (ge_callFd (n := 2) (j := 0) (wd := [.int 3]) D_is_expression_4 (hr.mono (by decide)) hg (takes_of rfl rfl rfl rfl) rfl (by decide) rfl (fun _ => ⟨_, _, rfl, rfl, rfl⟩) (fun _ _ _ _ _ _ _ us its h1 h2 => match us, its, h1, h2 with | [_, _], [_], _, _ => ⟨_, rfl, rfl⟩) (ga_cons (ge_var 0) (ga_cons (ge_ix (ge_var 1) (ge_int) (fun _ _ => rfl)) (ga_nil))))))))))))))
def m_do_block_2_b1 : Sm := sDrop (mCall m_do_statement_2 (mCons (mV 0) (mCons (mV 2) (mNil))))
def m_do_block_2 : List W → Store → Res W := fnM 2 3
  (sForT (mV 1) (setN 2) (m_do_block_2_b1))
theorem ok_do_block_2 (T : Blt K mg) (D : DefAt K mg "do_block" s_do_block) (D_do_statement_2 : DefOk P w K mg base "do_statement" s_do_statement 9 ["doing", "statement"] m_do_statement_2) : DefOk P w K mg base "do_block" s_do_block 10 ["doing", "block"] m_do_block_2 :=
  defOk_of (N := ["doing", "block", "statement"]) D sc_do_block fun f cdv A outer s H E hr hg =>
  (gss_one (gs_forT (passes_of rfl) rfl (ge_var 1) (pg_name (i := 2) sc_do_block.nd rfl (by first | exact Or.inl rfl | exact Or.inr rfl)) (fun _ => put_name) (gss_one (gs_expr (ge_callD D_do_statement_2 hr hg (takes_of rfl rfl rfl rfl) rfl (fun _ _ _ _ _ _ us hl => match us, hl with | [_, _], _ => rfl) (ga_cons (ge_var 0) (ga_cons (ge_var 2) (ga_nil))))))))
def m_is_program_1_e1 : Ev W := mCall m_is_statement_1 (mCons (mV 0) (mCons (mV 3) (mCons (mV 2) (mNil))))
def m_is_program_1 : List W → Store → Res W := fnM 3 4
  (sSeq (sIf (mOr (mNot (mTru (mUn (fIsK 3) (mV 1)))) (mB (mOp fGt (mCall fLen (mCons (mV 1) (mNil))) (mC (.int 6))))) (sRet (mC (.bl false))) (sNx))
  (sRet (mCall fAll (mCons (mLcT [3] (setN 3) (mV 1) (yes) (m_is_program_1_e1)) (mNil)))))
theorem ok_is_program_1 (T : Blt K mg) (D : DefAtF K mg "is_program" s_is_program [.int 1]) (D_is_statement_1 : DefOk P w K mg base "is_statement" s_is_statement 10 ["names", "value", "depth"] m_is_statement_1) : DefOkF P w K mg base "is_program" s_is_program [.int 1] 11 ["names", "value", "depth"] m_is_program_1 :=
  defOkF_of (N := ["names", "value", "depth", "statement"]) D sc_is_program fun f cdv A outer s H E hr hg =>
  (gss_cons (gs_if (GW.pt (gw_or (gt_not (gt_tru (ge_isiZ isk_tuple (T := "tuple") ty_tuple rfl T.isinstance rfl T.tuple (by decide +kernel) (ge_var 1)) (fun _ => rfl))) (gw_or1 (gt_cmp (op_gtP hr.units) r2_data (ge_callB call_len rc_len rfl T.len (by decide +kernel) (ga_cons (ge_var 1) (ga_nil))) (ge_gIntE rfl T.MOST_STATEMENTS) (nomark _))))) (gss_one (gs_ret (ge_bl))) (gss_nil))
  (gss_one (gs_ret (ge_callB (cr_all rfl) rc_all rfl T.all (by decide +kernel) (ga_cons (ge_lcT (own := [("statement", 3)]) ⟨blkOk_by (N := ["names", "value", "depth", "statement"]) (sc := defScope s_is_program) (by decide +kernel), fun _ _ _ _ _ => pg_name (i := 3) sc_is_program.nd rfl (by first | exact Or.inl rfl | exact Or.inr rfl), fun _ _ _ _ _ => gp_nil, fun _ _ _ _ _ => ge_callD D_is_statement_1 hr hg takes0 rfl (fun _ _ _ _ _ _ us hl => match us, hl with | [_, _, _], _ => rfl) (ga_cons (ge_var 0) (ga_cons (ge_var 3) (ga_cons (ge_var 2) (ga_nil))))⟩ (fun _ => putLc_name (by decide)) rfl sc_is_program.nd (ge_var 1)) (ga_nil))))))
def m_do_statement_3_b1 : Sm := sDrop (mCall m_do_block_2 (mCons (mV 0) (mCons (mOp fIx (mV 1) (mC (.int 2))) (mNil))))
def m_do_statement_3 : List W → Store → Res W := fnM 2 4
  (sSeq (sSet 2 (mOp fIx (mV 1) (mC (.int 0))))
  (sIf (mB (mOp fEq (mV 2) (mC (.str z_set)))) (sDPutM (mCall m_worth_of_4 (mCons (mV 0) (mCons (mOp fIx (mV 1) (mC (.int 2))) (mNil)))) (mUn (fGet 1 z_cells) (mV 0)) (mOp fIx (mV 1) (mC (.int 1)))) (sIf (mB (mOp fEq (mV 2) (mC (.str z_send)))) (sDrop (mBM fAppend (mUn (fGet 1 z_sends) (mV 0)) (mCons (mTup (mCons (mOp fIx (mV 1) (mC (.int 1))) (mCons (mCall m_worth_of_4 (mCons (mV 0) (mCons (mOp fIx (mV 1) (mC (.int 2))) (mNil)))) (mNil)))) (mNil)))) (sIf (mB (mOp fEq (mV 2) (mC (.str z_wait)))) (sDPutM (mCall m_worth_of_4 (mCons (mV 0) (mCons (mOp fIx (mV 1) (mC (.int 2))) (mNil)))) (mUn (fGet 1 z_rings) (mV 0)) (mOp fIx (mV 1) (mC (.int 1)))) (sIf (mB (mOp fEq (mV 2) (mC (.str z_drop)))) (sDPutM (mC .non) (mUn (fGet 1 z_rings) (mV 0)) (mOp fIx (mV 1) (mC (.int 1)))) (sIf (mB (mOp fEq (mV 2) (mC (.str z_say)))) (sDrop (mBM fAppend (mUn (fGet 1 z_says) (mV 0)) (mCons (mCall m_worth_of_4 (mCons (mV 0) (mCons (mOp fIx (mV 1) (mC (.int 1))) (mNil)))) (mNil)))) (sIf (mB (mOp fEq (mV 2) (mC (.str z_if)))) (sDrop (mCall m_do_block_2 (mCons (mV 0) (mCons (mIf (mTru (mCall m_holds (mCons (mV 0) (mCons (mOp fIx (mV 1) (mC (.int 1))) (mNil))))) (mOp fIx (mV 1) (mC (.int 2))) (mOp fIx (mV 1) (mC (.int 3)))) (mNil))))) (sForR1 (mCons (mCall m_worth_of_4 (mCons (mV 0) (mCons (mOp fIx (mV 1) (mC (.int 1))) (mNil)))) (mNil)) 3 (m_do_statement_3_b1)))))))))
theorem ok_do_statement_3 (T : Blt K mg) (D : DefAt K mg "do_statement" s_do_statement) (D_worth_of_4 : DefOk P w K mg base "worth_of" s_worth_of 5 ["doing", "expression"] m_worth_of_4) (D_do_block_2 : DefOk P w K mg base "do_block" s_do_block 10 ["doing", "block"] m_do_block_2) (D_holds : DefOk P w K mg base "holds" s_holds 6 ["doing", "condition"] m_holds) : DefOk P w K mg base "do_statement" s_do_statement 11 ["doing", "statement"] m_do_statement_3 :=
  defOk_of (N := ["doing", "statement", "word", "_"]) D sc_do_statement fun f cdv A outer s H E hr hg =>
  (gss_cons (gs_set (i := 2) sc_do_statement.nd rfl (by first | exact Or.inl rfl | exact Or.inr rfl) (ge_ix (ge_var 1) (ge_int) (fun _ _ => rfl)))
  (gss_one (gs_if (gt_cmp (op_eqP hr.units) r2_data (ge_var 2) (ge_strZ y_set) (nomark _)) (gss_one (gs_dput (u_1 hr) (ge_fldE y_cells T.cls_Doing T.na_Doing_cells (ge_var 0)) (ge_ix (ge_var 1) (ge_int) (fun _ _ => rfl)) (ge_callD D_worth_of_4 (hr.mono (by decide)) hg (takes_of rfl rfl rfl rfl) rfl (fun _ _ _ _ _ _ us hl => match us, hl with | [_, _], _ => rfl) (ga_cons (ge_var 0) (ga_cons (ge_ix (ge_var 1) (ge_int) (fun _ _ => rfl)) (ga_nil)))))) (gss_one (gs_if (gt_cmp (op_eqP hr.units) r2_data (ge_var 2) (ge_strZ y_send) (nomark _)) (gss_one (gs_expr (ge_lm PySem.F.slot_list_append PySem.F.type_list_append mt_append rm_append (ge_fldE y_sends T.cls_Doing T.na_Doing_sends (ge_var 0)) (ga_cons (ge_tup (ga_cons (ge_ix (ge_var 1) (ge_int) (fun _ _ => rfl)) (ga_cons (ge_callD D_worth_of_4 (hr.mono (by decide)) hg (takes_of rfl rfl rfl rfl) rfl (fun _ _ _ _ _ _ us hl => match us, hl with | [_, _], _ => rfl) (ga_cons (ge_var 0) (ga_cons (ge_ix (ge_var 1) (ge_int) (fun _ _ => rfl)) (ga_nil)))) (ga_nil)))) (ga_nil))))) (gss_one (gs_if (gt_cmp (op_eqP hr.units) r2_data (ge_var 2) (ge_strZ y_wait) (nomark _)) (gss_one (gs_dput (u_1 hr) (ge_fldE y_rings T.cls_Doing T.na_Doing_rings (ge_var 0)) (ge_ix (ge_var 1) (ge_int) (fun _ _ => rfl)) (ge_callD D_worth_of_4 (hr.mono (by decide)) hg (takes_of rfl rfl rfl rfl) rfl (fun _ _ _ _ _ _ us hl => match us, hl with | [_, _], _ => rfl) (ga_cons (ge_var 0) (ga_cons (ge_ix (ge_var 1) (ge_int) (fun _ _ => rfl)) (ga_nil)))))) (gss_one (gs_if (gt_cmp (op_eqP hr.units) r2_data (ge_var 2) (ge_strZ y_drop) (nomark _)) (gss_one (gs_dput (u_1 hr) (ge_fldE y_rings T.cls_Doing T.na_Doing_rings (ge_var 0)) (ge_ix (ge_var 1) (ge_int) (fun _ _ => rfl)) (ge_non))) (gss_one (gs_if (gt_cmp (op_eqP hr.units) r2_data (ge_var 2) (ge_strZ y_say) (nomark _)) (gss_one (gs_expr (ge_lm PySem.F.slot_list_append PySem.F.type_list_append mt_append rm_append (ge_fldE y_says T.cls_Doing T.na_Doing_says (ge_var 0)) (ga_cons (ge_callD D_worth_of_4 (hr.mono (by decide)) hg (takes_of rfl rfl rfl rfl) rfl (fun _ _ _ _ _ _ us hl => match us, hl with | [_, _], _ => rfl) (ga_cons (ge_var 0) (ga_cons (ge_ix (ge_var 1) (ge_int) (fun _ _ => rfl)) (ga_nil)))) (ga_nil))))) (gss_one (gs_if (gt_cmp (op_eqP hr.units) r2_data (ge_var 2) (ge_strZ y_if) (nomark _)) (gss_one (gs_expr (ge_callD D_do_block_2 hr hg (takes_of rfl rfl rfl rfl) rfl (fun _ _ _ _ _ _ us hl => match us, hl with | [_, _], _ => rfl) (ga_cons (ge_var 0) (ga_cons (ge_if (gt_tru (ge_callD D_holds (hr.mono (by decide)) hg (takes_of rfl rfl rfl rfl) rfl (fun _ _ _ _ _ _ us hl => match us, hl with | [_, _], _ => rfl) (ga_cons (ge_var 0) (ga_cons (ge_ix (ge_var 1) (ge_int) (fun _ _ => rfl)) (ga_nil)))) (fun _ => rfl)) (ge_ix (ge_var 1) (ge_int) (fun _ _ => rfl)) (ge_ix (ge_var 1) (ge_int) (fun _ _ => rfl))) (ga_nil)))))) (gss_one (gs_forR1 (i := 3) (passes_of rfl) rfl rfl T.range (ga_cons (ge_callD D_worth_of_4 (hr.mono (by decide)) hg (takes_of rfl rfl rfl rfl) rfl (fun _ _ _ _ _ _ us hl => match us, hl with | [_, _], _ => rfl) (ga_cons (ge_var 0) (ga_cons (ge_ix (ge_var 1) (ge_int) (fun _ _ => rfl)) (ga_nil)))) (ga_nil)) sc_do_statement.nd rfl (by first | exact Or.inl rfl | exact Or.inr rfl) (gss_one (gs_expr (ge_callD D_do_block_2 hr hg (takes_of rfl rfl rfl rfl) rfl (fun _ _ _ _ _ _ us hl => match us, hl with | [_, _], _ => rfl) (ga_cons (ge_var 0) (ga_cons (ge_ix (ge_var 1) (ge_int) (fun _ _ => rfl)) (ga_nil)))))))))))))))))))))
def m_is_branch_2 : List W → Store → Res W := fnM 3 3
  (sSeq (sIf (mB (mOp fEq (mOp fIx (mV 1) (mC (.int 0))) (mC (.str z_repeat)))) (sRet (mAndV (mOp fEq (mCall fLen (mCons (mV 1) (mNil))) (mC (.int 3))) (mAndV (mCall (moreM [.int 3] m_is_expression_4) (mCons (mV 0) (mCons (mOp fIx (mV 1) (mC (.int 1))) (mNil)))) (mCall (moreM [] m_is_program_1) (mCons (mV 0) (mCons (mOp fIx (mV 1) (mC (.int 2))) (mCons (mOp fAdd (mV 2) (mC (.int 1))) (mNil)))))))) (sNx))
  (sSeq (sIf (mOr (mB (mOp fNe (mCall fLen (mCons (mV 1) (mNil))) (mC (.int 4)))) (mNot (mTru (mCall m_is_condition (mCons (mV 0) (mCons (mOp fIx (mV 1) (mC (.int 1))) (mNil))))))) (sRet (mC (.bl false))) (sNx))
  (sRet (mAndV (mCall (moreM [] m_is_program_1) (mCons (mV 0) (mCons (mOp fIx (mV 1) (mC (.int 2))) (mCons (mOp fAdd (mV 2) (mC (.int 1))) (mNil))))) (mCall (moreM [] m_is_program_1) (mCons (mV 0) (mCons (mOp fIx (mV 1) (mC (.int 3))) (mCons (mOp fAdd (mV 2) (mC (.int 1))) (mNil)))))))))
theorem ok_is_branch_2 (T : Blt K mg) (D : DefAt K mg "is_branch" s_is_branch) (D_is_expression_4 : DefOkF P w K mg base "is_expression" s_is_expression [.int 3] 7 ["names", "value", "signs"] m_is_expression_4) (D_is_program_1 : DefOkF P w K mg base "is_program" s_is_program [.int 1] 11 ["names", "value", "depth"] m_is_program_1) (D_is_condition : DefOk P w K mg base "is_condition" s_is_condition 8 ["names", "value"] m_is_condition) : DefOk P w K mg base "is_branch" s_is_branch 12 ["names", "value", "depth"] m_is_branch_2 :=
  defOk_of (N := ["names", "value", "depth"]) D sc_is_branch fun f cdv A outer s H E hr hg =>
  (gss_cons (gs_if (gt_cmp (op_eqP hr.units) r2_data (ge_ix (ge_var 1) (ge_int) (fun _ _ => rfl)) (ge_strZ y_repeat) (nomark _)) (gss_one (gs_ret (ge_and (ge_cmp (op_eqP hr.units) r2_data (ge_callB call_len rc_len rfl T.len (by decide +kernel) (ga_cons (ge_var 1) (ga_nil))) (ge_int) (nomark _)) (ge_and (ge_callFd (n := 2) (j := 0) (wd := [.int 3]) D_is_expression_4 (hr.mono (by decide)) hg (takes_of rfl rfl rfl rfl) rfl (by decide) rfl (fun _ => ⟨_, _, rfl, rfl, rfl⟩) (fun _ _ _ _ _ _ _ us its h1 h2 => match us, its, h1, h2 with | [_, _], [_], _, _ => ⟨_, rfl, rfl⟩) (ga_cons (ge_var 0) (ga_cons (ge_ix (ge_var 1) (ge_int) (fun _ _ => rfl)) (ga_nil)))) (ge_one (ge_callFd (n := 3) (j := 1) (wd := []) D_is_program_1 hr hg (takes_of rfl rfl rfl rfl) rfl (by decide) rfl (fun _ => rfl) (fun _ _ _ _ _ _ _ us its h1 h2 => match us, its, h1, h2 with | [_, _, _], [_], _, _ => ⟨_, rfl, rfl⟩) (ga_cons (ge_var 0) (ga_cons (ge_ix (ge_var 1) (ge_int) (fun _ _ => rfl)) (ga_cons (ge_op op_addA r2_add (ge_var 2) (ge_int)) (ga_nil)))))))))) (gss_nil))
  (gss_cons (gs_if (GW.pt (gw_or (gt_cmp (op_neP hr.units) r2_data (ge_callB call_len rc_len rfl T.len (by decide +kernel) (ga_cons (ge_var 1) (ga_nil))) (ge_int) (nomark _)) (gw_or1 (gt_not (gt_tru (ge_callD D_is_condition (hr.mono (by decide)) hg (takes_of rfl rfl rfl rfl) rfl (fun _ _ _ _ _ _ us hl => match us, hl with | [_, _], _ => rfl) (ga_cons (ge_var 0) (ga_cons (ge_ix (ge_var 1) (ge_int) (fun _ _ => rfl)) (ga_nil)))) (fun _ => rfl)))))) (gss_one (gs_ret (ge_bl))) (gss_nil))
  (gss_one (gs_ret (ge_and (ge_callFd (n := 3) (j := 1) (wd := []) D_is_program_1 hr hg (takes_of rfl rfl rfl rfl) rfl (by decide) rfl (fun _ => rfl) (fun _ _ _ _ _ _ _ us its h1 h2 => match us, its, h1, h2 with | [_, _, _], [_], _, _ => ⟨_, rfl, rfl⟩) (ga_cons (ge_var 0) (ga_cons (ge_ix (ge_var 1) (ge_int) (fun _ _ => rfl)) (ga_cons (ge_op op_addA r2_add (ge_var 2) (ge_int)) (ga_nil))))) (ge_one (ge_callFd (n := 3) (j := 1) (wd := []) D_is_program_1 hr hg (takes_of rfl rfl rfl rfl) rfl (by decide) rfl (fun _ => rfl) (fun _ _ _ _ _ _ _ us its h1 h2 => match us, its, h1, h2 with | [_, _, _], [_], _, _ => ⟨_, rfl, rfl⟩) (ga_cons (ge_var 0) (ga_cons (ge_ix (ge_var 1) (ge_int) (fun _ _ => rfl)) (ga_cons (ge_op op_addA r2_add (ge_var 2) (ge_int)) (ga_nil)))))))))))
def m_do_block_3_b1 : Sm := sDrop (mCall m_do_statement_3 (mCons (mV 0) (mCons (mV 2) (mNil))))
def m_do_block_3 : List W → Store → Res W := fnM 2 3
  (sForT (mV 1) (setN 2) (m_do_block_3_b1))
theorem ok_do_block_3 (T : Blt K mg) (D : DefAt K mg "do_block" s_do_block) (D_do_statement_3 : DefOk P w K mg base "do_statement" s_do_statement 11 ["doing", "statement"] m_do_statement_3) : DefOk P w K mg base "do_block" s_do_block 12 ["doing", "block"] m_do_block_3 :=
  defOk_of (N := ["doing", "block", "statement"]) D sc_do_block fun f cdv A outer s H E hr hg =>
  (gss_one (gs_forT (passes_of rfl) rfl (ge_var 1) (pg_name (i := 2) sc_do_block.nd rfl (by first | exact Or.inl rfl | exact Or.inr rfl)) (fun _ => put_name) (gss_one (gs_expr (ge_callD D_do_statement_3 hr hg (takes_of rfl rfl rfl rfl) rfl (fun _ _ _ _ _ _ us hl => match us, hl with | [_, _], _ => rfl) (ga_cons (ge_var 0) (ga_cons (ge_var 2) (ga_nil))))))))
def m_is_statement_2 : List W → Store → Res W := fnM 3 5
  (sSeq (sIf (mOr (mNot (mTru (mUn (fIsK 3) (mV 1)))) (mNot (mTru (mV 1)))) (sRet (mC (.bl false))) (sNx))
  (sSeq (sSet 3 (mOp fIx (mV 1) (mC (.int 0))))
  (sSeq (sIf (mB (mOp fIn (mV 3) (mTup (mCons (mC (.str z_if)) (mCons (mC (.str z_repeat)) (mNil)))))) (sRet (mAndV (mOp fLt (mV 2) (mC (.int 3))) (mCall m_is_branch_2 (mCons (mV 0) (mCons (mV 1) (mCons (mV 2) (mNil))))))) (sNx))
  (sSeq (sIf (mB (mOp fIn (mV 3) (mTup (mCons (mC (.str z_drop)) (mCons (mC (.str z_say)) (mNil)))))) (sRet (mAndV (mOp fEq (mCall fLen (mCons (mV 1) (mNil))) (mC (.int 2))) (mCall m_is_short (mCons (mV 0) (mCons (mV 3) (mCons (mOp fIx (mV 1) (mC (.int 1))) (mNil))))))) (sNx))
  (sSeq (sSet 4 (mCall m_named_by (mCons (mV 0) (mCons (mV 3) (mNil)))))
  (sRet (mAndV (mOp fEq (mCall fLen (mCons (mV 1) (mNil))) (mC (.int 3))) (mAndV (mOp fIn (mOp fIx (mV 1) (mC (.int 1))) (mV 4)) (mCall (moreM [.int 3] m_is_expression_4) (mCons (mV 0) (mCons (mOp fIx (mV 1) (mC (.int 2))) (mNil))))))))))))
theorem ok_is_statement_2 (T : Blt K mg) (D : DefAt K mg "is_statement" s_is_statement) (D_is_branch_2 : DefOk P w K mg base "is_branch" s_is_branch 12 ["names", "value", "depth"] m_is_branch_2) (D_is_short : DefOk P w K mg base "is_short" s_is_short 8 ["names", "word", "value"] m_is_short) (D_named_by : DefOk P w K mg base "named_by" s_named_by 1 ["names", "word"] m_named_by) (D_is_expression_4 : DefOkF P w K mg base "is_expression" s_is_expression [.int 3] 7 ["names", "value", "signs"] m_is_expression_4) : DefOk P w K mg base "is_statement" s_is_statement 13 ["names", "value", "depth"] m_is_statement_2 :=
  defOk_of (N := ["names", "value", "depth", "word", "named"]) D sc_is_statement fun f cdv A outer s H E hr hg =>
  (gss_cons (gs_if (GW.pt (gw_or (gt_not (gt_tru (ge_isiZ isk_tuple (T := "tuple") ty_tuple rfl T.isinstance rfl T.tuple (by decide +kernel) (ge_var 1)) (fun _ => rfl))) (gw_or1 (gt_not (gt_tru (ge_var 1) (fun _ => rfl)))))) (gss_one (gs_ret (ge_bl))) (gss_nil))
  (gss_cons (gs_set (i := 3) sc_is_statement.nd rfl (by first | exact Or.inl rfl | exact Or.inr rfl) (ge_ix (ge_var 1) (ge_int) (fun _ _ => rfl)))
  (gss_cons (gs_if (gt_cmp (op_inP hr.units) r2_data (ge_var 3) (ge_tup (ga_cons (ge_strZ y_if) (ga_cons (ge_strZ y_repeat) (ga_nil)))) (by rfl)) (gss_one (gs_ret (ge_and (ge_cmp (op_ltP hr.units) r2_data (ge_var 2) (ge_gIntE rfl T.DEEPEST) (nomark _)) (ge_one (ge_callD D_is_branch_2 hr hg (takes_of rfl rfl rfl rfl) rfl (fun _ _ _ _ _ _ us hl => match us, hl with | [_, _, _], _ => rfl) (ga_cons (ge_var 0) (ga_cons (ge_var 1) (ga_cons (ge_var 2) (ga_nil))))))))) (gss_nil))
  (gss_cons (gs_if (gt_cmp (op_inP hr.units) r2_data (ge_var 3) (ge_tup (ga_cons (ge_strZ y_drop) (ga_cons (ge_strZ y_say) (ga_nil)))) (by rfl)) (gss_one (gs_ret (ge_and (ge_cmp (op_eqP hr.units) r2_data (ge_callB call_len rc_len rfl T.len (by decide +kernel) (ga_cons (ge_var 1) (ga_nil))) (ge_int) (nomark _)) (ge_one (ge_callD D_is_short (hr.mono (by decide)) hg (takes_of rfl rfl rfl rfl) rfl (fun _ _ _ _ _ _ us hl => match us, hl with | [_, _, _], _ => rfl) (ga_cons (ge_var 0) (ga_cons (ge_var 3) (ga_cons (ge_ix (ge_var 1) (ge_int) (fun _ _ => rfl)) (ga_nil))))))))) (gss_nil))
  (gss_cons (gs_set (i := 4) sc_is_statement.nd rfl (by first | exact Or.inl rfl | exact Or.inr rfl) (ge_callD D_named_by (hr.mono (by decide)) hg (takes_of rfl rfl rfl rfl) rfl (fun _ _ _ _ _ _ us hl => match us, hl with | [_, _], _ => rfl) (ga_cons (ge_var 0) (ga_cons (ge_var 3) (ga_nil)))))
  (gss_one (gs_ret (ge_and (ge_cmp (op_eqP hr.units) r2_data (ge_callB call_len rc_len rfl T.len (by decide +kernel) (ga_cons (ge_var 1) (ga_nil))) (ge_int) (nomark _)) (ge_and (ge_cmp (op_inP hr.units) r2_data (ge_ix (ge_var 1) (ge_int) (fun _ _ => rfl)) (ge_var 4) (by rfl)) (ge_one (ge_callFd (n := 2) (j := 0) (wd := [.int 3]) D_is_expression_4 (hr.mono (by decide)) hg (takes_of rfl rfl rfl rfl) rfl (by decide) rfl (fun _ => ⟨_, _, rfl, rfl, rfl⟩) (fun _ _ _ _ _ _ _ us its h1 h2 => match us, its, h1, h2 with | [_, _], [_], _, _ => ⟨_, rfl, rfl⟩) (ga_cons (ge_var 0) (ga_cons (ge_ix (ge_var 1) (ge_int) (fun _ _ => rfl)) (ga_nil))))))))))))))
abbrev s_handle : Stmt := topS 60
theorem sc_handle : FnScope ["size", "station", "worths", "rank", "it", "cells", "doing", "behind", "rings", "cell", "worth", "alarm"] ["size", "station", "worths", "rank", "it"] (defScope s_handle) := ⟨rfl, rfl, rfl, by decide +kernel, rfl, by decide +kernel, by decide +kernel⟩
def m_handle_e1 : Ev W := mOp fIx (mV 9) (mC (.int 0))
def m_handle_e2 : Ev W := mV 10
def m_handle_e3 : Ev W := mOp fDGet (mUn (fGet 1 z_cells) (mV 6)) (mOp fIx (mV 9) (mC (.int 0)))
def m_handle_e4 : Ev W := mTup (mCons (mV 11) (mCons (mOp fDGet (mUn (fGet 1 z_rings) (mV 6)) (mV 11)) (mNil)))
def m_handle_t1 : Ev Bool := mB (mOp fDIn (mV 11) (mUn (fGet 1 z_rings) (mV 6)))
def m_handle : List W → Store → Res W := fnM 5 12
  (sSeq (sSet 5 (mDcZ [9, 10] (putTup [9, 10]) (mCons (mOp fIx (mV 1) (mC (.int 1))) (mCons (mV 2) (mNil))) yes (m_handle_e1) (m_handle_e2)))
  (sSeq (sSet 6 (mCall (fMake 1 m_Doing_init) (mCons (mV 0) (mCons (mV 5) (mCons (mV 4) (mNil))))))
  (sSeq (sDrop (mCall m_do_block_3 (mCons (mV 6) (mCons (mOp fIx (mOp fIx (mV 1) (mC (.int 5))) (mV 3)) (mNil)))))
  (sSeq (sSet 7 (mCall fTuple (mCons (mLcT [9] (setN 9) (mOp fIx (mV 1) (mC (.int 1))) (yes) (m_handle_e3)) (mNil))))
  (sSeq (sSet 8 (mCall fTuple (mCons (mLcT [11] (setN 11) (mOp fIx (mV 1) (mC (.int 4))) (m_handle_t1) (m_handle_e4)) (mNil))))
  (sRet (mTup (mCons (mV 7) (mCons (mCall fTuple (mCons (mUn (fGet 1 z_sends) (mV 6)) (mNil))) (mCons (mV 8) (mCons (mCall fTuple (mCons (mUn (fGet 1 z_says) (mV 6)) (mNil))) (mNil))))))))))))
theorem ok_handle (T : Blt K mg) (D : DefAt K mg "handle" s_handle) (D_Doing_init : InitOk P w K mg base "Doing" 1 "Doing.__init__" s_Doing_init 1 ["self", "size", "cells", "it"] m_Doing_init) (D_do_block_3 : DefOk P w K mg base "do_block" s_do_block 12 ["doing", "block"] m_do_block_3) : DefOk P w K mg base "handle" s_handle 13 ["size", "station", "worths", "rank", "it"] m_handle :=
  defOk_of (N := ["size", "station", "worths", "rank", "it", "cells", "doing", "behind", "rings", "cell", "worth", "alarm"]) D sc_handle fun f cdv A outer s H E hr hg =>
  (gss_cons (gs_dcZ (i := 5) (own := [("cell", 9), ("worth", 10)]) ⟨blkOk_by (N := ["size", "station", "worths", "rank", "it", "cells", "doing", "behind", "rings", "cell", "worth", "alarm"]) (sc := defScope s_handle) (by decide +kernel), fun _ _ _ _ _ => pg_tup rfl (pgs_cons (pg_name (i := 9) sc_handle.nd rfl (by first | exact Or.inl rfl | exact Or.inr rfl)) (pgs_cons (pg_name (i := 10) sc_handle.nd rfl (by first | exact Or.inl rfl | exact Or.inr rfl)) (pgs_nil))), fun _ _ _ _ _ => gp_nil, fun _ _ _ _ _ => ge_ix (ge_var 9) (ge_int) (fun _ _ => rfl), fun _ _ _ _ _ => ge_var 10⟩ (putLc_zip (by decide) (by decide)) rfl sc_handle.nd rfl rfl (sw_trueD rfl rfl rfl (by decide +kernel)) rfl T.zip (ga_cons (ge_ix (ge_var 1) (ge_int) (fun _ _ => rfl)) (ga_cons (ge_var 2) (ga_nil))))
  (gss_cons (gs_set (i := 6) sc_handle.nd rfl (by first | exact Or.inl rfl | exact Or.inr rfl) (ge_makeD D_Doing_init (hr.mono (by decide)) hg rfl (fun _ _ _ _ _ _ us hl => match us, hl with | [_, _, _, _], _ => rfl) (ga_cons (ge_var 0) (ga_cons (ge_var 5) (ga_cons (ge_var 4) (ga_nil))))))
  (gss_cons (gs_expr (ge_callD D_do_block_3 hr hg (takes_of rfl rfl rfl rfl) rfl (fun _ _ _ _ _ _ us hl => match us, hl with | [_, _], _ => rfl) (ga_cons (ge_var 6) (ga_cons (ge_ix (ge_ix (ge_var 1) (ge_int) (fun _ _ => rfl)) (ge_var 3) (fun _ _ => rfl)) (ga_nil)))))
  (gss_cons (gs_set (i := 7) sc_handle.nd rfl (by first | exact Or.inl rfl | exact Or.inr rfl) (ge_callTy call_tuple_of rc_tuple rfl T.tuple (by decide +kernel) (ga_cons (ge_lcT (own := [("cell", 9)]) ⟨blkOk_by (N := ["size", "station", "worths", "rank", "it", "cells", "doing", "behind", "rings", "cell", "worth", "alarm"]) (sc := defScope s_handle) (by decide +kernel), fun _ _ _ _ _ => pg_name (i := 9) sc_handle.nd rfl (by first | exact Or.inl rfl | exact Or.inr rfl), fun _ _ _ _ _ => gp_nil, fun _ _ _ _ _ => ge_dget (u_1 hr) (ge_fldE y_cells T.cls_Doing T.na_Doing_cells (ge_var 6)) (ge_ix (ge_var 9) (ge_int) (fun _ _ => rfl)) (fun _ _ => rfl)⟩ (fun _ => putLc_name (by decide)) rfl sc_handle.nd (ge_ix (ge_var 1) (ge_int) (fun _ _ => rfl))) (ga_nil))))
  (gss_cons (gs_set (i := 8) sc_handle.nd rfl (by first | exact Or.inl rfl | exact Or.inr rfl) (ge_callTy call_tuple_of rc_tuple rfl T.tuple (by decide +kernel) (ga_cons (ge_lcT (own := [("alarm", 11)]) ⟨blkOk_by (N := ["size", "station", "worths", "rank", "it", "cells", "doing", "behind", "rings", "cell", "worth", "alarm"]) (sc := defScope s_handle) (by decide +kernel), fun _ _ _ _ _ => pg_name (i := 11) sc_handle.nd rfl (by first | exact Or.inl rfl | exact Or.inr rfl), fun _ _ _ _ _ => gp_one (gt_din (u_1 hr) (ge_var 11) (ge_fldE y_rings T.cls_Doing T.na_Doing_rings (ge_var 6))), fun _ _ _ _ _ => ge_tup (ga_cons (ge_var 11) (ga_cons (ge_dget (u_1 hr) (ge_fldE y_rings T.cls_Doing T.na_Doing_rings (ge_var 6)) (ge_var 11) (fun _ _ => rfl)) (ga_nil)))⟩ (fun _ => putLc_name (by decide)) rfl sc_handle.nd (ge_ix (ge_var 1) (ge_int) (fun _ _ => rfl))) (ga_nil))))
  (gss_one (gs_ret (ge_tup (ga_cons (ge_var 7) (ga_cons (ge_callTy call_tuple_of rc_tuple rfl T.tuple (by decide +kernel) (ga_cons (ge_fldE y_sends T.cls_Doing T.na_Doing_sends (ge_var 6)) (ga_nil))) (ga_cons (ge_var 8) (ga_cons (ge_callTy call_tuple_of rc_tuple rfl T.tuple (by decide +kernel) (ga_cons (ge_fldE y_says T.cls_Doing T.na_Doing_says (ge_var 6)) (ga_nil))) (ga_nil)))))))))))))
def m_is_program_2_e1 : Ev W := mCall m_is_statement_2 (mCons (mV 0) (mCons (mV 3) (mCons (mV 2) (mNil))))
def m_is_program_2 : List W → Store → Res W := fnM 3 4
  (sSeq (sIf (mOr (mNot (mTru (mUn (fIsK 3) (mV 1)))) (mB (mOp fGt (mCall fLen (mCons (mV 1) (mNil))) (mC (.int 6))))) (sRet (mC (.bl false))) (sNx))
  (sRet (mCall fAll (mCons (mLcT [3] (setN 3) (mV 1) (yes) (m_is_program_2_e1)) (mNil)))))
theorem ok_is_program_2 (T : Blt K mg) (D : DefAtF K mg "is_program" s_is_program [.int 1]) (D_is_statement_2 : DefOk P w K mg base "is_statement" s_is_statement 13 ["names", "value", "depth"] m_is_statement_2) : DefOkF P w K mg base "is_program" s_is_program [.int 1] 14 ["names", "value", "depth"] m_is_program_2 :=
  defOkF_of (N := ["names", "value", "depth", "statement"]) D sc_is_program fun f cdv A outer s H E hr hg =>
  (gss_cons (gs_if (GW.pt (gw_or (gt_not (gt_tru (ge_isiZ isk_tuple (T := "tuple") ty_tuple rfl T.isinstance rfl T.tuple (by decide +kernel) (ge_var 1)) (fun _ => rfl))) (gw_or1 (gt_cmp (op_gtP hr.units) r2_data (ge_callB call_len rc_len rfl T.len (by decide +kernel) (ga_cons (ge_var 1) (ga_nil))) (ge_gIntE rfl T.MOST_STATEMENTS) (nomark _))))) (gss_one (gs_ret (ge_bl))) (gss_nil))
  (gss_one (gs_ret (ge_callB (cr_all rfl) rc_all rfl T.all (by decide +kernel) (ga_cons (ge_lcT (own := [("statement", 3)]) ⟨blkOk_by (N := ["names", "value", "depth", "statement"]) (sc := defScope s_is_program) (by decide +kernel), fun _ _ _ _ _ => pg_name (i := 3) sc_is_program.nd rfl (by first | exact Or.inl rfl | exact Or.inr rfl), fun _ _ _ _ _ => gp_nil, fun _ _ _ _ _ => ge_callD D_is_statement_2 hr hg takes0 rfl (fun _ _ _ _ _ _ us hl => match us, hl with | [_, _, _], _ => rfl) (ga_cons (ge_var 0) (ga_cons (ge_var 3) (ga_cons (ge_var 2) (ga_nil))))⟩ (fun _ => putLc_name (by decide)) rfl sc_is_program.nd (ge_var 1)) (ga_nil))))))
def m_is_branch_3 : List W → Store → Res W := fnM 3 3
  (sSeq (sIf (mB (mOp fEq (mOp fIx (mV 1) (mC (.int 0))) (mC (.str z_repeat)))) (sRet (mAndV (mOp fEq (mCall fLen (mCons (mV 1) (mNil))) (mC (.int 3))) (mAndV (mCall (moreM [.int 3] m_is_expression_4) (mCons (mV 0) (mCons (mOp fIx (mV 1) (mC (.int 1))) (mNil)))) (mCall (moreM [] m_is_program_2) (mCons (mV 0) (mCons (mOp fIx (mV 1) (mC (.int 2))) (mCons (mOp fAdd (mV 2) (mC (.int 1))) (mNil)))))))) (sNx))
  (sSeq (sIf (mOr (mB (mOp fNe (mCall fLen (mCons (mV 1) (mNil))) (mC (.int 4)))) (mNot (mTru (mCall m_is_condition (mCons (mV 0) (mCons (mOp fIx (mV 1) (mC (.int 1))) (mNil))))))) (sRet (mC (.bl false))) (sNx))
  (sRet (mAndV (mCall (moreM [] m_is_program_2) (mCons (mV 0) (mCons (mOp fIx (mV 1) (mC (.int 2))) (mCons (mOp fAdd (mV 2) (mC (.int 1))) (mNil))))) (mCall (moreM [] m_is_program_2) (mCons (mV 0) (mCons (mOp fIx (mV 1) (mC (.int 3))) (mCons (mOp fAdd (mV 2) (mC (.int 1))) (mNil)))))))))
theorem ok_is_branch_3 (T : Blt K mg) (D : DefAt K mg "is_branch" s_is_branch) (D_is_expression_4 : DefOkF P w K mg base "is_expression" s_is_expression [.int 3] 7 ["names", "value", "signs"] m_is_expression_4) (D_is_program_2 : DefOkF P w K mg base "is_program" s_is_program [.int 1] 14 ["names", "value", "depth"] m_is_program_2) (D_is_condition : DefOk P w K mg base "is_condition" s_is_condition 8 ["names", "value"] m_is_condition) : DefOk P w K mg base "is_branch" s_is_branch 15 ["names", "value", "depth"] m_is_branch_3 :=
  defOk_of (N := ["names", "value", "depth"]) D sc_is_branch fun f cdv A outer s H E hr hg =>
  (gss_cons (gs_if (gt_cmp (op_eqP hr.units) r2_data (ge_ix (ge_var 1) (ge_int) (fun _ _ => rfl)) (ge_strZ y_repeat) (nomark _)) (gss_one (gs_ret (ge_and (ge_cmp (op_eqP hr.units) r2_data (ge_callB call_len rc_len rfl T.len (by decide +kernel) (ga_cons (ge_var 1) (ga_nil))) (ge_int) (nomark _)) (ge_and (ge_callFd (n := 2) (j := 0) (wd := [.int 3]) D_is_expression_4 (hr.mono (by decide)) hg (takes_of rfl rfl rfl rfl) rfl (by decide) rfl (fun _ => ⟨_, _, rfl, rfl, rfl⟩) (fun _ _ _ _ _ _ _ us its h1 h2 => match us, its, h1, h2 with | [_, _], [_], _, _ => ⟨_, rfl, rfl⟩) (ga_cons (ge_var 0) (ga_cons (ge_ix (ge_var 1) (ge_int) (fun _ _ => rfl)) (ga_nil)))) (ge_one (ge_callFd (n := 3) (j := 1) (wd := []) D_is_program_2 hr hg (takes_of rfl rfl rfl rfl) rfl (by decide) rfl (fun _ => rfl) (fun _ _ _ _ _ _ _ us its h1 h2 => match us, its, h1, h2 with | [_, _, _], [_], _, _ => ⟨_, rfl, rfl⟩) (ga_cons (ge_var 0) (ga_cons (ge_ix (ge_var 1) (ge_int) (fun _ _ => rfl)) (ga_cons (ge_op op_addA r2_add (ge_var 2) (ge_int)) (ga_nil)))))))))) (gss_nil))
  (gss_cons (gs_if (GW.pt (gw_or (gt_cmp (op_neP hr.units) r2_data (ge_callB call_len rc_len rfl T.len (by decide +kernel) (ga_cons (ge_var 1) (ga_nil))) (ge_int) (nomark _)) (gw_or1 (gt_not (gt_tru (ge_callD D_is_condition (hr.mono (by decide)) hg (takes_of rfl rfl rfl rfl) rfl (fun _ _ _ _ _ _ us hl => match us, hl with | [_, _], _ => rfl) (ga_cons (ge_var 0) (ga_cons (ge_ix (ge_var 1) (ge_int) (fun _ _ => rfl)) (ga_nil)))) (fun _ => rfl)))))) (gss_one (gs_ret (ge_bl))) (gss_nil))
  (gss_one (gs_ret (ge_and (ge_callFd (n := 3) (j := 1) (wd := []) D_is_program_2 hr hg (takes_of rfl rfl rfl rfl) rfl (by decide) rfl (fun _ => rfl) (fun _ _ _ _ _ _ _ us its h1 h2 => match us, its, h1, h2 with | [_, _, _], [_], _, _ => ⟨_, rfl, rfl⟩) (ga_cons (ge_var 0) (ga_cons (ge_ix (ge_var 1) (ge_int) (fun _ _ => rfl)) (ga_cons (ge_op op_addA r2_add (ge_var 2) (ge_int)) (ga_nil))))) (ge_one (ge_callFd (n := 3) (j := 1) (wd := []) D_is_program_2 hr hg (takes_of rfl rfl rfl rfl) rfl (by decide) rfl (fun _ => rfl) (fun _ _ _ _ _ _ _ us its h1 h2 => match us, its, h1, h2 with | [_, _, _], [_], _, _ => ⟨_, rfl, rfl⟩) (ga_cons (ge_var 0) (ga_cons (ge_ix (ge_var 1) (ge_int) (fun _ _ => rfl)) (ga_cons (ge_op op_addA r2_add (ge_var 2) (ge_int)) (ga_nil)))))))))))
def m_is_statement_3 : List W → Store → Res W := fnM 3 5
  (sSeq (sIf (mOr (mNot (mTru (mUn (fIsK 3) (mV 1)))) (mNot (mTru (mV 1)))) (sRet (mC (.bl false))) (sNx))
  (sSeq (sSet 3 (mOp fIx (mV 1) (mC (.int 0))))
  (sSeq (sIf (mB (mOp fIn (mV 3) (mTup (mCons (mC (.str z_if)) (mCons (mC (.str z_repeat)) (mNil)))))) (sRet (mAndV (mOp fLt (mV 2) (mC (.int 3))) (mCall m_is_branch_3 (mCons (mV 0) (mCons (mV 1) (mCons (mV 2) (mNil))))))) (sNx))
  (sSeq (sIf (mB (mOp fIn (mV 3) (mTup (mCons (mC (.str z_drop)) (mCons (mC (.str z_say)) (mNil)))))) (sRet (mAndV (mOp fEq (mCall fLen (mCons (mV 1) (mNil))) (mC (.int 2))) (mCall m_is_short (mCons (mV 0) (mCons (mV 3) (mCons (mOp fIx (mV 1) (mC (.int 1))) (mNil))))))) (sNx))
  (sSeq (sSet 4 (mCall m_named_by (mCons (mV 0) (mCons (mV 3) (mNil)))))
  (sRet (mAndV (mOp fEq (mCall fLen (mCons (mV 1) (mNil))) (mC (.int 3))) (mAndV (mOp fIn (mOp fIx (mV 1) (mC (.int 1))) (mV 4)) (mCall (moreM [.int 3] m_is_expression_4) (mCons (mV 0) (mCons (mOp fIx (mV 1) (mC (.int 2))) (mNil))))))))))))
theorem ok_is_statement_3 (T : Blt K mg) (D : DefAt K mg "is_statement" s_is_statement) (D_is_branch_3 : DefOk P w K mg base "is_branch" s_is_branch 15 ["names", "value", "depth"] m_is_branch_3) (D_is_short : DefOk P w K mg base "is_short" s_is_short 8 ["names", "word", "value"] m_is_short) (D_named_by : DefOk P w K mg base "named_by" s_named_by 1 ["names", "word"] m_named_by) (D_is_expression_4 : DefOkF P w K mg base "is_expression" s_is_expression [.int 3] 7 ["names", "value", "signs"] m_is_expression_4) : DefOk P w K mg base "is_statement" s_is_statement 16 ["names", "value", "depth"] m_is_statement_3 :=
  defOk_of (N := ["names", "value", "depth", "word", "named"]) D sc_is_statement fun f cdv A outer s H E hr hg =>
  (gss_cons (gs_if (GW.pt (gw_or (gt_not (gt_tru (ge_isiZ isk_tuple (T := "tuple") ty_tuple rfl T.isinstance rfl T.tuple (by decide +kernel) (ge_var 1)) (fun _ => rfl))) (gw_or1 (gt_not (gt_tru (ge_var 1) (fun _ => rfl)))))) (gss_one (gs_ret (ge_bl))) (gss_nil))
  (gss_cons (gs_set (i := 3) sc_is_statement.nd rfl (by first | exact Or.inl rfl | exact Or.inr rfl) (ge_ix (ge_var 1) (ge_int) (fun _ _ => rfl)))
  (gss_cons (gs_if (gt_cmp (op_inP hr.units) r2_data (ge_var 3) (ge_tup (ga_cons (ge_strZ y_if) (ga_cons (ge_strZ y_repeat) (ga_nil)))) (by rfl)) (gss_one (gs_ret (ge_and (ge_cmp (op_ltP hr.units) r2_data (ge_var 2) (ge_gIntE rfl T.DEEPEST) (nomark _)) (ge_one (ge_callD D_is_branch_3 hr hg (takes_of rfl rfl rfl rfl) rfl (fun _ _ _ _ _ _ us hl => match us, hl with | [_, _, _], _ => rfl) (ga_cons (ge_var 0) (ga_cons (ge_var 1) (ga_cons (ge_var 2) (ga_nil))))))))) (gss_nil))
  (gss_cons (gs_if (gt_cmp (op_inP hr.units) r2_data (ge_var 3) (ge_tup (ga_cons (ge_strZ y_drop) (ga_cons (ge_strZ y_say) (ga_nil)))) (by rfl)) (gss_one (gs_ret (ge_and (ge_cmp (op_eqP hr.units) r2_data (ge_callB call_len rc_len rfl T.len (by decide +kernel) (ga_cons (ge_var 1) (ga_nil))) (ge_int) (nomark _)) (ge_one (ge_callD D_is_short (hr.mono (by decide)) hg (takes_of rfl rfl rfl rfl) rfl (fun _ _ _ _ _ _ us hl => match us, hl with | [_, _, _], _ => rfl) (ga_cons (ge_var 0) (ga_cons (ge_var 3) (ga_cons (ge_ix (ge_var 1) (ge_int) (fun _ _ => rfl)) (ga_nil))))))))) (gss_nil))
  (gss_cons (gs_set (i := 4) sc_is_statement.nd rfl (by first | exact Or.inl rfl | exact Or.inr rfl) (ge_callD D_named_by (hr.mono (by decide)) hg (takes_of rfl rfl rfl rfl) rfl (fun _ _ _ _ _ _ us hl => match us, hl with | [_, _], _ => rfl) (ga_cons (ge_var 0) (ga_cons (ge_var 3) (ga_nil)))))
  (gss_one (gs_ret (ge_and (ge_cmp (op_eqP hr.units) r2_data (ge_callB call_len rc_len rfl T.len (by decide +kernel) (ga_cons (ge_var 1) (ga_nil))) (ge_int) (nomark _)) (ge_and (ge_cmp (op_inP hr.units) r2_data (ge_ix (ge_var 1) (ge_int) (fun _ _ => rfl)) (ge_var 4) (by rfl)) (ge_one (ge_callFd (n := 2) (j := 0) (wd := [.int 3]) D_is_expression_4 (hr.mono (by decide)) hg (takes_of rfl rfl rfl rfl) rfl (by decide) rfl (fun _ => ⟨_, _, rfl, rfl, rfl⟩) (fun _ _ _ _ _ _ _ us its h1 h2 => match us, its, h1, h2 with | [_, _], [_], _, _ => ⟨_, rfl, rfl⟩) (ga_cons (ge_var 0) (ga_cons (ge_ix (ge_var 1) (ge_int) (fun _ _ => rfl)) (ga_nil))))))))))))))
def m_is_program_3_e1 : Ev W := mCall m_is_statement_3 (mCons (mV 0) (mCons (mV 3) (mCons (mV 2) (mNil))))
def m_is_program_3 : List W → Store → Res W := fnM 3 4
  (sSeq (sIf (mOr (mNot (mTru (mUn (fIsK 3) (mV 1)))) (mB (mOp fGt (mCall fLen (mCons (mV 1) (mNil))) (mC (.int 6))))) (sRet (mC (.bl false))) (sNx))
  (sRet (mCall fAll (mCons (mLcT [3] (setN 3) (mV 1) (yes) (m_is_program_3_e1)) (mNil)))))
theorem ok_is_program_3 (T : Blt K mg) (D : DefAtF K mg "is_program" s_is_program [.int 1]) (D_is_statement_3 : DefOk P w K mg base "is_statement" s_is_statement 16 ["names", "value", "depth"] m_is_statement_3) : DefOkF P w K mg base "is_program" s_is_program [.int 1] 17 ["names", "value", "depth"] m_is_program_3 :=
  defOkF_of (N := ["names", "value", "depth", "statement"]) D sc_is_program fun f cdv A outer s H E hr hg =>
  (gss_cons (gs_if (GW.pt (gw_or (gt_not (gt_tru (ge_isiZ isk_tuple (T := "tuple") ty_tuple rfl T.isinstance rfl T.tuple (by decide +kernel) (ge_var 1)) (fun _ => rfl))) (gw_or1 (gt_cmp (op_gtP hr.units) r2_data (ge_callB call_len rc_len rfl T.len (by decide +kernel) (ga_cons (ge_var 1) (ga_nil))) (ge_gIntE rfl T.MOST_STATEMENTS) (nomark _))))) (gss_one (gs_ret (ge_bl))) (gss_nil))
  (gss_one (gs_ret (ge_callB (cr_all rfl) rc_all rfl T.all (by decide +kernel) (ga_cons (ge_lcT (own := [("statement", 3)]) ⟨blkOk_by (N := ["names", "value", "depth", "statement"]) (sc := defScope s_is_program) (by decide +kernel), fun _ _ _ _ _ => pg_name (i := 3) sc_is_program.nd rfl (by first | exact Or.inl rfl | exact Or.inr rfl), fun _ _ _ _ _ => gp_nil, fun _ _ _ _ _ => ge_callD D_is_statement_3 hr hg takes0 rfl (fun _ _ _ _ _ _ us hl => match us, hl with | [_, _, _], _ => rfl) (ga_cons (ge_var 0) (ga_cons (ge_var 3) (ga_cons (ge_var 2) (ga_nil))))⟩ (fun _ => putLc_name (by decide)) rfl sc_is_program.nd (ge_var 1)) (ga_nil))))))
abbrev s_is_station : Stmt := topS 47
theorem sc_is_station : FnScope ["size", "value", "name", "cells", "ins", "outs", "alarms", "blocks", "named", "names", "block", "cell"] ["size", "value"] (defScope s_is_station) := ⟨rfl, rfl, rfl, by decide +kernel, rfl, by decide +kernel, by decide +kernel⟩
def m_is_station_e1 : Ev W := mOp fIx (mV 11) (mC (.int 0))
def m_is_station_e2 : Ev W := mCall (moreM [.int 1] m_is_program_3) (mCons (mV 9) (mCons (mV 10) (mNil)))
def m_is_station : List W → Store → Res W := fnM 2 12
  (sSeq (sIf (mNot (mTru (mCall m_is_tuple_of (mCons (mV 1) (mCons (mC (.int 6)) (mNil)))))) (sRet (mC (.bl false))) (sNx))
  (sSeq (sUnp [2, 3, 4, 5, 6, 7] (mV 1))
  (sSeq (sIf (mOr (mNot (mTru (mCall m_is_name (mCons (mV 2) (mNil))))) (mNot (mTru (mCall m_are_cells (mCons (mV 0) (mCons (mV 3) (mNil))))))) (sRet (mC (.bl false))) (sNx))
  (sSeq (sIf (mOr (mNot (mTru (mCall m_are_names (mCons (mV 4) (mCons (mC (.int 3)) (mNil)))))) (mOr (mNot (mTru (mCall m_are_names (mCons (mV 5) (mCons (mC (.int 3)) (mNil)))))) (mNot (mTru (mCall m_are_names (mCons (mV 6) (mCons (mC (.int 2)) (mNil)))))))) (sRet (mC (.bl false))) (sNx))
  (sSeq (sSet 8 (mLst (mStar (mLcT [11] (setN 11) (mV 3) (yes) (m_is_station_e1)) (mStar (mV 4) (mStar (mV 5) (mStar (mV 6) (mNil)))))))
  (sSeq (sIf (mOr (mB (mOp fIn (mC (.str z_it)) (mV 8))) (mNot (mTru (mCall m_are_different (mCons (mV 8) (mNil)))))) (sRet (mC (.bl false))) (sNx))
  (sSeq (sIf (mNot (mTru (mCall m_is_tuple_of (mCons (mV 7) (mCons (mOp fAdd (mCall fLen (mCons (mV 6) (mNil))) (mCall fLen (mCons (mV 4) (mNil)))) (mNil)))))) (sRet (mC (.bl false))) (sNx))
  (sSeq (sSet 9 (mCall (fMake 0 m_Names_init) (mCons (mV 0) (mCons (mV 1) (mNil)))))
  (sRet (mCall fAll (mCons (mLcT [10] (setN 10) (mV 7) (yes) (m_is_station_e2)) (mNil))))))))))))
theorem ok_is_station (T : Blt K mg) (D : DefAt K mg "is_station" s_is_station) (D_is_tuple_of : DefOk P w K mg base "is_tuple_of" s_is_tuple_of 1 ["value", "many"] m_is_tuple_of) (D_is_name : DefOk P w K mg base "is_name" s_is_name 1 ["value"] m_is_name) (D_are_cells : DefOk P w K mg base "are_cells" s_are_cells 4 ["size", "value"] m_are_cells) (D_are_names : DefOk P w K mg base "are_names" s_are_names 2 ["value", "most"] m_are_names) (D_are_different : DefOk P w K mg base "are_different" s_are_different 1 ["hashables"] m_are_different) (D_Names_init : InitOk P w K mg base "Names" 0 "Names.__init__" s_Names_init 1 ["self", "size", "station"] m_Names_init) (D_is_program_3 : DefOkF P w K mg base "is_program" s_is_program [.int 1] 17 ["names", "value", "depth"] m_is_program_3) : DefOk P w K mg base "is_station" s_is_station 18 ["size", "value"] m_is_station :=
  defOk_of (N := ["size", "value", "name", "cells", "ins", "outs", "alarms", "blocks", "named", "names", "block", "cell"]) D sc_is_station fun f cdv A outer s H E hr hg =>
  (gss_cons (gs_if (gt_not (gt_tru (ge_callD D_is_tuple_of (hr.mono (by decide)) hg (takes_of rfl rfl rfl rfl) rfl (fun _ _ _ _ _ _ us hl => match us, hl with | [_, _], _ => rfl) (ga_cons (ge_var 1) (ga_cons (ge_int) (ga_nil)))) (fun _ => rfl))) (gss_one (gs_ret (ge_bl))) (gss_nil))
  (gss_cons (gs_unp (is := [2, 3, 4, 5, 6, 7]) (pg_tup rfl (pgs_cons (pg_name (i := 2) sc_is_station.nd rfl (by first | exact Or.inl rfl | exact Or.inr rfl)) (pgs_cons (pg_name (i := 3) sc_is_station.nd rfl (by first | exact Or.inl rfl | exact Or.inr rfl)) (pgs_cons (pg_name (i := 4) sc_is_station.nd rfl (by first | exact Or.inl rfl | exact Or.inr rfl)) (pgs_cons (pg_name (i := 5) sc_is_station.nd rfl (by first | exact Or.inl rfl | exact Or.inr rfl)) (pgs_cons (pg_name (i := 6) sc_is_station.nd rfl (by first | exact Or.inl rfl | exact Or.inr rfl)) (pgs_cons (pg_name (i := 7) sc_is_station.nd rfl (by first | exact Or.inl rfl | exact Or.inr rfl)) (pgs_nil)))))))) (ge_var 1))
  (gss_cons (gs_if (GW.pt (gw_or (gt_not (gt_tru (ge_callD D_is_name (hr.mono (by decide)) hg (takes_of rfl rfl rfl rfl) rfl (fun _ _ _ _ _ _ us hl => match us, hl with | [_], _ => rfl) (ga_cons (ge_var 2) (ga_nil))) (fun _ => rfl))) (gw_or1 (gt_not (gt_tru (ge_callD D_are_cells (hr.mono (by decide)) hg (takes_of rfl rfl rfl rfl) rfl (fun _ _ _ _ _ _ us hl => match us, hl with | [_, _], _ => rfl) (ga_cons (ge_var 0) (ga_cons (ge_var 3) (ga_nil)))) (fun _ => rfl)))))) (gss_one (gs_ret (ge_bl))) (gss_nil))
  (gss_cons (gs_if (GW.pt (gw_or (gt_not (gt_tru (ge_callD D_are_names (hr.mono (by decide)) hg (takes_of rfl rfl rfl rfl) rfl (fun _ _ _ _ _ _ us hl => match us, hl with | [_, _], _ => rfl) (ga_cons (ge_var 4) (ga_cons (ge_gIntE rfl T.MOST_NAMES) (ga_nil)))) (fun _ => rfl))) (gw_or (gt_not (gt_tru (ge_callD D_are_names (hr.mono (by decide)) hg (takes_of rfl rfl rfl rfl) rfl (fun _ _ _ _ _ _ us hl => match us, hl with | [_, _], _ => rfl) (ga_cons (ge_var 5) (ga_cons (ge_gIntE rfl T.MOST_NAMES) (ga_nil)))) (fun _ => rfl))) (gw_or1 (gt_not (gt_tru (ge_callD D_are_names (hr.mono (by decide)) hg (takes_of rfl rfl rfl rfl) rfl (fun _ _ _ _ _ _ us hl => match us, hl with | [_, _], _ => rfl) (ga_cons (ge_var 6) (ga_cons (ge_gIntE rfl T.MOST_ALARMS) (ga_nil)))) (fun _ => rfl))))))) (gss_one (gs_ret (ge_bl))) (gss_nil))
  (gss_cons (gs_set (i := 8) sc_is_station.nd rfl (by first | exact Or.inl rfl | exact Or.inr rfl) (ge_lst (ga_star (ge_lcT (own := [("cell", 11)]) ⟨blkOk_by (N := ["size", "value", "name", "cells", "ins", "outs", "alarms", "blocks", "named", "names", "block", "cell"]) (sc := defScope s_is_station) (by decide +kernel), fun _ _ _ _ _ => pg_name (i := 11) sc_is_station.nd rfl (by first | exact Or.inl rfl | exact Or.inr rfl), fun _ _ _ _ _ => gp_nil, fun _ _ _ _ _ => ge_ix (ge_var 11) (ge_int) (fun _ _ => rfl)⟩ (fun _ => putLc_name (by decide)) rfl sc_is_station.nd (ge_var 3)) (ga_star (ge_var 4) (ga_star (ge_var 5) (ga_star (ge_var 6) (ga_nil)))))))
  (gss_cons (gs_if (GW.pt (gw_or (gt_cmp (op_inP hr.units) r2_data (ge_strZ y_it) (ge_var 8) (by rfl)) (gw_or1 (gt_not (gt_tru (ge_callD D_are_different (hr.mono (by decide)) hg (takes_of rfl rfl rfl rfl) rfl (fun _ _ _ _ _ _ us hl => match us, hl with | [_], _ => rfl) (ga_cons (ge_var 8) (ga_nil))) (fun _ => rfl)))))) (gss_one (gs_ret (ge_bl))) (gss_nil))
  (gss_cons (gs_if (gt_not (gt_tru (ge_callD D_is_tuple_of (hr.mono (by decide)) hg (takes_of rfl rfl rfl rfl) rfl (fun _ _ _ _ _ _ us hl => match us, hl with | [_, _], _ => rfl) (ga_cons (ge_var 7) (ga_cons (ge_op op_addA r2_add (ge_callB call_len rc_len rfl T.len (by decide +kernel) (ga_cons (ge_var 6) (ga_nil))) (ge_callB call_len rc_len rfl T.len (by decide +kernel) (ga_cons (ge_var 4) (ga_nil)))) (ga_nil)))) (fun _ => rfl))) (gss_one (gs_ret (ge_bl))) (gss_nil))
  (gss_cons (gs_set (i := 9) sc_is_station.nd rfl (by first | exact Or.inl rfl | exact Or.inr rfl) (ge_makeD D_Names_init (hr.mono (by decide)) hg rfl (fun _ _ _ _ _ _ us hl => match us, hl with | [_, _, _], _ => rfl) (ga_cons (ge_var 0) (ga_cons (ge_var 1) (ga_nil)))))
  (gss_one (gs_ret (ge_callB (cr_all rfl) rc_all rfl T.all (by decide +kernel) (ga_cons (ge_lcT (own := [("block", 10)]) ⟨blkOk_by (N := ["size", "value", "name", "cells", "ins", "outs", "alarms", "blocks", "named", "names", "block", "cell"]) (sc := defScope s_is_station) (by decide +kernel), fun _ _ _ _ _ => pg_name (i := 10) sc_is_station.nd rfl (by first | exact Or.inl rfl | exact Or.inr rfl), fun _ _ _ _ _ => gp_nil, fun _ _ _ _ _ => ge_callFd (n := 2) (j := 0) (wd := [.int 1]) D_is_program_3 hr hg takes0 rfl (by decide) rfl (fun _ => ⟨_, _, rfl, rfl, rfl⟩) (fun _ _ _ _ _ _ _ us its h1 h2 => match us, its, h1, h2 with | [_, _], [_], _, _ => ⟨_, rfl, rfl⟩) (ga_cons (ge_var 9) (ga_cons (ge_var 10) (ga_nil)))⟩ (fun _ => putLc_name (by decide)) rfl sc_is_station.nd (ge_var 7)) (ga_nil)))))))))))))
abbrev s_are_stations : Stmt := topS 46
theorem sc_are_stations : FnScope ["size", "value", "station"] ["size", "value"] (defScope s_are_stations) := ⟨rfl, rfl, rfl, by decide +kernel, rfl, by decide +kernel, by decide +kernel⟩
def m_are_stations_e1 : Ev W := mCall m_is_station (mCons (mV 0) (mCons (mV 2) (mNil)))
def m_are_stations_e2 : Ev W := mOp fIx (mV 2) (mC (.int 0))
def m_are_stations : List W → Store → Res W := fnM 2 3
  (sSeq (sIf (mOr (mNot (mTru (mUn (fIsK 3) (mV 1)))) (mNot (mTru (mV 1)))) (sRet (mC (.bl false))) (sNx))
  (sSeq (sIf (mNot (mTru (mCall fAll (mCons (mLcT [2] (setN 2) (mV 1) (yes) (m_are_stations_e1)) (mNil))))) (sRet (mC (.bl false))) (sNx))
  (sRet (mCall m_are_different (mCons (mLcT [2] (setN 2) (mV 1) (yes) (m_are_stations_e2)) (mNil))))))
theorem ok_are_stations (T : Blt K mg) (D : DefAt K mg "are_stations" s_are_stations) (D_is_station : DefOk P w K mg base "is_station" s_is_station 18 ["size", "value"] m_is_station) (D_are_different : DefOk P w K mg base "are_different" s_are_different 1 ["hashables"] m_are_different) : DefOk P w K mg base "are_stations" s_are_stations 19 ["size", "value"] m_are_stations :=
  defOk_of (N := ["size", "value", "station"]) D sc_are_stations fun f cdv A outer s H E hr hg =>
  (gss_cons (gs_if (GW.pt (gw_or (gt_not (gt_tru (ge_isiZ isk_tuple (T := "tuple") ty_tuple rfl T.isinstance rfl T.tuple (by decide +kernel) (ge_var 1)) (fun _ => rfl))) (gw_or1 (gt_not (gt_tru (ge_var 1) (fun _ => rfl)))))) (gss_one (gs_ret (ge_bl))) (gss_nil))
  (gss_cons (gs_if (gt_not (gt_tru (ge_callB (cr_all rfl) rc_all rfl T.all (by decide +kernel) (ga_cons (ge_lcT (own := [("station", 2)]) ⟨blkOk_by (N := ["size", "value", "station"]) (sc := defScope s_are_stations) (by decide +kernel), fun _ _ _ _ _ => pg_name (i := 2) sc_are_stations.nd rfl (by first | exact Or.inl rfl | exact Or.inr rfl), fun _ _ _ _ _ => gp_nil, fun _ _ _ _ _ => ge_callD D_is_station hr hg takes0 rfl (fun _ _ _ _ _ _ us hl => match us, hl with | [_, _], _ => rfl) (ga_cons (ge_var 0) (ga_cons (ge_var 2) (ga_nil)))⟩ (fun _ => putLc_name (by decide)) rfl sc_are_stations.nd (ge_var 1)) (ga_nil))) (fun _ => rfl))) (gss_one (gs_ret (ge_bl))) (gss_nil))
  (gss_one (gs_ret (ge_callD D_are_different (hr.mono (by decide)) hg (takes_of rfl rfl rfl rfl) rfl (fun _ _ _ _ _ _ us hl => match us, hl with | [_], _ => rfl) (ga_cons (ge_lcT (own := [("station", 2)]) ⟨blkOk_by (N := ["size", "value", "station"]) (sc := defScope s_are_stations) (by decide +kernel), fun _ _ _ _ _ => pg_name (i := 2) sc_are_stations.nd rfl (by first | exact Or.inl rfl | exact Or.inr rfl), fun _ _ _ _ _ => gp_nil, fun _ _ _ _ _ => ge_ix (ge_var 2) (ge_int) (fun _ _ => rfl)⟩ (fun _ => putLc_name (by decide)) rfl sc_are_stations.nd (ge_var 1)) (ga_nil)))))))
abbrev s_is_model : Stmt := topS 42
theorem sc_is_model : FnScope ["value", "size", "stations", "lines", "first"] ["value"] (defScope s_is_model) := ⟨rfl, rfl, rfl, by decide +kernel, rfl, by decide +kernel, by decide +kernel⟩
def m_is_model : List W → Store → Res W := fnM 1 5
  (sSeq (sIf (mNot (mTru (mCall m_is_tuple_of (mCons (mV 0) (mCons (mC (.int 4)) (mNil)))))) (sRet (mC (.bl false))) (sNx))
  (sSeq (sUnp [1, 2, 3, 4] (mV 0))
  (sSeq (sIf (mOr (mNot (mTru (mCall m_is_integer (mCons (mV 1) (mNil))))) (mNot (mB (mChain fLe fLe (mC (.int 2)) (mV 1) (mC (.int 6)))))) (sRet (mC (.bl false))) (sNx))
  (sRet (mAndV (mCall m_are_stations (mCons (mV 1) (mCons (mV 2) (mNil)))) (mAndV (mCall m_are_lines (mCons (mV 2) (mCons (mV 3) (mNil)))) (mCall m_are_first (mCons (mV 0) (mNil)))))))))
theorem ok_is_model (T : Blt K mg) (D : DefAt K mg "is_model" s_is_model) (D_is_tuple_of : DefOk P w K mg base "is_tuple_of" s_is_tuple_of 1 ["value", "many"] m_is_tuple_of) (D_is_integer : DefOk P w K mg base "is_integer" s_is_integer 1 ["value"] m_is_integer) (D_are_stations : DefOk P w K mg base "are_stations" s_are_stations 19 ["size", "value"] m_are_stations) (D_are_lines : DefOk P w K mg base "are_lines" s_are_lines 6 ["stations", "value"] m_are_lines) (D_are_first : DefOk P w K mg base "are_first" s_are_first 5 ["model"] m_are_first) : DefOk P w K mg base "is_model" s_is_model 20 ["value"] m_is_model :=
  defOk_of (N := ["value", "size", "stations", "lines", "first"]) D sc_is_model fun f cdv A outer s H E hr hg =>
  (gss_cons (gs_if (gt_not (gt_tru (ge_callD D_is_tuple_of (hr.mono (by decide)) hg (takes_of rfl rfl rfl rfl) rfl (fun _ _ _ _ _ _ us hl => match us, hl with | [_, _], _ => rfl) (ga_cons (ge_var 0) (ga_cons (ge_int) (ga_nil)))) (fun _ => rfl))) (gss_one (gs_ret (ge_bl))) (gss_nil))
  (gss_cons (gs_unp (is := [1, 2, 3, 4]) (pg_tup rfl (pgs_cons (pg_name (i := 1) sc_is_model.nd rfl (by first | exact Or.inl rfl | exact Or.inr rfl)) (pgs_cons (pg_name (i := 2) sc_is_model.nd rfl (by first | exact Or.inl rfl | exact Or.inr rfl)) (pgs_cons (pg_name (i := 3) sc_is_model.nd rfl (by first | exact Or.inl rfl | exact Or.inr rfl)) (pgs_cons (pg_name (i := 4) sc_is_model.nd rfl (by first | exact Or.inl rfl | exact Or.inr rfl)) (pgs_nil)))))) (ge_var 0))
  (gss_cons (gs_if (GW.pt (gw_or (gt_not (gt_tru (ge_callD D_is_integer (hr.mono (by decide)) hg (takes_of rfl rfl rfl rfl) rfl (fun _ _ _ _ _ _ us hl => match us, hl with | [_], _ => rfl) (ga_cons (ge_var 1) (ga_nil))) (fun _ => rfl))) (gw_or1 (gt_not (gt_chain (op_leP hr.units) r2_data (op_leP hr.units) r2_data (ge_gIntE rfl T.SMALLEST) (ge_var 1) (ge_gIntE rfl T.GREATEST)))))) (gss_one (gs_ret (ge_bl))) (gss_nil))
  (gss_one (gs_ret (ge_and (ge_callD D_are_stations hr hg (takes_of rfl rfl rfl rfl) rfl (fun _ _ _ _ _ _ us hl => match us, hl with | [_, _], _ => rfl) (ga_cons (ge_var 1) (ga_cons (ge_var 2) (ga_nil)))) (ge_and (ge_callD D_are_lines (hr.mono (by decide)) hg (takes_of rfl rfl rfl rfl) rfl (fun _ _ _ _ _ _ us hl => match us, hl with | [_, _], _ => rfl) (ga_cons (ge_var 2) (ga_cons (ge_var 3) (ga_nil)))) (ge_one (ge_callD D_are_first (hr.mono (by decide)) hg (takes_of rfl rfl rfl rfl) rfl (fun _ _ _ _ _ _ us hl => match us, hl with | [_], _ => rfl) (ga_cons (ge_var 0) (ga_nil)))))))))))
abbrev s_require_model : Stmt := topS 43
theorem sc_require_model : FnScope ["value"] ["value"] (defScope s_require_model) := ⟨rfl, rfl, rfl, by decide +kernel, rfl, by decide +kernel, by decide +kernel⟩
def m_require_model : List W → Store → Res W := fnM 1 1
  (sIf (mNot (mTru (mCall m_is_model (mCons (mV 0) (mNil))))) (sBad) (sNx))
theorem ok_require_model (T : Blt K mg) (D : DefAt K mg "require_model" s_require_model) (D_is_model : DefOk P w K mg base "is_model" s_is_model 20 ["value"] m_is_model) : DefOk P w K mg base "require_model" s_require_model 21 ["value"] m_require_model :=
  defOk_of (N := ["value"]) D sc_require_model fun f cdv A outer s H E hr hg =>
  (gss_one (gs_if (gt_not (gt_tru (ge_callD D_is_model hr hg (takes_of rfl rfl rfl rfl) rfl (fun _ _ _ _ _ _ us hl => match us, hl with | [_], _ => rfl) (ga_cons (ge_var 0) (ga_nil))) (fun _ => rfl))) (gss_one (gs_never)) (gss_nil)))
abbrev s_place_in : Stmt := topS 44
theorem sc_place_in : FnScope ["model", "station"] ["model", "station"] (defScope s_place_in) := ⟨rfl, rfl, rfl, by decide +kernel, rfl, by decide +kernel, by decide +kernel⟩
def m_place_in : List W → Store → Res W := fnM 2 2
  (sSeq (sDrop (mCall m_require_model (mCons (mV 0) (mNil))))
  (sRet (mCall m_place_of (mCons (mV 0) (mCons (mV 1) (mNil))))))
theorem ok_place_in (T : Blt K mg) (D : DefAt K mg "place_in" s_place_in) (D_require_model : DefOk P w K mg base "require_model" s_require_model 21 ["value"] m_require_model) (D_place_of : DefOk P w K mg base "place_of" s_place_of 2 ["model", "station"] m_place_of) : DefOk P w K mg base "place_in" s_place_in 22 ["model", "station"] m_place_in :=
  defOk_of (N := ["model", "station"]) D sc_place_in fun f cdv A outer s H E hr hg =>
  (gss_cons (gs_expr (ge_callD D_require_model hr hg (takes_of rfl rfl rfl rfl) rfl (fun _ _ _ _ _ _ us hl => match us, hl with | [_], _ => rfl) (ga_cons (ge_var 0) (ga_nil))))
  (gss_one (gs_ret (ge_callD D_place_of (hr.mono (by decide)) hg (takes_of rfl rfl rfl rfl) rfl (fun _ _ _ _ _ _ us hl => match us, hl with | [_, _], _ => rfl) (ga_cons (ge_var 0) (ga_cons (ge_var 1) (ga_nil)))))))
abbrev s_handled : Stmt := topS 57
theorem sc_handled : FnScope ["model", "station", "worths", "name", "it", "place", "size", "whole", "rank"] ["model", "station", "worths", "name", "it"] (defScope s_handled) := ⟨rfl, rfl, rfl, by decide +kernel, rfl, by decide +kernel, by decide +kernel⟩
def m_handled : List W → Store → Res W := fnM 5 9
  (sSeq (sSet 5 (mCall m_place_in (mCons (mV 0) (mCons (mV 1) (mNil)))))
  (sSeq (sSet 6 (mOp fIx (mV 0) (mC (.int 0))))
  (sSeq (sSet 7 (mOp fIx (mOp fIx (mV 0) (mC (.int 1))) (mV 5)))
  (sSeq (sIf (mNot (mTru (mCall m_are_worths (mCons (mV 6) (mCons (mV 7) (mCons (mV 2) (mNil))))))) (sBad) (sNx))
  (sSeq (sSet 8 (mCall m_find_rank (mCons (mV 7) (mCons (mV 3) (mNil)))))
  (sSeq (sIf (mB (mOp fIs (mV 8) (mC .non))) (sBad) (sNx))
  (sSeq (sIf (mNot (mTru (mCall m_may_be_it (mCons (mV 6) (mCons (mV 7) (mCons (mV 8) (mCons (mV 4) (mNil)))))))) (sBad) (sNx))
  (sRet (mCall m_handle (mCons (mV 6) (mCons (mV 7) (mCons (mV 2) (mCons (mV 8) (mCons (mV 4) (mNil)))))))))))))))
theorem ok_handled (T : Blt K mg) (D : DefAt K mg "handled" s_handled) (D_place_in : DefOk P w K mg base "place_in" s_place_in 22 ["model", "station"] m_place_in) (D_are_worths : DefOk P w K mg base "are_worths" s_are_worths 4 ["size", "station", "value"] m_are_worths) (D_find_rank : DefOk P w K mg base "find_rank" s_find_rank 2 ["station", "name"] m_find_rank) (D_may_be_it : DefOk P w K mg base "may_be_it" s_may_be_it 4 ["size", "station", "rank", "value"] m_may_be_it) (D_handle : DefOk P w K mg base "handle" s_handle 13 ["size", "station", "worths", "rank", "it"] m_handle) : DefOk P w K mg base "handled" s_handled 23 ["model", "station", "worths", "name", "it"] (mBox m_handled) :=
  DefOk.box <| defOk_of (N := ["model", "station", "worths", "name", "it", "place", "size", "whole", "rank"]) D sc_handled fun f cdv A outer s H E hr hg =>
  (gss_cons (gs_set (i := 5) sc_handled.nd rfl (by first | exact Or.inl rfl | exact Or.inr rfl) (ge_callD D_place_in hr hg (takes_of rfl rfl rfl rfl) rfl (fun _ _ _ _ _ _ us hl => match us, hl with | [_, _], _ => rfl) (ga_cons (ge_var 0) (ga_cons (ge_var 1) (ga_nil)))))
  (gss_cons (gs_set (i := 6) sc_handled.nd rfl (by first | exact Or.inl rfl | exact Or.inr rfl) (ge_ix (ge_var 0) (ge_int) (fun _ _ => rfl)))
  (gss_cons (gs_set (i := 7) sc_handled.nd rfl (by first | exact Or.inl rfl | exact Or.inr rfl) (ge_ix (ge_ix (ge_var 0) (ge_int) (fun _ _ => rfl)) (ge_var 5) (fun _ _ => rfl)))
  (gss_cons (gs_if (gt_not (gt_tru (ge_callD D_are_worths (hr.mono (by decide)) hg (takes_of rfl rfl rfl rfl) rfl (fun _ _ _ _ _ _ us hl => match us, hl with | [_, _, _], _ => rfl) (ga_cons (ge_var 6) (ga_cons (ge_var 7) (ga_cons (ge_var 2) (ga_nil))))) (fun _ => rfl))) (gss_one (gs_never)) (gss_nil))
  (gss_cons (gs_set (i := 8) sc_handled.nd rfl (by first | exact Or.inl rfl | exact Or.inr rfl) (ge_callD D_find_rank (hr.mono (by decide)) hg (takes_of rfl rfl rfl rfl) rfl (fun _ _ _ _ _ _ us hl => match us, hl with | [_, _], _ => rfl) (ga_cons (ge_var 7) (ga_cons (ge_var 3) (ga_nil)))))
  (gss_cons (gs_if (gt_cmp op_isN r2_is (ge_var 8) (ge_non) (nomark _)) (gss_one (gs_never)) (gss_nil))
  (gss_cons (gs_if (gt_not (gt_tru (ge_callD D_may_be_it (hr.mono (by decide)) hg (takes_of rfl rfl rfl rfl) rfl (fun _ _ _ _ _ _ us hl => match us, hl with | [_, _, _, _], _ => rfl) (ga_cons (ge_var 6) (ga_cons (ge_var 7) (ga_cons (ge_var 8) (ga_cons (ge_var 4) (ga_nil)))))) (fun _ => rfl))) (gss_one (gs_never)) (gss_nil))
  (gss_one (gs_ret (ge_callD D_handle (hr.mono (by decide)) hg (takes_of rfl rfl rfl rfl) rfl (fun _ _ _ _ _ _ us hl => match us, hl with | [_, _, _, _, _], _ => rfl) (ga_cons (ge_var 6) (ga_cons (ge_var 7) (ga_cons (ge_var 2) (ga_cons (ge_var 8) (ga_cons (ge_var 4) (ga_nil))))))))))))))))
abbrev s_l_right : Stmt := topS 72
theorem sc_l_right : FnScope ["_law_pot_here", "_law_size", "_law_worths", "_law_it", "_law_held", "_law_some", "_law_due", "_law_program", "_law_after", "_law_cells", "_law_first", "_law_model", "_law_said", "_law_told", "_law_test", "_law_turn", "_law_e"] ["_law_pot_here"] (defScope s_l_right) := ⟨rfl, rfl, rfl, by decide +kernel, rfl, by decide +kernel, by decide +kernel⟩
def m_l_right_e1 : Ev W := mCall m_l_take (mCons (mV 0) (mCons (mV 1) (mNil)))
def m_l_right_e2 : Ev W := mCall m_l_sum_4 (mCons (mV 0) (mCons (mLst (mCons (mC (.str z_m)) (mCons (mC (.str z_n)) (mCons (mC (.str z_o)) (mCons (mC (.str z_it)) (mNil)))))) (mCons (mV 1) (mCons (mC (.int 3)) (mNil)))))
def m_l_right_e3 : Ev W := mOp fMod (mCall fInt (mCons (mCall m_l_plain_4 (mCons (mV 16) (mCons (mV 4) (mNil)))) (mNil))) (mV 1)
def m_l_right : List W → Store → Res W := fnM 1 17
  (sSeq (sSet 1 (mOp fAdd (mC (.int 2)) (mCall m_l_take (mCons (mV 0) (mCons (mC (.int 5)) (mNil))))))
  (sSeq (sSet 2 (mCall fTuple (mCons (mLcR1 [15] (setN 15) (mCons (mC (.int 3)) (mNil)) (yes) (m_l_right_e1)) (mNil))))
  (sSeq (sSet 3 (mCall m_l_take (mCons (mV 0) (mCons (mV 1) (mNil)))))
  (sSeq (sSet 4 (mDisp (((mC (.str z_m)), (mOp fIx (mV 2) (mC (.int 0)))) :: ((mC (.str z_n)), (mOp fIx (mV 2) (mC (.int 1)))) :: ((mC (.str z_o)), (mOp fIx (mV 2) (mC (.int 2)))) :: ((mC (.str z_it)), (mV 3)) :: [])))
  (sSeq (sSet 5 (mLcR1 [15] (setN 15) (mCons (mC (.int 6)) (mNil)) (yes) (m_l_right_e2)))
  (sSeq (sSet 6 (mLcS [16] (setN 16) (mV 5) (yes) (m_l_right_e3)))
  (sSeq (sSet 7 (mTup (mCons (mTup (mCons (mC (.str z_say)) (mCons (mOp fIx (mV 5) (mC (.int 0))) (mNil)))) (mCons (mTup (mCons (mC (.str z_send)) (mCons (mC (.str z_u)) (mCons (mOp fIx (mV 5) (mC (.int 1))) (mNil))))) (mCons (mTup (mCons (mC (.str z_wait)) (mCons (mC (.str z_k)) (mCons (mOp fIx (mV 5) (mC (.int 2))) (mNil))))) (mCons (mTup (mCons (mC (.str z_repeat)) (mCons (mOp fIx (mV 5) (mC (.int 3))) (mCons (mTup (mCons (mTup (mCons (mC (.str z_say)) (mCons (mC (.int 1)) (mNil)))) (mNil))) (mNil))))) (mNil)))))))
  (sSeq (sSet 7 (mOp fAdd (mV 7) (mTup (mCons (mTup (mCons (mC (.str z_if)) (mCons (mTup (mCons (mC (.str z__3c)) (mCons (mOp fIx (mV 5) (mC (.int 4))) (mCons (mOp fIx (mV 5) (mC (.int 5))) (mNil))))) (mCons (mTup (mCons (mTup (mCons (mC (.str z_say)) (mCons (mC (.int 1)) (mNil)))) (mNil))) (mCons (mTup (mCons (mTup (mCons (mC (.str z_say)) (mCons (mC (.int 0)) (mNil)))) (mNil))) (mNil)))))) (mCons (mTup (mCons (mC (.str z_set)) (mCons (mC (.str z_m)) (mCons (mOp fIx (mV 5) (mC (.int 0))) (mNil))))) (mNil))))))
  (sSeq (sSet 8 (mTup (mCons (mTup (mCons (mC (.str z_set)) (mCons (mC (.str z_n)) (mCons (mOp fIx (mV 5) (mC (.int 1))) (mNil))))) (mCons (mTup (mCons (mC (.str z_say)) (mCons (mTup (mCons (mC (.str z__2b)) (mCons (mC (.str z_n)) (mCons (mC (.str z_n)) (mNil))))) (mNil)))) (mCons (mTup (mCons (mC (.str z_if)) (mCons (mTup (mCons (mC (.str z__3d)) (mCons (mC (.str z_n)) (mCons (mOp fIx (mV 5) (mC (.int 2))) (mNil))))) (mCons (mTup (mCons (mTup (mCons (mC (.str z_say)) (mCons (mC (.int 1)) (mNil)))) (mNil))) (mCons (mTup (mCons (mTup (mCons (mC (.str z_say)) (mCons (mC (.int 0)) (mNil)))) (mNil))) (mNil)))))) (mNil))))))
  (sSeq (sSet 9 (mTup (mCons (mTup (mCons (mC (.str z_m)) (mCons (mC (.int 0)) (mNil)))) (mCons (mTup (mCons (mC (.str z_n)) (mCons (mC (.int 0)) (mNil)))) (mCons (mTup (mCons (mC (.str z_o)) (mCons (mC (.int 0)) (mNil)))) (mNil))))))
  (sSeq (sSet 10 (mTup (mCons (mC (.str z_st)) (mCons (mV 9) (mCons (mTup (mCons (mC (.str z_x)) (mCons (mC (.str z_y)) (mNil)))) (mCons (mTup (mCons (mC (.str z_u)) (mNil))) (mCons (mTup (mCons (mC (.str z_k)) (mNil))) (mCons (mTup (mCons (mTup (mNil)) (mCons (mV 7) (mCons (mV 8) (mNil))))) (mNil)))))))))
  (sSeq (sSet 11 (mTup (mCons (mV 1) (mCons (mTup (mCons (mV 10) (mNil))) (mCons (mTup (mNil)) (mCons (mTup (mCons (mTup (mCons (mC (.int 0)) (mCons (mC (.str z_st)) (mCons (mC (.str z_x)) (mCons (mC (.int 0)) (mNil)))))) (mNil))) (mNil)))))))
  (sSeq (sSet 12 (mOp fAdd (mOp fAdd (mTup (mCons (mOp fIx (mV 6) (mC (.int 0))) (mNil))) (mOp fMulA (mTup (mCons (mC (.int 1)) (mNil))) (mOp fIx (mV 6) (mC (.int 3))))) (mTup (mCons (mCall fInt (mCons (mOp fLt (mOp fIx (mV 6) (mC (.int 4))) (mOp fIx (mV 6) (mC (.int 5)))) (mNil))) (mNil)))))
  (sSeq (sSet 13 (mCall (mBox m_handled) (mCons (mV 11) (mCons (mC (.str z_st)) (mCons (mV 2) (mCons (mC (.str z_x)) (mCons (mV 3) (mNil))))))))
  (sSeq (sIf (mB (mOp fNe (mCall fRepr (mCons (mV 13) (mNil))) (mCall fRepr (mCons (mTup (mCons (mOp fAdd (mTup (mCons (mOp fIx (mV 6) (mC (.int 0))) (mNil))) (mSl (mV 2) (mPart (mC (.int 1))) (mNoPart))) (mCons (mTup (mCons (mTup (mCons (mC (.str z_u)) (mCons (mOp fIx (mV 6) (mC (.int 1))) (mNil)))) (mNil))) (mCons (mTup (mCons (mTup (mCons (mC (.str z_k)) (mCons (mOp fIx (mV 6) (mC (.int 2))) (mNil)))) (mNil))) (mCons (mV 12) (mNil)))))) (mNil))))) (sRet (mC (.bl false))) (sNx))
  (sSeq (sDPutM (mOp fIx (mV 6) (mC (.int 1))) (mV 4) (mC (.str z_n)))
  (sSeq (sSet 14 (mCall fInt (mCons (mOp fEq (mOp fIx (mV 6) (mC (.int 1))) (mOp fMod (mCall fInt (mCons (mCall m_l_plain_4 (mCons (mOp fIx (mV 5) (mC (.int 2))) (mCons (mV 4) (mNil)))) (mNil))) (mV 1))) (mNil))))
  (sSeq (sSet 13 (mCall (mBox m_handled) (mCons (mV 11) (mCons (mC (.str z_st)) (mCons (mV 2) (mCons (mC (.str z_y)) (mCons (mV 3) (mNil))))))))
  (sRet (mOp fEq (mCall fRepr (mCons (mV 13) (mNil))) (mCall fRepr (mCons (mTup (mCons (mTup (mCons (mOp fIx (mV 2) (mC (.int 0))) (mCons (mOp fIx (mV 6) (mC (.int 1))) (mCons (mOp fIx (mV 2) (mC (.int 2))) (mNil))))) (mCons (mTup (mNil)) (mCons (mTup (mNil)) (mCons (mTup (mCons (mOp fMod (mCall fInt (mCons (mOp fMulA (mC (.int 2)) (mOp fIx (mV 6) (mC (.int 1)))) (mNil))) (mV 1)) (mCons (mV 14) (mNil)))) (mNil)))))) (mNil)))))))))))))))))))))))
theorem ok_l_right (T : Blt K mg) (D : DefAt K mg "_law_right" s_l_right) (D_l_take : DefOk P w K mg base "_law_take" s_l_take 1 ["_law_pot_here", "_law_upto"] m_l_take) (D_l_sum_4 : DefOk P w K mg base "_law_sum" s_l_sum 6 ["_law_pot_here", "_law_names", "_law_size", "_law_deep"] m_l_sum_4) (D_l_plain_4 : DefOk P w K mg base "_law_plain" s_l_plain 5 ["_law_e", "_law_held"] m_l_plain_4) (D_handled : DefOk P w K mg base "handled" s_handled 23 ["model", "station", "worths", "name", "it"] (mBox m_handled)) : DefOk P w K mg base "_law_right" s_l_right 24 ["_law_pot_here"] m_l_right :=
  defOk_of (N := ["_law_pot_here", "_law_size", "_law_worths", "_law_it", "_law_held", "_law_some", "_law_due", "_law_program", "_law_after", "_law_cells", "_law_first", "_law_model", "_law_said", "_law_told", "_law_test", "_law_turn", "_law_e"]) D sc_l_right fun f cdv A outer s H E hr hg =>
  (gss_cons (gs_set (i := 1) sc_l_right.nd rfl (by first | exact Or.inl rfl | exact Or.inr rfl) (ge_op op_addA r2_add (ge_int) (ge_callD D_l_take (hr.mono (by decide)) hg (takes_of rfl rfl rfl rfl) rfl (fun _ _ _ _ _ _ us hl => match us, hl with | [_, _], _ => rfl) (ga_cons (ge_var 0) (ga_cons (ge_int) (ga_nil))))))
  (gss_cons (gs_set (i := 2) sc_l_right.nd rfl (by first | exact Or.inl rfl | exact Or.inr rfl) (ge_callTy call_tuple_of rc_tuple rfl T.tuple (by decide +kernel) (ga_cons (ge_lcR1 (own := [("_law_turn", 15)]) ⟨blkOk_by (N := ["_law_pot_here", "_law_size", "_law_worths", "_law_it", "_law_held", "_law_some", "_law_due", "_law_program", "_law_after", "_law_cells", "_law_first", "_law_model", "_law_said", "_law_told", "_law_test", "_law_turn", "_law_e"]) (sc := defScope s_l_right) (by decide +kernel), fun _ _ _ _ _ => pg_name (i := 15) sc_l_right.nd rfl (by first | exact Or.inl rfl | exact Or.inr rfl), fun _ _ _ _ _ => gp_nil, fun _ _ _ _ _ => ge_callD D_l_take (hr.mono (by decide)) hg takes0 rfl (fun _ _ _ _ _ _ us hl => match us, hl with | [_, _], _ => rfl) (ga_cons (ge_var 0) (ga_cons (ge_var 1) (ga_nil)))⟩ (fun _ => putLc_name (by decide)) rfl sc_l_right.nd rfl T.range (ga_cons (ge_int) (ga_nil))) (ga_nil))))
  (gss_cons (gs_set (i := 3) sc_l_right.nd rfl (by first | exact Or.inl rfl | exact Or.inr rfl) (ge_callD D_l_take (hr.mono (by decide)) hg (takes_of rfl rfl rfl rfl) rfl (fun _ _ _ _ _ _ us hl => match us, hl with | [_, _], _ => rfl) (ga_cons (ge_var 0) (ga_cons (ge_var 1) (ga_nil)))))
  (gss_cons (gs_set (i := 4) sc_l_right.nd rfl (by first | exact Or.inl rfl | exact Or.inr rfl) (ge_disp (gpp_cons (ge_strZ y_m) (ge_ix (ge_var 2) (ge_int) (fun _ _ => rfl)) (gpp_cons (ge_strZ y_n) (ge_ix (ge_var 2) (ge_int) (fun _ _ => rfl)) (gpp_cons (ge_strZ y_o) (ge_ix (ge_var 2) (ge_int) (fun _ _ => rfl)) (gpp_cons (ge_strZ y_it) (ge_var 3) (gpp_nil)))))))
  (gss_cons (gs_lcR1 (i := 5) (own := [("_law_turn", 15)]) ⟨blkOk_by (N := ["_law_pot_here", "_law_size", "_law_worths", "_law_it", "_law_held", "_law_some", "_law_due", "_law_program", "_law_after", "_law_cells", "_law_first", "_law_model", "_law_said", "_law_told", "_law_test", "_law_turn", "_law_e"]) (sc := defScope s_l_right) (by decide +kernel), fun _ _ _ _ _ => pg_name (i := 15) sc_l_right.nd rfl (by first | exact Or.inl rfl | exact Or.inr rfl), fun _ _ _ _ _ => gp_nil, fun _ _ _ _ _ => ge_callD D_l_sum_4 (hr.mono (by decide)) hg takes0 rfl (fun _ _ _ _ _ _ us hl => match us, hl with | [_, _, _, _], _ => rfl) (ga_cons (ge_var 0) (ga_cons (ge_lst (ga_cons (ge_strZ y_m) (ga_cons (ge_strZ y_n) (ga_cons (ge_strZ y_o) (ga_cons (ge_strZ y_it) (ga_nil)))))) (ga_cons (ge_var 1) (ga_cons (ge_int) (ga_nil)))))⟩ (fun _ => putLc_name (by decide)) rfl sc_l_right.nd rfl rfl (sw_true rfl rfl rfl (by decide +kernel)) rfl T.range (ga_cons (ge_int) (ga_nil)))
  (gss_cons (gs_lcS (i := 6) (own := [("_law_e", 16)]) ⟨blkOk_by (N := ["_law_pot_here", "_law_size", "_law_worths", "_law_it", "_law_held", "_law_some", "_law_due", "_law_program", "_law_after", "_law_cells", "_law_first", "_law_model", "_law_said", "_law_told", "_law_test", "_law_turn", "_law_e"]) (sc := defScope s_l_right) (by decide +kernel), fun _ _ _ _ _ => pg_name (i := 16) sc_l_right.nd rfl (by first | exact Or.inl rfl | exact Or.inr rfl), fun _ _ _ _ _ => gp_nil, fun _ _ _ _ _ => ge_op op_mod r2_mod (ge_callTy call_int1 rc_int rfl T.int (by decide +kernel) (ga_cons (ge_callD D_l_plain_4 (hr.mono (by decide)) hg takes0 rfl (fun _ _ _ _ _ _ us hl => match us, hl with | [_, _], _ => rfl) (ga_cons (ge_var 16) (ga_cons (ge_var 4) (ga_nil)))) (ga_nil))) (ge_var 1)⟩ (fun _ => putLc_name (by decide)) rfl sc_l_right.nd rfl rfl (sw_true rfl rfl rfl (by decide +kernel)) (ge_var 5))
  (gss_cons (gs_set (i := 7) sc_l_right.nd rfl (by first | exact Or.inl rfl | exact Or.inr rfl) (ge_tup (ga_cons (ge_tup (ga_cons (ge_strZ y_say) (ga_cons (ge_ix (ge_var 5) (ge_int) (fun _ _ => rfl)) (ga_nil)))) (ga_cons (ge_tup (ga_cons (ge_strZ y_send) (ga_cons (ge_strZ y_u) (ga_cons (ge_ix (ge_var 5) (ge_int) (fun _ _ => rfl)) (ga_nil))))) (ga_cons (ge_tup (ga_cons (ge_strZ y_wait) (ga_cons (ge_strZ y_k) (ga_cons (ge_ix (ge_var 5) (ge_int) (fun _ _ => rfl)) (ga_nil))))) (ga_cons (ge_tup (ga_cons (ge_strZ y_repeat) (ga_cons (ge_ix (ge_var 5) (ge_int) (fun _ _ => rfl)) (ga_cons (ge_tup (ga_cons (ge_tup (ga_cons (ge_strZ y_say) (ga_cons (ge_int) (ga_nil)))) (ga_nil))) (ga_nil))))) (ga_nil)))))))
  (gss_cons (gs_set (i := 7) sc_l_right.nd rfl (by first | exact Or.inl rfl | exact Or.inr rfl) (ge_op op_addA r2_add (ge_var 7) (ge_tup (ga_cons (ge_tup (ga_cons (ge_strZ y_if) (ga_cons (ge_tup (ga_cons (ge_strZ y__3c) (ga_cons (ge_ix (ge_var 5) (ge_int) (fun _ _ => rfl)) (ga_cons (ge_ix (ge_var 5) (ge_int) (fun _ _ => rfl)) (ga_nil))))) (ga_cons (ge_tup (ga_cons (ge_tup (ga_cons (ge_strZ y_say) (ga_cons (ge_int) (ga_nil)))) (ga_nil))) (ga_cons (ge_tup (ga_cons (ge_tup (ga_cons (ge_strZ y_say) (ga_cons (ge_int) (ga_nil)))) (ga_nil))) (ga_nil)))))) (ga_cons (ge_tup (ga_cons (ge_strZ y_set) (ga_cons (ge_strZ y_m) (ga_cons (ge_ix (ge_var 5) (ge_int) (fun _ _ => rfl)) (ga_nil))))) (ga_nil))))))
  (gss_cons (gs_set (i := 8) sc_l_right.nd rfl (by first | exact Or.inl rfl | exact Or.inr rfl) (ge_tup (ga_cons (ge_tup (ga_cons (ge_strZ y_set) (ga_cons (ge_strZ y_n) (ga_cons (ge_ix (ge_var 5) (ge_int) (fun _ _ => rfl)) (ga_nil))))) (ga_cons (ge_tup (ga_cons (ge_strZ y_say) (ga_cons (ge_tup (ga_cons (ge_strZ y__2b) (ga_cons (ge_strZ y_n) (ga_cons (ge_strZ y_n) (ga_nil))))) (ga_nil)))) (ga_cons (ge_tup (ga_cons (ge_strZ y_if) (ga_cons (ge_tup (ga_cons (ge_strZ y__3d) (ga_cons (ge_strZ y_n) (ga_cons (ge_ix (ge_var 5) (ge_int) (fun _ _ => rfl)) (ga_nil))))) (ga_cons (ge_tup (ga_cons (ge_tup (ga_cons (ge_strZ y_say) (ga_cons (ge_int) (ga_nil)))) (ga_nil))) (ga_cons (ge_tup (ga_cons (ge_tup (ga_cons (ge_strZ y_say) (ga_cons (ge_int) (ga_nil)))) (ga_nil))) (ga_nil)))))) (ga_nil))))))
  (gss_cons (gs_set (i := 9) sc_l_right.nd rfl (by first | exact Or.inl rfl | exact Or.inr rfl) (ge_tup (ga_cons (ge_tup (ga_cons (ge_strZ y_m) (ga_cons (ge_int) (ga_nil)))) (ga_cons (ge_tup (ga_cons (ge_strZ y_n) (ga_cons (ge_int) (ga_nil)))) (ga_cons (ge_tup (ga_cons (ge_strZ y_o) (ga_cons (ge_int) (ga_nil)))) (ga_nil))))))
  (gss_cons (gs_set (i := 10) sc_l_right.nd rfl (by first | exact Or.inl rfl | exact Or.inr rfl) (ge_tup (ga_cons (ge_strZ y_st) (ga_cons (ge_var 9) (ga_cons (ge_tup (ga_cons (ge_strZ y_x) (ga_cons (ge_strZ y_y) (ga_nil)))) (ga_cons (ge_tup (ga_cons (ge_strZ y_u) (ga_nil))) (ga_cons (ge_tup (ga_cons (ge_strZ y_k) (ga_nil))) (ga_cons (ge_tup (ga_cons (ge_tup (ga_nil)) (ga_cons (ge_var 7) (ga_cons (ge_var 8) (ga_nil))))) (ga_nil)))))))))
  (gss_cons (gs_set (i := 11) sc_l_right.nd rfl (by first | exact Or.inl rfl | exact Or.inr rfl) (ge_tup (ga_cons (ge_var 1) (ga_cons (ge_tup (ga_cons (ge_var 10) (ga_nil))) (ga_cons (ge_tup (ga_nil)) (ga_cons (ge_tup (ga_cons (ge_tup (ga_cons (ge_int) (ga_cons (ge_strZ y_st) (ga_cons (ge_strZ y_x) (ga_cons (ge_int) (ga_nil)))))) (ga_nil))) (ga_nil)))))))
  (gss_cons (gs_set (i := 12) sc_l_right.nd rfl (by first | exact Or.inl rfl | exact Or.inr rfl) (ge_op op_addA r2_add (ge_op op_addA r2_add (ge_tup (ga_cons (ge_ix (ge_var 6) (ge_int) (fun _ _ => rfl)) (ga_nil))) (ge_op (op_mulW.or (op_repT.or op_repX)) r2_mulA (ge_tup (ga_cons (ge_int) (ga_nil))) (ge_ix (ge_var 6) (ge_int) (fun _ _ => rfl)))) (ge_tup (ga_cons (ge_callTy call_int1 rc_int rfl T.int (by decide +kernel) (ga_cons (ge_cmp (op_ltP hr.units) r2_data (ge_ix (ge_var 6) (ge_int) (fun _ _ => rfl)) (ge_ix (ge_var 6) (ge_int) (fun _ _ => rfl)) (nomark _)) (ga_nil))) (ga_nil)))))
  (gss_cons (gs_set (i := 13) sc_l_right.nd rfl (by first | exact Or.inl rfl | exact Or.inr rfl) (ge_callD D_handled hr hg (takes_of rfl rfl rfl rfl) rfl (fun _ _ _ _ _ _ us hl => match us, hl with | [_, _, _, _, _], _ => rfl) (ga_cons (ge_var 11) (ga_cons (ge_strZ y_st) (ga_cons (ge_var 2) (ga_cons (ge_strZ y_x) (ga_cons (ge_var 3) (ga_nil))))))))
  (gss_cons (gs_if (gt_cmp (op_neP hr.units) r2_data (ge_callB (call_reprD hg hr.units) rc_repr rfl T.repr (by decide +kernel) (ga_cons (ge_var 13) (ga_nil))) (ge_callB (call_reprD hg hr.units) rc_repr rfl T.repr (by decide +kernel) (ga_cons (ge_tup (ga_cons (ge_op op_addA r2_add (ge_tup (ga_cons (ge_ix (ge_var 6) (ge_int) (fun _ _ => rfl)) (ga_nil))) (ge_slice (ge_var 2) (go_some (ge_int)) (go_none))) (ga_cons (ge_tup (ga_cons (ge_tup (ga_cons (ge_strZ y_u) (ga_cons (ge_ix (ge_var 6) (ge_int) (fun _ _ => rfl)) (ga_nil)))) (ga_nil))) (ga_cons (ge_tup (ga_cons (ge_tup (ga_cons (ge_strZ y_k) (ga_cons (ge_ix (ge_var 6) (ge_int) (fun _ _ => rfl)) (ga_nil)))) (ga_nil))) (ga_cons (ge_var 12) (ga_nil)))))) (ga_nil))) (nomark _)) (gss_one (gs_ret (ge_bl))) (gss_nil))
  (gss_cons (gs_dput (u_1 hr) (ge_var 4) (ge_strZ y_n) (ge_ix (ge_var 6) (ge_int) (fun _ _ => rfl)))
  (gss_cons (gs_set (i := 14) sc_l_right.nd rfl (by first | exact Or.inl rfl | exact Or.inr rfl) (ge_callTy call_int1 rc_int rfl T.int (by decide +kernel) (ga_cons (ge_cmp (op_eqP hr.units) r2_data (ge_ix (ge_var 6) (ge_int) (fun _ _ => rfl)) (ge_op op_mod r2_mod (ge_callTy call_int1 rc_int rfl T.int (by decide +kernel) (ga_cons (ge_callD D_l_plain_4 (hr.mono (by decide)) hg (takes_of rfl rfl rfl rfl) rfl (fun _ _ _ _ _ _ us hl => match us, hl with | [_, _], _ => rfl) (ga_cons (ge_ix (ge_var 5) (ge_int) (fun _ _ => rfl)) (ga_cons (ge_var 4) (ga_nil)))) (ga_nil))) (ge_var 1)) (nomark _)) (ga_nil))))
  (gss_cons (gs_set (i := 13) sc_l_right.nd rfl (by first | exact Or.inl rfl | exact Or.inr rfl) (ge_callD D_handled hr hg (takes_of rfl rfl rfl rfl) rfl (fun _ _ _ _ _ _ us hl => match us, hl with | [_, _, _, _, _], _ => rfl) (ga_cons (ge_var 11) (ga_cons (ge_strZ y_st) (ga_cons (ge_var 2) (ga_cons (ge_strZ y_y) (ga_cons (ge_var 3) (ga_nil))))))))
  (gss_one (gs_ret (ge_cmp (op_eqP hr.units) r2_data (ge_callB (call_reprD hg hr.units) rc_repr rfl T.repr (by decide +kernel) (ga_cons (ge_var 13) (ga_nil))) (ge_callB (call_reprD hg hr.units) rc_repr rfl T.repr (by decide +kernel) (ga_cons (ge_tup (ga_cons (ge_tup (ga_cons (ge_ix (ge_var 2) (ge_int) (fun _ _ => rfl)) (ga_cons (ge_ix (ge_var 6) (ge_int) (fun _ _ => rfl)) (ga_cons (ge_ix (ge_var 2) (ge_int) (fun _ _ => rfl)) (ga_nil))))) (ga_cons (ge_tup (ga_nil)) (ga_cons (ge_tup (ga_nil)) (ga_cons (ge_tup (ga_cons (ge_op op_mod r2_mod (ge_callTy call_int1 rc_int rfl T.int (by decide +kernel) (ga_cons (ge_op (op_mulW.or (op_repT.or op_repX)) r2_mulA (ge_int) (ge_ix (ge_var 6) (ge_int) (fun _ _ => rfl))) (ga_nil))) (ge_var 1)) (ga_cons (ge_var 14) (ga_nil)))) (ga_nil)))))) (ga_nil))) (nomark _))))))))))))))))))))))
abbrev s_law : Stmt := topS 73
theorem sc_law : FnScope ["_law_script", "_law_k", "_law_pot_here", "_law_turn"] ["_law_script"] (defScope s_law) := ⟨rfl, rfl, rfl, by decide +kernel, rfl, by decide +kernel, by decide +kernel⟩
def m_law_e1 : Ev W := mCall m_l_right (mCons (mV 2) (mNil))
def m_law_b1 : Sm := sSeq (sSet 2 (mCall m_l_pot (mCons (mV 0) (mCons (mV 1) (mNil)))))
  (sIf (mNot (mTru (mCall fAll (mCons (mLcR1 [3] (setN 3) (mCons (mC (.int 20)) (mNil)) (yes) (m_law_e1)) (mNil))))) (sRet (mC (.bl false))) (sNx))
def m_law : List W → Store → Res W := fnM 1 4
  (sSeq (sForR1 (mCons (mCall fMax2 (mCons (mC (.int 1)) (mCons (mCall fMin2 (mCons (mC (.int 3)) (mCons (mCall fLen (mCons (mV 0) (mNil))) (mNil)))) (mNil)))) (mNil)) 1 (m_law_b1))
  (sRet (mC (.bl true))))
theorem ok_law (T : Blt K mg) (D : DefAt K mg "law" s_law) (D_l_pot : DefOk P w K mg base "_law_pot" s_l_pot 1 ["_law_script", "_law_k"] m_l_pot) (D_l_right : DefOk P w K mg base "_law_right" s_l_right 24 ["_law_pot_here"] m_l_right) : DefOk P w K mg base "law" s_law 25 ["_law_script"] m_law :=
  defOk_of (N := ["_law_script", "_law_k", "_law_pot_here", "_law_turn"]) D sc_law fun f cdv A outer s H E hr hg =>
  (gss_cons (gs_forR1 (i := 1) (passes_of rfl) rfl rfl T.range (ga_cons (ge_callB (call_max2 rfl) rc_max2 rfl T.max (by decide +kernel) (ga_cons (ge_int) (ga_cons (ge_callB (call_min2 rfl) rc_min2 rfl T.min (by decide +kernel) (ga_cons (ge_int) (ga_cons (ge_callB call_len rc_len rfl T.len (by decide +kernel) (ga_cons (ge_var 0) (ga_nil))) (ga_nil)))) (ga_nil)))) (ga_nil)) sc_law.nd rfl (by first | exact Or.inl rfl | exact Or.inr rfl) (gss_cons (gs_set (i := 2) sc_law.nd rfl (by first | exact Or.inl rfl | exact Or.inr rfl) (ge_callD D_l_pot (hr.mono (by decide)) hg (takes_of rfl rfl rfl rfl) rfl (fun _ _ _ _ _ _ us hl => match us, hl with | [_, _], _ => rfl) (ga_cons (ge_var 0) (ga_cons (ge_var 1) (ga_nil)))))
  (gss_one (gs_if (gt_not (gt_tru (ge_callB (cr_all rfl) rc_all rfl T.all (by decide +kernel) (ga_cons (ge_lcR1 (own := [("_law_turn", 3)]) ⟨blkOk_by (N := ["_law_script", "_law_k", "_law_pot_here", "_law_turn"]) (sc := defScope s_law) (by decide +kernel), fun _ _ _ _ _ => pg_name (i := 3) sc_law.nd rfl (by first | exact Or.inl rfl | exact Or.inr rfl), fun _ _ _ _ _ => gp_nil, fun _ _ _ _ _ => ge_callD D_l_right hr hg takes0 rfl (fun _ _ _ _ _ _ us hl => match us, hl with | [_], _ => rfl) (ga_cons (ge_var 2) (ga_nil))⟩ (fun _ => putLc_name (by decide)) rfl sc_law.nd rfl T.range (ga_cons (ge_int) (ga_nil))) (ga_nil))) (fun _ => rfl))) (gss_one (gs_ret (ge_bl))) (gss_nil)))))
  (gss_one (gs_ret (ge_bl))))
end
end K08gen

set_option exponentiation.threshold 5000
namespace K08gen
open PySem PySem.Spec PyProof.Rows L2 Mi
variable [ClsMap]
theorem f_mulA {a b : Int} {st : Store} (ha : a.natAbs < 2 ^ 2000) (hb : b.natAbs < 2 ^ 2000) : fMulA (.int a) (.int b) st = .ok (.int (a * b)) st := f_mul ha hb
theorem take_ok {st : Store} {p : Nat} {c n : Int} (h : Pot st p c) (hc : c ≤ 1000000) (hn : 1 ≤ n) (hn2 : n ≤ 10000000) :
    Got (m_l_take [.ref p, .int n] st) fun w st' => (∃ d : Int, w = .int d ∧ 0 ≤ d ∧ d < n) ∧ Fr p st st' ∧ Pot st' p (c + 1) := by
  obtain ⟨own, seed, cnt, hp, h1, h2, h3, h4, h5, h6⟩ := h.ex
  have hpl : p < st.length := (List.getElem?_eq_some_iff.mp hp).1
  have x0 : fIx (.ref p) (.int 0) st = .ok (.int own) st := f_ixL hp rfl
  have x1 : fIx (.ref p) (.int 1) st = .ok (.int seed) st := f_ixL hp rfl
  have x2 : fIx (.ref p) (.int 2) st = .ok (.int cnt) st := f_ixL hp rfl
  by_cases ho : 0 < own
  · have hd : fDiv (.int own) (.int n) st = .ok (.int (own / n)) st := f_div (by omega) (Nat.lt_of_lt_of_le (show n.natAbs < 2 ^ 24 by omega) (Nat.pow_le_pow_right (by decide) (by decide)))
    have pa : putAt (.ref p) (.int 0) (.int (own / n)) st = some (st.set p (.lst [.int (own / n), .int seed, .int cnt])) := by
      simp only [Mi.putAt, hp]
      rfl
    refine ⟨.int (own % n), st.set p (.lst [.int (own / n), .int seed, .int cnt]), ?_, ⟨_, rfl, Int.emod_nonneg _ (by omega), Int.emod_lt_of_pos _ (by omega)⟩, ⟨by rw [List.length_set]; exact Nat.le_refl _, fun i hi hne => List.getElem?_set_ne (Ne.symm hne)⟩, ⟨own / n, seed, cnt, List.getElem?_set_self hpl, ?_, ?_, h3, h4, h5, by omega⟩⟩
    · simp only [m_l_take, fnM, outM, sSeq, sSet, sRet, sDrop, sIf, sPut, sPar, sUnp, sNx, liftE, mOp, mUn, mCall, mCons, mNil, mC, mV, mB, asB, mAnd, mOr, mNot, mAndV, mOrV, mNotV, mIf, mTup, mLst, mNew, Res.bind, List.map_cons, List.map_nil, List.length_cons, List.length_nil, List.replicate, List.cons_append, List.nil_append, List.getElem?_cons_zero, List.getElem?_cons_succ, List.set_cons_zero, List.set_cons_succ, Nat.reduceAdd, Nat.reduceSub, Nat.reduceLeDiff, if_pos, if_true, ite_true, Mi.putAll, x0, f_gt, ho, decide_true, fInt, f_mod (show 0 < n by omega), hd, pa]
    · exact Int.ediv_nonneg h1 (by omega)
    · have k1 : own / n ≤ own := Int.ediv_le_self _ h1
      have k2 : 0 ≤ own / n := Int.ediv_nonneg h1 (by omega)
      exact Nat.lt_of_le_of_lt (show (own / n).natAbs ≤ own.natAbs by omega) h2
  · have hc1 : 1 ≤ cnt + 1 ∧ cnt + 1 ≤ 1000001 := by omega
    generalize hk : cnt + 1 = k at hc1
    let s1 := st.set p (.lst [.int own, .int seed, .int k])
    have hs1 : s1[p]? = some (.lst [.int own, .int seed, .int k]) := List.getElem?_set_self hpl
    have pa : Mi.putAt (.ref p) (.int 2) (.int k) st = some s1 := by
      simp only [Mi.putAt, hp]
      rfl
    have y1 : fIx (.ref p) (.int 1) s1 = .ok (.int seed) s1 := f_ixL hs1 rfl
    have y2 : fIx (.ref p) (.int 2) s1 = .ok (.int k) s1 := f_ixL hs1 rfl
    have hq : ∃ q : Int, 0 < q ∧ fIx (.lst [.int 2147483647, .int 2147483629, .int 2147483587, .int 2147483579, .int 2147483563]) (.int (k % 5)) s1 = .ok (.int q) s1 ∧ q < 2 ^ 31 := by
      have h5 : k % 5 = 0 ∨ k % 5 = 1 ∨ k % 5 = 2 ∨ k % 5 = 3 ∨ k % 5 = 4 := by omega
      rcases h5 with e | e | e | e | e <;> rw [e]
      · exact ⟨2147483647, by decide, f_ixV rfl, by decide⟩
      · exact ⟨2147483629, by decide, f_ixV rfl, by decide⟩
      · exact ⟨2147483587, by decide, f_ixV rfl, by decide⟩
      · exact ⟨2147483579, by decide, f_ixV rfl, by decide⟩
      · exact ⟨2147483563, by decide, f_ixV rfl, by decide⟩
    obtain ⟨q, hq0, eq, hq1⟩ := hq
    have big : ∀ x : Int, 0 ≤ x → x < 2 ^ 100 → x.natAbs < 2 ^ 2000 := fun x hx hx2 => Nat.lt_of_lt_of_le (show x.natAbs < 2 ^ 100 by omega) (Nat.pow_le_pow_right (by decide) (by decide))
    have m1 : fMulA (.int 99989) (.int k) s1 = .ok (.int (99989 * k)) s1 := f_mulA (big _ (by decide) (by decide)) (big _ (by omega) (by omega))
    have kk : 0 ≤ 99989 * k * k ∧ 99989 * k * k ≤ 99989 * 1000001 * 1000001 :=
      ⟨Int.mul_nonneg (by omega) (by omega), Int.mul_le_mul (by omega) (by omega) (by omega) (by omega)⟩
    have m2 : fMulA (.int (99989 * k)) (.int k) s1 = .ok (.int (99989 * k * k)) s1 := f_mulA (big _ (by omega) (by omega)) (big _ (by omega) (by omega))
    have e3 : fPow (.int (seed + 99989 * k * k + 61)) (.int 3) s1 = .ok (.int ((seed + 99989 * k * k + 61) ^ (3 : Int).toNat)) s1 := f_pow (by decide) (by decide) (big _ (by omega) (by omega))
    have e4 : ∀ x : Int, fMod (.int x) (.int q) s1 = .ok (.int (x % q)) s1 := fun x => f_mod hq0
    generalize hz : (seed + 99989 * k * k + 61) ^ (3 : Int).toNat % q = z at *
    have hz0 : 0 ≤ z ∧ z < 2 ^ 31 := by
      have u1 := Int.emod_nonneg ((seed + 99989 * k * k + 61) ^ (3 : Int).toNat) (show q ≠ 0 by omega)
      have u2 := Int.emod_lt_of_pos ((seed + 99989 * k * k + 61) ^ (3 : Int).toNat) hq0
      omega
    have m3 : fMulA (.int 91) (.int k) s1 = .ok (.int (91 * k)) s1 := f_mulA (big _ (by decide) (by decide)) (big _ (by omega) (by omega))
    have m4 : fMulA (.int z) (.int (z % 10009 + 91 * k)) s1 = .ok (.int (z * (z % 10009 + 91 * k))) s1 := f_mulA (big _ (by omega) (by omega)) (big _ (by omega) (by omega))
    have e5 : ∀ x : Int, fMod (.int x) (.int 5) s1 = .ok (.int (x % 5)) s1 := fun x => f_mod (by decide)
    have e6 : ∀ x : Int, fMod (.int x) (.int 10009) s1 = .ok (.int (x % 10009)) s1 := fun x => f_mod (by decide)
    have e7 : ∀ x : Int, fMod (.int x) (.int 2305843009213693907) s1 = .ok (.int (x % 2305843009213693907)) s1 := fun x => f_mod (by decide)
    have e8 : ∀ x : Int, fDiv (.int x) (.int 107) s1 = .ok (.int (x / 107)) s1 := fun x => f_div (by decide) (by decide)
    have e9 : ∀ x : Int, fMod (.int x) (.int n) s1 = .ok (.int (x % n)) s1 := fun x => f_mod (by omega)
    refine ⟨.int (z * (z % 10009 + 91 * k) % 2305843009213693907 / 107 % n), s1, ?_, ⟨_, rfl, Int.emod_nonneg _ (by omega), Int.emod_lt_of_pos _ (by omega)⟩, ⟨by rw [List.length_set]; exact Nat.le_refl _, fun i hi hne => List.getElem?_set_ne (Ne.symm hne)⟩, ⟨own, seed, k, hs1, h1, h2, h3, h4, by omega, by omega⟩⟩
    simp only [m_l_take, fnM, outM, sSeq, sSet, sRet, sDrop, sIf, sPut, sPar, sUnp, sNx, liftE, mOp, mUn, mCall, mCons, mNil, mC, mV, mB, asB, mAnd, mOr, mNot, mAndV, mOrV, mNotV, mIf, mTup, mLst, mNew, Res.bind, List.map_cons, List.map_nil, List.length_cons, List.length_nil, List.replicate, List.cons_append, List.nil_append, List.getElem?_cons_zero, List.getElem?_cons_succ, List.set_cons_zero, List.set_cons_succ, Nat.reduceAdd, Nat.reduceSub, Nat.reduceLeDiff, if_pos, if_true, ite_true, Mi.putAll, x0, x2, f_gt, ho, decide_false, fInt, f_add, hk, pa, y1, y2, e5, eq, m1, m2, e3, e4, hz, m3, m4, e6, e7, e8, e9, Bool.false_eq_true, if_false]
def t60 : Int := 1000000000000000000000000000000000000000000000000000000000000
def t300 : Int := 1000000000000000000000000000000000000000000000000000000000000000000000000000000000000000000000000000000000000000000000000000000000000000000000000000000000000000000000000000000000000000000000000000000000000000000000000000000000000000000000000000000000000000000000000000000000000000000000000000000000000
def t18 : Int := 1000000000000000000
theorem pw60 {st : Store} : fPow (.int 10) (.int 60) st = .ok (.int t60) st := (f_pow (by decide) (by decide) (by decide)).trans (by rw [show (10 : Int) ^ (60 : Int).toNat = t60 from by decide +kernel])
theorem pw300 {st : Store} : fPow (.int t60) (.int 5) st = .ok (.int t300) st := (f_pow (by decide) (by decide) (by decide +kernel)).trans (by rw [show t60 ^ (5 : Int).toNat = t300 from by decide +kernel])
theorem pw18 {st : Store} : fPow (.int 10) (.int 18) st = .ok (.int t18) st := (f_pow (by decide) (by decide) (by decide)).trans (by rw [show (10 : Int) ^ (18 : Int).toNat = t18 from by decide +kernel])
theorem t300_pos : 0 < t300 := by decide +kernel
theorem t300_lt : t300.natAbs < 2 ^ 1000 := by decide +kernel
theorem bigger {x : Int} (h : x.natAbs < 2 ^ 1000) : x.natAbs < 2 ^ 2000 := Nat.lt_of_lt_of_le h (Nat.pow_le_pow_right (by decide) (by decide))
theorem small1000 {x : Int} (h : 0 ≤ x) (h2 : x < 2 ^ 90) : x.natAbs < 2 ^ 1000 := Nat.lt_of_lt_of_le (show x.natAbs < 2 ^ 90 by omega) (Nat.pow_le_pow_right (by decide) (by decide))
def ownOf (c : Int) : Int := (if c < 0 then -c else c) % t300 * (if decide (t18 ≤ if c < 0 then -c else c) = true then 1 else 0)
def seedOf (c k : Int) : Int := (c % 2305843009213693951 * 70663 + 6421 * k * k + 83) % 2305843009213693921
theorem own_ok (c : Int) : 0 ≤ ownOf c ∧ (ownOf c).natAbs < 2 ^ 1000 := by
  have h1 := Int.emod_nonneg (if c < 0 then -c else c) (show t300 ≠ 0 from by decide +kernel)
  have h2 := Int.emod_lt_of_pos (if c < 0 then -c else c) t300_pos
  have h3 := t300_lt
  unfold ownOf
  by_cases h : decide (t18 ≤ if c < 0 then -c else c) = true
  · rw [if_pos h, Int.mul_one]
    refine ⟨h1, Nat.lt_of_le_of_lt ?_ h3⟩
    omega
  · rw [if_neg h, Int.mul_zero]
    exact ⟨by decide, Nat.two_pow_pos _⟩
theorem absi {c : Int} {st : Store} : fAbs [.int c] st = .ok (.int (if c < 0 then -c else c)) st := rfl
theorem inti {c : Int} {st : Store} : fInt [.int c] st = .ok (.int c) st := rfl
theorem intb {b : Bool} {st : Store} : fInt [.bl b] st = .ok (.int (if b = true then 1 else 0)) st := by cases b <;> rfl
theorem pot_rest {c k : Int} {st : Store} (hk : 0 ≤ k) (hk2 : k ≤ 2) :
    fMod (.int (if c < 0 then -c else c)) (.int t300) st = .ok (.int ((if c < 0 then -c else c) % t300)) st ∧
    (∀ b : Bool, fMulA (.int ((if c < 0 then -c else c) % t300)) (.int (if b = true then 1 else 0)) st = .ok (.int ((if c < 0 then -c else c) % t300 * (if b = true then 1 else 0))) st) ∧
    fMod (.int c) (.int 2305843009213693951) st = .ok (.int (c % 2305843009213693951)) st ∧
    fMulA (.int (c % 2305843009213693951)) (.int 70663) st = .ok (.int (c % 2305843009213693951 * 70663)) st ∧
    fMulA (.int 6421) (.int k) st = .ok (.int (6421 * k)) st ∧ fMulA (.int (6421 * k)) (.int k) st = .ok (.int (6421 * k * k)) st ∧
    (∀ x : Int, fMod (.int x) (.int 2305843009213693921) st = .ok (.int (x % 2305843009213693921)) st) := by
  have h1 := Int.emod_nonneg (if c < 0 then -c else c) (show t300 ≠ 0 from by decide +kernel)
  have h2 := Int.emod_lt_of_pos (if c < 0 then -c else c) t300_pos
  have h3 := t300_lt
  refine ⟨f_mod t300_pos, fun b => f_mulA (bigger (Nat.lt_of_le_of_lt (by omega) h3)) (by cases b <;> decide), f_mod (by decide), f_mulA (bigger (small1000 (by omega) (by omega))) (bigger (small1000 (by decide) (by decide))),
    f_mulA (bigger (small1000 (by decide) (by decide))) (bigger (small1000 hk (by omega))), f_mulA (bigger (small1000 (by omega) (by omega))) (bigger (small1000 hk (by omega))), fun x => f_mod (by decide)⟩
theorem pot_ok {ns : List Int} {k : Int} {st : Store} (hk : 0 ≤ k) (hk2 : k ≤ 2) : Got (m_l_pot [.frz (ns.map W.int), .int k] st) fun w s => w = .ref st.length ∧ s.length = st.length + 1 ∧ Pot s st.length 0 := by
  obtain ⟨cell, hc⟩ : ∃ cell : Int, (decide (k < ((ns.map W.int).length : Int)) = true → fIx (.frz (ns.map W.int)) (.int k) st = .ok (.int cell) st) ∧ (decide (k < ((ns.map W.int).length : Int)) = false → 43 * k + 19 = cell) := by
    by_cases h : k < ((ns.map W.int).length : Int)
    · have h2 : k.toNat < ns.length := by
        rw [List.length_map] at h
        omega
      have ed : k = ((k.toNat : Nat) : Int) := by omega
      have z := atI_nat (xs := ns.map W.int) (j := k.toNat) (v := .int ns[k.toNat]) (by rw [List.getElem?_map, List.getElem?_eq_getElem h2]; rfl)
      rw [← ed] at z
      exact ⟨ns[k.toNat], ⟨fun _ => f_ixF z, fun e => absurd h (of_decide_eq_false e)⟩⟩
    · exact ⟨43 * k + 19, ⟨fun e => absurd (of_decide_eq_true e) h, fun _ => rfl⟩⟩
  obtain ⟨hc1, hc2⟩ := hc
  obtain ⟨r1, r2, r3, r4, r5, r6, r7⟩ := pot_rest (c := cell) (st := st) hk hk2
  have r2' := r2 (decide (t18 ≤ if cell < 0 then -cell else cell))
  have m37 : fMulA (.int 43) (.int k) st = .ok (.int (43 * k)) st := f_mulA (bigger (small1000 (by decide) (by decide))) (bigger (small1000 hk (by omega)))
  obtain ⟨o1, o2⟩ := own_ok cell
  have s1 := Int.emod_nonneg (cell % 2305843009213693951 * 70663 + 6421 * k * k + 83) (show (2305843009213693921 : Int) ≠ 0 by decide)
  have s2 := Int.emod_lt_of_pos (cell % 2305843009213693951 * 70663 + 6421 * k * k + 83) (show (0 : Int) < 2305843009213693921 by decide)
  refine ⟨.ref st.length, st ++ [.lst [.int (ownOf cell), .int (seedOf cell k), .int 0]], ?_, rfl, by rw [List.length_append]; rfl, ⟨ownOf cell, seedOf cell k, 0, by rw [List.getElem?_append_right (Nat.le_refl _), Nat.sub_self]; rfl, o1, o2, s1, by unfold seedOf; omega, by decide, by decide⟩⟩
  cases q : decide (k < ((ns.map W.int).length : Int)) with
  | true =>
    have e1 := hc1 q
    simp only [m_l_pot, fnM, outM, sSeq, sSet, sRet, sDrop, sIf, sPut, sPar, sUnp, sNx, liftE, mOp, mUn, mCall, mCons, mNil, mC, mV, mB, asB, mAnd, mOr, mNot, mAndV, mOrV, mNotV, mIf, mTup, mLst, mNew, Res.bind, List.map_cons, List.map_nil, List.length_cons, List.length_nil, List.replicate, List.cons_append, List.nil_append, List.getElem?_cons_zero, List.getElem?_cons_succ, List.set_cons_zero, List.set_cons_succ, Nat.reduceAdd, Nat.reduceSub, Nat.reduceLeDiff, if_pos, if_true, ite_true, Mi.putAll, f_lenF, f_lt, q, e1, absi, inti, intb, pw60, pw300, pw18, r1, f_ge, r2', r3, r4, r5, r6, r7, f_add, ownOf, seedOf]
  | false =>
    have e1 := hc2 q
    simp only [m_l_pot, fnM, outM, sSeq, sSet, sRet, sDrop, sIf, sPut, sPar, sUnp, sNx, liftE, mOp, mUn, mCall, mCons, mNil, mC, mV, mB, asB, mAnd, mOr, mNot, mAndV, mOrV, mNotV, mIf, mTup, mLst, mNew, Res.bind, List.map_cons, List.map_nil, List.length_cons, List.length_nil, List.replicate, List.cons_append, List.nil_append, List.getElem?_cons_zero, List.getElem?_cons_succ, List.set_cons_zero, List.set_cons_succ, Nat.reduceAdd, Nat.reduceSub, Nat.reduceLeDiff, if_pos, if_true, ite_true, Mi.putAll, f_lenF, f_lt, q, m37, f_add, e1, absi, inti, intb, pw60, pw300, pw18, r1, f_ge, r2', r3, r4, r5, r6, r7, ownOf, seedOf, Bool.false_eq_true, if_false]
end K08gen

set_option exponentiation.threshold 5000
namespace K08gen
open PySem PySem.Spec PyProof.Rows L2 Mi
variable [ClsMap]

/-! ### expressions -/
inductive Ex where
  | num (i : Int) | nm (k : Fin 4) | node (g : Fin 3) (a b : Ex)
def nmS : Fin 4 → Str
  | 0 => z_m
  | 1 => z_n
  | 2 => z_o
  | 3 => z_it
def sgS : Fin 3 → Str
  | 0 => z__2b
  | 1 => z__2d
  | 2 => z__2a
def Ex.w : Ex → W
  | .num i => .int i
  | .nm k => .str (nmS k)
  | .node g a b => .tup [.str (sgS g), a.w, b.w]
def opI : Fin 3 → Int → Int → Int
  | 0, x, y => x + y
  | 1, x, y => x - y
  | 2, x, y => x * y
def Ex.val (ρ : Fin 4 → Int) : Ex → Int
  | .num i => i
  | .nm k => ρ k
  | .node g a b => opI g (a.val ρ) (b.val ρ)
def Ex.fit (s : Int) : Nat → Ex → Prop
  | _, .num i => 0 ≤ i ∧ i < s
  | _, .nm _ => True
  | 0, .node _ _ _ => False
  | d + 1, .node _ a b => a.fit s d ∧ b.fit s d
theorem op_mod (g : Fin 3) (x y s : Int) : opI g (x % s) (y % s) % s = opI g x y % s := by
  match g with
  | 0 => exact (Int.add_emod x y s).symm
  | 1 => exact (Int.sub_emod x y s).symm
  | 2 => exact (Int.mul_emod x y s).symm
/-- a doing under way, the worths of its cells -/
structure DoAt (st : Store) (n c : Nat) (s : Int) (ρ : Fin 4 → Int) : Prop where
  size : fGet 1 z_size (.ref n) st = .ok (.int s) st
  cells : fGet 1 z_cells (.ref n) st = .ok (.ref c) st
  it : fGet 1 z_it (.ref n) st = .ok (.int (ρ 3)) st
  get : ∀ k : Fin 4, k ≠ 3 → fDGet (.ref c) (.str (nmS k)) st = .ok (.int (ρ k)) st
def worthM (rec : List W → Store → Res W) : List W → Store → Res W := fnM 2 4
  (sSeq (sIf (mTru (mUn (fIsK 0) (mV 1))) (sRet (mV 1)) (sNx))
  (sSeq (sIf (mB (mOp fEq (mV 1) (mC (.str z_it)))) (sRet (mUn (fGet 1 z_it) (mV 0))) (sNx))
  (sSeq (sIf (mTru (mUn (fIsK 2) (mV 1))) (sRet (mOp fDGet (mUn (fGet 1 z_cells) (mV 0)) (mV 1))) (sNx))
  (sSeq (sSet 2 (mCall rec (mCons (mV 0) (mCons (mOp fIx (mV 1) (mC (.int 1))) (mNil)))))
  (sSeq (sSet 3 (mCall rec (mCons (mV 0) (mCons (mOp fIx (mV 1) (mC (.int 2))) (mNil)))))
  (sRet (mOp fMod (mCall m_reckoned (mCons (mOp fIx (mV 1) (mC (.int 0))) (mCons (mV 2) (mCons (mV 3) (mNil))))) (mUn (fGet 1 z_size) (mV 0)))))))))
theorem reck_ok (g : Fin 3) {x y : Int} {st : Store} (hx : x.natAbs < 2 ^ 100) (hy : y.natAbs < 2 ^ 100) : m_reckoned [.str (sgS g), .int x, .int y] st = .ok (.int (opI g x y)) st := by
  have hm : fMulA (.int x) (.int y) st = .ok (.int (x * y)) st := f_mulA (Nat.lt_of_lt_of_le hx (Nat.pow_le_pow_right (by decide) (by decide))) (Nat.lt_of_lt_of_le hy (Nat.pow_le_pow_right (by decide) (by decide)))
  match g with
  | 0 =>
    have e1 : decide (z__2b = z__2b) = true := by simp
    simp only [m_reckoned, fnM, outM, sSeq, sSet, sRet, sDrop, sIf, sPut, sPar, sUnp, sNx, liftE, mOp, mUn, mCall, mCons, mNil, mC, mV, mB, asB, mAnd, mOr, mNot, mAndV, mOrV, mNotV, mIf, mTup, mLst, mNew, Res.bind, List.map_cons, List.map_nil, List.length_cons, List.length_nil, List.replicate, List.cons_append, List.nil_append, List.getElem?_cons_zero, List.getElem?_cons_succ, List.set_cons_zero, List.set_cons_succ, Nat.reduceAdd, Nat.reduceSub, Nat.reduceLeDiff, if_pos, if_true, ite_true, Mi.putAll, mTru, truW, fIsK, isK, Nat.beq, Bool.not_true, Bool.not_false, Bool.false_eq_true, if_false, Bool.or_false, Bool.false_or, Bool.or_self, decide_true, decide_false, sgS, opI, f_eqS, e1, f_add]
  | 1 =>
    have e1 : decide (z__2d = z__2b) = false := by decide +kernel
    have e2 : decide (z__2d = z__2d) = true := by simp
    simp only [m_reckoned, fnM, outM, sSeq, sSet, sRet, sDrop, sIf, sPut, sPar, sUnp, sNx, liftE, mOp, mUn, mCall, mCons, mNil, mC, mV, mB, asB, mAnd, mOr, mNot, mAndV, mOrV, mNotV, mIf, mTup, mLst, mNew, Res.bind, List.map_cons, List.map_nil, List.length_cons, List.length_nil, List.replicate, List.cons_append, List.nil_append, List.getElem?_cons_zero, List.getElem?_cons_succ, List.set_cons_zero, List.set_cons_succ, Nat.reduceAdd, Nat.reduceSub, Nat.reduceLeDiff, if_pos, if_true, ite_true, Mi.putAll, mTru, truW, fIsK, isK, Nat.beq, Bool.not_true, Bool.not_false, Bool.false_eq_true, if_false, Bool.or_false, Bool.false_or, Bool.or_self, decide_true, decide_false, sgS, opI, f_eqS, e1, e2, f_sub]
  | 2 =>
    have e1 : decide (z__2a = z__2b) = false := by decide +kernel
    have e2 : decide (z__2a = z__2d) = false := by decide +kernel
    simp only [m_reckoned, fnM, outM, sSeq, sSet, sRet, sDrop, sIf, sPut, sPar, sUnp, sNx, liftE, mOp, mUn, mCall, mCons, mNil, mC, mV, mB, asB, mAnd, mOr, mNot, mAndV, mOrV, mNotV, mIf, mTup, mLst, mNew, Res.bind, List.map_cons, List.map_nil, List.length_cons, List.length_nil, List.replicate, List.cons_append, List.nil_append, List.getElem?_cons_zero, List.getElem?_cons_succ, List.set_cons_zero, List.set_cons_succ, Nat.reduceAdd, Nat.reduceSub, Nat.reduceLeDiff, if_pos, if_true, ite_true, Mi.putAll, mTru, truW, fIsK, isK, Nat.beq, Bool.not_true, Bool.not_false, Bool.false_eq_true, if_false, Bool.or_false, Bool.false_or, Bool.or_self, decide_true, decide_false, sgS, opI, f_eqS, e1, e2, hm]
theorem cmp_tup {x y z : W} {t : Str} {st : Store} (h : ∃ d, (W.tup [x, y, z]).toD = some d ∧ cEq d (.str t) = true) : fEq (.tup [x, y, z]) (.str t) st = .ok (.bl false) st := by
  obtain ⟨d, hd, hc⟩ := h
  have hd' : ∃ l, d = .tuple l := by
    unfold W.toD at hd
    cases q : toDs [x, y, z] with
    | none =>
      rw [q] at hd
      cases hd
    | some l =>
      rw [q] at hd
      cases hd
      exact ⟨l, rfl⟩
  obtain ⟨l, rfl⟩ := hd'
  exact fD_ok hd rfl hc rfl
theorem ex_data (s : Int) : ∀ (e : Ex) (d : Nat), e.fit s d → ∃ D, e.w.toD = some D ∧ D.plain = true ∧ D.depth ≤ d
  | .num i, d, _ => ⟨.int i, rfl, rfl, Nat.zero_le _⟩
  | .nm k, d, _ => ⟨.str (nmS k), rfl, rfl, Nat.zero_le _⟩
  | .node g a b, 0, h => by
    unfold Ex.fit at h
    exact h.elim
  | .node g a b, d + 1, h => by
    unfold Ex.fit at h
    obtain ⟨A, a1, a2, a3⟩ := ex_data s a d h.1
    obtain ⟨B, b1, b2, b3⟩ := ex_data s b d h.2
    refine ⟨.tuple [.str (sgS g), A, B], ?_, ?_, ?_⟩
    · show (toDs [.str (sgS g), a.w, b.w]).map PyData.tuple = _
      simp only [toDs, W.toD, a1, b1, Option.map_some]
    · simp only [PyData.plain, PyData.plainAll, a2, b2, Bool.and_true, Bool.and_self]
    · simp only [PyData.depth, PyData.depthAll]
      omega
theorem node_it {g : Fin 3} {a b : Ex} {s : Int} {d : Nat} {st : Store} {t : Str} (h : (Ex.node g a b).fit s d) (hd : d ≤ 50) : fEq (Ex.node g a b).w (.str t) st = .ok (.bl false) st := by
  obtain ⟨D, h1, h2, h3⟩ := ex_data s _ d h
  refine cmp_tup ⟨D, h1, ?_⟩
  unfold cEq
  rw [h2]
  simp only [Bool.true_and, PyData.plain]
  exact decide_eq_true (by omega)
theorem worth_step {rec : List W → Store → Res W} {st : Store} {n c : Nat} {s : Int} {ρ : Fin 4 → Int} (D : DoAt st n c s ρ) (hs : 2 ≤ s ∧ s ≤ 6) (hρ : ∀ k, 0 ≤ ρ k ∧ ρ k < s) {d : Nat} (hd : d ≤ 50)
    (ih : ∀ a d', d = d' + 1 → Ex.fit s d' a → rec [.ref n, a.w] st = .ok (.int (a.val ρ % s)) st) (e : Ex) (h : e.fit s d) : worthM rec [.ref n, e.w] st = .ok (.int (e.val ρ % s)) st := by
  cases e with
  | num i =>
    have h' : 0 ≤ i ∧ i < s := by
      unfold Ex.fit at h
      exact h
    have e1 : i % s = i := Int.emod_eq_of_lt h'.1 h'.2
    simp only [worthM, fnM, outM, sSeq, sSet, sRet, sDrop, sIf, sPut, sPar, sUnp, sNx, liftE, mOp, mUn, mCall, mCons, mNil, mC, mV, mB, asB, mAnd, mOr, mNot, mAndV, mOrV, mNotV, mIf, mTup, mLst, mNew, Res.bind, List.map_cons, List.map_nil, List.length_cons, List.length_nil, List.replicate, List.cons_append, List.nil_append, List.getElem?_cons_zero, List.getElem?_cons_succ, List.set_cons_zero, List.set_cons_succ, Nat.reduceAdd, Nat.reduceSub, Nat.reduceLeDiff, if_pos, if_true, ite_true, Mi.putAll, mTru, truW, fIsK, isK, Nat.beq, Bool.not_true, Bool.not_false, Bool.false_eq_true, if_false, Bool.or_false, Bool.false_or, Bool.or_self, decide_true, decide_false, Ex.w, Ex.val, e1]
  | nm k =>
    have e1 : ρ k % s = ρ k := Int.emod_eq_of_lt (hρ k).1 (hρ k).2
    by_cases hk : k = 3
    · subst hk
      have e2 : decide (nmS 3 = z_it) = true := by decide +kernel
      simp only [worthM, fnM, outM, sSeq, sSet, sRet, sDrop, sIf, sPut, sPar, sUnp, sNx, liftE, mOp, mUn, mCall, mCons, mNil, mC, mV, mB, asB, mAnd, mOr, mNot, mAndV, mOrV, mNotV, mIf, mTup, mLst, mNew, Res.bind, List.map_cons, List.map_nil, List.length_cons, List.length_nil, List.replicate, List.cons_append, List.nil_append, List.getElem?_cons_zero, List.getElem?_cons_succ, List.set_cons_zero, List.set_cons_succ, Nat.reduceAdd, Nat.reduceSub, Nat.reduceLeDiff, if_pos, if_true, ite_true, Mi.putAll, mTru, truW, fIsK, isK, Nat.beq, Bool.not_true, Bool.not_false, Bool.false_eq_true, if_false, Bool.or_false, Bool.false_or, Bool.or_self, decide_true, decide_false, Ex.w, Ex.val, f_eqS, e2, D.it, e1]
    · have e2 : decide (nmS k = z_it) = false := by
        match k, hk with
        | 0, _ => decide +kernel
        | 1, _ => decide +kernel
        | 2, _ => decide +kernel
        | 3, h => exact absurd rfl h
      simp only [worthM, fnM, outM, sSeq, sSet, sRet, sDrop, sIf, sPut, sPar, sUnp, sNx, liftE, mOp, mUn, mCall, mCons, mNil, mC, mV, mB, asB, mAnd, mOr, mNot, mAndV, mOrV, mNotV, mIf, mTup, mLst, mNew, Res.bind, List.map_cons, List.map_nil, List.length_cons, List.length_nil, List.replicate, List.cons_append, List.nil_append, List.getElem?_cons_zero, List.getElem?_cons_succ, List.set_cons_zero, List.set_cons_succ, Nat.reduceAdd, Nat.reduceSub, Nat.reduceLeDiff, if_pos, if_true, ite_true, Mi.putAll, mTru, truW, fIsK, isK, Nat.beq, Bool.not_true, Bool.not_false, Bool.false_eq_true, if_false, Bool.or_false, Bool.false_or, Bool.or_self, decide_true, decide_false, Ex.w, Ex.val, f_eqS, e2, D.cells, D.get k hk, e1]
  | node g a b =>
    cases d with
    | zero =>
      unfold Ex.fit at h
      exact h.elim
    | succ d' =>
      have hit := node_it (st := st) (t := z_it) h hd
      unfold Ex.fit at h
      have ea := ih a d' rfl h.1
      have eb := ih b d' rfl h.2
      have x0 : fIx (.tup [.str (sgS g), a.w, b.w]) (.int 0) st = .ok (.str (sgS g)) st := f_ixT rfl
      have x1 : fIx (.tup [.str (sgS g), a.w, b.w]) (.int 1) st = .ok a.w st := f_ixT rfl
      have x2 : fIx (.tup [.str (sgS g), a.w, b.w]) (.int 2) st = .ok b.w st := f_ixT rfl
      have na : ∀ x : Int, (x % s).natAbs < 2 ^ 100 := fun x => by
        have m1 := Int.emod_nonneg x (show s ≠ 0 by omega)
        have m2 := Int.emod_lt_of_pos x (show 0 < s by omega)
        exact Nat.lt_of_lt_of_le (show (x % s).natAbs < 2 ^ 10 by omega) (Nat.pow_le_pow_right (by decide) (by decide))
      have rk := reck_ok g (st := st) (na (a.val ρ)) (na (b.val ρ))
      have md : fMod (.int (opI g (a.val ρ % s) (b.val ρ % s))) (.int s) st = .ok (.int (opI g (a.val ρ % s) (b.val ρ % s) % s)) st := f_mod (by omega)
      have hit' : fEq (.tup [.str (sgS g), a.w, b.w]) (.str z_it) st = .ok (.bl false) st := hit
      simp only [worthM, fnM, outM, sSeq, sSet, sRet, sDrop, sIf, sPut, sPar, sUnp, sNx, liftE, mOp, mUn, mCall, mCons, mNil, mC, mV, mB, asB, mAnd, mOr, mNot, mAndV, mOrV, mNotV, mIf, mTup, mLst, mNew, Res.bind, List.map_cons, List.map_nil, List.length_cons, List.length_nil, List.replicate, List.cons_append, List.nil_append, List.getElem?_cons_zero, List.getElem?_cons_succ, List.set_cons_zero, List.set_cons_succ, Nat.reduceAdd, Nat.reduceSub, Nat.reduceLeDiff, if_pos, if_true, ite_true, Mi.putAll, mTru, truW, fIsK, isK, Nat.beq, Bool.not_true, Bool.not_false, Bool.false_eq_true, if_false, Bool.or_false, Bool.false_or, Bool.or_self, decide_true, decide_false, Ex.w, Ex.val, hit', x0, x1, x2, ea, eb, rk, D.size, md, op_mod]
theorem worth_ok {st : Store} {n c : Nat} {s : Int} {ρ : Fin 4 → Int} (D : DoAt st n c s ρ) (hs : 2 ≤ s ∧ s ≤ 6) (hρ : ∀ k, 0 ≤ ρ k ∧ ρ k < s) (e : Ex) (h : e.fit s 3) : m_worth_of_4 [.ref n, e.w] st = .ok (.int (e.val ρ % s)) st := by
  have s0 : ∀ e : Ex, e.fit s 0 → m_worth_of_1 [.ref n, e.w] st = .ok (.int (e.val ρ % s)) st := fun e h => worth_step (rec := m_worth_of_0) D hs hρ (by decide) (fun a d' z _ => by omega) e h
  have s1 : ∀ e : Ex, e.fit s 1 → m_worth_of_2 [.ref n, e.w] st = .ok (.int (e.val ρ % s)) st := fun e h => worth_step (rec := m_worth_of_1) D hs hρ (by decide) (fun a d' z q => s0 a (by cases z; exact q)) e h
  have s2 : ∀ e : Ex, e.fit s 2 → m_worth_of_3 [.ref n, e.w] st = .ok (.int (e.val ρ % s)) st := fun e h => worth_step (rec := m_worth_of_2) D hs hρ (by decide) (fun a d' z q => s1 a (by cases z; exact q)) e h
  exact worth_step (rec := m_worth_of_3) D hs hρ (by decide) (fun a d' z q => s2 a (by cases z; exact q)) e h
/-! ### what is accepted -/
theorem strs_toD : ∀ ks : List Str, toDs (ks.map W.str) = some (ks.map PyData.str)
  | [] => rfl
  | k :: ks => by simp only [List.map_cons, toDs, W.toD, strs_toD ks]
theorem strs_plain : ∀ ks : List Str, PyData.plainAll (ks.map PyData.str) = true
  | [] => rfl
  | k :: ks => by simp only [List.map_cons, PyData.plainAll, PyData.plain, strs_plain ks, Bool.and_self]
theorem strs_any (x : Str) : ∀ ks : List Str, (ks.map PyData.str).any (fun y => PyData.eqv y (.str x)) = ks.any fun y => decide (y = x)
  | [] => rfl
  | k :: ks => by
    simp only [List.map_cons, List.any_cons, strs_any x ks]
    congr 1
theorem f_in {x : Str} {ks : List Str} {st : Store} : fIn (.str x) (.tup (ks.map W.str)) st = .ok (.bl (ks.any fun y => decide (y = x))) st := by
  refine fD_ok (d := .str x) (e := .tuple (ks.map PyData.str)) rfl (by unfold W.toD; rw [strs_toD]; rfl) ?_ (strs_any x ks)
  unfold cIn
  simp only [PyData.plain, strs_plain, Bool.true_and, Bool.and_true, decide_eq_true_eq]
  exact Nat.zero_le _
theorem f_nin {x : Str} {ks : List Str} {st : Store} : fNin (.str x) (.tup (ks.map W.str)) st = .ok (.bl (!ks.any fun y => decide (y = x))) st := by
  refine fD_ok (d := .str x) (e := .tuple (ks.map PyData.str)) rfl (by unfold W.toD; rw [strs_toD]; rfl) ?_ (congrArg Bool.not (strs_any x ks))
  unfold cIn
  simp only [PyData.plain, strs_plain, Bool.true_and, Bool.and_true, decide_eq_true_eq]
  exact Nat.zero_le _
theorem f_in1 {x a : Str} {st : Store} : fIn (.str x) (.tup [.str a]) st = .ok (.bl (decide (a = x))) st := (f_in (ks := [a])).trans (by simp)
theorem f_in2 {x a b : Str} {st : Store} : fIn (.str x) (.tup [.str a, .str b]) st = .ok (.bl (decide (a = x) || decide (b = x))) st := (f_in (ks := [a, b])).trans (by simp)
theorem f_in3 {x a b c : Str} {st : Store} : fIn (.str x) (.tup [.str a, .str b, .str c]) st = .ok (.bl (decide (a = x) || (decide (b = x) || decide (c = x)))) st := (f_in (ks := [a, b, c])).trans (by simp)
theorem f_nin2 {x a b : Str} {st : Store} : fNin (.str x) (.tup [.str a, .str b]) st = .ok (.bl (!(decide (a = x) || decide (b = x)))) st := (f_nin (ks := [a, b])).trans (by simp)
theorem f_nin3 {x a b c : Str} {st : Store} : fNin (.str x) (.tup [.str a, .str b, .str c]) st = .ok (.bl (!(decide (a = x) || (decide (b = x) || decide (c = x))))) st := (f_nin (ks := [a, b, c])).trans (by simp)
/-- the names of the station -/
structure NamesAt (st : Store) (n : Nat) (s : Int) : Prop where
  size : fGet 0 z_size (.ref n) st = .ok (.int s) st
  cells : fGet 0 z_cells (.ref n) st = .ok (.tup [.str z_m, .str z_n, .str z_o]) st
  outs : fGet 0 z_outs (.ref n) st = .ok (.tup [.str z_u]) st
  alarms : fGet 0 z_alarms (.ref n) st = .ok (.tup [.str z_k]) st
theorem within_ok {i s : Int} {st : Store} (h : 0 ≤ i ∧ i < s) : m_is_within [.int i, .int s] st = .ok (.bl true) st := by
  simp only [m_is_within, m_is_count, m_is_integer, fnM, outM, sSeq, sSet, sRet, sDrop, sIf, sPut, sPar, sUnp, sNx, liftE, mOp, mUn, mCall, mCons, mNil, mC, mV, mB, asB, mAnd, mOr, mNot, mAndV, mOrV, mNotV, mIf, mTup, mLst, mNew, Res.bind, List.map_cons, List.map_nil, List.length_cons, List.length_nil, List.replicate, List.cons_append, List.nil_append, List.getElem?_cons_zero, List.getElem?_cons_succ, List.set_cons_zero, List.set_cons_succ, Nat.reduceAdd, Nat.reduceSub, Nat.reduceLeDiff, if_pos, if_true, ite_true, Mi.putAll, mTru, truW, fIsK, isK, Nat.beq, Bool.not_true, Bool.not_false, Bool.false_eq_true, if_false, Bool.or_false, Bool.false_or, Bool.or_self, decide_true, decide_false, f_ge, f_lt, h.1, h.2]
def exprM (rec : List W → Store → Res W) : List W → Store → Res W := fnM 3 3
  (sSeq (sIf (mTru (mUn (fIsK 2) (mV 1))) (sRet (mOrV (mOp fEq (mV 1) (mC (.str z_it))) (mOp fIn (mV 1) (mUn (fGet 0 z_cells) (mV 0))))) (sNx))
  (sSeq (sIf (mTru (mUn (fIsK 3) (mV 1))) (sSeq (sIf (mOr (mB (mOp fNe (mCall fLen (mCons (mV 1) (mNil))) (mC (.int 3)))) (mOr (mB (mOp fNin (mOp fIx (mV 1) (mC (.int 0))) (mC (.tup [(.str z__2b), (.str z__2d), (.str z__2a)])))) (mNot (mTru (mV 2))))) (sRet (mC (.bl false))) (sNx))
  (sRet (mAndV (mCall (moreM [] rec) (mCons (mV 0) (mCons (mOp fIx (mV 1) (mC (.int 1))) (mCons (mOp fSub (mV 2) (mC (.int 1))) (mNil))))) (mCall (moreM [] rec) (mCons (mV 0) (mCons (mOp fIx (mV 1) (mC (.int 2))) (mCons (mOp fSub (mV 2) (mC (.int 1))) (mNil)))))))) (sNx))
  (sRet (mCall m_is_within (mCons (mV 1) (mCons (mUn (fGet 0 z_size) (mV 0)) (mNil)))))))
theorem expr_step {rec : List W → Store → Res W} {st : Store} {n : Nat} {s : Int} (N : NamesAt st n s) {d : Nat} (ih : ∀ a d', d = d' + 1 → Ex.fit s d' a → rec [.ref n, a.w, .int d'] st = .ok (.bl true) st) (e : Ex) (h : e.fit s d) :
    exprM rec [.ref n, e.w, .int d] st = .ok (.bl true) st := by
  cases e with
  | num i =>
    have h' : 0 ≤ i ∧ i < s := by
      unfold Ex.fit at h
      exact h
    simp only [exprM, fnM, outM, sSeq, sSet, sRet, sDrop, sIf, sPut, sPar, sUnp, sNx, liftE, mOp, mUn, mCall, mCons, mNil, mC, mV, mB, asB, mAnd, mOr, mNot, mAndV, mOrV, mNotV, mIf, mTup, mLst, mNew, Res.bind, List.map_cons, List.map_nil, List.length_cons, List.length_nil, List.replicate, List.cons_append, List.nil_append, List.getElem?_cons_zero, List.getElem?_cons_succ, List.set_cons_zero, List.set_cons_succ, Nat.reduceAdd, Nat.reduceSub, Nat.reduceLeDiff, if_pos, if_true, ite_true, Mi.putAll, mTru, truW, fIsK, isK, Nat.beq, Bool.not_true, Bool.not_false, Bool.false_eq_true, if_false, Bool.or_false, Bool.false_or, Bool.or_self, decide_true, decide_false, Ex.w, N.size, within_ok h']
  | nm k =>
    match k with
    | 0 =>
      have e1 : decide (z_m = z_it) = false := by decide +kernel
      have e2 : decide (z_m = z_m) = true := by simp
      simp only [exprM, fnM, outM, sSeq, sSet, sRet, sDrop, sIf, sPut, sPar, sUnp, sNx, liftE, mOp, mUn, mCall, mCons, mNil, mC, mV, mB, asB, mAnd, mOr, mNot, mAndV, mOrV, mNotV, mIf, mTup, mLst, mNew, Res.bind, List.map_cons, List.map_nil, List.length_cons, List.length_nil, List.replicate, List.cons_append, List.nil_append, List.getElem?_cons_zero, List.getElem?_cons_succ, List.set_cons_zero, List.set_cons_succ, Nat.reduceAdd, Nat.reduceSub, Nat.reduceLeDiff, if_pos, if_true, ite_true, Mi.putAll, mTru, truW, fIsK, isK, Nat.beq, Bool.not_true, Bool.not_false, Bool.false_eq_true, if_false, Bool.or_false, Bool.false_or, Bool.or_self, decide_true, decide_false, Ex.w, nmS, f_eqS, N.cells, e1, f_in3, e2, Bool.true_or]
    | 1 =>
      have e1 : decide (z_n = z_it) = false := by decide +kernel
      have e2 : decide (z_n = z_n) = true := by simp
      simp only [exprM, fnM, outM, sSeq, sSet, sRet, sDrop, sIf, sPut, sPar, sUnp, sNx, liftE, mOp, mUn, mCall, mCons, mNil, mC, mV, mB, asB, mAnd, mOr, mNot, mAndV, mOrV, mNotV, mIf, mTup, mLst, mNew, Res.bind, List.map_cons, List.map_nil, List.length_cons, List.length_nil, List.replicate, List.cons_append, List.nil_append, List.getElem?_cons_zero, List.getElem?_cons_succ, List.set_cons_zero, List.set_cons_succ, Nat.reduceAdd, Nat.reduceSub, Nat.reduceLeDiff, if_pos, if_true, ite_true, Mi.putAll, mTru, truW, fIsK, isK, Nat.beq, Bool.not_true, Bool.not_false, Bool.false_eq_true, if_false, Bool.or_false, Bool.false_or, Bool.or_self, decide_true, decide_false, Ex.w, nmS, f_eqS, N.cells, e1, f_in3, e2, Bool.true_or, Bool.or_true]
    | 2 =>
      have e1 : decide (z_o = z_it) = false := by decide +kernel
      have e2 : decide (z_o = z_o) = true := by simp
      simp only [exprM, fnM, outM, sSeq, sSet, sRet, sDrop, sIf, sPut, sPar, sUnp, sNx, liftE, mOp, mUn, mCall, mCons, mNil, mC, mV, mB, asB, mAnd, mOr, mNot, mAndV, mOrV, mNotV, mIf, mTup, mLst, mNew, Res.bind, List.map_cons, List.map_nil, List.length_cons, List.length_nil, List.replicate, List.cons_append, List.nil_append, List.getElem?_cons_zero, List.getElem?_cons_succ, List.set_cons_zero, List.set_cons_succ, Nat.reduceAdd, Nat.reduceSub, Nat.reduceLeDiff, if_pos, if_true, ite_true, Mi.putAll, mTru, truW, fIsK, isK, Nat.beq, Bool.not_true, Bool.not_false, Bool.false_eq_true, if_false, Bool.or_false, Bool.false_or, Bool.or_self, decide_true, decide_false, Ex.w, nmS, f_eqS, N.cells, e1, f_in3, e2, Bool.true_or, Bool.or_true]
    | 3 =>
      have e2 : decide (z_it = z_it) = true := by simp
      simp only [exprM, fnM, outM, sSeq, sSet, sRet, sDrop, sIf, sPut, sPar, sUnp, sNx, liftE, mOp, mUn, mCall, mCons, mNil, mC, mV, mB, asB, mAnd, mOr, mNot, mAndV, mOrV, mNotV, mIf, mTup, mLst, mNew, Res.bind, List.map_cons, List.map_nil, List.length_cons, List.length_nil, List.replicate, List.cons_append, List.nil_append, List.getElem?_cons_zero, List.getElem?_cons_succ, List.set_cons_zero, List.set_cons_succ, Nat.reduceAdd, Nat.reduceSub, Nat.reduceLeDiff, if_pos, if_true, ite_true, Mi.putAll, mTru, truW, fIsK, isK, Nat.beq, Bool.not_true, Bool.not_false, Bool.false_eq_true, if_false, Bool.or_false, Bool.false_or, Bool.or_self, decide_true, decide_false, Ex.w, nmS, f_eqS, e2]
  | node g a b =>
    cases d with
    | zero =>
      unfold Ex.fit at h
      exact h.elim
    | succ d' =>
      unfold Ex.fit at h
      have ea := ih a d' rfl h.1
      have eb := ih b d' rfl h.2
      have x0 : fIx (.tup [.str (sgS g), a.w, b.w]) (.int 0) st = .ok (.str (sgS g)) st := f_ixT rfl
      have x1 : fIx (.tup [.str (sgS g), a.w, b.w]) (.int 1) st = .ok a.w st := f_ixT rfl
      have x2 : fIx (.tup [.str (sgS g), a.w, b.w]) (.int 2) st = .ok b.w st := f_ixT rfl
      have sb : fSub (.int ((d' + 1 : Nat) : Int)) (.int 1) st = .ok (.int (d' : Int)) st := by
        rw [f_sub]
        exact congrArg (fun z => Res.ok (W.int z) st) (by omega)
      have sg : fNin (.str (sgS g)) (.tup [(.str z__2b), (.str z__2d), (.str z__2a)]) st = .ok (.bl false) st := by
        rw [f_nin3]
        match g with
        | 0 => simp [sgS]
        | 1 => simp [sgS]
        | 2 => simp [sgS]
      have ln : fLen [.tup [.str (sgS g), a.w, b.w]] st = .ok (.int 3) st := rfl
      have ne : fNe (.int 3) (.int 3) st = .ok (.bl false) st := by rw [f_ne]; simp
      have tr : ((((d' + 1 : Nat) : Int)) != 0) = true := by
        rw [bne_iff_ne]
        omega
      have q1 : moreM [] rec [.ref n, a.w, .int d'] st = .ok (.bl true) st := ea
      have q2 : moreM [] rec [.ref n, b.w, .int d'] st = .ok (.bl true) st := eb
      simp only [exprM, fnM, outM, sSeq, sSet, sRet, sIf, sNx, liftE, mOp, mUn, mCall, mCons, mNil, mC, mV, mB, asB, mAnd, mOr, mNot, mAndV, Res.bind, List.map_cons, List.map_nil, List.length_cons, List.length_nil, List.replicate, List.cons_append, List.nil_append, List.getElem?_cons_zero, List.getElem?_cons_succ, Nat.reduceAdd, Nat.reduceSub, if_pos, mTru, fIsK, isK, Nat.beq, Bool.not_true, Bool.not_false, Bool.false_eq_true, if_false, if_true, Ex.w, x0, x1, x2, sb, sg, ln, ne, tr, q1, q2, truW]
theorem expr_ok {st : Store} {n : Nat} {s : Int} (N : NamesAt st n s) (e : Ex) (h : e.fit s 3) : m_is_expression_4 [.ref n, e.w, .int 3] st = .ok (.bl true) st := by
  have s0 : ∀ e : Ex, e.fit s 0 → m_is_expression_1 [.ref n, e.w, .int (0 : Nat)] st = .ok (.bl true) st := fun e h => expr_step (rec := m_is_expression_0) N (fun a d' z _ => by omega) e h
  have s1 : ∀ e : Ex, e.fit s 1 → m_is_expression_2 [.ref n, e.w, .int (1 : Nat)] st = .ok (.bl true) st := fun e h => expr_step (rec := m_is_expression_1) N (fun a d' z q => by cases z; exact s0 a q) e h
  have s2 : ∀ e : Ex, e.fit s 2 → m_is_expression_3 [.ref n, e.w, .int (2 : Nat)] st = .ok (.bl true) st := fun e h => expr_step (rec := m_is_expression_2) N (fun a d' z q => by cases z; exact s1 a q) e h
  exact expr_step (rec := m_is_expression_3) N (fun a d' z q => by cases z; exact s2 a q) e h
end K08gen

namespace K08gen
open PySem PySem.Spec PyProof.Rows L2 Mi
variable [ClsMap]

theorem ok_b {a b : Bool} {st : Store} (h : a = b) : Res.ok (W.bl a) st = .ok (.bl b) st := by rw [h]
def progM (stm : List W → Store → Res W) : List W → Store → Res W := fnM 3 4
  (sSeq (sIf (mOr (mNot (mTru (mUn (fIsK 3) (mV 1)))) (mB (mOp fGt (mCall fLen (mCons (mV 1) (mNil))) (mC (.int 6))))) (sRet (mC (.bl false))) (sNx))
  (sRet (mCall fAll (mCons (mLcT [3] (setN 3) (mV 1) (yes) (mCall stm (mCons (mV 0) (mCons (mV 3) (mCons (mV 2) (mNil)))))) (mNil)))))
theorem prog_ok {stm : List W → Store → Res W} {n : W} {xs : List W} {d : W} {st : Store} (hl : xs.length ≤ 6) (h : ∀ x ∈ xs, stm [n, x, d] st = .ok (.bl true) st) : progM stm [n, .tup xs, d] st = .ok (.bl true) st := by
  obtain ⟨s2, e, hs2⟩ := lc_true (put := setN 3) (te := mCall stm (mCons (mV 0) (mCons (mV 3) (mCons (mV 2) (mNil))))) (env := wipeE [some n, some (.tup xs), some d, none] [3]) (xs := xs) (fun _ s => s = st) (Nat.le_trans hl (by decide)) (fun i x s hx hs => by
    subst hs
    refine ⟨s, ?_, rfl⟩
    have z := h x (List.mem_of_getElem? hx)
    simp only [setN, wipeE, fnM, outM, sSeq, sSet, sRet, sDrop, sIf, sPut, sPar, sUnp, sNx, liftE, mOp, mUn, mCall, mCons, mNil, mC, mV, mB, asB, mAnd, mOr, mNot, mAndV, mOrV, mNotV, mIf, mTup, mLst, mNew, Res.bind, List.map_cons, List.map_nil, List.length_cons, List.length_nil, List.replicate, List.cons_append, List.nil_append, List.getElem?_cons_zero, List.getElem?_cons_succ, List.set_cons_zero, List.set_cons_succ, Nat.reduceAdd, Nat.reduceSub, Nat.reduceLeDiff, if_pos, if_true, ite_true, Mi.putAll, mTru, truW, fIsK, isK, Nat.beq, Bool.not_true, Bool.not_false, Bool.false_eq_true, if_false, Bool.or_false, Bool.false_or, Bool.or_self, decide_true, decide_false, z]) st rfl
  rw [hs2] at e
  have e2 : lcEach (setN 3) yes (mCall stm (mCons (mV 0) (mCons (mV 3) (mCons (mV 2) (mNil))))) (wipeE [some n, some (.tup xs), some d, none] [3]) xs [] st = .ok (List.replicate xs.length (.bl true)) st := e
  have a := f_all (n := xs.length) (st := st)
  have ln : fLen [.tup xs] st = .ok (.int xs.length) st := rfl
  have g : fGt (.int (xs.length : Int)) (.int 6) st = .ok (.bl false) st := f_gt.trans (ok_b (by simp; omega))
  generalize hL : List.replicate xs.length (W.bl true) = L at *
  simp only [progM, fnM, outM, sSeq, sRet, sIf, sNx, liftE, mOp, mUn, mCall, mCons, mNil, mC, mV, mB, asB, mOr, mNot, Res.bind, List.map_cons, List.map_nil, List.length_cons, List.length_nil, List.replicate_succ, List.replicate_zero, List.cons_append, List.nil_append, List.getElem?_cons_zero, List.getElem?_cons_succ, Nat.reduceAdd, Nat.reduceSub, if_pos, mTru, truW, fIsK, isK, Nat.beq, Bool.not_true, Bool.not_false, Bool.false_eq_true, if_false, ln, g, mLcT, tupOf, e2, asLst, a]
def stmtM (br : List W → Store → Res W) : List W → Store → Res W := fnM 3 5
  (sSeq (sIf (mOr (mNot (mTru (mUn (fIsK 3) (mV 1)))) (mNot (mTru (mV 1)))) (sRet (mC (.bl false))) (sNx))
  (sSeq (sSet 3 (mOp fIx (mV 1) (mC (.int 0))))
  (sSeq (sIf (mB (mOp fIn (mV 3) (mTup (mCons (mC (.str z_if)) (mCons (mC (.str z_repeat)) (mNil)))))) (sRet (mAndV (mOp fLt (mV 2) (mC (.int 3))) (mCall br (mCons (mV 0) (mCons (mV 1) (mCons (mV 2) (mNil))))))) (sNx))
  (sSeq (sIf (mB (mOp fIn (mV 3) (mTup (mCons (mC (.str z_drop)) (mCons (mC (.str z_say)) (mNil)))))) (sRet (mAndV (mOp fEq (mCall fLen (mCons (mV 1) (mNil))) (mC (.int 2))) (mCall m_is_short (mCons (mV 0) (mCons (mV 3) (mCons (mOp fIx (mV 1) (mC (.int 1))) (mNil))))))) (sNx))
  (sSeq (sSet 4 (mCall m_named_by (mCons (mV 0) (mCons (mV 3) (mNil)))))
  (sRet (mAndV (mOp fEq (mCall fLen (mCons (mV 1) (mNil))) (mC (.int 3))) (mAndV (mOp fIn (mOp fIx (mV 1) (mC (.int 1))) (mV 4)) (mCall (moreM [.int 3] m_is_expression_4) (mCons (mV 0) (mCons (mOp fIx (mV 1) (mC (.int 2))) (mNil))))))))))))
section
variable {br : List W → Store → Res W} {n : Nat} {e f d : W} {st : Store} {s : Int}
theorem len2 {a b : W} : fLen [.tup [a, b]] st = .ok (.int 2) st := rfl
theorem len3 {a b c : W} : fLen [.tup [a, b, c]] st = .ok (.int 3) st := rfl
theorem len4 {a b c x : W} : fLen [.tup [a, b, c, x]] st = .ok (.int 4) st := rfl
theorem ix0 {a : W} {r : List W} : fIx (.tup (a :: r)) (.int 0) st = .ok a st := f_ixT (atI_nat (j := 0) rfl)
theorem ix1 {a b : W} {r : List W} : fIx (.tup (a :: b :: r)) (.int 1) st = .ok b st := f_ixT (atI_nat (j := 1) rfl)
theorem ix2 {a b c : W} {r : List W} : fIx (.tup (a :: b :: c :: r)) (.int 2) st = .ok c st := f_ixT (atI_nat (j := 2) rfl)
theorem ix3 {a b c x : W} {r : List W} : fIx (.tup (a :: b :: c :: x :: r)) (.int 3) st = .ok x st := f_ixT (atI_nat (j := 3) rfl)
theorem st_say (h : m_is_expression_4 [.ref n, e, .int 3] st = .ok (.bl true) st) : stmtM br [.ref n, .tup [.str z_say, e], d] st = .ok (.bl true) st := by
  have h1 : fIn (.str z_say) (.tup [.str z_if, .str z_repeat]) st = .ok (.bl false) st := f_in2.trans (ok_b (by decide +kernel))
  have h2 : fIn (.str z_say) (.tup [.str z_drop, .str z_say]) st = .ok (.bl true) st := f_in2.trans (ok_b (by decide +kernel))
  have h3 : fEq (.str z_say) (.str z_drop) st = .ok (.bl false) st := f_eqS.trans (ok_b (by decide +kernel))
  have h4 : fEq (.int 2) (.int 2) st = .ok (.bl true) st := f_eq.trans (ok_b (by decide))
  have h5 : moreM [.int 3] m_is_expression_4 [.ref n, e] st = .ok (.bl true) st := h
  simp only [stmtM, m_is_short, fnM, outM, sSeq, sSet, sRet, sDrop, sIf, sPut, sPar, sUnp, sNx, liftE, mOp, mUn, mCall, mCons, mNil, mC, mV, mB, asB, mAnd, mOr, mNot, mAndV, mOrV, mNotV, mIf, mTup, mLst, mNew, Res.bind, List.map_cons, List.map_nil, List.length_cons, List.length_nil, List.replicate, List.cons_append, List.nil_append, List.getElem?_cons_zero, List.getElem?_cons_succ, List.set_cons_zero, List.set_cons_succ, Nat.reduceAdd, Nat.reduceSub, Nat.reduceLeDiff, if_pos, if_true, ite_true, Mi.putAll, mTru, truW, fIsK, isK, Nat.beq, Bool.not_true, Bool.not_false, Bool.false_eq_true, if_false, Bool.or_false, Bool.false_or, Bool.or_self, decide_true, decide_false, List.isEmpty_cons, ix0, ix1, h1, h2, h3, h4, h5, len2]
theorem st_named {x y : Str} {nm : List Str} (hx : x = z_set ∨ x = z_send ∨ x = z_wait) (hn : m_named_by [.ref n, .str x] st = .ok (.tup (nm.map W.str)) st) (hy : (nm.any fun z => decide (z = y)) = true)
    (h : m_is_expression_4 [.ref n, e, .int 3] st = .ok (.bl true) st) : stmtM br [.ref n, .tup [.str x, .str y, e], d] st = .ok (.bl true) st := by
  have h1 : fIn (.str x) (.tup [.str z_if, .str z_repeat]) st = .ok (.bl false) st := f_in2.trans (ok_b (by rcases hx with rfl | rfl | rfl <;> decide +kernel))
  have h2 : fIn (.str x) (.tup [.str z_drop, .str z_say]) st = .ok (.bl false) st := f_in2.trans (ok_b (by rcases hx with rfl | rfl | rfl <;> decide +kernel))
  have h3 : fIn (.str y) (.tup (nm.map W.str)) st = .ok (.bl true) st := f_in.trans (ok_b hy)
  have h4 : fEq (.int 3) (.int 3) st = .ok (.bl true) st := f_eq.trans (ok_b (by decide))
  have h5 : moreM [.int 3] m_is_expression_4 [.ref n, e] st = .ok (.bl true) st := h
  generalize W.tup (nm.map W.str) = T at *
  simp only [stmtM, fnM, outM, sSeq, sSet, sRet, sDrop, sIf, sPut, sPar, sUnp, sNx, liftE, mOp, mUn, mCall, mCons, mNil, mC, mV, mB, asB, mAnd, mOr, mNot, mAndV, mOrV, mNotV, mIf, mTup, mLst, mNew, Res.bind, List.map_cons, List.map_nil, List.length_cons, List.length_nil, List.replicate, List.cons_append, List.nil_append, List.getElem?_cons_zero, List.getElem?_cons_succ, List.set_cons_zero, List.set_cons_succ, Nat.reduceAdd, Nat.reduceSub, Nat.reduceLeDiff, if_pos, if_true, ite_true, Mi.putAll, mTru, truW, fIsK, isK, Nat.beq, Bool.not_true, Bool.not_false, Bool.false_eq_true, if_false, Bool.or_false, Bool.false_or, Bool.or_self, decide_true, decide_false, List.isEmpty_cons, ix0, ix1, ix2, h1, h2, hn, h3, h4, h5, len3]
theorem nb_set (N : NamesAt st n s) : m_named_by [.ref n, .str z_set] st = .ok (.tup ([z_m, z_n, z_o].map W.str)) st := by
  have h1 : fEq (.str z_set) (.str z_set) st = .ok (.bl true) st := f_eqS.trans (ok_b (by simp))
  simp only [m_named_by, fnM, outM, sSeq, sSet, sRet, sDrop, sIf, sPut, sPar, sUnp, sNx, liftE, mOp, mUn, mCall, mCons, mNil, mC, mV, mB, asB, mAnd, mOr, mNot, mAndV, mOrV, mNotV, mIf, mTup, mLst, mNew, Res.bind, List.map_cons, List.map_nil, List.length_cons, List.length_nil, List.replicate, List.cons_append, List.nil_append, List.getElem?_cons_zero, List.getElem?_cons_succ, List.set_cons_zero, List.set_cons_succ, Nat.reduceAdd, Nat.reduceSub, Nat.reduceLeDiff, if_pos, if_true, ite_true, Mi.putAll, mTru, truW, fIsK, isK, Nat.beq, Bool.not_true, Bool.not_false, Bool.false_eq_true, if_false, Bool.or_false, Bool.false_or, Bool.or_self, decide_true, decide_false, h1, N.cells]
theorem nb_send (N : NamesAt st n s) : m_named_by [.ref n, .str z_send] st = .ok (.tup ([z_u].map W.str)) st := by
  have h1 : fEq (.str z_send) (.str z_set) st = .ok (.bl false) st := f_eqS.trans (ok_b (by decide +kernel))
  have h2 : fEq (.str z_send) (.str z_send) st = .ok (.bl true) st := f_eqS.trans (ok_b (by simp))
  simp only [m_named_by, fnM, outM, sSeq, sSet, sRet, sDrop, sIf, sPut, sPar, sUnp, sNx, liftE, mOp, mUn, mCall, mCons, mNil, mC, mV, mB, asB, mAnd, mOr, mNot, mAndV, mOrV, mNotV, mIf, mTup, mLst, mNew, Res.bind, List.map_cons, List.map_nil, List.length_cons, List.length_nil, List.replicate, List.cons_append, List.nil_append, List.getElem?_cons_zero, List.getElem?_cons_succ, List.set_cons_zero, List.set_cons_succ, Nat.reduceAdd, Nat.reduceSub, Nat.reduceLeDiff, if_pos, if_true, ite_true, Mi.putAll, mTru, truW, fIsK, isK, Nat.beq, Bool.not_true, Bool.not_false, Bool.false_eq_true, if_false, Bool.or_false, Bool.false_or, Bool.or_self, decide_true, decide_false, h1, h2, N.outs]
theorem nb_wait (N : NamesAt st n s) : m_named_by [.ref n, .str z_wait] st = .ok (.tup ([z_k].map W.str)) st := by
  have h1 : fEq (.str z_wait) (.str z_set) st = .ok (.bl false) st := f_eqS.trans (ok_b (by decide +kernel))
  have h2 : fEq (.str z_wait) (.str z_send) st = .ok (.bl false) st := f_eqS.trans (ok_b (by decide +kernel))
  have h3 : fEq (.str z_wait) (.str z_wait) st = .ok (.bl true) st := f_eqS.trans (ok_b (by simp))
  simp only [m_named_by, fnM, outM, sSeq, sSet, sRet, sDrop, sIf, sPut, sPar, sUnp, sNx, liftE, mOp, mUn, mCall, mCons, mNil, mC, mV, mB, asB, mAnd, mOr, mNot, mAndV, mOrV, mNotV, mIf, mTup, mLst, mNew, Res.bind, List.map_cons, List.map_nil, List.length_cons, List.length_nil, List.replicate, List.cons_append, List.nil_append, List.getElem?_cons_zero, List.getElem?_cons_succ, List.set_cons_zero, List.set_cons_succ, Nat.reduceAdd, Nat.reduceSub, Nat.reduceLeDiff, if_pos, if_true, ite_true, Mi.putAll, mTru, truW, fIsK, isK, Nat.beq, Bool.not_true, Bool.not_false, Bool.false_eq_true, if_false, Bool.or_false, Bool.false_or, Bool.or_self, decide_true, decide_false, h1, h2, h3, N.alarms]
theorem st_branch {x : Str} {r : List W} (hx : x = z_if ∨ x = z_repeat) {k : Int} (hk : k < 3) (h : br [.ref n, .tup (.str x :: r), .int k] st = .ok (.bl true) st) : stmtM br [.ref n, .tup (.str x :: r), .int k] st = .ok (.bl true) st := by
  have h1 : fIn (.str x) (.tup [.str z_if, .str z_repeat]) st = .ok (.bl true) st := f_in2.trans (ok_b (by rcases hx with rfl | rfl <;> simp))
  have h2 : fLt (.int k) (.int 3) st = .ok (.bl true) st := f_lt.trans (ok_b (by simp; omega))
  simp only [stmtM, fnM, outM, sSeq, sSet, sRet, sDrop, sIf, sPut, sPar, sUnp, sNx, liftE, mOp, mUn, mCall, mCons, mNil, mC, mV, mB, asB, mAnd, mOr, mNot, mAndV, mOrV, mNotV, mIf, mTup, mLst, mNew, Res.bind, List.map_cons, List.map_nil, List.length_cons, List.length_nil, List.replicate, List.cons_append, List.nil_append, List.getElem?_cons_zero, List.getElem?_cons_succ, List.set_cons_zero, List.set_cons_succ, Nat.reduceAdd, Nat.reduceSub, Nat.reduceLeDiff, if_pos, if_true, ite_true, Mi.putAll, mTru, truW, fIsK, isK, Nat.beq, Bool.not_true, Bool.not_false, Bool.false_eq_true, if_false, Bool.or_false, Bool.false_or, Bool.or_self, decide_true, decide_false, List.isEmpty_cons, ix0, h1, h2, h]
def branchM (pr : List W → Store → Res W) : List W → Store → Res W := fnM 3 3
  (sSeq (sIf (mB (mOp fEq (mOp fIx (mV 1) (mC (.int 0))) (mC (.str z_repeat)))) (sRet (mAndV (mOp fEq (mCall fLen (mCons (mV 1) (mNil))) (mC (.int 3))) (mAndV (mCall (moreM [.int 3] m_is_expression_4) (mCons (mV 0) (mCons (mOp fIx (mV 1) (mC (.int 1))) (mNil)))) (mCall (moreM [] pr) (mCons (mV 0) (mCons (mOp fIx (mV 1) (mC (.int 2))) (mCons (mOp fAdd (mV 2) (mC (.int 1))) (mNil)))))))) (sNx))
  (sSeq (sIf (mOr (mB (mOp fNe (mCall fLen (mCons (mV 1) (mNil))) (mC (.int 4)))) (mNot (mTru (mCall m_is_condition (mCons (mV 0) (mCons (mOp fIx (mV 1) (mC (.int 1))) (mNil))))))) (sRet (mC (.bl false))) (sNx))
  (sRet (mAndV (mCall (moreM [] pr) (mCons (mV 0) (mCons (mOp fIx (mV 1) (mC (.int 2))) (mCons (mOp fAdd (mV 2) (mC (.int 1))) (mNil))))) (mCall (moreM [] pr) (mCons (mV 0) (mCons (mOp fIx (mV 1) (mC (.int 3))) (mCons (mOp fAdd (mV 2) (mC (.int 1))) (mNil)))))))))
theorem br_rep {pr : List W → Store → Res W} {b : W} {k : Int} (h : m_is_expression_4 [.ref n, e, .int 3] st = .ok (.bl true) st) (hb : pr [.ref n, b, .int (k + 1)] st = .ok (.bl true) st) : branchM pr [.ref n, .tup [.str z_repeat, e, b], .int k] st = .ok (.bl true) st := by
  have h1 : fEq (.str z_repeat) (.str z_repeat) st = .ok (.bl true) st := f_eqS.trans (ok_b (by simp))
  have h4 : fEq (.int 3) (.int 3) st = .ok (.bl true) st := f_eq.trans (ok_b (by decide))
  have h5 : moreM [.int 3] m_is_expression_4 [.ref n, e] st = .ok (.bl true) st := h
  have h6 : moreM [] pr [.ref n, b, .int (k + 1)] st = .ok (.bl true) st := hb
  simp only [branchM, fnM, outM, sSeq, sSet, sRet, sDrop, sIf, sPut, sPar, sUnp, sNx, liftE, mOp, mUn, mCall, mCons, mNil, mC, mV, mB, asB, mAnd, mOr, mNot, mAndV, mOrV, mNotV, mIf, mTup, mLst, mNew, Res.bind, List.map_cons, List.map_nil, List.length_cons, List.length_nil, List.replicate, List.cons_append, List.nil_append, List.getElem?_cons_zero, List.getElem?_cons_succ, List.set_cons_zero, List.set_cons_succ, Nat.reduceAdd, Nat.reduceSub, Nat.reduceLeDiff, if_pos, if_true, ite_true, Mi.putAll, mTru, truW, fIsK, isK, Nat.beq, Bool.not_true, Bool.not_false, Bool.false_eq_true, if_false, Bool.or_false, Bool.false_or, Bool.or_self, decide_true, decide_false, ix0, ix1, ix2, h1, h4, h5, h6, len3, f_add]
theorem cond_ok {x : Str} (hx : x = z__3d ∨ x = z__3c) (h : m_is_expression_4 [.ref n, e, .int 3] st = .ok (.bl true) st) (h' : m_is_expression_4 [.ref n, f, .int 3] st = .ok (.bl true) st) : m_is_condition [.ref n, .tup [.str x, e, f]] st = .ok (.bl true) st := by
  have h1 : fNin (.str x) (.tup [.str z__3d, .str z__3c]) st = .ok (.bl false) st := f_nin2.trans (ok_b (by rcases hx with rfl | rfl <;> simp))
  have h4 : fEq (.int 3) (.int 3) st = .ok (.bl true) st := f_eq.trans (ok_b (by decide))
  have h5 : moreM [.int 3] m_is_expression_4 [.ref n, e] st = .ok (.bl true) st := h
  have h6 : moreM [.int 3] m_is_expression_4 [.ref n, f] st = .ok (.bl true) st := h'
  simp only [m_is_condition, m_is_tuple_of, fnM, outM, sSeq, sSet, sRet, sDrop, sIf, sPut, sPar, sUnp, sNx, liftE, mOp, mUn, mCall, mCons, mNil, mC, mV, mB, asB, mAnd, mOr, mNot, mAndV, mOrV, mNotV, mIf, mTup, mLst, mNew, Res.bind, List.map_cons, List.map_nil, List.length_cons, List.length_nil, List.replicate, List.cons_append, List.nil_append, List.getElem?_cons_zero, List.getElem?_cons_succ, List.set_cons_zero, List.set_cons_succ, Nat.reduceAdd, Nat.reduceSub, Nat.reduceLeDiff, if_pos, if_true, ite_true, Mi.putAll, mTru, truW, fIsK, isK, Nat.beq, Bool.not_true, Bool.not_false, Bool.false_eq_true, if_false, Bool.or_false, Bool.false_or, Bool.or_self, decide_true, decide_false, ix0, ix1, ix2, h1, h4, h5, h6, len3]
theorem br_if {pr : List W → Store → Res W} {c b b2 : W} {k : Int} (h : m_is_condition [.ref n, c] st = .ok (.bl true) st) (hb : pr [.ref n, b, .int (k + 1)] st = .ok (.bl true) st) (hb2 : pr [.ref n, b2, .int (k + 1)] st = .ok (.bl true) st) :
    branchM pr [.ref n, .tup [.str z_if, c, b, b2], .int k] st = .ok (.bl true) st := by
  have h1 : fEq (.str z_if) (.str z_repeat) st = .ok (.bl false) st := f_eqS.trans (ok_b (by decide +kernel))
  have h4 : fNe (.int 4) (.int 4) st = .ok (.bl false) st := f_ne.trans (ok_b (by decide))
  have h5 : moreM [] pr [.ref n, b, .int (k + 1)] st = .ok (.bl true) st := hb
  have h6 : moreM [] pr [.ref n, b2, .int (k + 1)] st = .ok (.bl true) st := hb2
  simp only [branchM, fnM, outM, sSeq, sSet, sRet, sDrop, sIf, sPut, sPar, sUnp, sNx, liftE, mOp, mUn, mCall, mCons, mNil, mC, mV, mB, asB, mAnd, mOr, mNot, mAndV, mOrV, mNotV, mIf, mTup, mLst, mNew, Res.bind, List.map_cons, List.map_nil, List.length_cons, List.length_nil, List.replicate, List.cons_append, List.nil_append, List.getElem?_cons_zero, List.getElem?_cons_succ, List.set_cons_zero, List.set_cons_succ, Nat.reduceAdd, Nat.reduceSub, Nat.reduceLeDiff, if_pos, if_true, ite_true, Mi.putAll, mTru, truW, fIsK, isK, Nat.beq, Bool.not_true, Bool.not_false, Bool.false_eq_true, if_false, Bool.or_false, Bool.false_or, Bool.or_self, decide_true, decide_false, ix0, ix1, ix2, ix3, h1, h4, h, h5, h6, len4, f_add]
end
def W.say (e : W) : W := .tup [.str z_say, e]
/-- the two programs of the law -/
def prog1 (e0 e1 e2 e3 e4 e5 : Ex) : W := .tup [.tup [.str z_say, e0.w], .tup [.str z_send, .str z_u, e1.w], .tup [.str z_wait, .str z_k, e2.w], .tup [.str z_repeat, e3.w, .tup [.tup [.str z_say, .int 1]]],
  .tup [.str z_if, .tup [.str z__3c, e4.w, e5.w], .tup [.tup [.str z_say, .int 1]], .tup [.tup [.str z_say, .int 0]]], .tup [.str z_set, .str z_m, e0.w]]
def prog2 (e1 e2 : Ex) : W := .tup [.tup [.str z_set, .str z_n, e1.w], .tup [.str z_say, .tup [.str z__2b, .str z_n, .str z_n]], .tup [.str z_if, .tup [.str z__3d, .str z_n, e2.w], .tup [.tup [.str z_say, .int 1]], .tup [.tup [.str z_say, .int 0]]]]
section
variable {n : Nat} {st : Store} {s : Int}
theorem say1_ok (N : NamesAt st n s) (hs : 2 ≤ s) {i : Int} (hi : i = 0 ∨ i = 1) : m_is_program_2 [.ref n, .tup [.tup [.str z_say, .int i]], .int (1 + 1)] st = .ok (.bl true) st := by
  refine prog_ok (stm := m_is_statement_2) (by simp) fun x hx => ?_
  rcases List.mem_singleton.mp hx with rfl
  exact st_say (br := m_is_branch_2) (expr_ok N (.num i) (by unfold Ex.fit; omega))
theorem prog1_ok (N : NamesAt st n s) (hs : 2 ≤ s) {e0 e1 e2 e3 e4 e5 : Ex} (h0 : e0.fit s 3) (h1 : e1.fit s 3) (h2 : e2.fit s 3) (h3 : e3.fit s 3) (h4 : e4.fit s 3) (h5 : e5.fit s 3) :
    m_is_program_3 [.ref n, prog1 e0 e1 e2 e3 e4 e5, .int 1] st = .ok (.bl true) st := by
  refine prog_ok (stm := m_is_statement_3) (by simp) fun x hx => ?_
  simp only [List.mem_cons, List.not_mem_nil, or_false] at hx
  rcases hx with rfl | rfl | rfl | rfl | rfl | rfl
  · exact st_say (br := m_is_branch_3) (expr_ok N e0 h0)
  · exact st_named (br := m_is_branch_3) (.inr (.inl rfl)) (nb_send N) (by simp) (expr_ok N e1 h1)
  · exact st_named (br := m_is_branch_3) (.inr (.inr rfl)) (nb_wait N) (by simp) (expr_ok N e2 h2)
  · exact st_branch (br := m_is_branch_3) (.inr rfl) (by decide) (br_rep (pr := m_is_program_2) (expr_ok N e3 h3) (say1_ok N hs (.inr rfl)))
  · exact st_branch (br := m_is_branch_3) (.inl rfl) (by decide) (br_if (pr := m_is_program_2) (cond_ok (.inr rfl) (expr_ok N e4 h4) (expr_ok N e5 h5)) (say1_ok N hs (.inr rfl)) (say1_ok N hs (.inl rfl)))
  · exact st_named (br := m_is_branch_3) (.inl rfl) (nb_set N) (by simp) (expr_ok N e0 h0)
theorem prog2_ok (N : NamesAt st n s) (hs : 2 ≤ s) {e1 e2 : Ex} (h1 : e1.fit s 3) (h2 : e2.fit s 3) : m_is_program_3 [.ref n, prog2 e1 e2, .int 1] st = .ok (.bl true) st := by
  have hn : m_is_expression_4 [.ref n, .str z_n, .int 3] st = .ok (.bl true) st := expr_ok N (.nm 1) (by unfold Ex.fit; trivial)
  refine prog_ok (stm := m_is_statement_3) (by simp) fun x hx => ?_
  simp only [List.mem_cons, List.not_mem_nil, or_false] at hx
  rcases hx with rfl | rfl | rfl
  · exact st_named (br := m_is_branch_3) (.inl rfl) (nb_set N) (by simp) (expr_ok N e1 h1)
  · exact st_say (br := m_is_branch_3) (expr_ok N (.node 0 (.nm 1) (.nm 1)) (by unfold Ex.fit Ex.fit; exact ⟨trivial, trivial⟩))
  · exact st_branch (br := m_is_branch_3) (.inl rfl) (by decide) (br_if (pr := m_is_program_2) (cond_ok (.inl rfl) hn (expr_ok N e2 h2)) (say1_ok N hs (.inr rfl)) (say1_ok N hs (.inl rfl)))
theorem prog0_ok : m_is_program_3 [.ref n, .tup [], .int 1] st = .ok (.bl true) st := prog_ok (stm := m_is_statement_3) (by simp) fun x hx => nomatch hx
end
end K08gen

namespace K08gen
open PySem PySem.Spec PyProof.Rows L2 Mi
variable [ClsMap]

/-! ### the model of the law is accepted -/
def cellsW : W := .tup [.tup [.str z_m, .int 0], .tup [.str z_n, .int 0], .tup [.str z_o, .int 0]]
def firstW (p1 p2 : W) : W := .tup [.str z_st, cellsW, .tup [.str z_x, .str z_y], .tup [.str z_u], .tup [.str z_k], .tup [.tup [], p1, p2]]
def modelW (s : Int) (p1 p2 : W) : W := .tup [.int s, .tup [firstW p1 p2], .tup [], .tup [.tup [.int 0, .str z_st, .str z_x, .int 0]]]
def namesO (s : Int) : O := .ins 0 [(z_size, .int s), (z_cells, .tup [.str z_m, .str z_n, .str z_o]), (z_outs, .tup [.str z_u]), (z_alarms, .tup [.str z_k])]
theorem names_at (s : Int) : NamesAt [namesO s] 0 s := ⟨by kernel_rfl, by kernel_rfl, by kernel_rfl, by kernel_rfl⟩
/-- the block's answers, what comes behind them -/
def envSt (s : Int) (p1 p2 : W) : En := [some (.int s), some (firstW p1 p2), some (.str z_st), some cellsW, some (.tup [.str z_x, .str z_y]), some (.tup [.str z_u]), some (.tup [.str z_k]), some (.tup [.tup [], p1, p2]), some (.lst [.str z_m, .str z_n, .str z_o, .str z_x, .str z_y, .str z_u, .str z_k]), some (.ref 0), none, none]
def blocksM : Ev W := mCall fAll (mCons (mLcT [10] (setN 10) (mV 7) (yes) (m_is_station_e2)) (mNil))
def blocksOk (s : Int) (p1 p2 : W) : Res W := blocksM (envSt s p1 p2) [namesO s]
theorem station_2 (p1 p2 : W) : m_is_station [.int 2, firstW p1 p2] [] = outM (sRet blocksM (envSt 2 p1 p2) [namesO 2]) := by kernel_rfl
theorem station_3 (p1 p2 : W) : m_is_station [.int 3, firstW p1 p2] [] = outM (sRet blocksM (envSt 3 p1 p2) [namesO 3]) := by kernel_rfl
theorem station_4 (p1 p2 : W) : m_is_station [.int 4, firstW p1 p2] [] = outM (sRet blocksM (envSt 4 p1 p2) [namesO 4]) := by kernel_rfl
theorem station_5 (p1 p2 : W) : m_is_station [.int 5, firstW p1 p2] [] = outM (sRet blocksM (envSt 5 p1 p2) [namesO 5]) := by kernel_rfl
theorem station_6 (p1 p2 : W) : m_is_station [.int 6, firstW p1 p2] [] = outM (sRet blocksM (envSt 6 p1 p2) [namesO 6]) := by kernel_rfl
theorem blocks_ok {s : Int} {p1 p2 : W} (h1 : m_is_program_3 [.ref 0, p1, .int 1] [namesO s] = .ok (.bl true) [namesO s]) (h2 : m_is_program_3 [.ref 0, p2, .int 1] [namesO s] = .ok (.bl true) [namesO s]) : blocksOk s p1 p2 = .ok (.bl true) [namesO s] := by
  have h0 : m_is_program_3 [.ref 0, .tup [], .int 1] [namesO s] = .ok (.bl true) [namesO s] := prog0_ok
  have q0 : moreM [.int 1] m_is_program_3 [.ref 0, .tup []] [namesO s] = .ok (.bl true) [namesO s] := h0
  have q1 : moreM [.int 1] m_is_program_3 [.ref 0, p1] [namesO s] = .ok (.bl true) [namesO s] := h1
  have q2 : moreM [.int 1] m_is_program_3 [.ref 0, p2] [namesO s] = .ok (.bl true) [namesO s] := h2
  have e0 : ∀ x, m_is_station_e2 (setN 10 x (wipeE (envSt s p1 p2) [10])) [namesO s] = moreM [.int 1] m_is_program_3 [.ref 0, x] [namesO s] := fun x => by kernel_rfl
  have a : fAll [.lst [.bl true, .bl true, .bl true]] [namesO s] = .ok (.bl true) [namesO s] := by kernel_rfl
  have t : mV 7 (envSt s p1 p2) [namesO s] = .ok (.tup [.tup [], p1, p2]) [namesO s] := by kernel_rfl
  have c : ∀ k : Nat, k < 3 → k < 100000 := fun k h => by omega
  simp only [blocksOk, blocksM, mCall, mCons, mNil, mLcT, t, tupOf, Res.bind, asLst, lcEach, yes, noX, e0, q0, q1, q2, List.length_nil, List.length_cons, List.nil_append, List.cons_append, List.append_eq, if_true, Nat.reduceAdd, Nat.reduceLT, show (0 : Nat) < 100000 from by decide, a]
/-- the rest of the model -/
def restOk (s : Int) (p1 p2 : W) (r : Res W) : Res W := r
theorem stations_of {s : Int} {p1 p2 : W} (h : m_is_station [.int s, firstW p1 p2] [] = .ok (.bl true) [namesO s]) : m_are_stations [.int s, .tup [firstW p1 p2]] [] = .ok (.bl true) [namesO s] := by
  have e1 : m_are_stations_e1 (setN 2 (firstW p1 p2) (wipeE [some (.int s), some (.tup [firstW p1 p2]), none] [2])) [] = .ok (.bl true) [namesO s] := h
  have e2 : m_are_stations_e2 (setN 2 (firstW p1 p2) (wipeE [some (.int s), some (.tup [firstW p1 p2]), none] [2])) [namesO s] = .ok (.str z_st) [namesO s] := by kernel_rfl
  have a : fAll [.lst [.bl true]] [namesO s] = .ok (.bl true) [namesO s] := by kernel_rfl
  have df : m_are_different [.lst [.str z_st]] [namesO s] = .ok (.bl true) [namesO s] := by kernel_rfl
  simp only [m_are_stations, fnM, outM, sSeq, sSet, sRet, sDrop, sIf, sPut, sPar, sUnp, sNx, liftE, mOp, mUn, mCall, mCons, mNil, mC, mV, mB, asB, mAnd, mOr, mNot, mAndV, mOrV, mNotV, mIf, mTup, mLst, mNew, Res.bind, List.map_cons, List.map_nil, List.length_cons, List.length_nil, List.replicate, List.cons_append, List.nil_append, List.getElem?_cons_zero, List.getElem?_cons_succ, List.set_cons_zero, List.set_cons_succ, Nat.reduceAdd, Nat.reduceSub, Nat.reduceLeDiff, if_pos, if_true, ite_true, Mi.putAll, mTru, truW, fIsK, isK, Nat.beq, Bool.not_true, Bool.not_false, Bool.false_eq_true, if_false, Bool.or_false, Bool.false_or, Bool.or_self, decide_true, decide_false, List.isEmpty_cons, mLcT, tupOf, asLst, lcEach, yes, noX, e1, e2, show (0 : Nat) < 100000 from by decide, a, df]
theorem is_model_of {s : Int} {p1 p2 : W} (hs : s = 2 ∨ s = 3 ∨ s = 4 ∨ s = 5 ∨ s = 6) (h1 : m_is_program_3 [.ref 0, p1, .int 1] [namesO s] = .ok (.bl true) [namesO s]) (h2 : m_is_program_3 [.ref 0, p2, .int 1] [namesO s] = .ok (.bl true) [namesO s]) :
    m_is_model [modelW s p1 p2] [] = .ok (.bl true) [namesO s] := by
  have hb := blocks_ok h1 h2
  have hst : m_is_station [.int s, firstW p1 p2] [] = .ok (.bl true) [namesO s] := by
    rcases hs with rfl | rfl | rfl | rfl | rfl
    · rw [station_2]; simp only [sRet, liftE, show blocksM (envSt 2 p1 p2) [namesO 2] = _ from hb, outM]
    · rw [station_3]; simp only [sRet, liftE, show blocksM (envSt 3 p1 p2) [namesO 3] = _ from hb, outM]
    · rw [station_4]; simp only [sRet, liftE, show blocksM (envSt 4 p1 p2) [namesO 4] = _ from hb, outM]
    · rw [station_5]; simp only [sRet, liftE, show blocksM (envSt 5 p1 p2) [namesO 5] = _ from hb, outM]
    · rw [station_6]; simp only [sRet, liftE, show blocksM (envSt 6 p1 p2) [namesO 6] = _ from hb, outM]
  have hss := stations_of hst
  have ln : m_are_lines [.tup [firstW p1 p2], .tup []] [namesO s] = .ok (.bl true) [namesO s] := by kernel_rfl
  have fi : m_are_first [modelW s p1 p2] [namesO s] = .ok (.bl true) [namesO s] := by
    rcases hs with rfl | rfl | rfl | rfl | rfl <;> kernel_rfl
  have it : m_is_tuple_of [modelW s p1 p2, .int 4] [] = .ok (.bl true) [] := by kernel_rfl
  have ii : m_is_integer [.int s] [] = .ok (.bl true) [] := by kernel_rfl
  have g1 : fLe (.int 2) (.int s) [] = .ok (.bl true) [] := f_le.trans (ok_b (by simp; omega))
  have g2 : fLe (.int s) (.int 6) [] = .ok (.bl true) [] := f_le.trans (ok_b (by simp; omega))
  have un : sUnp [1, 2, 3, 4] (mV 0) [some (modelW s p1 p2), none, none, none, none] [] = .go (.nx [some (modelW s p1 p2), some (.int s), some (.tup [firstW p1 p2]), some (.tup []), some (.tup [.tup [.int 0, .str z_st, .str z_x, .int 0]])]) [] := by kernel_rfl
  generalize hM : modelW s p1 p2 = M at *
  simp only [m_is_model, fnM, outM, sSeq, sSet, sRet, sDrop, sIf, sPut, sPar, sNx, liftE, mOp, mUn, mCall, mCons, mNil, mC, mV, mB, asB, mAnd, mOr, mNot, mAndV, mOrV, mNotV, mIf, mTup, mLst, mNew, Res.bind, List.map_cons, List.map_nil, List.length_cons, List.length_nil, List.replicate, List.cons_append, List.nil_append, List.getElem?_cons_zero, List.getElem?_cons_succ, List.set_cons_zero, List.set_cons_succ, Nat.reduceAdd, Nat.reduceSub, Nat.reduceLeDiff, if_pos, if_true, ite_true, Mi.putAll, mTru, truW, fIsK, isK, Nat.beq, Bool.not_true, Bool.not_false, Bool.false_eq_true, if_false, Bool.or_false, Bool.false_or, Bool.or_self, decide_true, decide_false, it, ii, mChain, g1, g2, un, List.length_cons, List.length_nil, hss, ln, fi]
end K08gen

namespace K08gen
open PySem PySem.Spec PyProof.Rows L2 Mi
variable [ClsMap]

/-! ### what the handlers do -/
def cellsK (ρ : Fin 4 → Int) : List (Key × W) := [(.inr z_m, .int (ρ 0)), (.inr z_n, .int (ρ 1)), (.inr z_o, .int (ρ 2))]
/-- the store while a handler is done -/
def S (s : Int) (ρ : Fin 4 → Int) (sends : List W) (rings : List (Key × W)) (says : List W) : Store :=
  [namesO s, .dct (cellsK ρ), .ins 1 [(z_size, .int s), (z_cells, .ref 1), (z_it, .int (ρ 3)), (z_sends, .ref 3), (z_rings, .ref 4), (z_says, .ref 5)], .lst sends, .dct rings, .lst says]
section
variable {s : Int} {ρ : Fin 4 → Int} {sends says : List W} {rings : List (Key × W)}
theorem do_at : DoAt (S s ρ sends rings says) 2 1 s ρ := ⟨by kernel_rfl, by kernel_rfl, by kernel_rfl, fun k hk => by
  match k, hk with
  | 0, _ => kernel_rfl
  | 1, _ => kernel_rfl
  | 2, _ => kernel_rfl
  | 3, h => exact absurd rfl h⟩
theorem app_says {v : W} (h : says.length < 1000) : fAppend (.ref 5) [v] (S s ρ sends rings says) = .ok .non (S s ρ sends rings (says ++ [v])) := by
  show (if says.length < 100000 then Res.ok W.non _ else .bad) = _
  rw [if_pos (by omega)]
  rfl
theorem app_sends {v : W} (h : sends.length < 1000) : fAppend (.ref 3) [v] (S s ρ sends rings says) = .ok .non (S s ρ (sends ++ [v]) rings says) := by
  show (if sends.length < 100000 then Res.ok W.non _ else .bad) = _
  rw [if_pos (by omega)]
  rfl
def stM (blk : List W → Store → Res W) : List W → Store → Res W := fnM 2 4
  (sSeq (sSet 2 (mOp fIx (mV 1) (mC (.int 0))))
  (sIf (mB (mOp fEq (mV 2) (mC (.str z_set)))) (sDPutM (mCall m_worth_of_4 (mCons (mV 0) (mCons (mOp fIx (mV 1) (mC (.int 2))) (mNil)))) (mUn (fGet 1 z_cells) (mV 0)) (mOp fIx (mV 1) (mC (.int 1)))) (sIf (mB (mOp fEq (mV 2) (mC (.str z_send)))) (sDrop (mBM fAppend (mUn (fGet 1 z_sends) (mV 0)) (mCons (mTup (mCons (mOp fIx (mV 1) (mC (.int 1))) (mCons (mCall m_worth_of_4 (mCons (mV 0) (mCons (mOp fIx (mV 1) (mC (.int 2))) (mNil)))) (mNil)))) (mNil)))) (sIf (mB (mOp fEq (mV 2) (mC (.str z_wait)))) (sDPutM (mCall m_worth_of_4 (mCons (mV 0) (mCons (mOp fIx (mV 1) (mC (.int 2))) (mNil)))) (mUn (fGet 1 z_rings) (mV 0)) (mOp fIx (mV 1) (mC (.int 1)))) (sIf (mB (mOp fEq (mV 2) (mC (.str z_drop)))) (sDPutM (mC .non) (mUn (fGet 1 z_rings) (mV 0)) (mOp fIx (mV 1) (mC (.int 1)))) (sIf (mB (mOp fEq (mV 2) (mC (.str z_say)))) (sDrop (mBM fAppend (mUn (fGet 1 z_says) (mV 0)) (mCons (mCall m_worth_of_4 (mCons (mV 0) (mCons (mOp fIx (mV 1) (mC (.int 1))) (mNil)))) (mNil)))) (sIf (mB (mOp fEq (mV 2) (mC (.str z_if)))) (sDrop (mCall blk (mCons (mV 0) (mCons (mIf (mTru (mCall m_holds (mCons (mV 0) (mCons (mOp fIx (mV 1) (mC (.int 1))) (mNil))))) (mOp fIx (mV 1) (mC (.int 2))) (mOp fIx (mV 1) (mC (.int 3)))) (mNil))))) (sForR1 (mCons (mCall m_worth_of_4 (mCons (mV 0) (mCons (mOp fIx (mV 1) (mC (.int 1))) (mNil)))) (mNil)) 3 (sDrop (mCall blk (mCons (mV 0) (mCons (mOp fIx (mV 1) (mC (.int 2))) (mNil)))))))))))))
theorem eqF {x y : Str} {st : Store} (h : decide (x = y) = false) : fEq (.str x) (.str y) st = .ok (.bl false) st := f_eqS.trans (ok_b h)
theorem eqT {x : Str} {st : Store} : fEq (.str x) (.str x) st = .ok (.bl true) st := f_eqS.trans (ok_b (by simp))
theorem is_ref {n : Nat} (h : n = 3 ∨ n = 5) : isRef (S s ρ sends rings says) (.ref n) = true := by
  rcases h with rfl | rfl <;> rfl
variable {blk : List W → Store → Res W}
theorem do_say (hs : 2 ≤ s ∧ s ≤ 6) (hρ : ∀ k, 0 ≤ ρ k ∧ ρ k < s) (hl : says.length < 1000) {e : Ex} (he : e.fit s 3) : stM blk [.ref 2, .tup [.str z_say, e.w]] (S s ρ sends rings says) = .ok .non (S s ρ sends rings (says ++ [.int (e.val ρ % s)])) := by
  have w := worth_ok (do_at (sends := sends) (says := says) (rings := rings)) hs hρ e he
  have g : fGet 1 z_says (.ref 2) (S s ρ sends rings says) = .ok (.ref 5) (S s ρ sends rings says) := by kernel_rfl
  have a := app_says (s := s) (ρ := ρ) (sends := sends) (rings := rings) (v := .int (e.val ρ % s)) hl
  have r := is_ref (s := s) (ρ := ρ) (sends := sends) (rings := rings) (says := says) (n := 5) (.inr rfl)
  generalize S s ρ sends rings says = σ at *
  have e1 := eqF (x := z_say) (y := z_set) (st := σ) (by decide +kernel)
  have e2 := eqF (x := z_say) (y := z_send) (st := σ) (by decide +kernel)
  have e3 := eqF (x := z_say) (y := z_wait) (st := σ) (by decide +kernel)
  have e4 := eqF (x := z_say) (y := z_drop) (st := σ) (by decide +kernel)
  have e5 := eqT (x := z_say) (st := σ)
  simp only [stM, fnM, outM, sSeq, sSet, sRet, sDrop, sIf, sPut, sPar, sUnp, sNx, liftE, mOp, mUn, mCall, mCons, mNil, mC, mV, mB, asB, mAnd, mOr, mNot, mAndV, mOrV, mNotV, mIf, mTup, mLst, mNew, Res.bind, List.map_cons, List.map_nil, List.length_cons, List.length_nil, List.replicate, List.cons_append, List.nil_append, List.getElem?_cons_zero, List.getElem?_cons_succ, List.set_cons_zero, List.set_cons_succ, Nat.reduceAdd, Nat.reduceSub, Nat.reduceLeDiff, if_pos, if_true, ite_true, Mi.putAll, mTru, truW, fIsK, isK, Nat.beq, Bool.not_true, Bool.not_false, Bool.false_eq_true, if_false, Bool.or_false, Bool.false_or, Bool.or_self, decide_true, decide_false, ix0, ix1, e1, e2, e3, e4, e5, mBM, g, r, w, a]
theorem do_send (hs : 2 ≤ s ∧ s ≤ 6) (hρ : ∀ k, 0 ≤ ρ k ∧ ρ k < s) (hl : sends.length < 1000) {e : Ex} (he : e.fit s 3) : stM blk [.ref 2, .tup [.str z_send, .str z_u, e.w]] (S s ρ sends rings says) = .ok .non (S s ρ (sends ++ [.tup [.str z_u, .int (e.val ρ % s)]]) rings says) := by
  have w := worth_ok (do_at (sends := sends) (says := says) (rings := rings)) hs hρ e he
  have g : fGet 1 z_sends (.ref 2) (S s ρ sends rings says) = .ok (.ref 3) (S s ρ sends rings says) := by kernel_rfl
  have a := app_sends (s := s) (ρ := ρ) (says := says) (rings := rings) (v := .tup [.str z_u, .int (e.val ρ % s)]) hl
  have r := is_ref (s := s) (ρ := ρ) (sends := sends) (rings := rings) (says := says) (n := 3) (.inl rfl)
  generalize S s ρ sends rings says = σ at *
  have e1 := eqF (x := z_send) (y := z_set) (st := σ) (by decide +kernel)
  have e2 := eqT (x := z_send) (st := σ)
  simp only [stM, fnM, outM, sSeq, sSet, sRet, sDrop, sIf, sPut, sPar, sUnp, sNx, liftE, mOp, mUn, mCall, mCons, mNil, mC, mV, mB, asB, mAnd, mOr, mNot, mAndV, mOrV, mNotV, mIf, mTup, mLst, mNew, Res.bind, List.map_cons, List.map_nil, List.length_cons, List.length_nil, List.replicate, List.cons_append, List.nil_append, List.getElem?_cons_zero, List.getElem?_cons_succ, List.set_cons_zero, List.set_cons_succ, Nat.reduceAdd, Nat.reduceSub, Nat.reduceLeDiff, if_pos, if_true, ite_true, Mi.putAll, mTru, truW, fIsK, isK, Nat.beq, Bool.not_true, Bool.not_false, Bool.false_eq_true, if_false, Bool.or_false, Bool.false_or, Bool.or_self, decide_true, decide_false, ix0, ix1, ix2, e1, e2, mBM, g, r, w, a]
theorem do_wait (hs : 2 ≤ s ∧ s ≤ 6) (hρ : ∀ k, 0 ≤ ρ k ∧ ρ k < s) {e : Ex} (he : e.fit s 3) : stM blk [.ref 2, .tup [.str z_wait, .str z_k, e.w]] (S s ρ sends [] says) = .ok .non (S s ρ sends [(.inr z_k, .int (e.val ρ % s))] says) := by
  have w := worth_ok (do_at (sends := sends) (says := says) (rings := [])) hs hρ e he
  have g : fGet 1 z_rings (.ref 2) (S s ρ sends [] says) = .ok (.ref 4) (S s ρ sends [] says) := by kernel_rfl
  have a : putD (.ref 4) (.str z_k) (.int (e.val ρ % s)) (S s ρ sends [] says) = some (S s ρ sends [(.inr z_k, .int (e.val ρ % s))] says) := by kernel_rfl
  generalize S s ρ sends [] says = σ at *
  have e1 := eqF (x := z_wait) (y := z_set) (st := σ) (by decide +kernel)
  have e2 := eqF (x := z_wait) (y := z_send) (st := σ) (by decide +kernel)
  have e3 := eqT (x := z_wait) (st := σ)
  simp only [stM, fnM, outM, sSeq, sSet, sRet, sDrop, sIf, sPut, sPar, sUnp, sNx, liftE, mOp, mUn, mCall, mCons, mNil, mC, mV, mB, asB, mAnd, mOr, mNot, mAndV, mOrV, mNotV, mIf, mTup, mLst, mNew, Res.bind, List.map_cons, List.map_nil, List.length_cons, List.length_nil, List.replicate, List.cons_append, List.nil_append, List.getElem?_cons_zero, List.getElem?_cons_succ, List.set_cons_zero, List.set_cons_succ, Nat.reduceAdd, Nat.reduceSub, Nat.reduceLeDiff, if_pos, if_true, ite_true, Mi.putAll, mTru, truW, fIsK, isK, Nat.beq, Bool.not_true, Bool.not_false, Bool.false_eq_true, if_false, Bool.or_false, Bool.false_or, Bool.or_self, decide_true, decide_false, ix0, ix1, ix2, e1, e2, e3, sDPutM, g, w, a]
def upd4 (ρ : Fin 4 → Int) (k : Fin 4) (v : Int) : Fin 4 → Int := fun j => if j = k then v else ρ j
theorem do_set (hs : 2 ≤ s ∧ s ≤ 6) (hρ : ∀ k, 0 ≤ ρ k ∧ ρ k < s) {k : Fin 4} (hk : k = 0 ∨ k = 1) {e : Ex} (he : e.fit s 3) : stM blk [.ref 2, .tup [.str z_set, .str (nmS k), e.w]] (S s ρ sends rings says) = .ok .non (S s (upd4 ρ k (e.val ρ % s)) sends rings says) := by
  have w := worth_ok (do_at (sends := sends) (says := says) (rings := rings)) hs hρ e he
  have g : fGet 1 z_cells (.ref 2) (S s ρ sends rings says) = .ok (.ref 1) (S s ρ sends rings says) := by kernel_rfl
  have a : putD (.ref 1) (.str (nmS k)) (.int (e.val ρ % s)) (S s ρ sends rings says) = some (S s (upd4 ρ k (e.val ρ % s)) sends rings says) := by
    rcases hk with rfl | rfl
    · kernel_rfl
    · kernel_rfl
  generalize S s ρ sends rings says = σ at *
  have e1 := eqT (x := z_set) (st := σ)
  simp only [stM, fnM, outM, sSeq, sSet, sRet, sDrop, sIf, sPut, sPar, sUnp, sNx, liftE, mOp, mUn, mCall, mCons, mNil, mC, mV, mB, asB, mAnd, mOr, mNot, mAndV, mOrV, mNotV, mIf, mTup, mLst, mNew, Res.bind, List.map_cons, List.map_nil, List.length_cons, List.length_nil, List.replicate, List.cons_append, List.nil_append, List.getElem?_cons_zero, List.getElem?_cons_succ, List.set_cons_zero, List.set_cons_succ, Nat.reduceAdd, Nat.reduceSub, Nat.reduceLeDiff, if_pos, if_true, ite_true, Mi.putAll, mTru, truW, fIsK, isK, Nat.beq, Bool.not_true, Bool.not_false, Bool.false_eq_true, if_false, Bool.or_false, Bool.false_or, Bool.or_self, decide_true, decide_false, ix0, ix1, ix2, e1, sDPutM, g, w, a]
def blockM (stm : List W → Store → Res W) : List W → Store → Res W := fnM 2 3 (sForT (mV 1) (setN 2) (sDrop (mCall stm (mCons (mV 0) (mCons (mV 2) (mNil))))))
inductive Runs (stm : List W → Store → Res W) (n : W) : List W → Store → Store → Prop
  | nil {σ : Store} : Runs stm n [] σ σ
  | cons {x w : W} {xs : List W} {σ σ1 σ2 : Store} : stm [n, x] σ = .ok w σ1 → Runs stm n xs σ1 σ2 → Runs stm n (x :: xs) σ σ2
theorem runs_ok {stm : List W → Store → Res W} {n : W} {xs : List W} {σ σ2 : Store} (h : Runs stm n xs σ σ2) : blockM stm [n, .tup xs] σ = .ok .non σ2 := by
  have go : ∀ (ys : List W) (σ σ2 : Store) (v : Option W), Runs stm n ys σ σ2 → ∃ v2, forEach (sDrop (mCall stm (mCons (mV 0) (mCons (mV 2) (mNil))))) (setN 2) ys [some n, some (.tup xs), v] σ = .go (.nx [some n, some (.tup xs), v2]) σ2 := by
    intro ys σ σ2 v r
    induction r generalizing v with
    | nil => exact ⟨v, rfl⟩
    | @cons x w ys σ σ1 σ2 h1 _ ih =>
      obtain ⟨v2, e⟩ := ih (some x)
      refine ⟨v2, ?_⟩
      have hb : (sDrop (mCall stm (mCons (mV 0) (mCons (mV 2) (mNil))))) (setN 2 x [some n, some (.tup xs), v]) σ = .go (.nx [some n, some (.tup xs), some x]) σ1 := by simp only [setN, fnM, outM, sSeq, sSet, sRet, sDrop, sIf, sPut, sPar, sUnp, sNx, liftE, mOp, mUn, mCall, mCons, mNil, mC, mV, mB, asB, mAnd, mOr, mNot, mAndV, mOrV, mNotV, mIf, mTup, mLst, mNew, Res.bind, List.map_cons, List.map_nil, List.length_cons, List.length_nil, List.replicate, List.cons_append, List.nil_append, List.getElem?_cons_zero, List.getElem?_cons_succ, List.set_cons_zero, List.set_cons_succ, Nat.reduceAdd, Nat.reduceSub, Nat.reduceLeDiff, if_pos, if_true, ite_true, Mi.putAll, mTru, truW, fIsK, isK, Nat.beq, Bool.not_true, Bool.not_false, Bool.false_eq_true, if_false, Bool.or_false, Bool.false_or, Bool.or_self, decide_true, decide_false, h1]
      unfold forEach
      rw [hb]
      exact e
  obtain ⟨v2, e⟩ := go xs σ σ2 none h
  simp only [blockM, fnM, outM, sForT, liftE, mV, tupOf, List.map_cons, List.map_nil, List.length_cons, List.length_nil, Nat.reduceAdd, Nat.reduceSub, List.replicate_succ, List.replicate_zero, List.cons_append, List.nil_append, List.getElem?_cons_zero, List.getElem?_cons_succ, if_pos, e]
theorem blk_say (hs : 2 ≤ s ∧ s ≤ 6) (hρ : ∀ k, 0 ≤ ρ k ∧ ρ k < s) (hl : says.length < 1000) {i : Int} (hi : i = 0 ∨ i = 1) : m_do_block_2 [.ref 2, .tup [.tup [.str z_say, .int i]]] (S s ρ sends rings says) = .ok .non (S s ρ sends rings (says ++ [.int i])) := by
  have e : i % s = i := Int.emod_eq_of_lt (by omega) (by omega)
  have z := do_say (blk := m_do_block_1) (sends := sends) (rings := rings) hs hρ hl (e := .num i) (by unfold Ex.fit; omega)
  have z2 : m_do_statement_2 [.ref 2, .tup [.str z_say, .int i]] (S s ρ sends rings says) = .ok .non (S s ρ sends rings (says ++ [.int (i % s)])) := z
  rw [e] at z2
  exact runs_ok (stm := m_do_statement_2) (.cons z2 .nil)
theorem do_if (hs : 2 ≤ s ∧ s ≤ 6) (hρ : ∀ k, 0 ≤ ρ k ∧ ρ k < s) (hl : says.length < 1000) {e f : Ex} (he : e.fit s 3) (hf : f.fit s 3) {x : Str} {t : Int → Int → Bool} (hx : (x = z__3d ∧ t = fun a b => decide (a = b)) ∨ (x = z__3c ∧ t = fun a b => decide (a < b))) :
    m_do_statement_3 [.ref 2, .tup [.str z_if, .tup [.str x, e.w, f.w], .tup [.tup [.str z_say, .int 1]], .tup [.tup [.str z_say, .int 0]]]] (S s ρ sends rings says) = .ok .non (S s ρ sends rings (says ++ [.int (if t (e.val ρ % s) (f.val ρ % s) = true then 1 else 0)])) := by
  have w := worth_ok (do_at (sends := sends) (says := says) (rings := rings)) hs hρ e he
  have w2 := worth_ok (do_at (sends := sends) (says := says) (rings := rings)) hs hρ f hf
  have b1 := blk_say (sends := sends) (rings := rings) hs hρ hl (i := 1) (.inr rfl)
  have b0 := blk_say (sends := sends) (rings := rings) hs hρ hl (i := 0) (.inl rfl)
  generalize S s ρ sends rings says = σ at *
  have ho : m_holds [.ref 2, .tup [.str x, e.w, f.w]] σ = .ok (.bl (t (e.val ρ % s) (f.val ρ % s))) σ := by
    rcases hx with ⟨rfl, rfl⟩ | ⟨rfl, rfl⟩
    · have e1 := eqT (x := z__3d) (st := σ)
      simp only [m_holds, fnM, outM, sSeq, sSet, sRet, sDrop, sIf, sPut, sPar, sUnp, sNx, liftE, mOp, mUn, mCall, mCons, mNil, mC, mV, mB, asB, mAnd, mOr, mNot, mAndV, mOrV, mNotV, mIf, mTup, mLst, mNew, Res.bind, List.map_cons, List.map_nil, List.length_cons, List.length_nil, List.replicate, List.cons_append, List.nil_append, List.getElem?_cons_zero, List.getElem?_cons_succ, List.set_cons_zero, List.set_cons_succ, Nat.reduceAdd, Nat.reduceSub, Nat.reduceLeDiff, if_pos, if_true, ite_true, Mi.putAll, mTru, truW, fIsK, isK, Nat.beq, Bool.not_true, Bool.not_false, Bool.false_eq_true, if_false, Bool.or_false, Bool.false_or, Bool.or_self, decide_true, decide_false, ix0, ix1, ix2, w, w2, e1, f_eq]
    · have e1 := eqF (x := z__3c) (y := z__3d) (st := σ) (by decide +kernel)
      simp only [m_holds, fnM, outM, sSeq, sSet, sRet, sDrop, sIf, sPut, sPar, sUnp, sNx, liftE, mOp, mUn, mCall, mCons, mNil, mC, mV, mB, asB, mAnd, mOr, mNot, mAndV, mOrV, mNotV, mIf, mTup, mLst, mNew, Res.bind, List.map_cons, List.map_nil, List.length_cons, List.length_nil, List.replicate, List.cons_append, List.nil_append, List.getElem?_cons_zero, List.getElem?_cons_succ, List.set_cons_zero, List.set_cons_succ, Nat.reduceAdd, Nat.reduceSub, Nat.reduceLeDiff, if_pos, if_true, ite_true, Mi.putAll, mTru, truW, fIsK, isK, Nat.beq, Bool.not_true, Bool.not_false, Bool.false_eq_true, if_false, Bool.or_false, Bool.false_or, Bool.or_self, decide_true, decide_false, ix0, ix1, ix2, w, w2, e1, f_lt]
  have e1 := eqF (x := z_if) (y := z_set) (st := σ) (by decide +kernel)
  have e2 := eqF (x := z_if) (y := z_send) (st := σ) (by decide +kernel)
  have e3 := eqF (x := z_if) (y := z_wait) (st := σ) (by decide +kernel)
  have e4 := eqF (x := z_if) (y := z_drop) (st := σ) (by decide +kernel)
  have e5 := eqF (x := z_if) (y := z_say) (st := σ) (by decide +kernel)
  have e6 := eqT (x := z_if) (st := σ)
  show stM m_do_block_2 _ σ = _
  cases q : t (e.val ρ % s) (f.val ρ % s) with
  | true =>
    rw [q] at ho
    simp only [stM, fnM, outM, sSeq, sSet, sRet, sDrop, sIf, sPut, sPar, sUnp, sNx, liftE, mOp, mUn, mCall, mCons, mNil, mC, mV, mB, asB, mAnd, mOr, mNot, mAndV, mOrV, mNotV, mIf, mTup, mLst, mNew, Res.bind, List.map_cons, List.map_nil, List.length_cons, List.length_nil, List.replicate, List.cons_append, List.nil_append, List.getElem?_cons_zero, List.getElem?_cons_succ, List.set_cons_zero, List.set_cons_succ, Nat.reduceAdd, Nat.reduceSub, Nat.reduceLeDiff, if_pos, if_true, ite_true, Mi.putAll, mTru, truW, fIsK, isK, Nat.beq, Bool.not_true, Bool.not_false, Bool.false_eq_true, if_false, Bool.or_false, Bool.false_or, Bool.or_self, decide_true, decide_false, ix0, ix1, ix2, ix3, e1, e2, e3, e4, e5, e6, ho, b1]
  | false =>
    rw [q] at ho
    simp only [stM, fnM, outM, sSeq, sSet, sRet, sDrop, sIf, sPut, sPar, sUnp, sNx, liftE, mOp, mUn, mCall, mCons, mNil, mC, mV, mB, asB, mAnd, mOr, mNot, mAndV, mOrV, mNotV, mIf, mTup, mLst, mNew, Res.bind, List.map_cons, List.map_nil, List.length_cons, List.length_nil, List.replicate, List.cons_append, List.nil_append, List.getElem?_cons_zero, List.getElem?_cons_succ, List.set_cons_zero, List.set_cons_succ, Nat.reduceAdd, Nat.reduceSub, Nat.reduceLeDiff, if_pos, if_true, ite_true, Mi.putAll, mTru, truW, fIsK, isK, Nat.beq, Bool.not_true, Bool.not_false, Bool.false_eq_true, if_false, Bool.or_false, Bool.false_or, Bool.or_self, decide_true, decide_false, ix0, ix1, ix2, ix3, e1, e2, e3, e4, e5, e6, ho, b0]
theorem do_rep (hs : 2 ≤ s ∧ s ≤ 6) (hρ : ∀ k, 0 ≤ ρ k ∧ ρ k < s) (hl : says.length < 900) {e : Ex} (he : e.fit s 3) :
    m_do_statement_3 [.ref 2, .tup [.str z_repeat, e.w, .tup [.tup [.str z_say, .int 1]]]] (S s ρ sends rings says) = .ok .non (S s ρ sends rings (says ++ List.replicate (e.val ρ % s).toNat (.int 1))) := by
  have w := worth_ok (do_at (sends := sends) (says := says) (rings := rings)) hs hρ e he
  have m1 := Int.emod_nonneg (e.val ρ) (show s ≠ 0 by omega)
  have m2 := Int.emod_lt_of_pos (e.val ρ) (show 0 < s by omega)
  generalize hv : e.val ρ % s = v at *
  obtain ⟨e9, s9, ef, e10, v3, e11⟩ := forEach_inv (xs := rngW 0 v.toNat) (put := fun x e => e.set 3 (some x)) (body := m_do_statement_3_b1)
    (fun i env σ => σ = S s ρ sends rings (says ++ List.replicate i (.int 1)) ∧ ∃ v3, env = [some (.ref 2), some (.tup [.str z_repeat, e.w, .tup [.tup [.str z_say, .int 1]]]), some (.str z_repeat), v3])
    (fun i x env σ hx hI => by
      obtain ⟨rfl, v3, rfl⟩ := hI
      have hi : i < v.toNat := by
        have z := (List.getElem?_eq_some_iff.mp hx).1
        rw [rngW_len] at z
        exact z
      have b := blk_say (sends := sends) (rings := rings) (says := says ++ List.replicate i (.int 1)) hs hρ (by rw [List.length_append, List.length_replicate]; omega) (i := 1) (.inr rfl)
      have er : says ++ List.replicate i (W.int 1) ++ [.int 1] = says ++ List.replicate (i + 1) (.int 1) := by rw [List.append_assoc, List.replicate_succ']
      rw [er] at b
      refine ⟨[some (.ref 2), some (.tup [.str z_repeat, e.w, .tup [.tup [.str z_say, .int 1]]]), some (.str z_repeat), some x], _, ?_, rfl, some x, rfl⟩
      simp only [m_do_statement_3_b1, fnM, outM, sSeq, sSet, sRet, sDrop, sIf, sPut, sPar, sUnp, sNx, liftE, mOp, mUn, mCall, mCons, mNil, mC, mV, mB, asB, mAnd, mOr, mNot, mAndV, mOrV, mNotV, mIf, mTup, mLst, mNew, Res.bind, List.map_cons, List.map_nil, List.length_cons, List.length_nil, List.replicate, List.cons_append, List.nil_append, List.getElem?_cons_zero, List.getElem?_cons_succ, List.set_cons_zero, List.set_cons_succ, Nat.reduceAdd, Nat.reduceSub, Nat.reduceLeDiff, if_pos, if_true, ite_true, Mi.putAll, mTru, truW, fIsK, isK, Nat.beq, Bool.not_true, Bool.not_false, Bool.false_eq_true, if_false, Bool.or_false, Bool.false_or, Bool.or_self, decide_true, decide_false, ix2, b]) [some (.ref 2), some (.tup [.str z_repeat, e.w, .tup [.tup [.str z_say, .int 1]]]), some (.str z_repeat), none] (S s ρ sends rings says) ⟨by simp, _, rfl⟩
  rw [rngW_len] at e10
  subst e10 e11
  generalize hS : S s ρ sends rings says = σ at *
  have e1 := eqF (x := z_repeat) (y := z_set) (st := σ) (by decide +kernel)
  have e2 := eqF (x := z_repeat) (y := z_send) (st := σ) (by decide +kernel)
  have e3 := eqF (x := z_repeat) (y := z_wait) (st := σ) (by decide +kernel)
  have e4 := eqF (x := z_repeat) (y := z_drop) (st := σ) (by decide +kernel)
  have e5 := eqF (x := z_repeat) (y := z_say) (st := σ) (by decide +kernel)
  have e6 := eqF (x := z_repeat) (y := z_if) (st := σ) (by decide +kernel)
  have bd : -(2 ^ 62) ≤ v ∧ v < 2 ^ 62 := by omega
  simp only [m_do_statement_3, fnM, outM, sSeq, sSet, sRet, sDrop, sIf, sPut, sPar, sUnp, sNx, liftE, mOp, mUn, mCall, mCons, mNil, mC, mV, mB, asB, mAnd, mOr, mNot, mAndV, mOrV, mNotV, mIf, mTup, mLst, mNew, Res.bind, List.map_cons, List.map_nil, List.length_cons, List.length_nil, List.replicate, List.cons_append, List.nil_append, List.getElem?_cons_zero, List.getElem?_cons_succ, List.set_cons_zero, List.set_cons_succ, Nat.reduceAdd, Nat.reduceSub, Nat.reduceLeDiff, if_pos, if_true, ite_true, Mi.putAll, mTru, truW, fIsK, isK, Nat.beq, Bool.not_true, Bool.not_false, Bool.false_eq_true, if_false, Bool.or_false, Bool.false_or, Bool.or_self, decide_true, decide_false, ix0, ix1, e1, e2, e3, e4, e5, e6, sForR1, w, as1, bd, and_self, ef]
end
end K08gen

namespace K08gen
open PySem PySem.Spec PyProof.Rows L2 Mi
variable [ClsMap]

def handleR : Sm := sSeq (sSet 7 (mCall fTuple (mCons (mLcT [9] (setN 9) (mOp fIx (mV 1) (mC (.int 1))) (yes) (m_handle_e3)) (mNil))))
  (sSeq (sSet 8 (mCall fTuple (mCons (mLcT [11] (setN 11) (mOp fIx (mV 1) (mC (.int 4))) (m_handle_t1) (m_handle_e4)) (mNil))))
  (sRet (mTup (mCons (mV 7) (mCons (mCall fTuple (mCons (mUn (fGet 1 z_sends) (mV 6)) (mNil))) (mCons (mV 8) (mCons (mCall fTuple (mCons (mUn (fGet 1 z_says) (mV 6)) (mNil))) (mNil))))))))
def worthsW (ρ : Fin 4 → Int) : W := .tup [.int (ρ 0), .int (ρ 1), .int (ρ 2)]
def envH (s : Int) (ρ : Fin 4 → Int) (p1 p2 : W) (r : Int) : En := [some (.int s), some (firstW p1 p2), some (worthsW ρ), some (.int r), some (.int (ρ 3)), some (.ref 1), some (.ref 2), none, none, none, none, none]
def blkM : Ev W := mCall m_do_block_3 (mCons (mV 6) (mCons (mOp fIx (mOp fIx (mV 1) (mC (.int 5))) (mV 3)) (mNil)))
section
variable {s : Int} {ρ : Fin 4 → Int} {p1 p2 : W}
theorem handle_1 : m_handle [.int s, firstW p1 p2, worthsW ρ, .int 1, .int (ρ 3)] [namesO s] = outM (sSeq (sDrop blkM) handleR (envH s ρ p1 p2 1) (S s ρ [] [] [])) := by kernel_rfl
theorem handle_2 : m_handle [.int s, firstW p1 p2, worthsW ρ, .int 2, .int (ρ 3)] [namesO s] = outM (sSeq (sDrop blkM) handleR (envH s ρ p1 p2 2) (S s ρ [] [] [])) := by kernel_rfl
/-- what is told, of what stands in the end -/
def toldW (ρ : Fin 4 → Int) (sends : List W) (rings : List W) (says : List W) : W := .tup [worthsW ρ, .tup sends, .tup rings, .tup says]
theorem tail_k {r v : Int} {ρ' : Fin 4 → Int} {sends says : List W} : outM (handleR (envH s ρ p1 p2 r) (S s ρ' sends [(.inr z_k, .int v)] says)) = .ok (toldW ρ' sends [.tup [.str z_k, .int v]] says) (S s ρ' sends [(.inr z_k, .int v)] says) := by kernel_rfl
theorem tail_0 {r : Int} {ρ' : Fin 4 → Int} {sends says : List W} : outM (handleR (envH s ρ p1 p2 r) (S s ρ' sends [] says)) = .ok (toldW ρ' sends [] says) (S s ρ' sends [] says) := by kernel_rfl
theorem handle_of1 {ρ' : Fin 4 → Int} {sends says : List W} {v : Int} (h : m_do_block_3 [.ref 2, p1] (S s ρ [] [] []) = .ok .non (S s ρ' sends [(.inr z_k, .int v)] says)) :
    m_handle [.int s, firstW p1 p2, worthsW ρ, .int 1, .int (ρ 3)] [namesO s] = .ok (toldW ρ' sends [.tup [.str z_k, .int v]] says) (S s ρ' sends [(.inr z_k, .int v)] says) := by
  have b : blkM (envH s ρ p1 p2 1) (S s ρ [] [] []) = m_do_block_3 [.ref 2, p1] (S s ρ [] [] []) := by kernel_rfl
  rw [handle_1]
  simp only [sSeq, sDrop, liftE, b, h]
  exact tail_k
theorem handle_of2 {ρ' : Fin 4 → Int} {sends says : List W} (h : m_do_block_3 [.ref 2, p2] (S s ρ [] [] []) = .ok .non (S s ρ' sends [] says)) :
    m_handle [.int s, firstW p1 p2, worthsW ρ, .int 2, .int (ρ 3)] [namesO s] = .ok (toldW ρ' sends [] says) (S s ρ' sends [] says) := by
  have b : blkM (envH s ρ p1 p2 2) (S s ρ [] [] []) = m_do_block_3 [.ref 2, p2] (S s ρ [] [] []) := by kernel_rfl
  rw [handle_2]
  simp only [sSeq, sDrop, liftE, b, h]
  exact tail_0
theorem handled_of {x : Str} {r : Int} {t : W} {σ : Store} (hs : 2 ≤ s ∧ s ≤ 6) (hρ : ∀ k, 0 ≤ ρ k ∧ ρ k < s) (hm : m_is_model [modelW s p1 p2] [] = .ok (.bl true) [namesO s]) (hr : (x = z_x ∧ r = 1) ∨ (x = z_y ∧ r = 2))
    (h : m_handle [.int s, firstW p1 p2, worthsW ρ, .int r, .int (ρ 3)] [namesO s] = .ok t σ) : m_handled [modelW s p1 p2, .str z_st, worthsW ρ, .str x, .int (ρ 3)] [] = .ok t σ := by
  have po : m_place_of [modelW s p1 p2, .str z_st] [namesO s] = .ok (.int 0) [namesO s] := by kernel_rfl
  have pl : m_place_in [modelW s p1 p2, .str z_st] [] = .ok (.int 0) [namesO s] := by simp only [m_place_in, m_require_model, fnM, outM, sSeq, sSet, sRet, sDrop, sIf, sPut, sPar, sUnp, sNx, liftE, mOp, mUn, mCall, mCons, mNil, mC, mV, mB, asB, mAnd, mOr, mNot, mAndV, mOrV, mNotV, mIf, mTup, mLst, mNew, Res.bind, List.map_cons, List.map_nil, List.length_cons, List.length_nil, List.replicate, List.cons_append, List.nil_append, List.getElem?_cons_zero, List.getElem?_cons_succ, List.set_cons_zero, List.set_cons_succ, Nat.reduceAdd, Nat.reduceSub, Nat.reduceLeDiff, if_pos, if_true, ite_true, Mi.putAll, mTru, truW, fIsK, isK, Nat.beq, Bool.not_true, Bool.not_false, Bool.false_eq_true, if_false, Bool.or_false, Bool.false_or, Bool.or_self, decide_true, decide_false, hm, po]
  have x0 : fIx (modelW s p1 p2) (.int 0) [namesO s] = .ok (.int s) [namesO s] := by kernel_rfl
  have x1 : fIx (modelW s p1 p2) (.int 1) [namesO s] = .ok (.tup [firstW p1 p2]) [namesO s] := by kernel_rfl
  have x2 : fIx (.tup [firstW p1 p2]) (.int 0) [namesO s] = .ok (firstW p1 p2) [namesO s] := by kernel_rfl
  have wi : ∀ k, m_is_within [.int (ρ k), .int s] [namesO s] = .ok (.bl true) [namesO s] := fun k => within_ok (hρ k)
  have cw : fIx (firstW p1 p2) (.int 1) [namesO s] = .ok cellsW [namesO s] := by kernel_rfl
  have lw : fLen [cellsW] [namesO s] = .ok (.int 3) [namesO s] := by kernel_rfl
  have tw : m_is_tuple_of [worthsW ρ, .int 3] [namesO s] = .ok (.bl true) [namesO s] := by kernel_rfl
  have e1 : ∀ y, m_are_worths_e1 (setN 3 y (wipeE [some (.int s), some (firstW p1 p2), some (worthsW ρ), none] [3])) [namesO s] = m_is_within [y, .int s] [namesO s] := fun y => by kernel_rfl
  have a3 : fAll [.lst [.bl true, .bl true, .bl true]] [namesO s] = .ok (.bl true) [namesO s] := by kernel_rfl
  have tu : tupOf (worthsW ρ) = some [.int (ρ 0), .int (ρ 1), .int (ρ 2)] := rfl
  have aw : m_are_worths [.int s, firstW p1 p2, worthsW ρ] [namesO s] = .ok (.bl true) [namesO s] := by
    generalize hW : worthsW ρ = Y at *
    simp only [m_are_worths, fnM, outM, sSeq, sSet, sRet, sDrop, sIf, sPut, sPar, sUnp, sNx, liftE, mOp, mUn, mCall, mCons, mNil, mC, mV, mB, asB, mAnd, mOr, mNot, mAndV, mOrV, mNotV, mIf, mTup, mLst, mNew, Res.bind, List.map_cons, List.map_nil, List.length_cons, List.length_nil, List.replicate, List.cons_append, List.nil_append, List.getElem?_cons_zero, List.getElem?_cons_succ, List.set_cons_zero, List.set_cons_succ, Nat.reduceAdd, Nat.reduceSub, Nat.reduceLeDiff, if_pos, if_true, ite_true, Mi.putAll, mTru, truW, fIsK, isK, Nat.beq, Bool.not_true, Bool.not_false, Bool.false_eq_true, if_false, Bool.or_false, Bool.false_or, Bool.or_self, decide_true, decide_false, cw, lw, tw, mLcT, tu, asLst, lcEach, yes, noX, e1, wi, List.append_eq, show (0 : Nat) < 100000 from by decide, show (1 : Nat) < 100000 from by decide, show (2 : Nat) < 100000 from by decide, a3]
  have fr : m_find_rank [firstW p1 p2, .str x] [namesO s] = .ok (.int r) [namesO s] := by
    rcases hr with ⟨rfl, rfl⟩ | ⟨rfl, rfl⟩
    · kernel_rfl
    · kernel_rfl
  have al : m_is_alarm [firstW p1 p2, .int r] [namesO s] = .ok (.bl false) [namesO s] := by
    rcases hr with ⟨rfl, rfl⟩ | ⟨rfl, rfl⟩
    · kernel_rfl
    · kernel_rfl
  have mb : m_may_be_it [.int s, firstW p1 p2, .int r, .int (ρ 3)] [namesO s] = .ok (.bl true) [namesO s] := by simp only [m_may_be_it, fnM, outM, sSeq, sSet, sRet, sDrop, sIf, sPut, sPar, sUnp, sNx, liftE, mOp, mUn, mCall, mCons, mNil, mC, mV, mB, asB, mAnd, mOr, mNot, mAndV, mOrV, mNotV, mIf, mTup, mLst, mNew, Res.bind, List.map_cons, List.map_nil, List.length_cons, List.length_nil, List.replicate, List.cons_append, List.nil_append, List.getElem?_cons_zero, List.getElem?_cons_succ, List.set_cons_zero, List.set_cons_succ, Nat.reduceAdd, Nat.reduceSub, Nat.reduceLeDiff, if_pos, if_true, ite_true, Mi.putAll, mTru, truW, fIsK, isK, Nat.beq, Bool.not_true, Bool.not_false, Bool.false_eq_true, if_false, Bool.or_false, Bool.false_or, Bool.or_self, decide_true, decide_false, al, wi]
  have nn : fIs (.int r) .non [namesO s] = .ok (.bl false) [namesO s] := by kernel_rfl
  generalize hM : modelW s p1 p2 = M at *
  simp only [m_handled, fnM, outM, sSeq, sSet, sRet, sDrop, sIf, sPut, sPar, sUnp, sNx, liftE, mOp, mUn, mCall, mCons, mNil, mC, mV, mB, asB, mAnd, mOr, mNot, mAndV, mOrV, mNotV, mIf, mTup, mLst, mNew, Res.bind, List.map_cons, List.map_nil, List.length_cons, List.length_nil, List.replicate, List.cons_append, List.nil_append, List.getElem?_cons_zero, List.getElem?_cons_succ, List.set_cons_zero, List.set_cons_succ, Nat.reduceAdd, Nat.reduceSub, Nat.reduceLeDiff, if_pos, if_true, ite_true, Mi.putAll, mTru, truW, fIsK, isK, Nat.beq, Bool.not_true, Bool.not_false, Bool.false_eq_true, if_false, Bool.or_false, Bool.false_or, Bool.or_self, decide_true, decide_false, pl, x0, x1, x2, aw, fr, nn, mb, h]
end
section
variable {s : Int} {ρ : Fin 4 → Int}
def stmts1 (e0 e1 e2 e3 e4 e5 : Ex) : List W := [.tup [.str z_say, e0.w], .tup [.str z_send, .str z_u, e1.w], .tup [.str z_wait, .str z_k, e2.w], .tup [.str z_repeat, e3.w, .tup [.tup [.str z_say, .int 1]]],
  .tup [.str z_if, .tup [.str z__3c, e4.w, e5.w], .tup [.tup [.str z_say, .int 1]], .tup [.tup [.str z_say, .int 0]]], .tup [.str z_set, .str z_m, e0.w]]
theorem handled_x (hs : 2 ≤ s ∧ s ≤ 6) (hρ : ∀ k, 0 ≤ ρ k ∧ ρ k < s) {e0 e1 e2 e3 e4 e5 : Ex} (h0 : e0.fit s 3) (h1 : e1.fit s 3) (h2 : e2.fit s 3) (h3 : e3.fit s 3) (h4 : e4.fit s 3) (h5 : e5.fit s 3) :
    ∃ σ, m_handled [modelW s (prog1 e0 e1 e2 e3 e4 e5) (prog2 e1 e2), .str z_st, worthsW ρ, .str z_x, .int (ρ 3)] [] = .ok (.tup [.tup [.int (e0.val ρ % s), .int (ρ 1), .int (ρ 2)], .tup [.tup [.str z_u, .int (e1.val ρ % s)]], .tup [.tup [.str z_k, .int (e2.val ρ % s)]],
      .tup ([.int (e0.val ρ % s)] ++ List.replicate (e3.val ρ % s).toNat (.int 1) ++ [.int (if decide (e4.val ρ % s < e5.val ρ % s) = true then 1 else 0)])]) σ := by
  have hm := is_model_of (by omega) (prog1_ok (names_at s) hs.1 h0 h1 h2 h3 h4 h5) (prog2_ok (names_at s) hs.1 h1 h2)
  have m1 := Int.emod_nonneg (e3.val ρ) (show s ≠ 0 by omega)
  have m2 := Int.emod_lt_of_pos (e3.val ρ) (show 0 < s by omega)
  have hb : m_do_block_3 [.ref 2, prog1 e0 e1 e2 e3 e4 e5] (S s ρ [] [] []) = .ok .non (S s (upd4 ρ 0 (e0.val ρ % s)) ([] ++ [.tup [.str z_u, .int (e1.val ρ % s)]]) [(.inr z_k, .int (e2.val ρ % s))]
      ([] ++ [.int (e0.val ρ % s)] ++ List.replicate (e3.val ρ % s).toNat (.int 1) ++ [.int (if decide (e4.val ρ % s < e5.val ρ % s) = true then 1 else 0)])) := by
    refine runs_ok (stm := m_do_statement_3) ?_
    refine .cons (do_say (blk := m_do_block_2) hs hρ (by decide) h0) ?_
    refine .cons (do_send (blk := m_do_block_2) hs hρ (by decide) h1) ?_
    refine .cons (do_wait (blk := m_do_block_2) hs hρ h2) ?_
    refine .cons (do_rep hs hρ (by simp) h3) ?_
    refine .cons (do_if hs hρ (by simp only [List.length_append, List.length_replicate, List.length_cons, List.length_nil]; omega) h4 h5 (.inr ⟨rfl, rfl⟩)) ?_
    refine .cons (do_set (blk := m_do_block_2) hs hρ (k := 0) (.inl rfl) h0) ?_
    exact .nil
  exact ⟨_, handled_of hs hρ hm (.inl ⟨rfl, rfl⟩) (handle_of1 (p2 := prog2 e1 e2) hb)⟩
theorem upd_fit {k : Fin 4} {v : Int} (hρ : ∀ k, 0 ≤ ρ k ∧ ρ k < s) (hv : 0 ≤ v ∧ v < s) : ∀ j, 0 ≤ upd4 ρ k v j ∧ upd4 ρ k v j < s := fun j => by
  unfold upd4
  by_cases h : j = k
  · rw [if_pos h]
    exact hv
  · rw [if_neg h]
    exact hρ j
theorem handled_y (hs : 2 ≤ s ∧ s ≤ 6) (hρ : ∀ k, 0 ≤ ρ k ∧ ρ k < s) {e0 e1 e2 e3 e4 e5 : Ex} (h0 : e0.fit s 3) (h1 : e1.fit s 3) (h2 : e2.fit s 3) (h3 : e3.fit s 3) (h4 : e4.fit s 3) (h5 : e5.fit s 3) :
    ∃ σ, m_handled [modelW s (prog1 e0 e1 e2 e3 e4 e5) (prog2 e1 e2), .str z_st, worthsW ρ, .str z_y, .int (ρ 3)] [] = .ok (.tup [.tup [.int (ρ 0), .int (e1.val ρ % s), .int (ρ 2)], .tup [], .tup [],
      .tup [.int ((e1.val ρ % s + e1.val ρ % s) % s), .int (if decide (e1.val ρ % s = e2.val (upd4 ρ 1 (e1.val ρ % s)) % s) = true then 1 else 0)]]) σ := by
  have hm := is_model_of (by omega) (prog1_ok (names_at s) hs.1 h0 h1 h2 h3 h4 h5) (prog2_ok (names_at s) hs.1 h1 h2)
  have m1 := Int.emod_nonneg (e1.val ρ) (show s ≠ 0 by omega)
  have m2 := Int.emod_lt_of_pos (e1.val ρ) (show 0 < s by omega)
  have hρ' := upd_fit (k := 1) hρ ⟨m1, m2⟩
  have ee : (e1.val ρ % s) % s = e1.val ρ % s := Int.emod_emod_of_dvd _ (Int.dvd_refl s)
  have hb : m_do_block_3 [.ref 2, prog2 e1 e2] (S s ρ [] [] []) = .ok .non (S s (upd4 ρ 1 (e1.val ρ % s)) [] [] ([] ++ [.int ((Ex.node 0 (.nm 1) (.nm 1)).val (upd4 ρ 1 (e1.val ρ % s)) % s)] ++ [.int (if decide ((Ex.nm 1).val (upd4 ρ 1 (e1.val ρ % s)) % s = e2.val (upd4 ρ 1 (e1.val ρ % s)) % s) = true then 1 else 0)])) := by
    refine runs_ok (stm := m_do_statement_3) ?_
    refine .cons (do_set (blk := m_do_block_2) hs hρ (k := 1) (.inr rfl) h1) ?_
    refine .cons (do_say (blk := m_do_block_2) hs hρ' (by decide) (e := .node 0 (.nm 1) (.nm 1)) (by unfold Ex.fit Ex.fit; exact ⟨trivial, trivial⟩)) ?_
    refine .cons (do_if hs hρ' (by simp) (e := .nm 1) (f := e2) (by unfold Ex.fit; trivial) h2 (.inl ⟨rfl, rfl⟩)) ?_
    exact .nil
  have z := handled_of hs hρ hm (.inr ⟨rfl, rfl⟩) (handle_of2 (p1 := prog1 e0 e1 e2 e3 e4 e5) hb)
  have e3' : (Ex.nm 1).val (upd4 ρ 1 (e1.val ρ % s)) = e1.val ρ % s := rfl
  have e4' : (Ex.node 0 (.nm 1) (.nm 1)).val (upd4 ρ 1 (e1.val ρ % s)) = e1.val ρ % s + e1.val ρ % s := rfl
  rw [e3', e4', ee] at z
  exact ⟨_, z⟩
end
end K08gen

set_option exponentiation.threshold 5000
namespace K08gen
open PySem PySem.Spec PyProof.Rows L2 Mi
variable [ClsMap]

/-! ### small things have a text -/
inductive Tiny : Nat → W → Prop
  | int {k : Nat} {i : Int} : i.natAbs < 100 → Tiny k (.int i)
  | str {k : Nat} {x : Str} : x.cps.size ≤ 8 → (x.cps.toList.all fun c => decide (c < 16 ^ 8)) = true → Tiny k (.str x)
  | tup {k : Nat} {xs : List W} : xs.length ≤ 20 → (∀ x ∈ xs, Tiny k x) → Tiny (k + 1) (.tup xs)
def wt : Nat → Nat
  | 0 => 8
  | k + 1 => 20 * (wt k + 1)
structure Shows (d : PyData) (k : Nat) : Prop where
  sh : d.showable = true
  nd : d.hasDict = false
  dp : d.depth ≤ k
  ls : d.leavesShort 13 = true
  wt : d.weight ≤ wt k
theorem wt_le : ∀ k, 8 ≤ wt k
  | 0 => Nat.le_refl _
  | k + 1 => by
    have := wt_le k
    unfold wt
    omega
theorem shows_int {k : Nat} {i : Int} (h : i.natAbs < 100) : Shows (.int i) k := by
  refine ⟨?_, rfl, Nat.zero_le _, ?_, ?_⟩
  · have z : i.natAbs.log2 < 64 := log_lt (k := 64) (by decide) (by omega)
    unfold PyData.showable
    exact decide_eq_true (by omega)
  · unfold PyData.leavesShort
    exact decide_eq_true (PyData.shown_int_le (by omega))
  · have z : i.natAbs.log2 < 7 := log_lt (k := 7) (by decide) (by omega)
    have z2 := wt_le k
    unfold PyData.weight
    split <;> omega
theorem shows_str {k : Nat} {x : Str} (h : x.cps.size ≤ 8) (h2 : (x.cps.toList.all fun c => decide (c < 16 ^ 8)) = true) : Shows (.str x) k := by
  refine ⟨rfl, rfl, Nat.zero_le _, ?_, ?_⟩
  · unfold PyData.leavesShort
    exact h2
  · have z2 := wt_le k
    unfold PyData.weight
    omega
theorem shows_all {k : Nat} : ∀ ds : List PyData, (∀ d ∈ ds, Shows d k) → PyData.showableAll ds = true ∧ PyData.hasDictAll ds = false ∧ PyData.depthAll ds ≤ k ∧ PyData.leavesShortAll 13 ds = true ∧ PyData.weightAll ds ≤ ds.length * (wt k + 1)
  | [], _ => ⟨rfl, rfl, Nat.zero_le _, rfl, Nat.zero_le _⟩
  | d :: ds, h => by
    have h1 := h d List.mem_cons_self
    obtain ⟨a1, a2, a3, a4, a5⟩ := shows_all ds fun x hx => h x (List.mem_cons_of_mem _ hx)
    have w1 := h1.wt
    have d1 := h1.dp
    refine ⟨by simp only [PyData.showableAll, h1.sh, a1, Bool.and_self], by simp only [PyData.hasDictAll, h1.nd, a2, Bool.or_self], ?_, by simp only [PyData.leavesShortAll, h1.ls, a4, Bool.and_self], ?_⟩
    · simp only [PyData.depthAll]
      omega
    · simp only [PyData.weightAll, List.length_cons, Nat.add_mul, Nat.one_mul]
      omega
theorem tiny_data : ∀ (k : Nat) (w : W), Tiny k w → ∃ d, w.toD = some d ∧ Shows d k := by
  intro k
  induction k with
  | zero =>
    intro w h
    cases h with
    | int h => exact ⟨_, rfl, shows_int h⟩
    | str h h2 => exact ⟨_, rfl, shows_str h h2⟩
  | succ k ih =>
    intro w h
    cases h with
    | int h => exact ⟨_, rfl, shows_int h⟩
    | str h h2 => exact ⟨_, rfl, shows_str h h2⟩
    | tup hl h =>
      rename_i xs
      have go : ∀ ys : List W, (∀ x ∈ ys, Tiny k x) → ∃ ds, toDs ys = some ds ∧ ds.length = ys.length ∧ ∀ d ∈ ds, Shows d k := by
        intro ys
        induction ys with
        | nil => exact fun _ => ⟨[], rfl, rfl, fun d hd => nomatch hd⟩
        | cons y ys ih2 =>
          intro hy
          obtain ⟨d, e, s⟩ := ih y (hy y List.mem_cons_self)
          obtain ⟨ds, e2, l2, s2⟩ := ih2 fun x hx => hy x (List.mem_cons_of_mem _ hx)
          refine ⟨d :: ds, by simp only [toDs, e, e2], by simp [l2], fun z hz => ?_⟩
          rcases List.mem_cons.mp hz with rfl | hz
          · exact s
          · exact s2 z hz
      obtain ⟨ds, e, l, s⟩ := go xs h
      obtain ⟨a1, a2, a3, a4, a5⟩ := shows_all ds s
      refine ⟨.tuple ds, ?_, ⟨?_, ?_, ?_, ?_, ?_⟩⟩
      · unfold W.toD
        rw [e]
        rfl
      · simpa only [PyData.showable] using a1
      · simpa only [PyData.hasDict] using a2
      · simp only [PyData.depth]
        omega
      · simpa only [PyData.leavesShort] using a4
      · simp only [PyData.weight, wt]
        exact Nat.le_trans a5 (Nat.mul_le_mul_right _ (by omega))
theorem tiny_repr {w : W} (h : Tiny 3 w) : ∃ t, ∀ st, fRepr [w] st = .ok (.str t) st := by
  obtain ⟨d, e, s⟩ := tiny_data 3 w h
  have hs := s.wt
  have fits : d.shown.length ≤ sizeLine := PyData.shown_fits (B := 13) (by decide) (by decide) s.ls (Nat.le_trans hs (by decide))
  have c : cRepr d = true := by
    unfold cRepr
    rw [s.sh, s.nd, decide_eq_true (Nat.le_trans s.dp (by decide)), decide_eq_true fits]
    rfl
  refine ⟨d.shown, fun st => ?_⟩
  unfold fRepr
  dsimp only
  rw [e]
  exact if_pos c

/-! ### comprehensions whose values are drawn -/
theorem lc_ex {put : W → En → En} {te : Ev W} {env : En} {xs : List W} (P : Nat → W → W → Prop) (I : Nat → Store → Prop) (hn : xs.length ≤ 1000)
    (h : ∀ i x st, xs[i]? = some x → I i st → ∃ y s2, te (put x env) st = .ok y s2 ∧ P i x y ∧ I (i + 1) s2) (st : Store) (h0 : I 0 st) :
    ∃ ys s2, lcEach put yes te env xs [] st = .ok ys s2 ∧ ys.length = xs.length ∧ (∀ (i : Nat) x y, xs[i]? = some x → ys[i]? = some y → P i x y) ∧ I xs.length s2 := by
  have go : ∀ (zs : List W) (k : Nat) (acc : List W) (st : Store), (∀ i, zs[i]? = xs[k + i]?) → k + zs.length = xs.length → acc.length = k → (∀ (i : Nat) x y, xs[i]? = some x → acc[i]? = some y → P i x y) → I k st →
      ∃ ys s2, lcEach put yes te env zs acc st = .ok ys s2 ∧ ys.length = xs.length ∧ (∀ (i : Nat) x y, xs[i]? = some x → ys[i]? = some y → P i x y) ∧ I xs.length s2 := by
    intro zs
    induction zs with
    | nil =>
      intro k acc st _ hl ha hP hI
      have e : k = xs.length := by simpa using hl
      subst e
      exact ⟨acc, st, rfl, ha, hP, hI⟩
    | cons z zs ih =>
      intro k acc st hz hl ha hP hI
      have hk : xs[k]? = some z := by
        have q := hz 0
        simpa using q.symm
      obtain ⟨y, s2, e, p, hI2⟩ := h k z st hk hI
      have hlen : acc.length < 100000 := by
        rw [List.length_cons] at hl
        omega
      obtain ⟨ys, s3, e3, r⟩ := ih (k + 1) (acc ++ [y]) s2 (fun i => by
        have q := hz (i + 1)
        rw [List.getElem?_cons_succ] at q
        rw [q]
        congr 1
        omega) (by rw [List.length_cons] at hl; omega) (by rw [List.length_append, ha]; rfl) (fun i x w hx hw => by
        by_cases c : i < acc.length
        · rw [List.getElem?_append_left c] at hw
          exact hP i x w hx hw
        · by_cases c2 : i = k
          · subst c2
            rw [List.getElem?_append_right (by omega), ha, Nat.sub_self] at hw
            rw [hk] at hx
            cases hx
            cases hw
            exact p
          · rw [List.getElem?_eq_none (by rw [List.length_append, List.length_singleton]; omega)] at hw
            cases hw) hI2
      refine ⟨ys, s3, ?_, r⟩
      unfold lcEach
      simp only [yes, noX, Res.bind, if_true, e, if_pos hlen]
      exact e3
  exact go xs 0 [] st (fun i => by rw [Nat.zero_add]) (by simp) rfl (fun i x y _ hy => by simp at hy) h0

/-! ### the law's own expressions -/
theorem of_ok {st : Store} {p : Nat} {c : Int} {xs : List W} (h : Pot st p c) (hc : c ≤ 1000000) (hn : 1 ≤ xs.length) (hn2 : xs.length ≤ 10000) :
    Got (m_l_of [.ref p, .lst xs] st) fun w st' => w ∈ xs ∧ Fr p st st' ∧ Pot st' p (c + 1) := by
  obtain ⟨w, s1, e, ⟨d, rfl, h0, h1⟩, f, pt⟩ := take_ok (n := (xs.length : Int)) h hc (by omega) (by omega)
  have hd : d.toNat < xs.length := by omega
  have ed : d = ((d.toNat : Nat) : Int) := by omega
  have ha : atI xs d = some xs[d.toNat] := by
    have z := atI_nat (List.getElem?_eq_getElem hd)
    rw [← ed] at z
    exact z
  refine ⟨xs[d.toNat], s1, ?_, List.getElem_mem hd, f, pt⟩
  simp only [m_l_of, fnM, outM, sSeq, sSet, sRet, sDrop, sIf, sPut, sPar, sUnp, sNx, liftE, mOp, mUn, mCall, mCons, mNil, mC, mV, mB, asB, mAnd, mOr, mNot, mAndV, mOrV, mNotV, mIf, mTup, mLst, mNew, Res.bind, List.map_cons, List.map_nil, List.length_cons, List.length_nil, List.replicate, List.cons_append, List.nil_append, List.getElem?_cons_zero, List.getElem?_cons_succ, List.set_cons_zero, List.set_cons_succ, Nat.reduceAdd, Nat.reduceSub, Nat.reduceLeDiff, if_pos, if_true, ite_true, Mi.putAll, mTru, truW, fIsK, isK, Nat.beq, Bool.not_true, Bool.not_false, Bool.false_eq_true, if_false, Bool.or_false, Bool.false_or, Bool.or_self, decide_true, decide_false, f_lenV, e, f_ixV ha]
def namesL : W := .lst [.str z_m, .str z_n, .str z_o, .str z_it]
def sumM (rec : List W → Store → Res W) : List W → Store → Res W := fnM 4 5
  (sSeq (sIf (mOr (mB (mOp fEq (mV 3) (mC (.int 0)))) (mB (mOp fEq (mCall m_l_take (mCons (mV 0) (mCons (mC (.int 4)) (mNil)))) (mC (.int 0))))) (sRet (mIf (mB (mOp fGt (mCall m_l_take (mCons (mV 0) (mCons (mC (.int 3)) (mNil)))) (mC (.int 0)))) (mCall m_l_of (mCons (mV 0) (mCons (mV 1) (mNil)))) (mCall m_l_take (mCons (mV 0) (mCons (mV 2) (mNil)))))) (sNx))
  (sSeq (sSet 4 (mCall m_l_of (mCons (mV 0) (mCons (mLst (mCons (mC (.str z__2b)) (mCons (mC (.str z__2d)) (mCons (mC (.str z__2a)) (mNil))))) (mNil)))))
  (sRet (mTup (mCons (mV 4) (mCons (mCall rec (mCons (mV 0) (mCons (mV 1) (mCons (mV 2) (mCons (mOp fSub (mV 3) (mC (.int 1))) (mNil)))))) (mCons (mCall rec (mCons (mV 0) (mCons (mV 1) (mCons (mV 2) (mCons (mOp fSub (mV 3) (mC (.int 1))) (mNil)))))) (mNil))))))))
def Drawn (s : Int) (d : Nat) (p : Nat) (st : Store) (c : Int) (w : W) (st' : Store) : Prop := (∃ e : Ex, w = e.w ∧ e.fit s d) ∧ Fr p st st' ∧ Pot st' p (c + 4 ^ (d + 1))
theorem leaf_ok {st : Store} {p : Nat} {c s : Int} {d : Nat} (h : Pot st p c) (hc : c ≤ 900000) (hs : 2 ≤ s ∧ s ≤ 6) :
    Got (mIf (mB (mOp fGt (mCall m_l_take (mCons (mV 0) (mCons (mC (.int 3)) (mNil)))) (mC (.int 0)))) (mCall m_l_of (mCons (mV 0) (mCons (mV 1) (mNil)))) (mCall m_l_take (mCons (mV 0) (mCons (mV 2) (mNil)))) [some (.ref p), some namesL, some (.int s), some (.int d), none] st)
      fun w st' => (∃ e : Ex, w = e.w ∧ e.fit s d) ∧ Fr p st st' ∧ Pot st' p (c + 2) := by
  obtain ⟨w1, s1, e1, ⟨x, rfl, x1, x2⟩, f1, p1⟩ := take_ok (n := 3) h (by omega) (by decide) (by decide)
  by_cases hx : 0 < x
  · obtain ⟨w2, s2, e2, hm, f2, p2⟩ := of_ok (xs := [.str z_m, .str z_n, .str z_o, .str z_it]) p1 (by omega) (by simp) (by simp)
    refine ⟨w2, s2, ?_, ?_, f1.trans f2, p2.mono (by omega)⟩
    · simp only [namesL, fnM, outM, sSeq, sSet, sRet, sDrop, sIf, sPut, sPar, sUnp, sNx, liftE, mOp, mUn, mCall, mCons, mNil, mC, mV, mB, asB, mAnd, mOr, mNot, mAndV, mOrV, mNotV, mIf, mTup, mLst, mNew, Res.bind, List.map_cons, List.map_nil, List.length_cons, List.length_nil, List.replicate, List.cons_append, List.nil_append, List.getElem?_cons_zero, List.getElem?_cons_succ, List.set_cons_zero, List.set_cons_succ, Nat.reduceAdd, Nat.reduceSub, Nat.reduceLeDiff, if_pos, if_true, ite_true, Mi.putAll, mTru, truW, fIsK, isK, Nat.beq, Bool.not_true, Bool.not_false, Bool.false_eq_true, if_false, Bool.or_false, Bool.false_or, Bool.or_self, decide_true, decide_false, e1, f_gt, decide_eq_true hx, e2]
    · simp only [List.mem_cons, List.not_mem_nil, or_false] at hm
      rcases hm with rfl | rfl | rfl | rfl
      · exact ⟨.nm 0, rfl, by unfold Ex.fit; trivial⟩
      · exact ⟨.nm 1, rfl, by unfold Ex.fit; trivial⟩
      · exact ⟨.nm 2, rfl, by unfold Ex.fit; trivial⟩
      · exact ⟨.nm 3, rfl, by unfold Ex.fit; trivial⟩
  · obtain ⟨w2, s2, e2, ⟨y, rfl, y1, y2⟩, f2, p2⟩ := take_ok (n := s) p1 (by omega) (by omega) (by omega)
    refine ⟨.int y, s2, ?_, ⟨.num y, rfl, by unfold Ex.fit; exact ⟨y1, y2⟩⟩, f1.trans f2, p2.mono (by omega)⟩
    simp only [namesL, fnM, outM, sSeq, sSet, sRet, sDrop, sIf, sPut, sPar, sUnp, sNx, liftE, mOp, mUn, mCall, mCons, mNil, mC, mV, mB, asB, mAnd, mOr, mNot, mAndV, mOrV, mNotV, mIf, mTup, mLst, mNew, Res.bind, List.map_cons, List.map_nil, List.length_cons, List.length_nil, List.replicate, List.cons_append, List.nil_append, List.getElem?_cons_zero, List.getElem?_cons_succ, List.set_cons_zero, List.set_cons_succ, Nat.reduceAdd, Nat.reduceSub, Nat.reduceLeDiff, if_pos, if_true, ite_true, Mi.putAll, mTru, truW, fIsK, isK, Nat.beq, Bool.not_true, Bool.not_false, Bool.false_eq_true, if_false, Bool.or_false, Bool.false_or, Bool.or_self, decide_true, decide_false, e1, f_gt, decide_eq_false hx, e2]
theorem sum_step {rec : List W → Store → Res W} {p : Nat} {s : Int} (hs : 2 ≤ s ∧ s ≤ 6) {B : Int} (hB : B ≤ 780000) {d : Nat} (hd : d ≤ 3)
    (ih : ∀ d', d = d' + 1 → ∀ st c, Pot st p c → c ≤ B + 300 → Got (rec [.ref p, namesL, .int s, .int d'] st) (Drawn s d' p st c)) {st : Store} {c : Int} (h : Pot st p c) (hc : c ≤ B) : Got (sumM rec [.ref p, namesL, .int s, .int d] st) (Drawn s d p st c) := by
  cases d with
  | zero =>
    have z0 : fEq (.int ((0 : Nat) : Int)) (.int 0) st = .ok (.bl true) st := f_eq.trans (ok_b (by simp))
    obtain ⟨w, s2, e, he, f, q⟩ := leaf_ok (d := 0) h (by omega) hs
    refine ⟨w, s2, ?_, he, f, q.mono (by simp)⟩
    generalize hm : mIf (mB (mOp fGt (mCall m_l_take (mCons (mV 0) (mCons (mC (.int 3)) (mNil)))) (mC (.int 0)))) (mCall m_l_of (mCons (mV 0) (mCons (mV 1) (mNil)))) (mCall m_l_take (mCons (mV 0) (mCons (mV 2) (mNil)))) = leaf at e
    unfold sumM
    rw [hm]
    simp only [fnM, outM, sSeq, sSet, sRet, sDrop, sIf, sPut, sPar, sUnp, sNx, liftE, mOp, mUn, mCall, mCons, mNil, mC, mV, mB, asB, mAnd, mOr, mNot, mAndV, mOrV, mNotV, mIf, mTup, mLst, mNew, Res.bind, List.map_cons, List.map_nil, List.length_cons, List.length_nil, List.replicate, List.cons_append, List.nil_append, List.getElem?_cons_zero, List.getElem?_cons_succ, List.set_cons_zero, List.set_cons_succ, Nat.reduceAdd, Nat.reduceSub, Nat.reduceLeDiff, if_pos, if_true, ite_true, Mi.putAll, mTru, truW, fIsK, isK, Nat.beq, Bool.not_true, Bool.not_false, Bool.false_eq_true, if_false, Bool.or_false, Bool.false_or, Bool.or_self, decide_true, decide_false, z0, e]
  | succ d' =>
    have z0 : fEq (.int ((d' + 1 : Nat) : Int)) (.int 0) st = .ok (.bl false) st := f_eq.trans (ok_b (by simp; omega))
    obtain ⟨w1, s1, e1, ⟨x, rfl, x1, x2⟩, f1, p1⟩ := take_ok (n := 4) h (by omega) (by decide) (by decide)
    by_cases hx : x = 0
    · subst hx
      have z1 : fEq (.int 0) (.int 0) s1 = .ok (.bl true) s1 := f_eq.trans (ok_b (by simp))
      obtain ⟨w, s2, e, he, f, q⟩ := leaf_ok (d := d' + 1) p1 (by omega) hs
      refine ⟨w, s2, ?_, he, f1.trans f, q.mono ?_⟩
      · generalize hm : mIf (mB (mOp fGt (mCall m_l_take (mCons (mV 0) (mCons (mC (.int 3)) (mNil)))) (mC (.int 0)))) (mCall m_l_of (mCons (mV 0) (mCons (mV 1) (mNil)))) (mCall m_l_take (mCons (mV 0) (mCons (mV 2) (mNil)))) = leaf at e
        unfold sumM
        rw [hm]
        simp only [fnM, outM, sSeq, sSet, sRet, sDrop, sIf, sPut, sPar, sUnp, sNx, liftE, mOp, mUn, mCall, mCons, mNil, mC, mV, mB, asB, mAnd, mOr, mNot, mAndV, mOrV, mNotV, mIf, mTup, mLst, mNew, Res.bind, List.map_cons, List.map_nil, List.length_cons, List.length_nil, List.replicate, List.cons_append, List.nil_append, List.getElem?_cons_zero, List.getElem?_cons_succ, List.set_cons_zero, List.set_cons_succ, Nat.reduceAdd, Nat.reduceSub, Nat.reduceLeDiff, if_pos, if_true, ite_true, Mi.putAll, mTru, truW, fIsK, isK, Nat.beq, Bool.not_true, Bool.not_false, Bool.false_eq_true, if_false, Bool.or_false, Bool.false_or, Bool.or_self, decide_true, decide_false, z0, e1, z1, e]
      · have : (1 : Int) ≤ 4 ^ (d' + 1) := by
          have h3 : d' = 0 ∨ d' = 1 ∨ d' = 2 := by omega
          rcases h3 with rfl | rfl | rfl <;> decide
        rw [Int.pow_succ]
        omega
    · have z1 : fEq (.int x) (.int 0) s1 = .ok (.bl false) s1 := f_eq.trans (ok_b (by simp [hx]))
      have big : (4 : Int) ^ (d' + 1) ≤ 256 := by
        have h3 : d' = 0 ∨ d' = 1 ∨ d' = 2 := by omega
        rcases h3 with rfl | rfl | rfl <;> decide
      have one : (4 : Int) ≤ 4 ^ (d' + 1) := by
        have h3 : d' = 0 ∨ d' = 1 ∨ d' = 2 := by omega
        rcases h3 with rfl | rfl | rfl <;> decide
      obtain ⟨w2, s2, e2, hm, f2, p2⟩ := of_ok (xs := [.str z__2b, .str z__2d, .str z__2a]) p1 (by omega) (by simp) (by simp)
      obtain ⟨w3, s3, e3, ⟨a, rfl, fa⟩, f3, p3⟩ := ih d' rfl s2 _ p2 (by omega)
      obtain ⟨w4, s4, e4, ⟨b, rfl, fb⟩, f4, p4⟩ := ih d' rfl s3 _ p3 (by omega)
      have sb : ∀ st, fSub (.int ((d' + 1 : Nat) : Int)) (.int 1) st = .ok (.int (d' : Int)) st := fun st => by
        rw [f_sub]
        exact congrArg (fun z => Res.ok (W.int z) st) (by omega)
      have hg : ∃ g : Fin 3, w2 = .str (sgS g) := by
        simp only [List.mem_cons, List.not_mem_nil, or_false] at hm
        rcases hm with rfl | rfl | rfl
        · exact ⟨0, rfl⟩
        · exact ⟨1, rfl⟩
        · exact ⟨2, rfl⟩
      obtain ⟨g, rfl⟩ := hg
      refine ⟨(Ex.node g a b).w, s4, ?_, ⟨.node g a b, rfl, by unfold Ex.fit; exact ⟨fa, fb⟩⟩, ((f1.trans f2).trans f3).trans f4, p4.mono (by rw [Int.pow_succ]; omega)⟩
      simp only [sumM, fnM, outM, sSeq, sSet, sRet, sDrop, sIf, sPut, sPar, sUnp, sNx, liftE, mOp, mUn, mCall, mCons, mNil, mC, mV, mB, asB, mAnd, mOr, mNot, mAndV, mOrV, mNotV, mIf, mTup, mLst, mNew, Res.bind, List.map_cons, List.map_nil, List.length_cons, List.length_nil, List.replicate, List.cons_append, List.nil_append, List.getElem?_cons_zero, List.getElem?_cons_succ, List.set_cons_zero, List.set_cons_succ, Nat.reduceAdd, Nat.reduceSub, Nat.reduceLeDiff, if_pos, if_true, ite_true, Mi.putAll, mTru, truW, fIsK, isK, Nat.beq, Bool.not_true, Bool.not_false, Bool.false_eq_true, if_false, Bool.or_false, Bool.false_or, Bool.or_self, decide_true, decide_false, z0, e1, z1, e2, sb, e3, e4, Ex.w]
theorem sum_ok {p : Nat} {s : Int} (hs : 2 ≤ s ∧ s ≤ 6) {st : Store} {c : Int} (h : Pot st p c) (hc : c ≤ 700000) : Got (m_l_sum_4 [.ref p, namesL, .int s, .int 3] st) (Drawn s 3 p st c) := by
  have s0 : ∀ st c, Pot st p c → c ≤ 700900 → Got (m_l_sum_1 [.ref p, namesL, .int s, .int (0 : Nat)] st) (Drawn s 0 p st c) := fun st c h hc => sum_step (rec := m_l_sum_0) hs (B := 700900) (by decide) (by decide) (fun d' z => by omega) h hc
  have s1 : ∀ st c, Pot st p c → c ≤ 700600 → Got (m_l_sum_2 [.ref p, namesL, .int s, .int (1 : Nat)] st) (Drawn s 1 p st c) := fun st c h hc => sum_step (rec := m_l_sum_1) hs (B := 700600) (by decide) (by decide) (fun d' z st c h hc => by cases z; exact s0 st c h hc) h hc
  have s2 : ∀ st c, Pot st p c → c ≤ 700300 → Got (m_l_sum_3 [.ref p, namesL, .int s, .int (2 : Nat)] st) (Drawn s 2 p st c) := fun st c h hc => sum_step (rec := m_l_sum_2) hs (B := 700300) (by decide) (by decide) (fun d' z st c h hc => by cases z; exact s1 st c h hc) h hc
  exact sum_step (rec := m_l_sum_3) hs (B := 700000) (by decide) (by decide) (fun d' z st c h hc => by cases z; exact s2 st c h hc) h hc
end K08gen

set_option exponentiation.threshold 5000
namespace K08gen
open PySem PySem.Spec PyProof.Rows L2 Mi
variable [ClsMap]

/-! ### the plain worth of an expression -/
def PlAt (st : Store) (h : Nat) (ρ : Fin 4 → Int) : Prop := ∃ kvs, st[h]? = some (.dct kvs) ∧ ∀ k, valA kvs (.inr (nmS k)) = some (.int (ρ k))
theorem pl_get {st : Store} {h : Nat} {ρ : Fin 4 → Int} (P : PlAt st h ρ) (k : Fin 4) : fDGet (.ref h) (.str (nmS k)) st = .ok (.int (ρ k)) st := by
  obtain ⟨kvs, e, v⟩ := P
  unfold fDGet dctOf Mi.keyOf
  simp only [e, v k]
theorem pl_app {st : Store} {h : Nat} {ρ : Fin 4 → Int} (P : PlAt st h ρ) (t : Store) : PlAt (st ++ t) h ρ := by
  obtain ⟨kvs, e, v⟩ := P
  exact ⟨kvs, by rw [List.getElem?_append_left (List.getElem?_eq_some_iff.mp e).1]; exact e, v⟩
theorem op_bd (g : Fin 3) {x y : Int} {B : Nat} (hB : 2 ≤ B) (hx : x.natAbs ≤ B) (hy : y.natAbs ≤ B) : (opI g x y).natAbs ≤ B * B := by
  have b2 : B + B ≤ B * B := by
    have := Nat.mul_le_mul_left B hB
    omega
  match g with
  | 0 =>
    show (x + y).natAbs ≤ B * B
    omega
  | 1 =>
    show (x - y).natAbs ≤ B * B
    omega
  | 2 =>
    show (x * y).natAbs ≤ B * B
    rw [Int.natAbs_mul]
    exact Nat.mul_le_mul hx hy
def bd : Nat → Nat
  | 0 => 6
  | d + 1 => bd d * bd d
theorem bd_ge : ∀ d, 6 ≤ bd d
  | 0 => Nat.le_refl _
  | d + 1 => by
    have h := bd_ge d
    show 6 ≤ bd d * bd d
    exact Nat.le_trans h (Nat.le_mul_of_pos_left _ (by omega))
theorem val_bd {s : Int} {ρ : Fin 4 → Int} (hs : 2 ≤ s ∧ s ≤ 6) (hρ : ∀ k, 0 ≤ ρ k ∧ ρ k < s) : ∀ (e : Ex) (d : Nat), e.fit s d → (e.val ρ).natAbs ≤ bd d
  | .num i, d, h => by
    unfold Ex.fit at h
    have z := bd_ge d
    show i.natAbs ≤ bd d
    omega
  | .nm k, d, h => by
    have z := bd_ge d
    have q := hρ k
    show (ρ k).natAbs ≤ bd d
    omega
  | .node g a b, 0, h => by
    unfold Ex.fit at h
    exact h.elim
  | .node g a b, d + 1, h => by
    unfold Ex.fit at h
    exact op_bd g (Nat.le_trans (by decide) (bd_ge d)) (val_bd hs hρ a d h.1) (val_bd hs hρ b d h.2)
def plainM (rec : List W → Store → Res W) : List W → Store → Res W := fnM 2 4
  (sSeq (sIf (mTru (mUn (fIsK 3) (mV 0))) (sSeq (sPar 2 3 (mCons (mCall rec (mCons (mOp fIx (mV 0) (mC (.int 1))) (mCons (mV 1) (mNil)))) (mCons (mCall rec (mCons (mOp fIx (mV 0) (mC (.int 2))) (mCons (mV 1) (mNil)))) (mNil))))
  (sRet (mOp fDGet (mDisp (((mC (.str z__2b)), (mOp fAdd (mV 2) (mV 3))) :: ((mC (.str z__2d)), (mOp fSub (mV 2) (mV 3))) :: ((mC (.str z__2a)), (mOp fMulA (mV 2) (mV 3))) :: [])) (mOp fIx (mV 0) (mC (.int 0)))))) (sNx))
  (sRet (mIf (mTru (mUn (fIsK 2) (mV 0))) (mOp fDGet (mV 1) (mV 0)) (mV 0))))
def opsK (x y : Int) : List (Key × W) := [(.inr z__2b, .int (x + y)), (.inr z__2d, .int (x - y)), (.inr z__2a, .int (x * y))]
theorem ops_get (g : Fin 3) (x y : Int) (σ : Store) : fDGet (.ref σ.length) (.str (sgS g)) (σ ++ [.dct (putAll2 [] (opsK x y))]) = .ok (.int (opI g x y)) (σ ++ [.dct (putAll2 [] (opsK x y))]) := by
  have e : (σ ++ [.dct (putAll2 [] (opsK x y))])[σ.length]? = some (O.dct (putAll2 [] (opsK x y))) := by
    rw [List.getElem?_append_right (Nat.le_refl _), Nat.sub_self]
    rfl
  have v : valA (putAll2 [] (opsK x y)) (.inr (sgS g)) = some (.int (opI g x y)) := by
    match g with
    | 0 => kernel_rfl
    | 1 => kernel_rfl
    | 2 => kernel_rfl
  unfold fDGet dctOf Mi.keyOf
  simp only [e, v]
theorem plain_step {rec : List W → Store → Res W} {h : Nat} {s : Int} {ρ : Fin 4 → Int} (hs : 2 ≤ s ∧ s ≤ 6) (hρ : ∀ k, 0 ≤ ρ k ∧ ρ k < s) {d : Nat} (hd : d ≤ 3)
    (ih : ∀ a d', d = d' + 1 → Ex.fit s d' a → ∀ st, PlAt st h ρ → ∃ t, rec [a.w, .ref h] st = .ok (.int (a.val ρ)) (st ++ t)) (e : Ex) (he : e.fit s d) {st : Store} (P : PlAt st h ρ) : ∃ t, plainM rec [e.w, .ref h] st = .ok (.int (e.val ρ)) (st ++ t) := by
  cases e with
  | num i =>
    refine ⟨[], ?_⟩
    rw [List.append_nil]
    simp only [plainM, fnM, outM, sSeq, sSet, sRet, sDrop, sIf, sPut, sPar, sUnp, sNx, liftE, mOp, mUn, mCall, mCons, mNil, mC, mV, mB, asB, mAnd, mOr, mNot, mAndV, mOrV, mNotV, mIf, mTup, mLst, mNew, Res.bind, List.map_cons, List.map_nil, List.length_cons, List.length_nil, List.replicate, List.cons_append, List.nil_append, List.getElem?_cons_zero, List.getElem?_cons_succ, List.set_cons_zero, List.set_cons_succ, Nat.reduceAdd, Nat.reduceSub, Nat.reduceLeDiff, if_pos, if_true, ite_true, Mi.putAll, mTru, truW, fIsK, isK, Nat.beq, Bool.not_true, Bool.not_false, Bool.false_eq_true, if_false, Bool.or_false, Bool.false_or, Bool.or_self, decide_true, decide_false, Ex.w, Ex.val]
  | nm k =>
    refine ⟨[], ?_⟩
    rw [List.append_nil]
    have g := pl_get P k
    simp only [plainM, fnM, outM, sSeq, sSet, sRet, sDrop, sIf, sPut, sPar, sUnp, sNx, liftE, mOp, mUn, mCall, mCons, mNil, mC, mV, mB, asB, mAnd, mOr, mNot, mAndV, mOrV, mNotV, mIf, mTup, mLst, mNew, Res.bind, List.map_cons, List.map_nil, List.length_cons, List.length_nil, List.replicate, List.cons_append, List.nil_append, List.getElem?_cons_zero, List.getElem?_cons_succ, List.set_cons_zero, List.set_cons_succ, Nat.reduceAdd, Nat.reduceSub, Nat.reduceLeDiff, if_pos, if_true, ite_true, Mi.putAll, mTru, truW, fIsK, isK, Nat.beq, Bool.not_true, Bool.not_false, Bool.false_eq_true, if_false, Bool.or_false, Bool.false_or, Bool.or_self, decide_true, decide_false, Ex.w, Ex.val, g]
  | node g a b =>
    cases d with
    | zero =>
      unfold Ex.fit at he
      exact he.elim
    | succ d' =>
      unfold Ex.fit at he
      obtain ⟨t1, e1⟩ := ih a d' rfl he.1 st P
      obtain ⟨t2, e2⟩ := ih b d' rfl he.2 (st ++ t1) (pl_app P t1)
      have b3 : bd d' < 2 ^ 100 := by
        have h3 : d' = 0 ∨ d' = 1 ∨ d' = 2 := by omega
        rcases h3 with rfl | rfl | rfl <;> decide
      have na : ∀ x : Int, x.natAbs ≤ bd d' → x.natAbs < 2 ^ 2000 := fun x hx => Nat.lt_of_le_of_lt hx (Nat.lt_of_lt_of_le b3 (Nat.pow_le_pow_right (by decide) (by decide)))
      have mu : ∀ σ, fMulA (.int (a.val ρ)) (.int (b.val ρ)) σ = .ok (.int (a.val ρ * b.val ρ)) σ := fun σ => f_mulA (na _ (val_bd hs hρ a d' he.1)) (na _ (val_bd hs hρ b d' he.2))
      have og := ops_get g (a.val ρ) (b.val ρ) (st ++ t1 ++ t2)
      refine ⟨t1 ++ t2 ++ [.dct (putAll2 [] (opsK (a.val ρ) (b.val ρ)))], ?_⟩
      have ea : st ++ (t1 ++ t2 ++ [O.dct (putAll2 [] (opsK (a.val ρ) (b.val ρ)))]) = st ++ t1 ++ t2 ++ [O.dct (putAll2 [] (opsK (a.val ρ) (b.val ρ)))] := by simp only [List.append_assoc]
      rw [ea]
      have dp : ∀ (env : En) (σ : Store), env[2]? = some (some (.int (a.val ρ))) → env[3]? = some (some (.int (b.val ρ))) → mDisp (((mC (.str z__2b)), (mOp fAdd (mV 2) (mV 3))) :: ((mC (.str z__2d)), (mOp fSub (mV 2) (mV 3))) :: ((mC (.str z__2a)), (mOp fMulA (mV 2) (mV 3))) :: []) env σ = .ok (.ref σ.length) (σ ++ [.dct (putAll2 [] (opsK (a.val ρ) (b.val ρ)))]) := fun env σ h2 h3 => by
        simp only [mDisp, mPairs, noX, Mi.keyOf, mOp, mC, mV, Res.bind, h2, h3, f_add, f_sub, mu, List.length_cons, List.length_nil, Nat.reduceAdd, Nat.reduceLeDiff, if_true]
        rfl
      have dp' := dp [some (.tup [.str (sgS g), a.w, b.w]), some (.ref h), some (.int (a.val ρ)), some (.int (b.val ρ))] (st ++ t1 ++ t2) rfl rfl
      simp only [plainM, fnM, outM, sSeq, sSet, sRet, sDrop, sIf, sPut, sPar, sUnp, sNx, liftE, mOp, mUn, mCall, mCons, mNil, mC, mV, mB, asB, mAnd, mOr, mNot, mAndV, mOrV, mNotV, mIf, mTup, mLst, mNew, Res.bind, List.map_cons, List.map_nil, List.length_cons, List.length_nil, List.replicate, List.cons_append, List.nil_append, List.getElem?_cons_zero, List.getElem?_cons_succ, List.set_cons_zero, List.set_cons_succ, Nat.reduceAdd, Nat.reduceSub, Nat.reduceLeDiff, if_pos, if_true, ite_true, Mi.putAll, mTru, truW, fIsK, isK, Nat.beq, Bool.not_true, Bool.not_false, Bool.false_eq_true, if_false, Bool.or_false, Bool.false_or, Bool.or_self, decide_true, decide_false, Ex.w, Ex.val, ix0, ix1, ix2, e1, e2, dp', og]
theorem plain_ok {h : Nat} {s : Int} {ρ : Fin 4 → Int} (hs : 2 ≤ s ∧ s ≤ 6) (hρ : ∀ k, 0 ≤ ρ k ∧ ρ k < s) (e : Ex) (he : e.fit s 3) {st : Store} (P : PlAt st h ρ) : ∃ t, m_l_plain_4 [e.w, .ref h] st = .ok (.int (e.val ρ)) (st ++ t) := by
  have s0 : ∀ e : Ex, e.fit s 0 → ∀ st, PlAt st h ρ → ∃ t, m_l_plain_1 [e.w, .ref h] st = .ok (.int (e.val ρ)) (st ++ t) := fun e he st P => plain_step (rec := m_l_plain_0) hs hρ (by decide) (fun a d' z _ _ _ => by omega) e he P
  have s1 : ∀ e : Ex, e.fit s 1 → ∀ st, PlAt st h ρ → ∃ t, m_l_plain_2 [e.w, .ref h] st = .ok (.int (e.val ρ)) (st ++ t) := fun e he st P => plain_step (rec := m_l_plain_1) hs hρ (by decide) (fun a d' z q st P => by cases z; exact s0 a q st P) e he P
  have s2 : ∀ e : Ex, e.fit s 2 → ∀ st, PlAt st h ρ → ∃ t, m_l_plain_3 [e.w, .ref h] st = .ok (.int (e.val ρ)) (st ++ t) := fun e he st P => plain_step (rec := m_l_plain_2) hs hρ (by decide) (fun a d' z q st P => by cases z; exact s1 a q st P) e he P
  exact plain_step (rec := m_l_plain_3) hs hρ (by decide) (fun a d' z q st P => by cases z; exact s2 a q st P) e he P

/-! ### the law's rows behind the draws -/
def R7 : Sm := (sSeq (sSet 7 (mTup (mCons (mTup (mCons (mC (.str z_say)) (mCons (mOp fIx (mV 5) (mC (.int 0))) (mNil)))) (mCons (mTup (mCons (mC (.str z_send)) (mCons (mC (.str z_u)) (mCons (mOp fIx (mV 5) (mC (.int 1))) (mNil))))) (mCons (mTup (mCons (mC (.str z_wait)) (mCons (mC (.str z_k)) (mCons (mOp fIx (mV 5) (mC (.int 2))) (mNil))))) (mCons (mTup (mCons (mC (.str z_repeat)) (mCons (mOp fIx (mV 5) (mC (.int 3))) (mCons (mTup (mCons (mTup (mCons (mC (.str z_say)) (mCons (mC (.int 1)) (mNil)))) (mNil))) (mNil))))) (mNil)))))))
  (sSeq (sSet 7 (mOp fAdd (mV 7) (mTup (mCons (mTup (mCons (mC (.str z_if)) (mCons (mTup (mCons (mC (.str z__3c)) (mCons (mOp fIx (mV 5) (mC (.int 4))) (mCons (mOp fIx (mV 5) (mC (.int 5))) (mNil))))) (mCons (mTup (mCons (mTup (mCons (mC (.str z_say)) (mCons (mC (.int 1)) (mNil)))) (mNil))) (mCons (mTup (mCons (mTup (mCons (mC (.str z_say)) (mCons (mC (.int 0)) (mNil)))) (mNil))) (mNil)))))) (mCons (mTup (mCons (mC (.str z_set)) (mCons (mC (.str z_m)) (mCons (mOp fIx (mV 5) (mC (.int 0))) (mNil))))) (mNil))))))
  (sSeq (sSet 8 (mTup (mCons (mTup (mCons (mC (.str z_set)) (mCons (mC (.str z_n)) (mCons (mOp fIx (mV 5) (mC (.int 1))) (mNil))))) (mCons (mTup (mCons (mC (.str z_say)) (mCons (mTup (mCons (mC (.str z__2b)) (mCons (mC (.str z_n)) (mCons (mC (.str z_n)) (mNil))))) (mNil)))) (mCons (mTup (mCons (mC (.str z_if)) (mCons (mTup (mCons (mC (.str z__3d)) (mCons (mC (.str z_n)) (mCons (mOp fIx (mV 5) (mC (.int 2))) (mNil))))) (mCons (mTup (mCons (mTup (mCons (mC (.str z_say)) (mCons (mC (.int 1)) (mNil)))) (mNil))) (mCons (mTup (mCons (mTup (mCons (mC (.str z_say)) (mCons (mC (.int 0)) (mNil)))) (mNil))) (mNil)))))) (mNil))))))
  (sSeq (sSet 9 (mTup (mCons (mTup (mCons (mC (.str z_m)) (mCons (mC (.int 0)) (mNil)))) (mCons (mTup (mCons (mC (.str z_n)) (mCons (mC (.int 0)) (mNil)))) (mCons (mTup (mCons (mC (.str z_o)) (mCons (mC (.int 0)) (mNil)))) (mNil))))))
  (sSeq (sSet 10 (mTup (mCons (mC (.str z_st)) (mCons (mV 9) (mCons (mTup (mCons (mC (.str z_x)) (mCons (mC (.str z_y)) (mNil)))) (mCons (mTup (mCons (mC (.str z_u)) (mNil))) (mCons (mTup (mCons (mC (.str z_k)) (mNil))) (mCons (mTup (mCons (mTup (mNil)) (mCons (mV 7) (mCons (mV 8) (mNil))))) (mNil)))))))))
  (sSeq (sSet 11 (mTup (mCons (mV 1) (mCons (mTup (mCons (mV 10) (mNil))) (mCons (mTup (mNil)) (mCons (mTup (mCons (mTup (mCons (mC (.int 0)) (mCons (mC (.str z_st)) (mCons (mC (.str z_x)) (mCons (mC (.int 0)) (mNil)))))) (mNil))) (mNil)))))))
  (sSeq (sSet 12 (mOp fAdd (mOp fAdd (mTup (mCons (mOp fIx (mV 6) (mC (.int 0))) (mNil))) (mOp fMulA (mTup (mCons (mC (.int 1)) (mNil))) (mOp fIx (mV 6) (mC (.int 3))))) (mTup (mCons (mCall fInt (mCons (mOp fLt (mOp fIx (mV 6) (mC (.int 4))) (mOp fIx (mV 6) (mC (.int 5)))) (mNil))) (mNil)))))
  (sSeq (sSet 13 (mCall (mBox m_handled) (mCons (mV 11) (mCons (mC (.str z_st)) (mCons (mV 2) (mCons (mC (.str z_x)) (mCons (mV 3) (mNil))))))))
  (sSeq (sIf (mB (mOp fNe (mCall fRepr (mCons (mV 13) (mNil))) (mCall fRepr (mCons (mTup (mCons (mOp fAdd (mTup (mCons (mOp fIx (mV 6) (mC (.int 0))) (mNil))) (mSl (mV 2) (mPart (mC (.int 1))) (mNoPart))) (mCons (mTup (mCons (mTup (mCons (mC (.str z_u)) (mCons (mOp fIx (mV 6) (mC (.int 1))) (mNil)))) (mNil))) (mCons (mTup (mCons (mTup (mCons (mC (.str z_k)) (mCons (mOp fIx (mV 6) (mC (.int 2))) (mNil)))) (mNil))) (mCons (mV 12) (mNil)))))) (mNil))))) (sRet (mC (.bl false))) (sNx))
  (sSeq (sDPutM (mOp fIx (mV 6) (mC (.int 1))) (mV 4) (mC (.str z_n)))
  (sSeq (sSet 14 (mCall fInt (mCons (mOp fEq (mOp fIx (mV 6) (mC (.int 1))) (mOp fMod (mCall fInt (mCons (mCall m_l_plain_4 (mCons (mOp fIx (mV 5) (mC (.int 2))) (mCons (mV 4) (mNil)))) (mNil))) (mV 1))) (mNil))))
  (sSeq (sSet 13 (mCall (mBox m_handled) (mCons (mV 11) (mCons (mC (.str z_st)) (mCons (mV 2) (mCons (mC (.str z_y)) (mCons (mV 3) (mNil))))))))
  (sRet (mOp fEq (mCall fRepr (mCons (mV 13) (mNil))) (mCall fRepr (mCons (mTup (mCons (mTup (mCons (mOp fIx (mV 2) (mC (.int 0))) (mCons (mOp fIx (mV 6) (mC (.int 1))) (mCons (mOp fIx (mV 2) (mC (.int 2))) (mNil))))) (mCons (mTup (mNil)) (mCons (mTup (mNil)) (mCons (mTup (mCons (mOp fMod (mCall fInt (mCons (mOp fMulA (mC (.int 2)) (mOp fIx (mV 6) (mC (.int 1)))) (mNil))) (mV 1)) (mCons (mV 14) (mNil)))) (mNil)))))) (mNil)))))))))))))))))
def R12 : Sm := (sSeq (sSet 12 (mOp fAdd (mOp fAdd (mTup (mCons (mOp fIx (mV 6) (mC (.int 0))) (mNil))) (mOp fMulA (mTup (mCons (mC (.int 1)) (mNil))) (mOp fIx (mV 6) (mC (.int 3))))) (mTup (mCons (mCall fInt (mCons (mOp fLt (mOp fIx (mV 6) (mC (.int 4))) (mOp fIx (mV 6) (mC (.int 5)))) (mNil))) (mNil)))))
  (sSeq (sSet 13 (mCall (mBox m_handled) (mCons (mV 11) (mCons (mC (.str z_st)) (mCons (mV 2) (mCons (mC (.str z_x)) (mCons (mV 3) (mNil))))))))
  (sSeq (sIf (mB (mOp fNe (mCall fRepr (mCons (mV 13) (mNil))) (mCall fRepr (mCons (mTup (mCons (mOp fAdd (mTup (mCons (mOp fIx (mV 6) (mC (.int 0))) (mNil))) (mSl (mV 2) (mPart (mC (.int 1))) (mNoPart))) (mCons (mTup (mCons (mTup (mCons (mC (.str z_u)) (mCons (mOp fIx (mV 6) (mC (.int 1))) (mNil)))) (mNil))) (mCons (mTup (mCons (mTup (mCons (mC (.str z_k)) (mCons (mOp fIx (mV 6) (mC (.int 2))) (mNil)))) (mNil))) (mCons (mV 12) (mNil)))))) (mNil))))) (sRet (mC (.bl false))) (sNx))
  (sSeq (sDPutM (mOp fIx (mV 6) (mC (.int 1))) (mV 4) (mC (.str z_n)))
  (sSeq (sSet 14 (mCall fInt (mCons (mOp fEq (mOp fIx (mV 6) (mC (.int 1))) (mOp fMod (mCall fInt (mCons (mCall m_l_plain_4 (mCons (mOp fIx (mV 5) (mC (.int 2))) (mCons (mV 4) (mNil)))) (mNil))) (mV 1))) (mNil))))
  (sSeq (sSet 13 (mCall (mBox m_handled) (mCons (mV 11) (mCons (mC (.str z_st)) (mCons (mV 2) (mCons (mC (.str z_y)) (mCons (mV 3) (mNil))))))))
  (sRet (mOp fEq (mCall fRepr (mCons (mV 13) (mNil))) (mCall fRepr (mCons (mTup (mCons (mTup (mCons (mOp fIx (mV 2) (mC (.int 0))) (mCons (mOp fIx (mV 6) (mC (.int 1))) (mCons (mOp fIx (mV 2) (mC (.int 2))) (mNil))))) (mCons (mTup (mNil)) (mCons (mTup (mNil)) (mCons (mTup (mCons (mOp fMod (mCall fInt (mCons (mOp fMulA (mC (.int 2)) (mOp fIx (mV 6) (mC (.int 1)))) (mNil))) (mV 1)) (mCons (mV 14) (mNil)))) (mNil)))))) (mNil)))))))))))
def env6 (p h : Nat) (s : Int) (ρ : Fin 4 → Int) (es : List W) (L6 : W) : En := [some (.ref p), some (.int s), some (worthsW ρ), some (.int (ρ 3)), some (.ref h), some (.lst es), some L6, none, none, none, none, none, none, none, none, none, none]
def env11 (p h : Nat) (s : Int) (ρ : Fin 4 → Int) (es : List W) (L6 p1 p2 : W) : En := [some (.ref p), some (.int s), some (worthsW ρ), some (.int (ρ 3)), some (.ref h), some (.lst es), some L6, some p1, some p2, some cellsW, some (firstW p1 p2), some (modelW s p1 p2), none, none, none, none, none]
theorem seg7 {p h : Nat} {s : Int} {ρ : Fin 4 → Int} {e0 e1 e2 e3 e4 e5 : Ex} {L6 : W} {σ : Store} : R7 (env6 p h s ρ [e0.w, e1.w, e2.w, e3.w, e4.w, e5.w] L6) σ = R12 (env11 p h s ρ [e0.w, e1.w, e2.w, e3.w, e4.w, e5.w] L6 (prog1 e0 e1 e2 e3 e4 e5) (prog2 e1 e2)) σ := by kernel_rfl
end K08gen

set_option exponentiation.threshold 5000
namespace K08gen
open PySem PySem.Spec PyProof.Rows L2 Mi
variable [ClsMap]

def heldK (ρ : Fin 4 → Int) : List (Key × W) := [(.inr z_m, .int (ρ 0)), (.inr z_n, .int (ρ 1)), (.inr z_o, .int (ρ 2)), (.inr z_it, .int (ρ 3))]
def HeldAt (σ : Store) (h : Nat) (ρ : Fin 4 → Int) : Prop := σ[h]? = some (.dct (heldK ρ))
theorem held_pl {σ : Store} {h : Nat} {ρ : Fin 4 → Int} (H : HeldAt σ h ρ) : PlAt σ h ρ := ⟨heldK ρ, H, fun k => by
  match k with
  | 0 => kernel_rfl
  | 1 => kernel_rfl
  | 2 => kernel_rfl
  | 3 => kernel_rfl⟩
theorem held_put {σ : Store} {h : Nat} {ρ : Fin 4 → Int} {v : Int} (H : HeldAt σ h ρ) : putD (.ref h) (.str z_n) (.int v) σ = some (σ.set h (.dct (heldK (upd4 ρ 1 v)))) := by
  have e : putA (heldK ρ) (.inr z_n) (.int v) = heldK (upd4 ρ 1 v) := by kernel_rfl
  have l : (heldK ρ).length < 100000 := by
    show 4 < 100000
    decide
  unfold putD dctOf Mi.keyOf
  unfold HeldAt at H
  simp only [H]
  rw [if_pos l, e]
theorem box_of {m : List W → Store → Res W} {ws : List W} {w : W} {σ st : Store} (h1 : noRefs ws = true) (h2 : m ws [] = .ok w σ) (h3 : pureW w = true) : mBox m ws st = .ok w st := by
  unfold mBox
  rw [if_pos h1, h2]
  exact if_pos h3
theorem ex_noRef : ∀ e : Ex, noRef e.w = true
  | .num i => rfl
  | .nm k => rfl
  | .node g a b => by
    show (noRef (.str (sgS g)) && (noRef a.w && (noRef b.w && true))) = true
    rw [ex_noRef a, ex_noRef b]
    rfl
theorem model_noRef {s : Int} {e0 e1 e2 e3 e4 e5 : Ex} {ρ : Fin 4 → Int} {x : Str} : noRefs [modelW s (prog1 e0 e1 e2 e3 e4 e5) (prog2 e1 e2), .str z_st, worthsW ρ, .str x, .int (ρ 3)] = true := by
  simp only [modelW, firstW, cellsW, prog1, prog2, worthsW, noRefs, noRef, ex_noRef, Bool.and_self]
theorem pure_ints : ∀ ns : List Int, pureWs (ns.map W.int) = true
  | [] => rfl
  | n :: ns => by
    show (pureW (.int n) && pureWs (ns.map W.int)) = true
    rw [pure_ints ns]
    rfl
def saidN (a : Int) (n : Nat) (t : Int) : List Int := [a] ++ List.replicate n 1 ++ [t]
theorem said_eq (a : Int) (n : Nat) (t : Int) : [W.int a] ++ List.replicate n (W.int 1) ++ [W.int t] = (saidN a n t).map W.int := by
  simp only [saidN, List.map_append, List.map_cons, List.map_nil, List.map_replicate]
theorem tiny_ints {k : Nat} {ns : List Int} (hl : ns.length ≤ 20) (h : ∀ n ∈ ns, n.natAbs < 100) : Tiny (k + 1) (.tup (ns.map W.int)) := by
  refine .tup (by rw [List.length_map]; exact hl) fun x hx => ?_
  obtain ⟨n, hn, rfl⟩ := List.mem_map.mp hx
  exact .int (h n hn)
theorem add_tup {xs ys : List W} {st : Store} (h : xs.length + ys.length ≤ 1000) : fAdd (.tup xs) (.tup ys) st = .ok (.tup (xs ++ ys)) st := by
  show (if xs.length + ys.length ≤ sizeLine then Res.ok (W.tup (xs ++ ys)) st else .bad) = _
  exact if_pos (by rw [sizeLine_eq]; omega)
theorem ones_ok {v : Int} {st : Store} (h : 0 ≤ v) (h2 : v < 100) : fMulA (.tup [.int 1]) (.int v) st = .ok (.tup (List.replicate v.toNat (.int 1))) st := by
  have fl : ∀ n : Nat, (List.replicate n [W.int 1]).flatten = List.replicate n (.int 1) := by
    intro n
    induction n with
    | zero => rfl
    | succ n ih => rw [List.replicate_succ, List.flatten_cons, ih]; rfl
  show (if [W.int 1] ≠ [] ∧ 2 ≤ v ∧ v < 1000 ∧ [W.int 1].length ≤ 1000 then Res.ok (W.tup (List.replicate v.toNat [W.int 1]).flatten) st else if [W.int 1].isEmpty = false ∧ v = 1 then .ok (W.tup [.int 1]) st else if [W.int 1].isEmpty = false ∧ v = 0 then .ok (W.tup []) st else .bad) = _
  by_cases c : 2 ≤ v
  · rw [if_pos ⟨by simp, c, by omega, by decide⟩, fl]
  · rw [if_neg (fun z => c z.2.1)]
    by_cases c1 : v = 1
    · subst c1
      rw [if_pos ⟨rfl, rfl⟩]
      rfl
    · have c0 : v = 0 := by omega
      subst c0
      rw [if_neg (fun z => by omega), if_pos ⟨rfl, rfl⟩]
      rfl
theorem ixl {st : Store} {a b c d e f : W} : fIx (.lst [a, b, c, d, e, f]) (.int 0) st = .ok a st ∧ fIx (.lst [a, b, c, d, e, f]) (.int 1) st = .ok b st ∧ fIx (.lst [a, b, c, d, e, f]) (.int 2) st = .ok c st ∧ fIx (.lst [a, b, c, d, e, f]) (.int 3) st = .ok d st ∧ fIx (.lst [a, b, c, d, e, f]) (.int 4) st = .ok e st ∧ fIx (.lst [a, b, c, d, e, f]) (.int 5) st = .ok f st :=
  ⟨f_ixV (atI_nat (j := 0) rfl), f_ixV (atI_nat (j := 1) rfl), f_ixV (atI_nat (j := 2) rfl), f_ixV (atI_nat (j := 3) rfl), f_ixV (atI_nat (j := 4) rfl), f_ixV (atI_nat (j := 5) rfl)⟩
theorem b01 (b : Bool) : (if b = true then (1 : Int) else 0).natAbs < 100 := by cases b <;> decide
theorem tail12 {p h : Nat} {s c : Int} {ρ : Fin 4 → Int} (hs : 2 ≤ s ∧ s ≤ 6) (hρ : ∀ k, 0 ≤ ρ k ∧ ρ k < s) {e0 e1 e2 e3 e4 e5 : Ex} (h0 : e0.fit s 3) (h1 : e1.fit s 3) (h2 : e2.fit s 3) (h3 : e3.fit s 3) (h4 : e4.fit s 3) (h5 : e5.fit s 3)
    {σ : Store} (H : HeldAt σ h ρ) (hp : Pot σ p c) (ne : h ≠ p) :
    ∃ σ', outM (R12 (env11 p h s ρ [e0.w, e1.w, e2.w, e3.w, e4.w, e5.w] (.lst [.int (e0.val ρ % s), .int (e1.val ρ % s), .int (e2.val ρ % s), .int (e3.val ρ % s), .int (e4.val ρ % s), .int (e5.val ρ % s)]) (prog1 e0 e1 e2 e3 e4 e5) (prog2 e1 e2)) σ) = .ok (.bl true) σ' ∧ Pot σ' p c := by
  obtain ⟨τ1, x1⟩ := handled_x hs hρ h0 h1 h2 h3 h4 h5
  obtain ⟨τ2, x2⟩ := handled_y hs hρ h0 h1 h2 h3 h4 h5
  have md : ∀ x : Int, 0 ≤ x % s ∧ x % s < s := fun x => ⟨Int.emod_nonneg _ (by omega), Int.emod_lt_of_pos _ (by omega)⟩
  have d0 := md (e0.val ρ)
  have d1 := md (e1.val ρ)
  have d2 := md (e2.val ρ)
  have d3 := md (e3.val ρ)
  have hρ' := upd_fit (k := 1) hρ d1
  have d2' := md (e2.val (upd4 ρ 1 (e1.val ρ % s)))
  have hpl : h < σ.length := (List.getElem?_eq_some_iff.mp H).1
  have H1 : HeldAt (σ.set h (.dct (heldK (upd4 ρ 1 (e1.val ρ % s))))) h (upd4 ρ 1 (e1.val ρ % s)) := List.getElem?_set_self hpl
  obtain ⟨t, pe⟩ := plain_ok hs hρ' e2 h2 (held_pl H1)
  have pd := held_put (v := e1.val ρ % s) H
  rw [said_eq] at x1
  have ls : (saidN (e0.val ρ % s) (e3.val ρ % s).toNat (if decide (e4.val ρ % s < e5.val ρ % s) = true then 1 else 0)).length ≤ 20 := by
    simp only [saidN, List.length_append, List.length_replicate, List.length_cons, List.length_nil]
    omega
  have ns : ∀ n ∈ saidN (e0.val ρ % s) (e3.val ρ % s).toNat (if decide (e4.val ρ % s < e5.val ρ % s) = true then 1 else 0), n.natAbs < 100 := by
    intro n hn
    simp only [saidN, List.mem_append, List.mem_cons, List.not_mem_nil, or_false] at hn
    rcases hn with (rfl | hn) | rfl
    · omega
    · rw [List.eq_of_mem_replicate hn]
      decide
    · exact b01 _
  have w1 := hρ 0
  have w2 := hρ 1
  have w3 := hρ 2
  have tiny2 : ∀ {a b : Int}, a.natAbs < 100 → b.natAbs < 100 → ∀ {k : Nat}, Tiny (k + 1) (.tup [.int a, .int b]) := fun {a b} ha hb {k} => tiny_ints (ns := [a, b]) (by simp) fun n hn => by
    simp only [List.mem_cons, List.not_mem_nil, or_false] at hn
    rcases hn with rfl | rfl <;> assumption
  have tiny3 : ∀ {a b c : Int}, a.natAbs < 100 → b.natAbs < 100 → c.natAbs < 100 → ∀ {k : Nat}, Tiny (k + 1) (.tup [.int a, .int b, .int c]) := fun {a b c} ha hb hc {k} => tiny_ints (ns := [a, b, c]) (by simp) fun n hn => by
    simp only [List.mem_cons, List.not_mem_nil, or_false] at hn
    rcases hn with rfl | rfl | rfl <;> assumption
  have pair : ∀ {z : Str} {v : Int}, z = z_u ∨ z = z_k → v.natAbs < 100 → Tiny 2 (.tup [.tup [.str z, .int v]]) := fun {z v} hz hv => .tup (by simp) fun x hx => by
    rw [List.mem_singleton.mp hx]
    refine .tup (by simp) fun y hy => ?_
    simp only [List.mem_cons, List.not_mem_nil, or_false] at hy
    rcases hy with rfl | rfl
    · rcases hz with rfl | rfl
      · exact .str (by decide) (by decide)
      · exact .str (by decide) (by decide)
    · exact .int hv
  have T1 : Tiny 3 (.tup [.tup [.int (e0.val ρ % s), .int (ρ 1), .int (ρ 2)], .tup [.tup [.str z_u, .int (e1.val ρ % s)]], .tup [.tup [.str z_k, .int (e2.val ρ % s)]], .tup ((saidN (e0.val ρ % s) (e3.val ρ % s).toNat (if decide (e4.val ρ % s < e5.val ρ % s) = true then 1 else 0)).map W.int)]) := by
    refine .tup (by simp) fun x hx => ?_
    simp only [List.mem_cons, List.not_mem_nil, or_false] at hx
    rcases hx with rfl | rfl | rfl | rfl
    · exact tiny3 (by omega) (by omega) (by omega)
    · exact pair (.inl rfl) (by omega)
    · exact pair (.inr rfl) (by omega)
    · exact tiny_ints ls ns
  have e22 : (e1.val ρ % s + e1.val ρ % s) = 2 * (e1.val ρ % s) := by omega
  rw [e22] at x2
  have d22 := md (2 * (e1.val ρ % s))
  have T2 : Tiny 3 (.tup [.tup [.int (ρ 0), .int (e1.val ρ % s), .int (ρ 2)], .tup [], .tup [], .tup [.int (2 * (e1.val ρ % s) % s), .int (if decide (e1.val ρ % s = e2.val (upd4 ρ 1 (e1.val ρ % s)) % s) = true then 1 else 0)]]) := by
    refine .tup (by simp) fun x hx => ?_
    simp only [List.mem_cons, List.not_mem_nil, or_false] at hx
    rcases hx with rfl | rfl | rfl | rfl
    · exact tiny3 (by omega) (by omega) (by omega)
    · exact .tup (by decide) fun y hy => nomatch hy
    · exact .tup (by decide) fun y hy => nomatch hy
    · exact tiny2 (by omega) (b01 _)
  obtain ⟨r1, q1⟩ := tiny_repr T1
  obtain ⟨r2, q2⟩ := tiny_repr T2
  have m1 : ∀ st, mBox m_handled [modelW s (prog1 e0 e1 e2 e3 e4 e5) (prog2 e1 e2), .str z_st, worthsW ρ, .str z_x, .int (ρ 3)] st = _ := fun st => box_of (st := st) model_noRef x1 (by
    simp only [pureW, pureWs, pure_ints, Bool.and_self])
  have m2 : ∀ st, mBox m_handled [modelW s (prog1 e0 e1 e2 e3 e4 e5) (prog2 e1 e2), .str z_st, worthsW ρ, .str z_y, .int (ρ 3)] st = _ := fun st => box_of (st := st) model_noRef x2 (by simp only [pureW, pureWs, Bool.and_self])
  have o1 : ∀ st, fMulA (.tup [.int 1]) (.int (e3.val ρ % s)) st = .ok (.tup (List.replicate (e3.val ρ % s).toNat (.int 1))) st := fun st => ones_ok d3.1 (by omega)
  have a1 : ∀ st, fAdd (.tup [.int (e0.val ρ % s)]) (.tup (List.replicate (e3.val ρ % s).toNat (.int 1))) st = .ok (.tup (W.int (e0.val ρ % s) :: List.replicate (e3.val ρ % s).toNat (.int 1))) st := fun st => add_tup (by simp only [List.length_replicate, List.length_cons, List.length_nil]; omega)
  have a2 : ∀ st, fAdd (.tup (W.int (e0.val ρ % s) :: List.replicate (e3.val ρ % s).toNat (.int 1))) (.tup [.int (if decide (e4.val ρ % s < e5.val ρ % s) = true then 1 else 0)]) st = .ok (.tup ((saidN (e0.val ρ % s) (e3.val ρ % s).toNat (if decide (e4.val ρ % s < e5.val ρ % s) = true then 1 else 0)).map W.int)) st := fun st => by
    rw [← said_eq]
    exact add_tup (xs := W.int (e0.val ρ % s) :: List.replicate (e3.val ρ % s).toNat (.int 1)) (by simp only [List.length_replicate, List.length_cons, List.length_nil]; omega)
  have a3 : ∀ st, fAdd (.tup [.int (e0.val ρ % s)]) (.tup [.int (ρ 1), .int (ρ 2)]) st = .ok (.tup [.int (e0.val ρ % s), .int (ρ 1), .int (ρ 2)]) st := fun st => add_tup (by simp)
  have fs : ∀ st, fSl (some 1) none (worthsW ρ) st = .ok (.tup [.int (ρ 1), .int (ρ 2)]) st := fun st => by kernel_rfl
  have y0 : ∀ st, fIx (worthsW ρ) (.int 0) st = .ok (.int (ρ 0)) st := fun st => by kernel_rfl
  have y2 : ∀ st, fIx (worthsW ρ) (.int 2) st = .ok (.int (ρ 2)) st := fun st => by kernel_rfl
  have mu : ∀ st, fMulA (.int 2) (.int (e1.val ρ % s)) st = .ok (.int (2 * (e1.val ρ % s))) st := fun st => f_mulA (bigger (small1000 (by decide) (by decide))) (bigger (small1000 d1.1 (by omega)))
  have mo : ∀ (x : Int) st, fMod (.int x) (.int s) st = .ok (.int (x % s)) st := fun x st => f_mod (by omega)
  have nn : ∀ (r : Str) st, fNe (.str r) (.str r) st = .ok (.bl false) st := fun r st => f_neS.trans (ok_b (by simp))
  have ee : ∀ (r : Str) st, fEq (.str r) (.str r) st = .ok (.bl true) st := fun r st => f_eqS.trans (ok_b (by simp))
  refine ⟨σ.set h (.dct (heldK (upd4 ρ 1 (e1.val ρ % s)))) ++ t, ?_, ?_⟩
  · unfold env11
    generalize modelW s (prog1 e0 e1 e2 e3 e4 e5) (prog2 e1 e2) = M at *
    generalize firstW (prog1 e0 e1 e2 e3 e4 e5) (prog2 e1 e2) = F1 at *
    generalize worthsW ρ = Y at *
    simp only [R12, fnM, outM, sSeq, sSet, sRet, sDrop, sIf, sPut, sPar, sUnp, sNx, liftE, mOp, mUn, mCall, mCons, mNil, mC, mV, mB, asB, mAnd, mOr, mNot, mAndV, mOrV, mNotV, mIf, mTup, mLst, mNew, Res.bind, List.map_cons, List.map_nil, List.length_cons, List.length_nil, List.replicate, List.cons_append, List.nil_append, List.getElem?_cons_zero, List.getElem?_cons_succ, List.set_cons_zero, List.set_cons_succ, Nat.reduceAdd, Nat.reduceSub, Nat.reduceLeDiff, if_pos, if_true, ite_true, Mi.putAll, mTru, truW, fIsK, isK, Nat.beq, Bool.not_true, Bool.not_false, Bool.false_eq_true, if_false, Bool.or_false, Bool.false_or, Bool.or_self, decide_true, decide_false, ixl, o1, f_lt, intb, a1, a2, m1, mSl, mPart, mNoPart, fs, a3, q1, nn, sDPutM, pd, pe, inti, mo, f_eq, m2, y0, y2, mu, q2, ee]
  · obtain ⟨o, sd, n, k1, k2⟩ := hp.ex
    have hpp : p < σ.length := (List.getElem?_eq_some_iff.mp k1).1
    exact ⟨o, sd, n, by rw [List.getElem?_append_left (by rw [List.length_set]; exact hpp), List.getElem?_set_ne ne]; exact k1, k2⟩
end K08gen

set_option exponentiation.threshold 5000
namespace K08gen
open PySem PySem.Spec PyProof.Rows L2 Mi
variable [ClsMap]

def rightM : List W → Store → Res W := fnM 1 17
  (sSeq (sSet 1 (mOp fAdd (mC (.int 2)) (mCall m_l_take (mCons (mV 0) (mCons (mC (.int 5)) (mNil))))))
  (sSeq (sSet 2 (mCall fTuple (mCons (mLcR1 [15] (setN 15) (mCons (mC (.int 3)) (mNil)) (yes) (m_l_right_e1)) (mNil))))
  (sSeq (sSet 3 (mCall m_l_take (mCons (mV 0) (mCons (mV 1) (mNil)))))
  (sSeq (sSet 4 (mDisp (((mC (.str z_m)), (mOp fIx (mV 2) (mC (.int 0)))) :: ((mC (.str z_n)), (mOp fIx (mV 2) (mC (.int 1)))) :: ((mC (.str z_o)), (mOp fIx (mV 2) (mC (.int 2)))) :: ((mC (.str z_it)), (mV 3)) :: [])))
  (sSeq (sSet 5 (mLcR1 [15] (setN 15) (mCons (mC (.int 6)) (mNil)) (yes) (m_l_right_e2)))
  (sSeq (sSet 6 (mLcS [16] (setN 16) (mV 5) (yes) (m_l_right_e3)))
  R7))))))
theorem right_eq : m_l_right = rightM := rfl
theorem fr_held {p h : Nat} {σ σ' : Store} {ρ : Fin 4 → Int} (f : Fr p σ σ') (ne : h ≠ p) (H : HeldAt σ h ρ) : HeldAt σ' h ρ := (f.keep h (List.getElem?_eq_some_iff.mp H).1 ne).trans H
theorem held_app {h : Nat} {σ : Store} {ρ : Fin 4 → Int} (H : HeldAt σ h ρ) (t : Store) : HeldAt (σ ++ t) h ρ := by
  unfold HeldAt at H ⊢
  rw [List.getElem?_append_left (List.getElem?_eq_some_iff.mp H).1]
  exact H
theorem pot_app {p : Nat} {σ : Store} {c : Int} (P : Pot σ p c) (t : Store) : Pot (σ ++ t) p c := by
  obtain ⟨o, sd, n, k1, k2⟩ := P.ex
  exact ⟨o, sd, n, by rw [List.getElem?_append_left (List.getElem?_eq_some_iff.mp k1).1]; exact k1, k2⟩
theorem three {α : Type} {ys : List α} (h : ys.length = 3) : ∃ a b c, ys = [a, b, c] := by
  match ys, h with
  | [a, b, c], _ => exact ⟨a, b, c, rfl⟩
theorem six {α : Type} {ys : List α} (h : ys.length = 6) : ∃ a b c d e f, ys = [a, b, c, d, e, f] := by
  match ys, h with
  | [a, b, c, d, e, f], _ => exact ⟨a, b, c, d, e, f, rfl⟩
theorem right_ok {st : Store} {p : Nat} {c : Int} (h : Pot st p c) (hc : c ≤ 500000) : Got (m_l_right [.ref p] st) fun w s => w = .bl true ∧ Pot s p (c + 2000) := by
  obtain ⟨w1, s1, e1, ⟨d, rfl, d1, d2⟩, _, p1⟩ := take_ok (n := 5) h (by omega) (by decide) (by decide)
  have hs : 2 ≤ 2 + d ∧ 2 + d ≤ 6 := by omega
  have a1 : fAdd (.int 2) (.int d) s1 = .ok (.int (2 + d)) s1 := f_add
  generalize 2 + d = s at *
  obtain ⟨ys, s2, e2, l2, P2, p2⟩ := lc_ex (put := setN 15) (te := m_l_right_e1) (env := wipeE [some (.ref p), some (.int s), none, none, none, none, none, none, none, none, none, none, none, none, none, none, none] [15]) (xs := rngW 0 3) (fun _ _ y => ∃ v : Int, y = .int v ∧ 0 ≤ v ∧ v < s) (fun i σ => Pot σ p (c + 1 + i)) (by rw [rngW_len]; decide)
    (fun i x σ hx hI => by
      have hi : i < 3 := by
        have z := (List.getElem?_eq_some_iff.mp hx).1
        rw [rngW_len] at z
        exact z
      obtain ⟨w, σ2, e, ⟨v, rfl, v1, v2⟩, _, q⟩ := take_ok (n := s) hI (by omega) (by omega) (by omega)
      refine ⟨_, σ2, ?_, ⟨v, rfl, v1, v2⟩, q.mono (by omega)⟩
      simp only [m_l_right_e1, setN, wipeE, fnM, outM, sSeq, sSet, sRet, sDrop, sIf, sPut, sPar, sUnp, sNx, liftE, mOp, mUn, mCall, mCons, mNil, mC, mV, mB, asB, mAnd, mOr, mNot, mAndV, mOrV, mNotV, mIf, mTup, mLst, mNew, Res.bind, List.map_cons, List.map_nil, List.length_cons, List.length_nil, List.replicate, List.cons_append, List.nil_append, List.getElem?_cons_zero, List.getElem?_cons_succ, List.set_cons_zero, List.set_cons_succ, Nat.reduceAdd, Nat.reduceSub, Nat.reduceLeDiff, if_pos, if_true, ite_true, Mi.putAll, mTru, truW, fIsK, isK, Nat.beq, Bool.not_true, Bool.not_false, Bool.false_eq_true, if_false, Bool.or_false, Bool.false_or, Bool.or_self, decide_true, decide_false, e]) s1 (p1.mono (by omega))
  rw [rngW_len] at l2 p2
  obtain ⟨y0, y1, y2, rfl⟩ := three l2
  obtain ⟨v0, rfl, b0⟩ := P2 0 (.int (0 + (0 : Nat))) _ rfl rfl
  obtain ⟨v1, rfl, b1⟩ := P2 1 (.int (0 + (1 : Nat))) _ rfl rfl
  obtain ⟨v2, rfl, b2⟩ := P2 2 (.int (0 + (2 : Nat))) _ rfl rfl
  obtain ⟨w3, s3, e3, ⟨v3, rfl, b3⟩, _, p3⟩ := take_ok (n := s) p2 (by omega) (by omega) (by omega)
  obtain ⟨ρ, r0, r1, r2, r3⟩ : ∃ ρ : Fin 4 → Int, ρ 0 = v0 ∧ ρ 1 = v1 ∧ ρ 2 = v2 ∧ ρ 3 = v3 := ⟨fun k => match k with
    | 0 => v0
    | 1 => v1
    | 2 => v2
    | 3 => v3, rfl, rfl, rfl, rfl⟩
  subst r0 r1 r2 r3
  have hρ : ∀ k, 0 ≤ ρ k ∧ ρ k < s := fun k => match k with
    | 0 => b0
    | 1 => b1
    | 2 => b2
    | 3 => b3
  have hpl : p < s3.length := by
    obtain ⟨o, sd, n, k1, _⟩ := p3.ex
    exact (List.getElem?_eq_some_iff.mp k1).1
  have H4 : HeldAt (s3 ++ [.dct (heldK ρ)]) s3.length ρ := by
    unfold HeldAt
    rw [List.getElem?_append_right (Nat.le_refl _), Nat.sub_self]
    rfl
  have ne : s3.length ≠ p := by omega
  have p4 := pot_app p3 [.dct (heldK ρ)]
  obtain ⟨es, s5, e5, l5, P5, p5, H5⟩ := lc_ex (put := setN 15) (te := m_l_right_e2) (env := wipeE [some (.ref p), some (.int s), some (.tup [.int (ρ 0), .int (ρ 1), .int (ρ 2)]), some (.int (ρ 3)), some (.ref s3.length), none, none, none, none, none, none, none, none, none, none, none, none] [15]) (xs := rngW 0 6)
    (fun _ _ y => ∃ e : Ex, y = e.w ∧ e.fit s 3) (fun i σ => Pot σ p (c + 5 + 256 * i) ∧ HeldAt σ s3.length ρ) (by rw [rngW_len]; decide)
    (fun i x σ hx hI => by
      have hi : i < 6 := by
        have z := (List.getElem?_eq_some_iff.mp hx).1
        rw [rngW_len] at z
        exact z
      obtain ⟨w, σ2, e, he, f, q⟩ := sum_ok hs hI.1 (by omega)
      have e' : m_l_sum_4 [.ref p, .lst [.str z_m, .str z_n, .str z_o, .str z_it], .int s, .int 3] σ = .ok w σ2 := e
      refine ⟨w, σ2, ?_, he, q.mono (by simp; omega), fr_held f ne hI.2⟩
      simp only [m_l_right_e2, setN, wipeE, fnM, outM, sSeq, sSet, sRet, sDrop, sIf, sPut, sPar, sUnp, sNx, liftE, mOp, mUn, mCall, mCons, mNil, mC, mV, mB, asB, mAnd, mOr, mNot, mAndV, mOrV, mNotV, mIf, mTup, mLst, mNew, Res.bind, List.map_cons, List.map_nil, List.length_cons, List.length_nil, List.replicate, List.cons_append, List.nil_append, List.getElem?_cons_zero, List.getElem?_cons_succ, List.set_cons_zero, List.set_cons_succ, Nat.reduceAdd, Nat.reduceSub, Nat.reduceLeDiff, if_pos, if_true, ite_true, Mi.putAll, mTru, truW, fIsK, isK, Nat.beq, Bool.not_true, Bool.not_false, Bool.false_eq_true, if_false, Bool.or_false, Bool.false_or, Bool.or_self, decide_true, decide_false, e']) (s3 ++ [.dct (heldK ρ)]) ⟨p4.mono (by omega), H4⟩
  rw [rngW_len] at l5 p5
  obtain ⟨x0, x1, x2, x3, x4, x5, rfl⟩ := six l5
  obtain ⟨f0, rfl, h0⟩ := P5 0 (.int (0 + (0 : Nat))) _ rfl rfl
  obtain ⟨f1, rfl, h1⟩ := P5 1 (.int (0 + (1 : Nat))) _ rfl rfl
  obtain ⟨f2, rfl, h2⟩ := P5 2 (.int (0 + (2 : Nat))) _ rfl rfl
  obtain ⟨f3, rfl, h3⟩ := P5 3 (.int (0 + (3 : Nat))) _ rfl rfl
  obtain ⟨f4, rfl, h4⟩ := P5 4 (.int (0 + (4 : Nat))) _ rfl rfl
  obtain ⟨f5, rfl, h5⟩ := P5 5 (.int (0 + (5 : Nat))) _ rfl rfl
  have mo : ∀ (x : Int) st, fMod (.int x) (.int s) st = .ok (.int (x % s)) st := fun x st => f_mod (by omega)
  obtain ⟨ds, s6, e6, l6, P6, p6, H6⟩ := lc_ex (put := setN 16) (te := m_l_right_e3) (env := wipeE [some (.ref p), some (.int s), some (.tup [.int (ρ 0), .int (ρ 1), .int (ρ 2)]), some (.int (ρ 3)), some (.ref s3.length), some (.lst [f0.w, f1.w, f2.w, f3.w, f4.w, f5.w]), none, none, none, none, none, none, none, none, none, none, none] [16]) (xs := [f0.w, f1.w, f2.w, f3.w, f4.w, f5.w])
    (fun i _ y => ∃ e : Ex, [f0, f1, f2, f3, f4, f5][i]? = some e ∧ y = .int (e.val ρ % s)) (fun i σ => Pot σ p (c + 1600) ∧ HeldAt σ s3.length ρ) (by simp)
    (fun i x σ hx hI => by
      have hx' : ∃ e : Ex, [f0, f1, f2, f3, f4, f5][i]? = some e ∧ x = e.w ∧ e.fit s 3 := by
        match i, hx with
        | 0, hx => exact ⟨f0, rfl, by simpa using hx.symm, h0⟩
        | 1, hx => exact ⟨f1, rfl, by simpa using hx.symm, h1⟩
        | 2, hx => exact ⟨f2, rfl, by simpa using hx.symm, h2⟩
        | 3, hx => exact ⟨f3, rfl, by simpa using hx.symm, h3⟩
        | 4, hx => exact ⟨f4, rfl, by simpa using hx.symm, h4⟩
        | 5, hx => exact ⟨f5, rfl, by simpa using hx.symm, h5⟩
        | i + 6, hx => simp at hx
      obtain ⟨e, he, rfl, hf⟩ := hx'
      obtain ⟨t, pe⟩ := plain_ok hs hρ e hf (held_pl hI.2)
      refine ⟨_, σ ++ t, ?_, ⟨e, he, rfl⟩, pot_app hI.1 t, held_app hI.2 t⟩
      simp only [m_l_right_e3, setN, wipeE, fnM, outM, sSeq, sSet, sRet, sDrop, sIf, sPut, sPar, sUnp, sNx, liftE, mOp, mUn, mCall, mCons, mNil, mC, mV, mB, asB, mAnd, mOr, mNot, mAndV, mOrV, mNotV, mIf, mTup, mLst, mNew, Res.bind, List.map_cons, List.map_nil, List.length_cons, List.length_nil, List.replicate, List.cons_append, List.nil_append, List.getElem?_cons_zero, List.getElem?_cons_succ, List.set_cons_zero, List.set_cons_succ, Nat.reduceAdd, Nat.reduceSub, Nat.reduceLeDiff, if_pos, if_true, ite_true, Mi.putAll, mTru, truW, fIsK, isK, Nat.beq, Bool.not_true, Bool.not_false, Bool.false_eq_true, if_false, Bool.or_false, Bool.false_or, Bool.or_self, decide_true, decide_false, pe, inti, mo]) s5 ⟨p5.mono (by omega), H5⟩
  obtain ⟨g0, g1, g2, g3, g4, g5, rfl⟩ := six l6
  obtain ⟨q0, z0, rfl⟩ := P6 0 (f0.w) _ rfl rfl
  obtain ⟨q1, z1, rfl⟩ := P6 1 (f1.w) _ rfl rfl
  obtain ⟨q2, z2, rfl⟩ := P6 2 (f2.w) _ rfl rfl
  obtain ⟨q3, z3, rfl⟩ := P6 3 (f3.w) _ rfl rfl
  obtain ⟨q4, z4, rfl⟩ := P6 4 (f4.w) _ rfl rfl
  obtain ⟨q5, z5, rfl⟩ := P6 5 (f5.w) _ rfl rfl
  cases z0
  cases z1
  cases z2
  cases z3
  cases z4
  cases z5
  obtain ⟨s7, e7, p7⟩ := tail12 hs hρ h0 h1 h2 h3 h4 h5 H6 p6 ne
  rw [← seg7] at e7
  refine ⟨_, s7, ?_, rfl, p7.mono (by omega)⟩
  rw [right_eq]
  have ft : ∀ ys st, fTuple [.lst ys] st = .ok (.tup ys) st := fun _ _ => rfl
  have b3' : -(2 ^ 62) ≤ (3 : Int) ∧ (3 : Int) < 2 ^ 62 := by decide
  have b6' : -(2 ^ 62) ≤ (6 : Int) ∧ (6 : Int) < 2 ^ 62 := by decide
  have t3 : (3 : Int).toNat = 3 := rfl
  have t6 : (6 : Int).toNat = 6 := rfl
  have y0 : ∀ st, fIx (.tup [.int (ρ 0), .int (ρ 1), .int (ρ 2)]) (.int 0) st = .ok (.int (ρ 0)) st := fun st => ix0
  have y1 : ∀ st, fIx (.tup [.int (ρ 0), .int (ρ 1), .int (ρ 2)]) (.int 1) st = .ok (.int (ρ 1)) st := fun st => ix1
  have y2 : ∀ st, fIx (.tup [.int (ρ 0), .int (ρ 1), .int (ρ 2)]) (.int 2) st = .ok (.int (ρ 2)) st := fun st => ix2
  have hk : putAll2 [] [(.inr z_m, .int (ρ 0)), (.inr z_n, .int (ρ 1)), (.inr z_o, .int (ρ 2)), (.inr z_it, .int (ρ 3))] = heldK ρ := by kernel_rfl
  have so : seqOf (.lst [f0.w, f1.w, f2.w, f3.w, f4.w, f5.w]) = some [f0.w, f1.w, f2.w, f3.w, f4.w, f5.w] := rfl
  have e7' : outM (R7 [some (.ref p), some (.int s), some (.tup [.int (ρ 0), .int (ρ 1), .int (ρ 2)]), some (.int (ρ 3)), some (.ref s3.length), some (.lst [f0.w, f1.w, f2.w, f3.w, f4.w, f5.w]), some (.lst [.int (f0.val ρ % s), .int (f1.val ρ % s), .int (f2.val ρ % s), .int (f3.val ρ % s), .int (f4.val ρ % s), .int (f5.val ρ % s)]), none, none, none, none, none, none, none, none, none, none] s6) = .ok (.bl true) s7 := e7
  simp only [rightM, fnM, sSeq, sSet, sRet, sDrop, sIf, sPut, sPar, sUnp, sNx, liftE, mOp, mUn, mCall, mCons, mNil, mC, mV, mB, asB, mAnd, mOr, mNot, mAndV, mOrV, mNotV, mIf, mTup, mLst, mNew, Res.bind, List.map_cons, List.map_nil, List.length_cons, List.length_nil, List.replicate, List.cons_append, List.nil_append, List.getElem?_cons_zero, List.getElem?_cons_succ, List.set_cons_zero, List.set_cons_succ, Nat.reduceAdd, Nat.reduceSub, Nat.reduceLeDiff, if_pos, if_true, ite_true, Mi.putAll, mTru, truW, fIsK, isK, Nat.beq, Bool.not_true, Bool.not_false, Bool.false_eq_true, if_false, Bool.or_false, Bool.false_or, Bool.or_self, decide_true, decide_false, e1, a1, mLcR1, as1, b3', and_self, t3, e2, asLst, ft, e3, mDisp, mPairs, noX, Mi.keyOf, y0, y1, y2, hk, b6', t6, e5, mLcS, so, e6, e7']
end K08gen

namespace K08gen
open PySem PySem.Spec PyProof.Rows L2 Mi
variable [ClsMap]

theorem outer_ok {ns : List Int} {k : Int} {v2 v3 : Option W} {st : Store} (hk : 0 ≤ k) (hk2 : k ≤ 2) :
    ∃ w2 w3 s2, m_law_b1 [some (.frz (ns.map W.int)), some (.int k), v2, v3] st = .go (.nx [some (.frz (ns.map W.int)), some (.int k), w2, w3]) s2 := by
  obtain ⟨w, s1, e1, rfl, l1, p1⟩ := pot_ok (ns := ns) (st := st) hk hk2
  generalize hF : some (W.frz (ns.map W.int)) = F at *
  obtain ⟨s2, e2, p2⟩ := lc_true (put := setN 3) (te := m_law_e1) (env := wipeE [F, some (.int k), some (.ref st.length), v3] [3]) (xs := rngW 0 20) (fun i s => Pot s st.length (2000 * i)) (by rw [rngW_len]; decide) (fun i x s hx hI => by
    have hi : i < 20 := by
      have z := (List.getElem?_eq_some_iff.mp hx).1
      rw [rngW_len] at z
      exact z
    obtain ⟨w, s2, e, rfl, q⟩ := right_ok hI (by omega)
    refine ⟨s2, ?_, q.mono (by omega)⟩
    simp only [m_law_e1, setN, wipeE, fnM, outM, sSeq, sSet, sRet, sDrop, sIf, sPut, sPar, sUnp, sNx, liftE, mOp, mUn, mCall, mCons, mNil, mC, mV, mB, asB, mAnd, mOr, mNot, mAndV, mOrV, mNotV, mIf, mTup, mLst, mNew, Res.bind, List.map_cons, List.map_nil, List.length_cons, List.length_nil, List.replicate, List.cons_append, List.nil_append, List.getElem?_cons_zero, List.getElem?_cons_succ, List.set_cons_zero, List.set_cons_succ, Nat.reduceAdd, Nat.reduceSub, Nat.reduceLeDiff, if_pos, if_true, ite_true, Mi.putAll, mTru, truW, fIsK, isK, Nat.beq, Bool.not_true, Bool.not_false, Bool.false_eq_true, if_false, Bool.or_false, Bool.false_or, Bool.or_self, decide_true, decide_false, e]) s1 (p1.mono (by omega))
  rw [rngW_len] at e2
  have a := f_all (n := 20) (st := s2)
  generalize List.replicate 20 (W.bl true) = L1 at *
  have b1 : -(2 ^ 62) ≤ (20 : Int) ∧ (20 : Int) < 2 ^ 62 := by decide
  refine ⟨some (.ref st.length), v3, s2, ?_⟩
  subst hF
  simp only [m_law_b1, fnM, outM, sSeq, sSet, sRet, sDrop, sIf, sPut, sPar, sUnp, sNx, liftE, mOp, mUn, mCall, mCons, mNil, mC, mV, mB, asB, mAnd, mOr, mNot, mAndV, mOrV, mNotV, mIf, mTup, mLst, mNew, Res.bind, List.map_cons, List.map_nil, List.length_cons, List.length_nil, List.replicate, List.cons_append, List.nil_append, List.getElem?_cons_zero, List.getElem?_cons_succ, List.set_cons_zero, List.set_cons_succ, Nat.reduceAdd, Nat.reduceSub, Nat.reduceLeDiff, if_pos, if_true, ite_true, Mi.putAll, mTru, truW, fIsK, isK, Nat.beq, Bool.not_true, Bool.not_false, Bool.false_eq_true, if_false, Bool.or_false, Bool.false_or, Bool.or_self, decide_true, decide_false, e1, mLcR1, as1, b1, and_self, show (20 : Int).toNat = 20 from rfl, e2, asLst, a]
theorem law_true (ns : List Int) (hn : ns.length ≤ 63) : ∃ st', m_law [.frz (ns.map W.int)] [] = .ok (.bl true) st' := by
  generalize ha : (if ((ns.map W.int).length : Int) < 3 then ((ns.map W.int).length : Int) else 3) = a
  generalize hb : (if a > 1 then a else 1) = b
  have hb2 : 0 ≤ b ∧ b ≤ 3 := by
    rw [← hb, ← ha]
    split <;> split <;> omega
  obtain ⟨e2, s2, ef, _, v2, v3, ee⟩ := forEach_inv (xs := rngW 0 b.toNat) (put := fun x e => e.set 1 (some x)) (body := m_law_b1) (fun _ env _ => True ∧ ∃ v1 v2 v3, env = [some (.frz (ns.map W.int)), v1, v2, v3])
    (fun i x env s hx hI => by
      obtain ⟨_, v1, v2, v3, rfl⟩ := hI
      obtain ⟨k, hk, rfl⟩ := mem_rng (List.mem_of_getElem? hx)
      obtain ⟨w2, w3, s2, e⟩ := outer_ok (ns := ns) (k := 0 + (k : Int)) (v2 := v2) (v3 := v3) (st := s) (by omega) (by omega)
      exact ⟨_, s2, e, trivial, _, _, _, rfl⟩) [some (.frz (ns.map W.int)), none, none, none] [] ⟨trivial, _, _, _, rfl⟩
  have b1 : -(2 ^ 62) ≤ b ∧ b < 2 ^ 62 := by omega
  refine ⟨s2, ?_⟩
  simp only [m_law, fnM, outM, sSeq, sSet, sRet, sDrop, sIf, sPut, sPar, sUnp, sNx, liftE, mOp, mUn, mCall, mCons, mNil, mC, mV, mB, asB, mAnd, mOr, mNot, mAndV, mOrV, mNotV, mIf, mTup, mLst, mNew, Res.bind, List.map_cons, List.map_nil, List.length_cons, List.length_nil, List.replicate, List.cons_append, List.nil_append, List.getElem?_cons_zero, List.getElem?_cons_succ, List.set_cons_zero, List.set_cons_succ, Nat.reduceAdd, Nat.reduceSub, Nat.reduceLeDiff, if_pos, if_true, ite_true, Mi.putAll, mTru, truW, fIsK, isK, Nat.beq, Bool.not_true, Bool.not_false, Bool.false_eq_true, if_false, Bool.or_false, Bool.false_or, Bool.or_self, decide_true, decide_false, sForR1, f_lenF, fMin2, ha, fMax2, hb, as1, b1, and_self, ef]
end K08gen

namespace K08gen
open PySem PySem.Spec PyProof.Rows L2 Mi

@[reducible] def clsm (C0 C1 : Addr) : ClsMap := ⟨fun n => match n with
  | 0 => C0
  | 1 => C1
  | _ => 0⟩
theorem top_mk {P : Program} {w : World} {K : PySem.W.Frag} {h : Heap} {mg : Str → Option Value} {fa : Addr}
    {C0 C1 : Addr}
    {f0 : Addr} {od0 an0 : Option Addr} {sl0 : Array (Option Value)} {oc0 kV0 dc0 pm0 cd0 ct0 : Value}
    {f1 : Addr} {od1 an1 : Option Addr} {sl1 : Array (Option Value)} {oc1 kV1 dc1 pm1 cd1 ct1 : Value}
    {f2 : Addr} {od2 an2 : Option Addr} {sl2 : Array (Option Value)} {oc2 kV2 dc2 pm2 cd2 ct2 : Value}
    {f3 : Addr} {od3 an3 : Option Addr} {sl3 : Array (Option Value)} {oc3 kV3 dc3 pm3 cd3 ct3 : Value}
    {f4 : Addr} {od4 an4 : Option Addr} {sl4 : Array (Option Value)} {oc4 kV4 dc4 pm4 cd4 ct4 : Value}
    {f5 : Addr} {od5 an5 : Option Addr} {sl5 : Array (Option Value)} {oc5 kV5 dc5 pm5 cd5 ct5 : Value}
    {f6 : Addr} {od6 an6 : Option Addr} {sl6 : Array (Option Value)} {oc6 kV6 dc6 pm6 cd6 ct6 : Value}
    {f7 : Addr} {od7 an7 : Option Addr} {sl7 : Array (Option Value)} {oc7 kV7 dc7 pm7 cd7 ct7 : Value}
    {f8 : Addr} {od8 an8 : Option Addr} {sl8 : Array (Option Value)} {oc8 kV8 dc8 pm8 cd8 ct8 : Value}
    {T8 : Addr} {oT8 : Value} {dT8 : Option Addr} {nT8 : Nat} {sT8 : Array (Option Value)} {tk8_0 : Tok}
    {f9 : Addr} {od9 an9 : Option Addr} {sl9 : Array (Option Value)} {oc9 kV9 dc9 pm9 cd9 ct9 : Value}
    {f10 : Addr} {od10 an10 : Option Addr} {sl10 : Array (Option Value)} {oc10 kV10 dc10 pm10 cd10 ct10 : Value}
    {T10 : Addr} {oT10 : Value} {dT10 : Option Addr} {nT10 : Nat} {sT10 : Array (Option Value)} {tk10_0 : Tok}
    {f11 : Addr} {od11 an11 : Option Addr} {sl11 : Array (Option Value)} {oc11 kV11 dc11 pm11 cd11 ct11 : Value}
    {f12 : Addr} {od12 an12 : Option Addr} {sl12 : Array (Option Value)} {oc12 kV12 dc12 pm12 cd12 ct12 : Value}
    {f13 : Addr} {od13 an13 : Option Addr} {sl13 : Array (Option Value)} {oc13 kV13 dc13 pm13 cd13 ct13 : Value}
    {f14 : Addr} {od14 an14 : Option Addr} {sl14 : Array (Option Value)} {oc14 kV14 dc14 pm14 cd14 ct14 : Value}
    {f15 : Addr} {od15 an15 : Option Addr} {sl15 : Array (Option Value)} {oc15 kV15 dc15 pm15 cd15 ct15 : Value}
    {f16 : Addr} {od16 an16 : Option Addr} {sl16 : Array (Option Value)} {oc16 kV16 dc16 pm16 cd16 ct16 : Value}
    {f17 : Addr} {od17 an17 : Option Addr} {sl17 : Array (Option Value)} {oc17 kV17 dc17 pm17 cd17 ct17 : Value}
    {f18 : Addr} {od18 an18 : Option Addr} {sl18 : Array (Option Value)} {oc18 kV18 dc18 pm18 cd18 ct18 : Value}
    {f19 : Addr} {od19 an19 : Option Addr} {sl19 : Array (Option Value)} {oc19 kV19 dc19 pm19 cd19 ct19 : Value}
    {f20 : Addr} {od20 an20 : Option Addr} {sl20 : Array (Option Value)} {oc20 kV20 dc20 pm20 cd20 ct20 : Value}
    {f21 : Addr} {od21 an21 : Option Addr} {sl21 : Array (Option Value)} {oc21 kV21 dc21 pm21 cd21 ct21 : Value}
    {f22 : Addr} {od22 an22 : Option Addr} {sl22 : Array (Option Value)} {oc22 kV22 dc22 pm22 cd22 ct22 : Value}
    {f23 : Addr} {od23 an23 : Option Addr} {sl23 : Array (Option Value)} {oc23 kV23 dc23 pm23 cd23 ct23 : Value}
    {f24 : Addr} {od24 an24 : Option Addr} {sl24 : Array (Option Value)} {oc24 kV24 dc24 pm24 cd24 ct24 : Value}
    {f25 : Addr} {od25 an25 : Option Addr} {sl25 : Array (Option Value)} {oc25 kV25 dc25 pm25 cd25 ct25 : Value}
    {f26 : Addr} {od26 an26 : Option Addr} {sl26 : Array (Option Value)} {oc26 kV26 dc26 pm26 cd26 ct26 : Value}
    {f27 : Addr} {od27 an27 : Option Addr} {sl27 : Array (Option Value)} {oc27 kV27 dc27 pm27 cd27 ct27 : Value}
    {f28 : Addr} {od28 an28 : Option Addr} {sl28 : Array (Option Value)} {oc28 kV28 dc28 pm28 cd28 ct28 : Value}
    {f29 : Addr} {od29 an29 : Option Addr} {sl29 : Array (Option Value)} {oc29 kV29 dc29 pm29 cd29 ct29 : Value}
    {f30 : Addr} {od30 an30 : Option Addr} {sl30 : Array (Option Value)} {oc30 kV30 dc30 pm30 cd30 ct30 : Value}
    {f31 : Addr} {od31 an31 : Option Addr} {sl31 : Array (Option Value)} {oc31 kV31 dc31 pm31 cd31 ct31 : Value}
    {f32 : Addr} {od32 an32 : Option Addr} {sl32 : Array (Option Value)} {oc32 kV32 dc32 pm32 cd32 ct32 : Value}
    {f33 : Addr} {od33 an33 : Option Addr} {sl33 : Array (Option Value)} {oc33 kV33 dc33 pm33 cd33 ct33 : Value}
    {f34 : Addr} {od34 an34 : Option Addr} {sl34 : Array (Option Value)} {oc34 kV34 dc34 pm34 cd34 ct34 : Value}
    {f35 : Addr} {od35 an35 : Option Addr} {sl35 : Array (Option Value)} {oc35 kV35 dc35 pm35 cd35 ct35 : Value}
    {f36 : Addr} {od36 an36 : Option Addr} {sl36 : Array (Option Value)} {oc36 kV36 dc36 pm36 cd36 ct36 : Value}
    {f37 : Addr} {od37 an37 : Option Addr} {sl37 : Array (Option Value)} {oc37 kV37 dc37 pm37 cd37 ct37 : Value}
    {f38 : Addr} {od38 an38 : Option Addr} {sl38 : Array (Option Value)} {oc38 kV38 dc38 pm38 cd38 ct38 : Value}
    {f39 : Addr} {od39 an39 : Option Addr} {sl39 : Array (Option Value)} {oc39 kV39 dc39 pm39 cd39 ct39 : Value}
    {f40 : Addr} {od40 an40 : Option Addr} {sl40 : Array (Option Value)} {oc40 kV40 dc40 pm40 cd40 ct40 : Value}
    {f41 : Addr} {od41 an41 : Option Addr} {sl41 : Array (Option Value)} {oc41 kV41 dc41 pm41 cd41 ct41 : Value}
    {f42 : Addr} {od42 an42 : Option Addr} {sl42 : Array (Option Value)} {oc42 kV42 dc42 pm42 cd42 ct42 : Value}
    {f43 : Addr} {od43 an43 : Option Addr} {sl43 : Array (Option Value)} {oc43 kV43 dc43 pm43 cd43 ct43 : Value}
    {f44 : Addr} {od44 an44 : Option Addr} {sl44 : Array (Option Value)} {oc44 kV44 dc44 pm44 cd44 ct44 : Value}
    {f45 : Addr} {od45 an45 : Option Addr} {sl45 : Array (Option Value)} {oc45 kV45 dc45 pm45 cd45 ct45 : Value}
    {f46 : Addr} {od46 an46 : Option Addr} {sl46 : Array (Option Value)} {oc46 kV46 dc46 pm46 cd46 ct46 : Value}
    {f47 : Addr} {od47 an47 : Option Addr} {sl47 : Array (Option Value)} {oc47 kV47 dc47 pm47 cd47 ct47 : Value}
    {f48 : Addr} {od48 an48 : Option Addr} {sl48 : Array (Option Value)} {oc48 kV48 dc48 pm48 cd48 ct48 : Value}
    {f49 : Addr} {od49 an49 : Option Addr} {sl49 : Array (Option Value)} {oc49 kV49 dc49 pm49 cd49 ct49 : Value}
    {tg15 : Tok}
    {tg16 : Tok}
    {tg17 : Tok}
    {tg18 : Tok}
    {tg19 : Tok}
    {tg20 : Tok}
    {tg21 : Tok}
    {tg22 : Tok}
    {dg23 : Addr} {og23 : Option Addr} {ng23 : Nat} {sg23 : Array (Option Value)} {tg23_0 : Tok} {tg23_1 : Tok} {tg23_2 : Tok}
    {tg24 : Tok}
    (X : K.In h) (G : h.Ns mainGlobals mg) (hfa : mg "law" = some (.ref fa))
    (a0 : PySem.W.nsIn K mainGlobals "is_integer" = some (some (.ref f0)))
    (l0 : K.lookup f0 = some ⟨oc0, od0, .func (PySem.W.fnOf "is_integer" "is_integer" (defArgs s_is_integer) (defBody s_is_integer) (defScope s_is_integer) .none kV0 dc0 pm0 an0 cd0 ct0), sl0⟩)
    (c0 : PySem.W.codeIn K cd0 "is_integer" = true)
    (k0 : PySem.W.keepIn K (.ref f0) = true)
    (a1 : PySem.W.nsIn K mainGlobals "is_tuple_of" = some (some (.ref f1)))
    (l1 : K.lookup f1 = some ⟨oc1, od1, .func (PySem.W.fnOf "is_tuple_of" "is_tuple_of" (defArgs s_is_tuple_of) (defBody s_is_tuple_of) (defScope s_is_tuple_of) .none kV1 dc1 pm1 an1 cd1 ct1), sl1⟩)
    (c1 : PySem.W.codeIn K cd1 "is_tuple_of" = true)
    (k1 : PySem.W.keepIn K (.ref f1) = true)
    (a2 : PySem.W.nsIn K mainGlobals "is_name" = some (some (.ref f2)))
    (l2 : K.lookup f2 = some ⟨oc2, od2, .func (PySem.W.fnOf "is_name" "is_name" (defArgs s_is_name) (defBody s_is_name) (defScope s_is_name) .none kV2 dc2 pm2 an2 cd2 ct2), sl2⟩)
    (c2 : PySem.W.codeIn K cd2 "is_name" = true)
    (k2 : PySem.W.keepIn K (.ref f2) = true)
    (a3 : PySem.W.nsIn K mainGlobals "are_different" = some (some (.ref f3)))
    (l3 : K.lookup f3 = some ⟨oc3, od3, .func (PySem.W.fnOf "are_different" "are_different" (defArgs s_are_different) (defBody s_are_different) (defScope s_are_different) .none kV3 dc3 pm3 an3 cd3 ct3), sl3⟩)
    (c3 : PySem.W.codeIn K cd3 "are_different" = true)
    (k3 : PySem.W.keepIn K (.ref f3) = true)
    (a4 : PySem.W.nsIn K mainGlobals "find_place" = some (some (.ref f4)))
    (l4 : K.lookup f4 = some ⟨oc4, od4, .func (PySem.W.fnOf "find_place" "find_place" (defArgs s_find_place) (defBody s_find_place) (defScope s_find_place) .none kV4 dc4 pm4 an4 cd4 ct4), sl4⟩)
    (c4 : PySem.W.codeIn K cd4 "find_place" = true)
    (k4 : PySem.W.keepIn K (.ref f4) = true)
    (a5 : PySem.W.nsIn K mainGlobals "handlers_of" = some (some (.ref f5)))
    (l5 : K.lookup f5 = some ⟨oc5, od5, .func (PySem.W.fnOf "handlers_of" "handlers_of" (defArgs s_handlers_of) (defBody s_handlers_of) (defScope s_handlers_of) .none kV5 dc5 pm5 an5 cd5 ct5), sl5⟩)
    (c5 : PySem.W.codeIn K cd5 "handlers_of" = true)
    (k5 : PySem.W.keepIn K (.ref f5) = true)
    (a6 : PySem.W.nsIn K mainGlobals "is_alarm" = some (some (.ref f6)))
    (l6 : K.lookup f6 = some ⟨oc6, od6, .func (PySem.W.fnOf "is_alarm" "is_alarm" (defArgs s_is_alarm) (defBody s_is_alarm) (defScope s_is_alarm) .none kV6 dc6 pm6 an6 cd6 ct6), sl6⟩)
    (c6 : PySem.W.codeIn K cd6 "is_alarm" = true)
    (k6 : PySem.W.keepIn K (.ref f6) = true)
    (a7 : PySem.W.nsIn K mainGlobals "find_line_into" = some (some (.ref f7)))
    (l7 : K.lookup f7 = some ⟨oc7, od7, .func (PySem.W.fnOf "find_line_into" "find_line_into" (defArgs s_find_line_into) (defBody s_find_line_into) (defScope s_find_line_into) .none kV7 dc7 pm7 an7 cd7 ct7), sl7⟩)
    (c7 : PySem.W.codeIn K cd7 "find_line_into" = true)
    (k7 : PySem.W.keepIn K (.ref f7) = true)
    (a8 : PySem.W.nsIn K mainGlobals "is_program" = some (some (.ref f8)))
    (l8 : K.lookup f8 = some ⟨oc8, od8, .func (PySem.W.fnOf "is_program" "is_program" (defArgs s_is_program) (defBody s_is_program) (defScope s_is_program) (.ref T8) kV8 dc8 pm8 an8 cd8 ct8), sl8⟩)
    (d8 : K.lookup T8 = some ⟨oT8, dT8, .seq #[.int 1 tk8_0] nT8, sT8⟩)
    (c8 : PySem.W.codeIn K cd8 "is_program" = true)
    (k8 : PySem.W.keepIn K (.ref f8) = true)
    (a9 : PySem.W.nsIn K mainGlobals "named_by" = some (some (.ref f9)))
    (l9 : K.lookup f9 = some ⟨oc9, od9, .func (PySem.W.fnOf "named_by" "named_by" (defArgs s_named_by) (defBody s_named_by) (defScope s_named_by) .none kV9 dc9 pm9 an9 cd9 ct9), sl9⟩)
    (c9 : PySem.W.codeIn K cd9 "named_by" = true)
    (k9 : PySem.W.keepIn K (.ref f9) = true)
    (a10 : PySem.W.nsIn K mainGlobals "is_expression" = some (some (.ref f10)))
    (l10 : K.lookup f10 = some ⟨oc10, od10, .func (PySem.W.fnOf "is_expression" "is_expression" (defArgs s_is_expression) (defBody s_is_expression) (defScope s_is_expression) (.ref T10) kV10 dc10 pm10 an10 cd10 ct10), sl10⟩)
    (d10 : K.lookup T10 = some ⟨oT10, dT10, .seq #[.int 3 tk10_0] nT10, sT10⟩)
    (c10 : PySem.W.codeIn K cd10 "is_expression" = true)
    (k10 : PySem.W.keepIn K (.ref f10) = true)
    (a11 : PySem.W.nsIn K mainGlobals "do_block" = some (some (.ref f11)))
    (l11 : K.lookup f11 = some ⟨oc11, od11, .func (PySem.W.fnOf "do_block" "do_block" (defArgs s_do_block) (defBody s_do_block) (defScope s_do_block) .none kV11 dc11 pm11 an11 cd11 ct11), sl11⟩)
    (c11 : PySem.W.codeIn K cd11 "do_block" = true)
    (k11 : PySem.W.keepIn K (.ref f11) = true)
    (a12 : PySem.W.nsIn K mainGlobals "worth_of" = some (some (.ref f12)))
    (l12 : K.lookup f12 = some ⟨oc12, od12, .func (PySem.W.fnOf "worth_of" "worth_of" (defArgs s_worth_of) (defBody s_worth_of) (defScope s_worth_of) .none kV12 dc12 pm12 an12 cd12 ct12), sl12⟩)
    (c12 : PySem.W.codeIn K cd12 "worth_of" = true)
    (k12 : PySem.W.keepIn K (.ref f12) = true)
    (a13 : PySem.W.nsIn K mainGlobals "reckoned" = some (some (.ref f13)))
    (l13 : K.lookup f13 = some ⟨oc13, od13, .func (PySem.W.fnOf "reckoned" "reckoned" (defArgs s_reckoned) (defBody s_reckoned) (defScope s_reckoned) .none kV13 dc13 pm13 an13 cd13 ct13), sl13⟩)
    (c13 : PySem.W.codeIn K cd13 "reckoned" = true)
    (k13 : PySem.W.keepIn K (.ref f13) = true)
    (a14 : PySem.W.nsIn K mainGlobals "_law_pot" = some (some (.ref f14)))
    (l14 : K.lookup f14 = some ⟨oc14, od14, .func (PySem.W.fnOf "_law_pot" "_law_pot" (defArgs s_l_pot) (defBody s_l_pot) (defScope s_l_pot) .none kV14 dc14 pm14 an14 cd14 ct14), sl14⟩)
    (c14 : PySem.W.codeIn K cd14 "_law_pot" = true)
    (k14 : PySem.W.keepIn K (.ref f14) = true)
    (a15 : PySem.W.nsIn K mainGlobals "_law_take" = some (some (.ref f15)))
    (l15 : K.lookup f15 = some ⟨oc15, od15, .func (PySem.W.fnOf "_law_take" "_law_take" (defArgs s_l_take) (defBody s_l_take) (defScope s_l_take) .none kV15 dc15 pm15 an15 cd15 ct15), sl15⟩)
    (c15 : PySem.W.codeIn K cd15 "_law_take" = true)
    (k15 : PySem.W.keepIn K (.ref f15) = true)
    (a16 : PySem.W.nsIn K mainGlobals "_law_sum" = some (some (.ref f16)))
    (l16 : K.lookup f16 = some ⟨oc16, od16, .func (PySem.W.fnOf "_law_sum" "_law_sum" (defArgs s_l_sum) (defBody s_l_sum) (defScope s_l_sum) .none kV16 dc16 pm16 an16 cd16 ct16), sl16⟩)
    (c16 : PySem.W.codeIn K cd16 "_law_sum" = true)
    (k16 : PySem.W.keepIn K (.ref f16) = true)
    (a17 : PySem.W.nsIn K mainGlobals "_law_plain" = some (some (.ref f17)))
    (l17 : K.lookup f17 = some ⟨oc17, od17, .func (PySem.W.fnOf "_law_plain" "_law_plain" (defArgs s_l_plain) (defBody s_l_plain) (defScope s_l_plain) .none kV17 dc17 pm17 an17 cd17 ct17), sl17⟩)
    (c17 : PySem.W.codeIn K cd17 "_law_plain" = true)
    (k17 : PySem.W.keepIn K (.ref f17) = true)
    (aC0 : PySem.W.nsIn K mainGlobals "Names" = some (some (.ref C0)))
    (a18 : PySem.W.findIn K (.ref C0) "__init__" = some (some (.ref f18)))
    (i18 : PySem.W.isFn K (.ref f18) = true)
    (l18 : K.lookup f18 = some ⟨oc18, od18, .func (PySem.W.fnOf "__init__" "Names.__init__" (defArgs s_Names_init) (defBody s_Names_init) (defScope s_Names_init) .none kV18 dc18 pm18 an18 cd18 ct18), sl18⟩)
    (c18 : PySem.W.codeIn K cd18 "Names.__init__" = true)
    (k18 : PySem.W.keepIn K (.ref f18) = true)
    (aC1 : PySem.W.nsIn K mainGlobals "Doing" = some (some (.ref C1)))
    (a19 : PySem.W.findIn K (.ref C1) "__init__" = some (some (.ref f19)))
    (i19 : PySem.W.isFn K (.ref f19) = true)
    (l19 : K.lookup f19 = some ⟨oc19, od19, .func (PySem.W.fnOf "__init__" "Doing.__init__" (defArgs s_Doing_init) (defBody s_Doing_init) (defScope s_Doing_init) .none kV19 dc19 pm19 an19 cd19 ct19), sl19⟩)
    (c19 : PySem.W.codeIn K cd19 "Doing.__init__" = true)
    (k19 : PySem.W.keepIn K (.ref f19) = true)
    (a20 : PySem.W.nsIn K mainGlobals "is_count" = some (some (.ref f20)))
    (l20 : K.lookup f20 = some ⟨oc20, od20, .func (PySem.W.fnOf "is_count" "is_count" (defArgs s_is_count) (defBody s_is_count) (defScope s_is_count) .none kV20 dc20 pm20 an20 cd20 ct20), sl20⟩)
    (c20 : PySem.W.codeIn K cd20 "is_count" = true)
    (k20 : PySem.W.keepIn K (.ref f20) = true)
    (a21 : PySem.W.nsIn K mainGlobals "place_of" = some (some (.ref f21)))
    (l21 : K.lookup f21 = some ⟨oc21, od21, .func (PySem.W.fnOf "place_of" "place_of" (defArgs s_place_of) (defBody s_place_of) (defScope s_place_of) .none kV21 dc21 pm21 an21 cd21 ct21), sl21⟩)
    (c21 : PySem.W.codeIn K cd21 "place_of" = true)
    (k21 : PySem.W.keepIn K (.ref f21) = true)
    (a22 : PySem.W.nsIn K mainGlobals "find_rank" = some (some (.ref f22)))
    (l22 : K.lookup f22 = some ⟨oc22, od22, .func (PySem.W.fnOf "find_rank" "find_rank" (defArgs s_find_rank) (defBody s_find_rank) (defScope s_find_rank) .none kV22 dc22 pm22 an22 cd22 ct22), sl22⟩)
    (c22 : PySem.W.codeIn K cd22 "find_rank" = true)
    (k22 : PySem.W.keepIn K (.ref f22) = true)
    (a23 : PySem.W.nsIn K mainGlobals "are_names" = some (some (.ref f23)))
    (l23 : K.lookup f23 = some ⟨oc23, od23, .func (PySem.W.fnOf "are_names" "are_names" (defArgs s_are_names) (defBody s_are_names) (defScope s_are_names) .none kV23 dc23 pm23 an23 cd23 ct23), sl23⟩)
    (c23 : PySem.W.codeIn K cd23 "are_names" = true)
    (k23 : PySem.W.keepIn K (.ref f23) = true)
    (a24 : PySem.W.nsIn K mainGlobals "is_first_alarm" = some (some (.ref f24)))
    (l24 : K.lookup f24 = some ⟨oc24, od24, .func (PySem.W.fnOf "is_first_alarm" "is_first_alarm" (defArgs s_is_first_alarm) (defBody s_is_first_alarm) (defScope s_is_first_alarm) .none kV24 dc24 pm24 an24 cd24 ct24), sl24⟩)
    (c24 : PySem.W.codeIn K cd24 "is_first_alarm" = true)
    (k24 : PySem.W.keepIn K (.ref f24) = true)
    (a25 : PySem.W.nsIn K mainGlobals "_law_of" = some (some (.ref f25)))
    (l25 : K.lookup f25 = some ⟨oc25, od25, .func (PySem.W.fnOf "_law_of" "_law_of" (defArgs s_l_of) (defBody s_l_of) (defScope s_l_of) .none kV25 dc25 pm25 an25 cd25 ct25), sl25⟩)
    (c25 : PySem.W.codeIn K cd25 "_law_of" = true)
    (k25 : PySem.W.keepIn K (.ref f25) = true)
    (a26 : PySem.W.nsIn K mainGlobals "is_within" = some (some (.ref f26)))
    (l26 : K.lookup f26 = some ⟨oc26, od26, .func (PySem.W.fnOf "is_within" "is_within" (defArgs s_is_within) (defBody s_is_within) (defScope s_is_within) .none kV26 dc26 pm26 an26 cd26 ct26), sl26⟩)
    (c26 : PySem.W.codeIn K cd26 "is_within" = true)
    (k26 : PySem.W.keepIn K (.ref f26) = true)
    (a27 : PySem.W.nsIn K mainGlobals "is_delay" = some (some (.ref f27)))
    (l27 : K.lookup f27 = some ⟨oc27, od27, .func (PySem.W.fnOf "is_delay" "is_delay" (defArgs s_is_delay) (defBody s_is_delay) (defScope s_is_delay) .none kV27 dc27 pm27 an27 cd27 ct27), sl27⟩)
    (c27 : PySem.W.codeIn K cd27 "is_delay" = true)
    (k27 : PySem.W.keepIn K (.ref f27) = true)
    (a28 : PySem.W.nsIn K mainGlobals "are_cells" = some (some (.ref f28)))
    (l28 : K.lookup f28 = some ⟨oc28, od28, .func (PySem.W.fnOf "are_cells" "are_cells" (defArgs s_are_cells) (defBody s_are_cells) (defScope s_are_cells) .none kV28 dc28 pm28 an28 cd28 ct28), sl28⟩)
    (c28 : PySem.W.codeIn K cd28 "are_cells" = true)
    (k28 : PySem.W.keepIn K (.ref f28) = true)
    (a29 : PySem.W.nsIn K mainGlobals "is_first" = some (some (.ref f29)))
    (l29 : K.lookup f29 = some ⟨oc29, od29, .func (PySem.W.fnOf "is_first" "is_first" (defArgs s_is_first) (defBody s_is_first) (defScope s_is_first) .none kV29 dc29 pm29 an29 cd29 ct29), sl29⟩)
    (c29 : PySem.W.codeIn K cd29 "is_first" = true)
    (k29 : PySem.W.keepIn K (.ref f29) = true)
    (a30 : PySem.W.nsIn K mainGlobals "are_worths" = some (some (.ref f30)))
    (l30 : K.lookup f30 = some ⟨oc30, od30, .func (PySem.W.fnOf "are_worths" "are_worths" (defArgs s_are_worths) (defBody s_are_worths) (defScope s_are_worths) .none kV30 dc30 pm30 an30 cd30 ct30), sl30⟩)
    (c30 : PySem.W.codeIn K cd30 "are_worths" = true)
    (k30 : PySem.W.keepIn K (.ref f30) = true)
    (a31 : PySem.W.nsIn K mainGlobals "may_be_it" = some (some (.ref f31)))
    (l31 : K.lookup f31 = some ⟨oc31, od31, .func (PySem.W.fnOf "may_be_it" "may_be_it" (defArgs s_may_be_it) (defBody s_may_be_it) (defScope s_may_be_it) .none kV31 dc31 pm31 an31 cd31 ct31), sl31⟩)
    (c31 : PySem.W.codeIn K cd31 "may_be_it" = true)
    (k31 : PySem.W.keepIn K (.ref f31) = true)
    (a32 : PySem.W.nsIn K mainGlobals "is_line" = some (some (.ref f32)))
    (l32 : K.lookup f32 = some ⟨oc32, od32, .func (PySem.W.fnOf "is_line" "is_line" (defArgs s_is_line) (defBody s_is_line) (defScope s_is_line) .none kV32 dc32 pm32 an32 cd32 ct32), sl32⟩)
    (c32 : PySem.W.codeIn K cd32 "is_line" = true)
    (k32 : PySem.W.keepIn K (.ref f32) = true)
    (a33 : PySem.W.nsIn K mainGlobals "are_first" = some (some (.ref f33)))
    (l33 : K.lookup f33 = some ⟨oc33, od33, .func (PySem.W.fnOf "are_first" "are_first" (defArgs s_are_first) (defBody s_are_first) (defScope s_are_first) .none kV33 dc33 pm33 an33 cd33 ct33), sl33⟩)
    (c33 : PySem.W.codeIn K cd33 "are_first" = true)
    (k33 : PySem.W.keepIn K (.ref f33) = true)
    (a34 : PySem.W.nsIn K mainGlobals "are_lines" = some (some (.ref f34)))
    (l34 : K.lookup f34 = some ⟨oc34, od34, .func (PySem.W.fnOf "are_lines" "are_lines" (defArgs s_are_lines) (defBody s_are_lines) (defScope s_are_lines) .none kV34 dc34 pm34 an34 cd34 ct34), sl34⟩)
    (c34 : PySem.W.codeIn K cd34 "are_lines" = true)
    (k34 : PySem.W.keepIn K (.ref f34) = true)
    (a35 : PySem.W.nsIn K mainGlobals "holds" = some (some (.ref f35)))
    (l35 : K.lookup f35 = some ⟨oc35, od35, .func (PySem.W.fnOf "holds" "holds" (defArgs s_holds) (defBody s_holds) (defScope s_holds) .none kV35 dc35 pm35 an35 cd35 ct35), sl35⟩)
    (c35 : PySem.W.codeIn K cd35 "holds" = true)
    (k35 : PySem.W.keepIn K (.ref f35) = true)
    (a36 : PySem.W.nsIn K mainGlobals "do_statement" = some (some (.ref f36)))
    (l36 : K.lookup f36 = some ⟨oc36, od36, .func (PySem.W.fnOf "do_statement" "do_statement" (defArgs s_do_statement) (defBody s_do_statement) (defScope s_do_statement) .none kV36 dc36 pm36 an36 cd36 ct36), sl36⟩)
    (c36 : PySem.W.codeIn K cd36 "do_statement" = true)
    (k36 : PySem.W.keepIn K (.ref f36) = true)
    (a37 : PySem.W.nsIn K mainGlobals "is_short" = some (some (.ref f37)))
    (l37 : K.lookup f37 = some ⟨oc37, od37, .func (PySem.W.fnOf "is_short" "is_short" (defArgs s_is_short) (defBody s_is_short) (defScope s_is_short) .none kV37 dc37 pm37 an37 cd37 ct37), sl37⟩)
    (c37 : PySem.W.codeIn K cd37 "is_short" = true)
    (k37 : PySem.W.keepIn K (.ref f37) = true)
    (a38 : PySem.W.nsIn K mainGlobals "is_condition" = some (some (.ref f38)))
    (l38 : K.lookup f38 = some ⟨oc38, od38, .func (PySem.W.fnOf "is_condition" "is_condition" (defArgs s_is_condition) (defBody s_is_condition) (defScope s_is_condition) .none kV38 dc38 pm38 an38 cd38 ct38), sl38⟩)
    (c38 : PySem.W.codeIn K cd38 "is_condition" = true)
    (k38 : PySem.W.keepIn K (.ref f38) = true)
    (a39 : PySem.W.nsIn K mainGlobals "is_branch" = some (some (.ref f39)))
    (l39 : K.lookup f39 = some ⟨oc39, od39, .func (PySem.W.fnOf "is_branch" "is_branch" (defArgs s_is_branch) (defBody s_is_branch) (defScope s_is_branch) .none kV39 dc39 pm39 an39 cd39 ct39), sl39⟩)
    (c39 : PySem.W.codeIn K cd39 "is_branch" = true)
    (k39 : PySem.W.keepIn K (.ref f39) = true)
    (a40 : PySem.W.nsIn K mainGlobals "is_statement" = some (some (.ref f40)))
    (l40 : K.lookup f40 = some ⟨oc40, od40, .func (PySem.W.fnOf "is_statement" "is_statement" (defArgs s_is_statement) (defBody s_is_statement) (defScope s_is_statement) .none kV40 dc40 pm40 an40 cd40 ct40), sl40⟩)
    (c40 : PySem.W.codeIn K cd40 "is_statement" = true)
    (k40 : PySem.W.keepIn K (.ref f40) = true)
    (a41 : PySem.W.nsIn K mainGlobals "handle" = some (some (.ref f41)))
    (l41 : K.lookup f41 = some ⟨oc41, od41, .func (PySem.W.fnOf "handle" "handle" (defArgs s_handle) (defBody s_handle) (defScope s_handle) .none kV41 dc41 pm41 an41 cd41 ct41), sl41⟩)
    (c41 : PySem.W.codeIn K cd41 "handle" = true)
    (k41 : PySem.W.keepIn K (.ref f41) = true)
    (a42 : PySem.W.nsIn K mainGlobals "is_station" = some (some (.ref f42)))
    (l42 : K.lookup f42 = some ⟨oc42, od42, .func (PySem.W.fnOf "is_station" "is_station" (defArgs s_is_station) (defBody s_is_station) (defScope s_is_station) .none kV42 dc42 pm42 an42 cd42 ct42), sl42⟩)
    (c42 : PySem.W.codeIn K cd42 "is_station" = true)
    (k42 : PySem.W.keepIn K (.ref f42) = true)
    (a43 : PySem.W.nsIn K mainGlobals "are_stations" = some (some (.ref f43)))
    (l43 : K.lookup f43 = some ⟨oc43, od43, .func (PySem.W.fnOf "are_stations" "are_stations" (defArgs s_are_stations) (defBody s_are_stations) (defScope s_are_stations) .none kV43 dc43 pm43 an43 cd43 ct43), sl43⟩)
    (c43 : PySem.W.codeIn K cd43 "are_stations" = true)
    (k43 : PySem.W.keepIn K (.ref f43) = true)
    (a44 : PySem.W.nsIn K mainGlobals "is_model" = some (some (.ref f44)))
    (l44 : K.lookup f44 = some ⟨oc44, od44, .func (PySem.W.fnOf "is_model" "is_model" (defArgs s_is_model) (defBody s_is_model) (defScope s_is_model) .none kV44 dc44 pm44 an44 cd44 ct44), sl44⟩)
    (c44 : PySem.W.codeIn K cd44 "is_model" = true)
    (k44 : PySem.W.keepIn K (.ref f44) = true)
    (a45 : PySem.W.nsIn K mainGlobals "require_model" = some (some (.ref f45)))
    (l45 : K.lookup f45 = some ⟨oc45, od45, .func (PySem.W.fnOf "require_model" "require_model" (defArgs s_require_model) (defBody s_require_model) (defScope s_require_model) .none kV45 dc45 pm45 an45 cd45 ct45), sl45⟩)
    (c45 : PySem.W.codeIn K cd45 "require_model" = true)
    (k45 : PySem.W.keepIn K (.ref f45) = true)
    (a46 : PySem.W.nsIn K mainGlobals "place_in" = some (some (.ref f46)))
    (l46 : K.lookup f46 = some ⟨oc46, od46, .func (PySem.W.fnOf "place_in" "place_in" (defArgs s_place_in) (defBody s_place_in) (defScope s_place_in) .none kV46 dc46 pm46 an46 cd46 ct46), sl46⟩)
    (c46 : PySem.W.codeIn K cd46 "place_in" = true)
    (k46 : PySem.W.keepIn K (.ref f46) = true)
    (a47 : PySem.W.nsIn K mainGlobals "handled" = some (some (.ref f47)))
    (l47 : K.lookup f47 = some ⟨oc47, od47, .func (PySem.W.fnOf "handled" "handled" (defArgs s_handled) (defBody s_handled) (defScope s_handled) .none kV47 dc47 pm47 an47 cd47 ct47), sl47⟩)
    (c47 : PySem.W.codeIn K cd47 "handled" = true)
    (k47 : PySem.W.keepIn K (.ref f47) = true)
    (a48 : PySem.W.nsIn K mainGlobals "_law_right" = some (some (.ref f48)))
    (l48 : K.lookup f48 = some ⟨oc48, od48, .func (PySem.W.fnOf "_law_right" "_law_right" (defArgs s_l_right) (defBody s_l_right) (defScope s_l_right) .none kV48 dc48 pm48 an48 cd48 ct48), sl48⟩)
    (c48 : PySem.W.codeIn K cd48 "_law_right" = true)
    (k48 : PySem.W.keepIn K (.ref f48) = true)
    (a49 : PySem.W.nsIn K mainGlobals "law" = some (some (.ref f49)))
    (l49 : K.lookup f49 = some ⟨oc49, od49, .func (PySem.W.fnOf "law" "law" (defArgs s_law) (defBody s_law) (defScope s_law) .none kV49 dc49 pm49 an49 cd49 ct49), sl49⟩)
    (c49 : PySem.W.codeIn K cd49 "law" = true)
    (k49 : PySem.W.keepIn K (.ref f49) = true)
    (pg0 : PySem.W.plainGet K C0 Str.empty = true)
    (hd0 : PySem.W.hasDictIn K C0 = true)
    (po0 : PySem.W.plainOver K C0 = true)
    (sa0 : PySem.W.findIn K (.ref C0) "__setattr__" = some (some (.builtin "object.__setattr__")))
    (mk0 : PySem.W.makesIn K C0 = true)
    (kc0 : PySem.W.keepIn K (.ref C0) = true)
    (pg1 : PySem.W.plainGet K C1 Str.empty = true)
    (hd1 : PySem.W.hasDictIn K C1 = true)
    (po1 : PySem.W.plainOver K C1 = true)
    (sa1 : PySem.W.findIn K (.ref C1) "__setattr__" = some (some (.builtin "object.__setattr__")))
    (mk1 : PySem.W.makesIn K C1 = true)
    (kc1 : PySem.W.keepIn K (.ref C1) = true)
    (z0 : PySem.W.nsIn K mainGlobals "abs" = some none)
    (z1 : PySem.W.nsIn K mainGlobals "all" = some none)
    (z2 : PySem.W.nsIn K mainGlobals "bool" = some none)
    (z3 : PySem.W.nsIn K mainGlobals "enumerate" = some none)
    (z4 : PySem.W.nsIn K mainGlobals "int" = some none)
    (z5 : PySem.W.nsIn K mainGlobals "isinstance" = some none)
    (z6 : PySem.W.nsIn K mainGlobals "len" = some none)
    (z7 : PySem.W.nsIn K mainGlobals "max" = some none)
    (z8 : PySem.W.nsIn K mainGlobals "min" = some none)
    (z9 : PySem.W.nsIn K mainGlobals "range" = some none)
    (z10 : PySem.W.nsIn K mainGlobals "repr" = some none)
    (z11 : PySem.W.nsIn K mainGlobals "set" = some none)
    (z12 : PySem.W.nsIn K mainGlobals "str" = some none)
    (z13 : PySem.W.nsIn K mainGlobals "tuple" = some none)
    (z14 : PySem.W.nsIn K mainGlobals "zip" = some none)
    (g15 : PySem.W.nsIn K mainGlobals "DEEPEST" = some (some (.int 3 tg15)))
    (g16 : PySem.W.nsIn K mainGlobals "GREATEST" = some (some (.int 6 tg16)))
    (g17 : PySem.W.nsIn K mainGlobals "LETTERS" = some (some (.str "abcdefghijklmnopqrstuvwxyz" tg17)))
    (g18 : PySem.W.nsIn K mainGlobals "LONGEST" = some (some (.int 8 tg18)))
    (g19 : PySem.W.nsIn K mainGlobals "LONGEST_DELAY" = some (some (.int 20 tg19)))
    (g20 : PySem.W.nsIn K mainGlobals "MOST_ALARMS" = some (some (.int 2 tg20)))
    (g21 : PySem.W.nsIn K mainGlobals "MOST_NAMES" = some (some (.int 3 tg21)))
    (g22 : PySem.W.nsIn K mainGlobals "MOST_STATEMENTS" = some (some (.int 6 tg22)))
    (g23 : PySem.W.nsIn K mainGlobals "SIGNS" = some (some (.ref dg23)))
    (lg23 : K.lookup dg23 = some ⟨.type "tuple", og23, .seq #[.str "+" tg23_0, .str "-" tg23_1, .str "*" tg23_2] ng23, sg23⟩)
    (g24 : PySem.W.nsIn K mainGlobals "SMALLEST" = some (some (.int 2 tg24)))
    (n27 : PySem.W.findIn K (.ref C1) "cells" = some none)
    (n28 : PySem.W.findIn K (.ref C1) "it" = some none)
    (n29 : PySem.W.findIn K (.ref C1) "rings" = some none)
    (n30 : PySem.W.findIn K (.ref C1) "says" = some none)
    (n31 : PySem.W.findIn K (.ref C1) "sends" = some none)
    (n32 : PySem.W.findIn K (.ref C1) "size" = some none)
    (n33 : PySem.W.findIn K (.ref C0) "alarms" = some none)
    (n34 : PySem.W.findIn K (.ref C0) "cells" = some none)
    (n35 : PySem.W.findIn K (.ref C0) "outs" = some none)
    (n36 : PySem.W.findIn K (.ref C0) "size" = some none) :
    ∃ fd : FuncData, (∀ (s : Shared) (v : Value), BindsTo s fd ⟨[v], []⟩ [("_law_script", v)]) ∧ ∀ base : Heap, K.In base → base.Ns mainGlobals mg → @FnG (clsm C0 C1) P w K mg base 25 fa fd ["_law_script"] m_law := by
  letI : ClsMap := (clsm C0 C1)
  have e := hfa.symm.trans (PySem.W.mg_of X G a49)
  injection e with e
  injection e with e
  subst e
  have T : Blt K mg := ⟨PySem.W.mg_none_of X G z0, PySem.W.mg_none_of X G z1, PySem.W.mg_none_of X G z2, PySem.W.mg_none_of X G z3, PySem.W.mg_none_of X G z4, PySem.W.mg_none_of X G z5, PySem.W.mg_none_of X G z6, PySem.W.mg_none_of X G z7, PySem.W.mg_none_of X G z8, PySem.W.mg_none_of X G z9, PySem.W.mg_none_of X G z10, PySem.W.mg_none_of X G z11, PySem.W.mg_none_of X G z12, PySem.W.mg_none_of X G z13, PySem.W.mg_none_of X G z14, ⟨_, PySem.W.mg_of X G g15⟩, ⟨_, PySem.W.mg_of X G g16⟩, ⟨_, PySem.W.mg_of X G g17⟩, ⟨_, PySem.W.mg_of X G g18⟩, ⟨_, PySem.W.mg_of X G g19⟩, ⟨_, PySem.W.mg_of X G g20⟩, ⟨_, PySem.W.mg_of X G g21⟩, ⟨_, PySem.W.mg_of X G g22⟩, ⟨dg23, PySem.W.mg_of X G g23, fun p => ⟨dg23, [V.str z__2b, V.str z__2d, V.str z__2a], rfl, .inr (.inr ⟨_, _, _, lg23, rfl, rfl, by show 3 ≤ sizeLine; decide, .cons ⟨tg23_0, by rw [← y__2b]⟩ (.cons ⟨tg23_1, by rw [← y__2d]⟩ (.cons ⟨tg23_2, by rw [← y__2a]⟩ (.nil)))⟩), ⟨_, _, rfl, rfl, ⟨_, _, rfl, rfl, ⟨_, _, rfl, rfl, rfl⟩⟩⟩⟩⟩, ⟨_, PySem.W.mg_of X G g24⟩, ⟨pg0, hd0, po0, sa0⟩, ⟨pg1, hd1, po1, sa1⟩, n27, n28, n29, n30, n31, n32, n33, n34, n35, n36⟩
  have A0 : DefAt K mg "is_integer" s_is_integer := ⟨_, _, fun_mk l0 c0 k0, PySem.W.mg_of X G a0⟩
  have A1 : DefAt K mg "is_tuple_of" s_is_tuple_of := ⟨_, _, fun_mk l1 c1 k1, PySem.W.mg_of X G a1⟩
  have A2 : DefAt K mg "is_name" s_is_name := ⟨_, _, fun_mk l2 c2 k2, PySem.W.mg_of X G a2⟩
  have A3 : DefAt K mg "are_different" s_are_different := ⟨_, _, fun_mk l3 c3 k3, PySem.W.mg_of X G a3⟩
  have A4 : DefAt K mg "find_place" s_find_place := ⟨_, _, fun_mk l4 c4 k4, PySem.W.mg_of X G a4⟩
  have A5 : DefAt K mg "handlers_of" s_handlers_of := ⟨_, _, fun_mk l5 c5 k5, PySem.W.mg_of X G a5⟩
  have A6 : DefAt K mg "is_alarm" s_is_alarm := ⟨_, _, fun_mk l6 c6 k6, PySem.W.mg_of X G a6⟩
  have A7 : DefAt K mg "find_line_into" s_find_line_into := ⟨_, _, fun_mk l7 c7 k7, PySem.W.mg_of X G a7⟩
  have A8 : DefAtF K mg "is_program" s_is_program [.int 1] := ⟨_, _, ⟨⟨_, _, _, _, _, _, _, _, _, _, rfl, l8, c8, .inr ⟨fun z => (nomatch z), T8, _, [.int 1 tk8_0], _, rfl, d8, rfl, .cons ⟨tk8_0, rfl⟩ (.nil)⟩, .inl rfl⟩, k8⟩, PySem.W.mg_of X G a8⟩
  have A9 : DefAt K mg "named_by" s_named_by := ⟨_, _, fun_mk l9 c9 k9, PySem.W.mg_of X G a9⟩
  have A10 : DefAtF K mg "is_expression" s_is_expression [.int 3] := ⟨_, _, ⟨⟨_, _, _, _, _, _, _, _, _, _, rfl, l10, c10, .inr ⟨fun z => (nomatch z), T10, _, [.int 3 tk10_0], _, rfl, d10, rfl, .cons ⟨tk10_0, rfl⟩ (.nil)⟩, .inl rfl⟩, k10⟩, PySem.W.mg_of X G a10⟩
  have A11 : DefAt K mg "do_block" s_do_block := ⟨_, _, fun_mk l11 c11 k11, PySem.W.mg_of X G a11⟩
  have A12 : DefAt K mg "worth_of" s_worth_of := ⟨_, _, fun_mk l12 c12 k12, PySem.W.mg_of X G a12⟩
  have A13 : DefAt K mg "reckoned" s_reckoned := ⟨_, _, fun_mk l13 c13 k13, PySem.W.mg_of X G a13⟩
  have A14 : DefAt K mg "_law_pot" s_l_pot := ⟨_, _, fun_mk l14 c14 k14, PySem.W.mg_of X G a14⟩
  have A15 : DefAt K mg "_law_take" s_l_take := ⟨_, _, fun_mk l15 c15 k15, PySem.W.mg_of X G a15⟩
  have A16 : DefAt K mg "_law_sum" s_l_sum := ⟨_, _, fun_mk l16 c16 k16, PySem.W.mg_of X G a16⟩
  have A17 : DefAt K mg "_law_plain" s_l_plain := ⟨_, _, fun_mk l17 c17 k17, PySem.W.mg_of X G a17⟩
  have A18 : InitAt K mg "Names" 0 "Names.__init__" s_Names_init := ⟨_, _, fun_mk l18 c18 k18, ⟨mk0, a18, i18, kc0⟩, PySem.W.mg_of X G aC0⟩
  have A19 : InitAt K mg "Doing" 1 "Doing.__init__" s_Doing_init := ⟨_, _, fun_mk l19 c19 k19, ⟨mk1, a19, i19, kc1⟩, PySem.W.mg_of X G aC1⟩
  have A20 : DefAt K mg "is_count" s_is_count := ⟨_, _, fun_mk l20 c20 k20, PySem.W.mg_of X G a20⟩
  have A21 : DefAt K mg "place_of" s_place_of := ⟨_, _, fun_mk l21 c21 k21, PySem.W.mg_of X G a21⟩
  have A22 : DefAt K mg "find_rank" s_find_rank := ⟨_, _, fun_mk l22 c22 k22, PySem.W.mg_of X G a22⟩
  have A23 : DefAt K mg "are_names" s_are_names := ⟨_, _, fun_mk l23 c23 k23, PySem.W.mg_of X G a23⟩
  have A24 : DefAt K mg "is_first_alarm" s_is_first_alarm := ⟨_, _, fun_mk l24 c24 k24, PySem.W.mg_of X G a24⟩
  have A25 : DefAt K mg "_law_of" s_l_of := ⟨_, _, fun_mk l25 c25 k25, PySem.W.mg_of X G a25⟩
  have A26 : DefAt K mg "is_within" s_is_within := ⟨_, _, fun_mk l26 c26 k26, PySem.W.mg_of X G a26⟩
  have A27 : DefAt K mg "is_delay" s_is_delay := ⟨_, _, fun_mk l27 c27 k27, PySem.W.mg_of X G a27⟩
  have A28 : DefAt K mg "are_cells" s_are_cells := ⟨_, _, fun_mk l28 c28 k28, PySem.W.mg_of X G a28⟩
  have A29 : DefAt K mg "is_first" s_is_first := ⟨_, _, fun_mk l29 c29 k29, PySem.W.mg_of X G a29⟩
  have A30 : DefAt K mg "are_worths" s_are_worths := ⟨_, _, fun_mk l30 c30 k30, PySem.W.mg_of X G a30⟩
  have A31 : DefAt K mg "may_be_it" s_may_be_it := ⟨_, _, fun_mk l31 c31 k31, PySem.W.mg_of X G a31⟩
  have A32 : DefAt K mg "is_line" s_is_line := ⟨_, _, fun_mk l32 c32 k32, PySem.W.mg_of X G a32⟩
  have A33 : DefAt K mg "are_first" s_are_first := ⟨_, _, fun_mk l33 c33 k33, PySem.W.mg_of X G a33⟩
  have A34 : DefAt K mg "are_lines" s_are_lines := ⟨_, _, fun_mk l34 c34 k34, PySem.W.mg_of X G a34⟩
  have A35 : DefAt K mg "holds" s_holds := ⟨_, _, fun_mk l35 c35 k35, PySem.W.mg_of X G a35⟩
  have A36 : DefAt K mg "do_statement" s_do_statement := ⟨_, _, fun_mk l36 c36 k36, PySem.W.mg_of X G a36⟩
  have A37 : DefAt K mg "is_short" s_is_short := ⟨_, _, fun_mk l37 c37 k37, PySem.W.mg_of X G a37⟩
  have A38 : DefAt K mg "is_condition" s_is_condition := ⟨_, _, fun_mk l38 c38 k38, PySem.W.mg_of X G a38⟩
  have A39 : DefAt K mg "is_branch" s_is_branch := ⟨_, _, fun_mk l39 c39 k39, PySem.W.mg_of X G a39⟩
  have A40 : DefAt K mg "is_statement" s_is_statement := ⟨_, _, fun_mk l40 c40 k40, PySem.W.mg_of X G a40⟩
  have A41 : DefAt K mg "handle" s_handle := ⟨_, _, fun_mk l41 c41 k41, PySem.W.mg_of X G a41⟩
  have A42 : DefAt K mg "is_station" s_is_station := ⟨_, _, fun_mk l42 c42 k42, PySem.W.mg_of X G a42⟩
  have A43 : DefAt K mg "are_stations" s_are_stations := ⟨_, _, fun_mk l43 c43 k43, PySem.W.mg_of X G a43⟩
  have A44 : DefAt K mg "is_model" s_is_model := ⟨_, _, fun_mk l44 c44 k44, PySem.W.mg_of X G a44⟩
  have A45 : DefAt K mg "require_model" s_require_model := ⟨_, _, fun_mk l45 c45 k45, PySem.W.mg_of X G a45⟩
  have A46 : DefAt K mg "place_in" s_place_in := ⟨_, _, fun_mk l46 c46 k46, PySem.W.mg_of X G a46⟩
  have A47 : DefAt K mg "handled" s_handled := ⟨_, _, fun_mk l47 c47 k47, PySem.W.mg_of X G a47⟩
  have A48 : DefAt K mg "_law_right" s_l_right := ⟨_, _, fun_mk l48 c48 k48, PySem.W.mg_of X G a48⟩
  have A49 : DefAt K mg "law" s_law := ⟨_, _, fun_mk l49 c49 k49, PySem.W.mg_of X G a49⟩
  refine ⟨PySem.W.fnOf "law" "law" (defArgs s_law) (defBody s_law) (defScope s_law) .none kV49 dc49 pm49 an49 cd49 ct49, fun s v => .of_eq rfl, fun base _ _ => ?_⟩
  have D_is_integer := ok_is_integer (P := P) (w := w) (base := base) T A0 
  have D_is_tuple_of := ok_is_tuple_of (P := P) (w := w) (base := base) T A1 
  have D_is_name := ok_is_name (P := P) (w := w) (base := base) T A2 
  have D_are_different := ok_are_different (P := P) (w := w) (base := base) T A3 
  have D_find_place := ok_find_place (P := P) (w := w) (base := base) T A4 
  have D_handlers_of := ok_handlers_of (P := P) (w := w) (base := base) T A5 
  have D_is_alarm := ok_is_alarm (P := P) (w := w) (base := base) T A6 
  have D_find_line_into := ok_find_line_into (P := P) (w := w) (base := base) T A7 
  have D_is_program_0 := ok_is_program_0 (P := P) (w := w) (base := base) T A8 
  have D_named_by := ok_named_by (P := P) (w := w) (base := base) T A9 
  have D_is_expression_0 := ok_is_expression_0 (P := P) (w := w) (base := base) T A10 
  have D_do_block_0 := ok_do_block_0 (P := P) (w := w) (base := base) T A11 
  have D_worth_of_0 := ok_worth_of_0 (P := P) (w := w) (base := base) T A12 
  have D_reckoned := ok_reckoned (P := P) (w := w) (base := base) T A13 
  have D_l_pot := ok_l_pot (P := P) (w := w) (base := base) T A14 
  have D_l_take := ok_l_take (P := P) (w := w) (base := base) T A15 
  have D_l_sum_0 := ok_l_sum_0 (P := P) (w := w) (base := base) T A16 
  have D_l_plain_0 := ok_l_plain_0 (P := P) (w := w) (base := base) T A17 
  have D_Names_init := ok_Names_init (P := P) (w := w) (base := base) T A18 
  have D_Doing_init := ok_Doing_init (P := P) (w := w) (base := base) T A19 
  have D_is_count := ok_is_count (P := P) (w := w) (base := base) T A20 D_is_integer
  have D_place_of := ok_place_of (P := P) (w := w) (base := base) T A21 D_find_place
  have D_find_rank := ok_find_rank (P := P) (w := w) (base := base) T A22 D_handlers_of
  have D_are_names := ok_are_names (P := P) (w := w) (base := base) T A23 D_is_name
  have D_is_first_alarm := ok_is_first_alarm (P := P) (w := w) (base := base) T A24 D_find_place
  have D_worth_of_1 := ok_worth_of_1 (P := P) (w := w) (base := base) T A12 D_worth_of_0 D_reckoned
  have D_l_of := ok_l_of (P := P) (w := w) (base := base) T A25 D_l_take
  have D_l_plain_1 := ok_l_plain_1 (P := P) (w := w) (base := base) T A17 D_l_plain_0
  have D_is_within := ok_is_within (P := P) (w := w) (base := base) T A26 D_is_count
  have D_worth_of_2 := ok_worth_of_2 (P := P) (w := w) (base := base) T A12 D_worth_of_1 D_reckoned
  have D_l_sum_1 := ok_l_sum_1 (P := P) (w := w) (base := base) T A16 D_l_take D_l_of D_l_sum_0
  have D_l_plain_2 := ok_l_plain_2 (P := P) (w := w) (base := base) T A17 D_l_plain_1
  have D_is_expression_1 := ok_is_expression_1 (P := P) (w := w) (base := base) T A10 D_is_expression_0 D_is_within
  have D_is_delay := ok_is_delay (P := P) (w := w) (base := base) T A27 D_is_within
  have D_are_cells := ok_are_cells (P := P) (w := w) (base := base) T A28 D_is_tuple_of D_is_name D_is_within
  have D_is_first := ok_is_first (P := P) (w := w) (base := base) T A29 D_is_tuple_of D_is_count D_is_within D_find_place D_is_first_alarm D_find_line_into
  have D_are_worths := ok_are_worths (P := P) (w := w) (base := base) T A30 D_is_tuple_of D_is_within
  have D_may_be_it := ok_may_be_it (P := P) (w := w) (base := base) T A31 D_is_alarm D_is_within
  have D_worth_of_3 := ok_worth_of_3 (P := P) (w := w) (base := base) T A12 D_worth_of_2 D_reckoned
  have D_l_sum_2 := ok_l_sum_2 (P := P) (w := w) (base := base) T A16 D_l_take D_l_of D_l_sum_1
  have D_l_plain_3 := ok_l_plain_3 (P := P) (w := w) (base := base) T A17 D_l_plain_2
  have D_is_expression_2 := ok_is_expression_2 (P := P) (w := w) (base := base) T A10 D_is_expression_1 D_is_within
  have D_is_line := ok_is_line (P := P) (w := w) (base := base) T A32 D_is_tuple_of D_is_delay D_find_place
  have D_are_first := ok_are_first (P := P) (w := w) (base := base) T A33 D_is_first D_is_first_alarm D_are_different
  have D_worth_of_4 := ok_worth_of_4 (P := P) (w := w) (base := base) T A12 D_worth_of_3 D_reckoned
  have D_l_sum_3 := ok_l_sum_3 (P := P) (w := w) (base := base) T A16 D_l_take D_l_of D_l_sum_2
  have D_l_plain_4 := ok_l_plain_4 (P := P) (w := w) (base := base) T A17 D_l_plain_3
  have D_is_expression_3 := ok_is_expression_3 (P := P) (w := w) (base := base) T A10 D_is_expression_2 D_is_within
  have D_are_lines := ok_are_lines (P := P) (w := w) (base := base) T A34 D_is_line D_are_different
  have D_holds := ok_holds (P := P) (w := w) (base := base) T A35 D_worth_of_4
  have D_l_sum_4 := ok_l_sum_4 (P := P) (w := w) (base := base) T A16 D_l_take D_l_of D_l_sum_3
  have D_is_expression_4 := ok_is_expression_4 (P := P) (w := w) (base := base) T A10 D_is_expression_3 D_is_within
  have D_do_statement_1 := ok_do_statement_1 (P := P) (w := w) (base := base) T A36 D_worth_of_4 D_do_block_0 D_holds
  have D_is_short := ok_is_short (P := P) (w := w) (base := base) T A37 D_is_expression_4
  have D_is_condition := ok_is_condition (P := P) (w := w) (base := base) T A38 D_is_tuple_of D_is_expression_4
  have D_do_block_1 := ok_do_block_1 (P := P) (w := w) (base := base) T A11 D_do_statement_1
  have D_is_branch_1 := ok_is_branch_1 (P := P) (w := w) (base := base) T A39 D_is_expression_4 D_is_program_0 D_is_condition
  have D_do_statement_2 := ok_do_statement_2 (P := P) (w := w) (base := base) T A36 D_worth_of_4 D_do_block_1 D_holds
  have D_is_statement_1 := ok_is_statement_1 (P := P) (w := w) (base := base) T A40 D_is_branch_1 D_is_short D_named_by D_is_expression_4
  have D_do_block_2 := ok_do_block_2 (P := P) (w := w) (base := base) T A11 D_do_statement_2
  have D_is_program_1 := ok_is_program_1 (P := P) (w := w) (base := base) T A8 D_is_statement_1
  have D_do_statement_3 := ok_do_statement_3 (P := P) (w := w) (base := base) T A36 D_worth_of_4 D_do_block_2 D_holds
  have D_is_branch_2 := ok_is_branch_2 (P := P) (w := w) (base := base) T A39 D_is_expression_4 D_is_program_1 D_is_condition
  have D_do_block_3 := ok_do_block_3 (P := P) (w := w) (base := base) T A11 D_do_statement_3
  have D_is_statement_2 := ok_is_statement_2 (P := P) (w := w) (base := base) T A40 D_is_branch_2 D_is_short D_named_by D_is_expression_4
  have D_handle := ok_handle (P := P) (w := w) (base := base) T A41 D_Doing_init D_do_block_3
  have D_is_program_2 := ok_is_program_2 (P := P) (w := w) (base := base) T A8 D_is_statement_2
  have D_is_branch_3 := ok_is_branch_3 (P := P) (w := w) (base := base) T A39 D_is_expression_4 D_is_program_2 D_is_condition
  have D_is_statement_3 := ok_is_statement_3 (P := P) (w := w) (base := base) T A40 D_is_branch_3 D_is_short D_named_by D_is_expression_4
  have D_is_program_3 := ok_is_program_3 (P := P) (w := w) (base := base) T A8 D_is_statement_3
  have D_is_station := ok_is_station (P := P) (w := w) (base := base) T A42 D_is_tuple_of D_is_name D_are_cells D_are_names D_are_different D_Names_init D_is_program_3
  have D_are_stations := ok_are_stations (P := P) (w := w) (base := base) T A43 D_is_station D_are_different
  have D_is_model := ok_is_model (P := P) (w := w) (base := base) T A44 D_is_tuple_of D_is_integer D_are_stations D_are_lines D_are_first
  have D_require_model := ok_require_model (P := P) (w := w) (base := base) T A45 D_is_model
  have D_place_in := ok_place_in (P := P) (w := w) (base := base) T A46 D_require_model D_place_of
  have D_handled := ok_handled (P := P) (w := w) (base := base) T A47 D_place_in D_are_worths D_find_rank D_may_be_it D_handle
  have D_l_right := ok_l_right (P := P) (w := w) (base := base) T A48 D_l_take D_l_sum_4 D_l_plain_4 D_handled
  have D_law := ok_law (P := P) (w := w) (base := base) T A49 D_l_pot D_l_right
  obtain ⟨f, fd, F, hm, g⟩ := D_law.ex
  have e2 := hm.symm.trans (PySem.W.mg_of X G a49)
  cases e2
  obtain ⟨oc, od, kV, doc, pm, an, cdv, ct, osl, e3, lk, hcd⟩ := F.ex
  have e4 := lk.symm.trans l49
  have e5 : fd = PySem.W.fnOf "law" "law" (defArgs s_law) (defBody s_law) (defScope s_law) .none kV49 dc49 pm49 an49 cd49 ct49 := by
    injection e4 with e4
    injection e4 with _ _ e6 _
    injection e6
  rw [← e5]
  exact g
def walkC (C0 C1 : Addr) := @Mi.walkG (clsm C0 C1)
end K08gen
open PySem PySem.W PyProof.Rows in
set_option maxRecDepth 100000 in
set_option maxHeartbeats 0 in
theorem PySem.Challenge.cw_farasnothing_k08_expressions_reckoned_holds : PySem.Challenge.rw_farasnothing_k08_expressions_reckoned.Holds := by
  w_on; o_law; k_head; (case hw => w_witness2)
  k_fill
  refine K08gen.walkC ?C0 ?C1 (l := PySem.Challenge.rw_farasnothing_k08_expressions_reckoned) (n := 63) (k := 25) (x := "_law_script") (m := K08gen.m_law) rfl (by decide) rfl ⟨rfl, by decide, by decide⟩ (fun w h Y => PySem.W.kIn_of Y) ?F (fun ns h => @K08gen.law_true (K08gen.clsm 0 0) ns h)
  case F =>
    intro w mg fa h KX G hmg
    refine' K08gen.top_mk KX G hmg ?a0 ?l0 ?c0 ?k0 ?a1 ?l1 ?c1 ?k1 ?a2 ?l2 ?c2 ?k2 ?a3 ?l3 ?c3 ?k3 ?a4 ?l4 ?c4 ?k4 ?a5 ?l5 ?c5 ?k5 ?a6 ?l6 ?c6 ?k6 ?a7 ?l7 ?c7 ?k7 ?a8 ?l8 ?d8 ?c8 ?k8 ?a9 ?l9 ?c9 ?k9 ?a10 ?l10 ?d10 ?c10 ?k10 ?a11 ?l11 ?c11 ?k11 ?a12 ?l12 ?c12 ?k12 ?a13 ?l13 ?c13 ?k13 ?a14 ?l14 ?c14 ?k14 ?a15 ?l15 ?c15 ?k15 ?a16 ?l16 ?c16 ?k16 ?a17 ?l17 ?c17 ?k17 ?aC0 ?a18 ?i18 ?l18 ?c18 ?k18 ?aC1 ?a19 ?i19 ?l19 ?c19 ?k19 ?a20 ?l20 ?c20 ?k20 ?a21 ?l21 ?c21 ?k21 ?a22 ?l22 ?c22 ?k22 ?a23 ?l23 ?c23 ?k23 ?a24 ?l24 ?c24 ?k24 ?a25 ?l25 ?c25 ?k25 ?a26 ?l26 ?c26 ?k26 ?a27 ?l27 ?c27 ?k27 ?a28 ?l28 ?c28 ?k28 ?a29 ?l29 ?c29 ?k29 ?a30 ?l30 ?c30 ?k30 ?a31 ?l31 ?c31 ?k31 ?a32 ?l32 ?c32 ?k32 ?a33 ?l33 ?c33 ?k33 ?a34 ?l34 ?c34 ?k34 ?a35 ?l35 ?c35 ?k35 ?a36 ?l36 ?c36 ?k36 ?a37 ?l37 ?c37 ?k37 ?a38 ?l38 ?c38 ?k38 ?a39 ?l39 ?c39 ?k39 ?a40 ?l40 ?c40 ?k40 ?a41 ?l41 ?c41 ?k41 ?a42 ?l42 ?c42 ?k42 ?a43 ?l43 ?c43 ?k43 ?a44 ?l44 ?c44 ?k44 ?a45 ?l45 ?c45 ?k45 ?a46 ?l46 ?c46 ?k46 ?a47 ?l47 ?c47 ?k47 ?a48 ?l48 ?c48 ?k48 ?a49 ?l49 ?c49 ?k49 ?pg0 ?hd0 ?po0 ?sa0 ?mk0 ?kc0 ?pg1 ?hd1 ?po1 ?sa1 ?mk1 ?kc1 ?z0 ?z1 ?z2 ?z3 ?z4 ?z5 ?z6 ?z7 ?z8 ?z9 ?z10 ?z11 ?z12 ?z13 ?z14 ?g15 ?g16 ?g17 ?g18 ?g19 ?g20 ?g21 ?g22 ?g23 ?lg23 ?g24 ?n27 ?n28 ?n29 ?n30 ?n31 ?n32 ?n33 ?n34 ?n35 ?n36
    (case a0 => k_is)
    (case l0 => k_is)
    (case c0 => k_is)
    (case k0 => k_is)
    (case a1 => k_is)
    (case l1 => k_is)
    (case c1 => k_is)
    (case k1 => k_is)
    (case a2 => k_is)
    (case l2 => k_is)
    (case c2 => k_is)
    (case k2 => k_is)
    (case a3 => k_is)
    (case l3 => k_is)
    (case c3 => k_is)
    (case k3 => k_is)
    (case a4 => k_is)
    (case l4 => k_is)
    (case c4 => k_is)
    (case k4 => k_is)
    (case a5 => k_is)
    (case l5 => k_is)
    (case c5 => k_is)
    (case k5 => k_is)
    (case a6 => k_is)
    (case l6 => k_is)
    (case c6 => k_is)
    (case k6 => k_is)
    (case a7 => k_is)
    (case l7 => k_is)
    (case c7 => k_is)
    (case k7 => k_is)
    (case a8 => k_is)
    (case l8 => k_is)
    (case d8 => k_is)
    (case c8 => k_is)
    (case k8 => k_is)
    (case a9 => k_is)
    (case l9 => k_is)
    (case c9 => k_is)
    (case k9 => k_is)
    (case a10 => k_is)
    (case l10 => k_is)
    (case d10 => k_is)
    (case c10 => k_is)
    (case k10 => k_is)
    (case a11 => k_is)
    (case l11 => k_is)
    (case c11 => k_is)
    (case k11 => k_is)
    (case a12 => k_is)
    (case l12 => k_is)
    (case c12 => k_is)
    (case k12 => k_is)
    (case a13 => k_is)
    (case l13 => k_is)
    (case c13 => k_is)
    (case k13 => k_is)
    (case a14 => k_is)
    (case l14 => k_is)
    (case c14 => k_is)
    (case k14 => k_is)
    (case a15 => k_is)
    (case l15 => k_is)
    (case c15 => k_is)
    (case k15 => k_is)
    (case a16 => k_is)
    (case l16 => k_is)
    (case c16 => k_is)
    (case k16 => k_is)
    (case a17 => k_is)
    (case l17 => k_is)
    (case c17 => k_is)
    (case k17 => k_is)
    (case aC0 => k_is)
    (case a18 => k_is)
    (case i18 => k_is)
    (case l18 => k_is)
    (case c18 => k_is)
    (case k18 => k_is)
    (case aC1 => k_is)
    (case a19 => k_is)
    (case i19 => k_is)
    (case l19 => k_is)
    (case c19 => k_is)
    (case k19 => k_is)
    (case a20 => k_is)
    (case l20 => k_is)
    (case c20 => k_is)
    (case k20 => k_is)
    (case a21 => k_is)
    (case l21 => k_is)
    (case c21 => k_is)
    (case k21 => k_is)
    (case a22 => k_is)
    (case l22 => k_is)
    (case c22 => k_is)
    (case k22 => k_is)
    (case a23 => k_is)
    (case l23 => k_is)
    (case c23 => k_is)
    (case k23 => k_is)
    (case a24 => k_is)
    (case l24 => k_is)
    (case c24 => k_is)
    (case k24 => k_is)
    (case a25 => k_is)
    (case l25 => k_is)
    (case c25 => k_is)
    (case k25 => k_is)
    (case a26 => k_is)
    (case l26 => k_is)
    (case c26 => k_is)
    (case k26 => k_is)
    (case a27 => k_is)
    (case l27 => k_is)
    (case c27 => k_is)
    (case k27 => k_is)
    (case a28 => k_is)
    (case l28 => k_is)
    (case c28 => k_is)
    (case k28 => k_is)
    (case a29 => k_is)
    (case l29 => k_is)
    (case c29 => k_is)
    (case k29 => k_is)
    (case a30 => k_is)
    (case l30 => k_is)
    (case c30 => k_is)
    (case k30 => k_is)
    (case a31 => k_is)
    (case l31 => k_is)
    (case c31 => k_is)
    (case k31 => k_is)
    (case a32 => k_is)
    (case l32 => k_is)
    (case c32 => k_is)
    (case k32 => k_is)
    (case a33 => k_is)
    (case l33 => k_is)
    (case c33 => k_is)
    (case k33 => k_is)
    (case a34 => k_is)
    (case l34 => k_is)
    (case c34 => k_is)
    (case k34 => k_is)
    (case a35 => k_is)
    (case l35 => k_is)
    (case c35 => k_is)
    (case k35 => k_is)
    (case a36 => k_is)
    (case l36 => k_is)
    (case c36 => k_is)
    (case k36 => k_is)
    (case a37 => k_is)
    (case l37 => k_is)
    (case c37 => k_is)
    (case k37 => k_is)
    (case a38 => k_is)
    (case l38 => k_is)
    (case c38 => k_is)
    (case k38 => k_is)
    (case a39 => k_is)
    (case l39 => k_is)
    (case c39 => k_is)
    (case k39 => k_is)
    (case a40 => k_is)
    (case l40 => k_is)
    (case c40 => k_is)
    (case k40 => k_is)
    (case a41 => k_is)
    (case l41 => k_is)
    (case c41 => k_is)
    (case k41 => k_is)
    (case a42 => k_is)
    (case l42 => k_is)
    (case c42 => k_is)
    (case k42 => k_is)
    (case a43 => k_is)
    (case l43 => k_is)
    (case c43 => k_is)
    (case k43 => k_is)
    (case a44 => k_is)
    (case l44 => k_is)
    (case c44 => k_is)
    (case k44 => k_is)
    (case a45 => k_is)
    (case l45 => k_is)
    (case c45 => k_is)
    (case k45 => k_is)
    (case a46 => k_is)
    (case l46 => k_is)
    (case c46 => k_is)
    (case k46 => k_is)
    (case a47 => k_is)
    (case l47 => k_is)
    (case c47 => k_is)
    (case k47 => k_is)
    (case a48 => k_is)
    (case l48 => k_is)
    (case c48 => k_is)
    (case k48 => k_is)
    (case a49 => k_is)
    (case l49 => k_is)
    (case c49 => k_is)
    (case k49 => k_is)
    (case pg0 => k_is)
    (case hd0 => k_is)
    (case po0 => k_is)
    (case sa0 => k_is)
    (case mk0 => k_is)
    (case kc0 => k_is)
    (case pg1 => k_is)
    (case hd1 => k_is)
    (case po1 => k_is)
    (case sa1 => k_is)
    (case mk1 => k_is)
    (case kc1 => k_is)
    (case z0 => k_is)
    (case z1 => k_is)
    (case z2 => k_is)
    (case z3 => k_is)
    (case z4 => k_is)
    (case z5 => k_is)
    (case z6 => k_is)
    (case z7 => k_is)
    (case z8 => k_is)
    (case z9 => k_is)
    (case z10 => k_is)
    (case z11 => k_is)
    (case z12 => k_is)
    (case z13 => k_is)
    (case z14 => k_is)
    (case g15 => k_is)
    (case g16 => k_is)
    (case g17 => k_is)
    (case g18 => k_is)
    (case g19 => k_is)
    (case g20 => k_is)
    (case g21 => k_is)
    (case g22 => k_is)
    (case g23 => k_is)
    (case lg23 => k_is)
    (case g24 => k_is)
    (case n27 => k_is)
    (case n28 => k_is)
    (case n29 => k_is)
    (case n30 => k_is)
    (case n31 => k_is)
    (case n32 => k_is)
    (case n33 => k_is)
    (case n34 => k_is)
    (case n35 => k_is)
    (case n36 => k_is)
