import PyProof.Rows.All
import HandS.ForMost
import HandS.TupLe
import HandS.TupAny
import HandS.CallSlots
import HandS.Exc
import HandS.Wide
import HandS.IsInst
import HandS.RaiseMore
import HandS.Flow
import HandS.Style
import KE.DataCmp
import KE.DataEq
import PyProof.ReprRoads
import HandS.Comp
import HandS.Ends
import HandS.WordsExc
import PyProof.ReprLen
import PySem.Challenge.RW_farasnothing_k11_whole_stamps_in_order
set_option Elab.async false
set_option linter.all false
set_option maxRecDepth 100000
/-! Mi: a mirror in plain Lean of what a def does, over values W and a store of mutable things; and why a def keeps to its mirror. -/
namespace Mi
open PySem PySem.Spec PyProof.Rows L2

/-- a value as the mirror has it: data as trees, a mutable thing by its number in the store -/
inductive W where
  | non | bl (b : Bool) | int (i : Int) | str (s : Str) | tup (xs : List W) | lst (xs : List W) | frz (xs : List W) | ref (n : Nat)

inductive O where
  | lst (xs : List W)

abbrev Store := List O

/-- where the things of a store stand -/
structure Wh where
  ρ : Nat → Addr
  n : Nat
  H : Hp
  /-- lists that are being made, which no value leads to -/
  x : List Addr

def Wh.out (p : Wh) (a : Addr) : Prop := (∀ i, i < p.n → p.ρ i ≠ a) ∧ a ∉ p.x

structure Xc where
  cls : Str
  args : List (Str × W)

inductive Res (α : Type) where
  | ok (a : α) (st : Store)
  | exc (x : Xc) (st : Store)
  | bad

def Res.bind {α β : Type} (r : Res α) (k : α → Store → Res β) : Res β :=
  match r with
  | .ok a st => k a st
  | .exc x st => .exc x st
  | .bad => .bad

section
variable (K : PySem.W.Frag)
def TupAt (p : Wh) (a : Addr) (vs : List V) : Prop := (Rd p.H a (.tup vs) ∧ p.out a) ∨ SqT K (fun _ => none) a vs
def LstAt (p : Wh) (a : Addr) (vs : List V) : Prop := p.H a = some (.lst vs) ∧ p.out a
def FrzAt (p : Wh) (a : Addr) (vs : List V) : Prop := (Rd p.H a (.lst vs) ∧ p.out a) ∨ SqL K (fun _ => none) a vs

mutual
def RW (p : Wh) : W → V → Prop
  | .non, v => v = .non
  | .bl b, v => v = .bl b
  | .int i, v => v = .int i
  | .str s, v => v = .str s
  | .tup xs, v => ∃ a vs, v = .ref a ∧ TupAt K p a vs ∧ RWs p xs vs
  | .lst xs, v => ∃ a vs, v = .ref a ∧ LstAt p a vs ∧ RWs p xs vs
  | .frz xs, v => ∃ a vs, v = .ref a ∧ FrzAt K p a vs ∧ RWs p xs vs
  | .ref n, v => n < p.n ∧ v = .ref (p.ρ n)
def RWs (p : Wh) : List W → List V → Prop
  | [], vs => vs = []
  | x :: xs, vs => ∃ v r, vs = v :: r ∧ RW p x v ∧ RWs p xs r
end

def RO (p : Wh) : O → Option HO → Prop
  | .lst xs, h => ∃ vs, h = some (.lst vs) ∧ RWs K p xs vs

structure SR (p : Wh) (st : Store) : Prop where
  len : p.n = st.length
  inj : ∀ i j, i < p.n → j < p.n → p.ρ i = p.ρ j → i = j
  obj : ∀ (i : Nat) (o : O), st[i]? = some o → RO K p o (p.H (p.ρ i))
  hid : ∀ a, a ∈ p.x → p.H a ≠ none ∧ ∀ i, i < p.n → p.ρ i ≠ a
end

/-- from p to q: what values lead to is kept -/
structure Mv (p q : Wh) : Prop where
  le : p.n ≤ q.n
  same : ∀ i, i < p.n → q.ρ i = p.ρ i
  keep : ∀ a o, p.H a = some o → p.out a → q.H a = some o
  new : ∀ i, p.n ≤ i → i < q.n → p.H (q.ρ i) = none
  there : ∀ i, i < q.n → q.H (q.ρ i) ≠ none
  hx : ∀ a, a ∈ q.x → a ∈ p.x ∨ p.H a = none
  hth : ∀ a, a ∈ p.x → q.H a ≠ none
structure Step (p q : Wh) : Prop extends Mv p q where
  xs : q.x = p.x
  hk : ∀ a, a ∈ p.x → q.H a = p.H a

theorem RO.some {K : PySem.W.Frag} {p : Wh} {o : O} {h : Option HO} (r : RO K p o h) : h ≠ none := by
  cases o with
  | lst xs =>
    obtain ⟨vs, e, _⟩ := r
    rw [e]
    exact fun z => nomatch z

section
variable {K : PySem.W.Frag} {p q r : Wh} {st st' : Store}
theorem SR.there (s : SR K p st) (i : Nat) (h : i < p.n) : p.H (p.ρ i) ≠ none := by
  have hl : i < st.length := s.len ▸ h
  exact (s.obj i st[i] (List.getElem?_eq_getElem hl)).some
theorem Step.refl (s : SR K p st) : Step p p :=
  ⟨⟨Nat.le_refl _, fun _ _ => rfl, fun _ _ h _ => h, fun i h1 h2 => absurd h2 (by omega), s.there, fun a h => .inl h, fun a h => (s.hid a h).1⟩, rfl, fun _ _ => rfl⟩
theorem Mv.out (s : Mv p q) {a : Addr} {o : HO} (h : p.H a = some o) (u : p.out a) : q.out a := by
  refine ⟨fun i hi e => ?_, fun hx => ?_⟩
  · by_cases hp : i < p.n
    · exact u.1 i hp ((s.same i hp).symm.trans e)
    · have z := s.new i (by omega) hi
      rw [e, h] at z
      cases z
  · rcases s.hx a hx with z | z
    · exact u.2 z
    · rw [h] at z
      cases z
theorem Mv.noneB (s : Mv p q) {a : Addr} (h : q.H a = none) (hx : a ∉ p.x) : p.H a = none := by
  cases e : p.H a with
  | none => rfl
  | some o =>
    exfalso
    by_cases u : ∀ i, i < p.n → p.ρ i ≠ a
    · rw [s.keep _ _ e ⟨u, hx⟩] at h
      cases h
    · have u' : ∃ j, j < p.n ∧ p.ρ j = a := Classical.byContradiction fun c => u fun j hj ej => c ⟨j, hj, ej⟩
      obtain ⟨j, hj, ej⟩ := u'
      have w := s.there j (Nat.lt_of_lt_of_le hj s.le)
      rw [s.same j hj, ej, h] at w
      exact w rfl
theorem Mv.trans (s : Mv p q) (t : Mv q r) : Mv p r := by
  have back : ∀ a, q.H a = none → p.H a = none := fun a h => s.noneB h fun z => s.hth a z h
  refine ⟨Nat.le_trans s.le t.le, fun i h => (t.same i (Nat.lt_of_lt_of_le h s.le)).trans (s.same i h), fun a o h u => t.keep a o (s.keep a o h u) (s.out h u), fun i h1 h2 => ?_, t.there, fun a h => ?_, fun a h => ?_⟩
  · by_cases hq : i < q.n
    · rw [t.same i hq]
      exact s.new i h1 hq
    · exact back _ (t.new i (by omega) h2)
  · rcases t.hx a h with z | z
    · exact s.hx a z
    · exact .inr (back a z)
  · intro z
    by_cases hq : a ∈ q.x
    · exact t.hth a hq z
    · exact s.hth a h (t.noneB z hq)
theorem Step.trans (s : Step p q) (t : Step q r) : Step p r :=
  ⟨s.toMv.trans t.toMv, t.xs.trans s.xs, fun a h => (t.hk a (by rw [s.xs]; exact h)).trans (s.hk a h)⟩
theorem Step.out (s : Step p q) {a : Addr} {o : HO} (h : p.H a = some o) (u : p.out a) : q.out a := s.toMv.out h u

theorem rd_step (s : Mv p q) {a : Addr} {u : HO} (h : Rd p.H a u) (o : p.out a) : Rd q.H a u ∧ q.out a := by
  rcases h with h | ⟨ob, h⟩
  · exact ⟨.inl (s.keep _ _ h o), s.out h o⟩
  · exact ⟨.inr ⟨ob, s.keep _ _ h o⟩, s.out h o⟩

mutual
theorem RW.move (s : Mv p q) : ∀ (w : W) (v : V), RW K p w v → RW K q w v
  | .non, v, h => h
  | .bl b, v, h => h
  | .int i, v, h => h
  | .str x, v, h => h
  | .tup xs, v, ⟨a, vs, e, h, k⟩ => ⟨a, vs, e, h.imp (fun z => rd_step s z.1 z.2) (fun z => z), RWs.move s xs vs k⟩
  | .lst xs, v, ⟨a, vs, e, h, k⟩ => ⟨a, vs, e, ⟨s.keep _ _ h.1 h.2, s.out h.1 h.2⟩, RWs.move s xs vs k⟩
  | .frz xs, v, ⟨a, vs, e, h, k⟩ => ⟨a, vs, e, h.imp (fun z => rd_step s z.1 z.2) (fun z => z), RWs.move s xs vs k⟩
  | .ref n, v, ⟨h, e⟩ => ⟨Nat.lt_of_lt_of_le h s.le, by rw [e, s.same n h]⟩
theorem RWs.move (s : Mv p q) : ∀ (ws : List W) (vs : List V), RWs K p ws vs → RWs K q ws vs
  | [], vs, h => h
  | x :: xs, vs, ⟨v, r, e, h, k⟩ => ⟨v, r, e, RW.move s x v h, RWs.move s xs r k⟩
end

theorem RW.step (s : Step p q) (w : W) (v : V) (h : RW K p w v) : RW K q w v := RW.move s.toMv w v h
theorem RWs.step (s : Step p q) (ws : List W) (vs : List V) (h : RWs K p ws vs) : RWs K q ws vs := RWs.move s.toMv ws vs h
theorem RWs.length : ∀ {ws : List W} {vs : List V}, RWs K p ws vs → ws.length = vs.length
  | [], vs, h => by
    have h' : vs = [] := h
    rw [h']
    rfl
  | x :: xs, vs, ⟨v, r, e, _, k⟩ => by
    rw [e, List.length_cons, List.length_cons, RWs.length k]
theorem RWs.get : ∀ {ws : List W} {vs : List V} {i : Nat} {w : W}, RWs K p ws vs → ws[i]? = some w → ∃ v, vs[i]? = some v ∧ RW K p w v
  | [], vs, i, w, _, e => by simp at e
  | x :: xs, vs, 0, w, ⟨v, r, e, h, k⟩, e2 => by
    have e3 : x = w := by simpa using e2
    rw [← e3, e]
    exact ⟨v, rfl, h⟩
  | x :: xs, vs, i + 1, w, ⟨v, r, e, h, k⟩, e2 => by
    rw [e]
    exact RWs.get (i := i) k (by simpa using e2)
theorem RWs.getV : ∀ {ws : List W} {vs : List V} {i : Nat} {v : V}, RWs K p ws vs → vs[i]? = some v → ∃ w, ws[i]? = some w ∧ RW K p w v
  | [], vs, i, v, h, e => by
    have h' : vs = [] := h
    rw [h'] at e
    simp at e
  | x :: xs, vs, 0, v, ⟨v', r, e, h, k⟩, e2 => by
    rw [e] at e2
    have e3 : v' = v := by simpa using e2
    rw [← e3]
    exact ⟨x, rfl, h⟩
  | x :: xs, vs, i + 1, v, ⟨v', r, e, h, k⟩, e2 => by
    rw [e] at e2
    exact RWs.getV (i := i) k (by simpa using e2)
theorem RWs.append : ∀ {ws us : List W} {vs xs : List V}, RWs K p ws vs → RWs K p us xs → RWs K p (ws ++ us) (vs ++ xs)
  | [], us, vs, xs, h, h2 => by
    have h' : vs = [] := h
    rw [h']
    exact h2
  | y :: ys, us, vs, xs, ⟨v, r, e, h, k⟩, h2 => by
    rw [e]
    exact ⟨v, r ++ xs, rfl, h, RWs.append k h2⟩
theorem RWs.drop : ∀ {ws : List W} {vs : List V} (n : Nat), RWs K p ws vs → RWs K p (ws.drop n) (vs.drop n)
  | ws, vs, 0, h => h
  | [], vs, n + 1, h => by
    have h' : vs = [] := h
    rw [h']
    exact (rfl : ([] : List V) = [])
  | y :: ys, vs, n + 1, ⟨v, r, e, h, k⟩ => by
    rw [e]
    exact RWs.drop n k
theorem RWs.take : ∀ {ws : List W} {vs : List V} (n : Nat), RWs K p ws vs → RWs K p (ws.take n) (vs.take n)
  | ws, vs, 0, h => by
    show RWs K p [] (vs.take 0)
    exact (rfl : ([] : List V) = [])
  | [], vs, n + 1, h => by
    have h' : vs = [] := h
    rw [h']
    exact (rfl : ([] : List V) = [])
  | y :: ys, vs, n + 1, ⟨v, r, e, h, k⟩ => by
    rw [e]
    exact ⟨v, r.take n, rfl, h, RWs.take n k⟩
theorem RWs.set : ∀ {ws : List W} {vs : List V} (i : Nat) {w : W} {v : V}, RWs K p ws vs → RW K p w v → RWs K p (ws.set i w) (vs.set i v)
  | [], vs, i, w, v, h, _ => by
    have h' : vs = [] := h
    rw [h']
    exact (rfl : ([] : List V) = [])
  | y :: ys, vs, 0, w, v, ⟨v', r, e, h, k⟩, h2 => by
    rw [e]
    exact ⟨v, r, rfl, h2, k⟩
  | y :: ys, vs, i + 1, w, v, ⟨v', r, e, h, k⟩, h2 => by
    rw [e]
    exact ⟨v', r.set i v, rfl, h, RWs.set i k h2⟩

theorem TupAt.seq {a : Addr} {vs : List V} (h : TupAt K p a vs) : SqT K p.H a vs := by
  rcases h with h | h
  · exact .inl h.1
  · rcases h with h | h
    · rcases h with h | ⟨_, h⟩ <;> cases h
    · exact .inr h
theorem FrzAt.seq {a : Addr} {vs : List V} (h : FrzAt K p a vs) : SqL K p.H a vs := by
  rcases h with h | h
  · exact .inl h.1
  · rcases h with h | h
    · rcases h with h | ⟨_, h⟩ <;> cases h
    · exact .inr h

/-! ### frames -/
abbrev En := List (Option W)
end
section
variable (K : PySem.W.Frag)
structure EnvR (p : Wh) (env : En) (σ : L2.St) : Prop where
  len : env.length = σ.length
  get : ∀ (i : Nat) (w : W), env[i]? = some (some w) → ∃ v, σ[i]? = some (some v) ∧ RW K p w v
end
section
variable {K : PySem.W.Frag} {p q : Wh} {env : En} {σ : L2.St}
theorem EnvR.move (e : EnvR K p env σ) (s : Mv p q) : EnvR K q env σ := ⟨e.len, fun i w h => by
  obtain ⟨v, h1, h2⟩ := e.get i w h
  exact ⟨v, h1, RW.move s w v h2⟩⟩
theorem EnvR.step (e : EnvR K p env σ) (s : Step p q) : EnvR K q env σ := e.move s.toMv
theorem EnvR.set (e : EnvR K p env σ) (i : Nat) {w : W} {v : V} (h : RW K p w v) : EnvR K p (env.set i (some w)) (σ.set i (some v)) := by
  refine ⟨by rw [List.length_set, List.length_set, e.len], fun j w' hj => ?_⟩
  by_cases hi : i = j
  · subst hi
    by_cases hl : i < env.length
    · rw [List.getElem?_set_self hl] at hj
      cases hj
      exact ⟨v, List.getElem?_set_self (e.len ▸ hl), h⟩
    · rw [List.getElem?_eq_none (by simpa using hl)] at hj
      cases hj
  · rw [List.getElem?_set_ne hi] at hj
    rw [List.getElem?_set_ne hi]
    exact e.get j w' hj
theorem EnvR.unset (e : EnvR K p env σ) (i : Nat) (o : Option V) : EnvR K p (env.set i none) (σ.set i o) := by
  refine ⟨by rw [List.length_set, List.length_set, e.len], fun j w' hj => ?_⟩
  by_cases hi : i = j
  · subst hi
    by_cases hl : i < env.length
    · rw [List.getElem?_set_self hl] at hj
      cases hj
    · rw [List.getElem?_eq_none (by simpa using hl)] at hj
      cases hj
  · rw [List.getElem?_set_ne hi] at hj
    rw [List.getElem?_set_ne hi]
    exact e.get j w' hj
end
end Mi

namespace Mi
open PySem PySem.Spec PyProof.Rows L2

/-! ### what is wanted of a result -/
/-- an exception of an own class, its fields in its own dict -/
def XR (K : PySem.W.Frag) (mg : Str → Option Value) (p : Wh) (x : Xc) (cls : Value) (d : Option Addr) : Prop :=
  ∃ C, mg x.cls = some (.ref C) ∧ cls = .ref C ∧ ∃ dx fs, d = some dx ∧ p.H dx = some (.xd fs) ∧ p.out dx ∧ fs.map (·.1) = x.args.map (·.1) ∧ RWs K p (x.args.map (·.2)) (fs.map (·.2))

def Fin {α β : Type} (K : PySem.W.Frag) (mg : Str → Option Value) (R : Wh → α → β → Prop) (Wx : WX) (p : Wh) (σ : L2.St) (Q : β → Hp → Prop) : Res α → Prop
  | .ok a st => ∀ (q : Wh) (b : β), Step p q → SR K q st → R q a b → Q b q.H
  | .exc x st => ∀ (q : Wh) (cls : Value) (d : Option Addr), Step p q → SR K q st → XR K mg q x cls d → Wx cls d σ q.H
  | .bad => False

abbrev Ev (α : Type) := En → Store → Res α

def tG {α β : Type} (K : PySem.W.Frag) (mg : Str → Option Value) (R : Wh → α → β → Prop) (Wx : WX) (m : Ev α) : L2.St → Hp → (β → Hp → Prop) → Prop := fun σ H Q =>
  ∃ (p : Wh) (st : Store) (env : En), p.H = H ∧ SR K p st ∧ EnvR K p env σ ∧ Fin K mg R Wx p σ Q (m env st)

section
variable {K : PySem.W.Frag} {mg : Str → Option Value} {α β γ δ : Type} {R : Wh → α → β → Prop} {R2 : Wh → γ → δ → Prop} {Wx : WX} {p q : Wh} {σ : L2.St} {Q : β → Hp → Prop} {Q2 : δ → Hp → Prop} {st : Store} {env : En} {H : Hp}
theorem Fin.later {r : Res α} (s : Step p q) (h : Fin K mg R Wx p σ Q r) : Fin K mg R Wx q σ Q r := by
  cases r with
  | ok a st => exact fun z b t => h z b (s.trans t)
  | exc x st => exact fun z c d t => h z c d (s.trans t)
  | bad => exact h
theorem Fin.mono {r : Res α} {Q' : β → Hp → Prop} (h : Fin K mg R Wx p σ Q r) (i : ∀ b H, Q b H → Q' b H) : Fin K mg R Wx p σ Q' r := by
  cases r with
  | ok a st => exact fun z b t s u => i _ _ (h z b t s u)
  | exc x st => exact h
  | bad => exact h
/-- one step, then the rest -/
theorem tG_bind {m : Ev α} {k : α → Store → Res γ} (hp : p.H = H) (S : SR K p st) (E : EnvR K p env σ) (h : Fin K mg R2 Wx p σ Q2 ((m env st).bind k))
    (hq : ∀ (q : Wh) (st' : Store) (a : α) (b : β), Step p q → SR K q st' → EnvR K q env σ → R q a b → Fin K mg R2 Wx q σ Q2 (k a st') → Q b q.H) : tG K mg R Wx m σ H Q := by
  refine ⟨p, st, env, hp, S, E, ?_⟩
  cases e : m env st with
  | ok a st' =>
    rw [e] at h
    exact fun q b t s r => hq q st' a b t s (E.step t) r (Fin.later t h)
  | exc x st' =>
    rw [e] at h
    exact h
  | bad =>
    rw [e] at h
    exact h
theorem tG_mono {m : Ev α} {Q' : β → Hp → Prop} (i : ∀ b H, Q b H → Q' b H) : tG K mg R Wx m σ H Q → tG K mg R Wx m σ H Q' := fun ⟨p, st, env, hp, S, E, h⟩ => ⟨p, st, env, hp, S, E, h.mono i⟩
end

theorem PEimp {X : Cx} {e : Expr} {t t' : TE} (h : PE X e t) (i : ∀ σ H Q, t' σ H Q → t σ H Q) : PE X e t' := ⟨fun pins s σ H Q I z => h.run pins s σ H Q I (i σ H Q z)⟩
theorem PAimp {X : Cx} {e : List Expr} {t t' : TA} (h : PA X e t) (i : ∀ σ H Q, t' σ H Q → t σ H Q) : PA X e t' := ⟨fun pos pins s σ H Q I z => h.run pos pins s σ H Q I (i σ H Q z)⟩
theorem PTimp {X : Cx} {e : Expr} {t t' : TT} (h : PT X e t) (i : ∀ σ H Q, t' σ H Q → t σ H Q) : PT X e t' := ⟨fun pins s σ H Q I z => h.run pins s σ H Q I (i σ H Q z)⟩
theorem PWimp {X : Cx} {e : Expr} {t t' : TT} (h : PW X e t) (i : ∀ σ H Q, t' σ H Q → t σ H Q) : PW X e t' := ⟨fun w pins s σ H Q I z => h.run w pins s σ H Q I (i σ H Q z)⟩

abbrev eqR : Wh → Bool → Bool → Prop := fun _ a b => a = b
abbrev GE (X : Cx) (Wx : WX) (e : Expr) (m : Ev W) : Prop := PE X e (tG X.K X.mg (RW X.K) Wx m)
abbrev GA (X : Cx) (Wx : WX) (e : List Expr) (m : Ev (List W)) : Prop := PA X e (tG X.K X.mg (RWs X.K) Wx m)
abbrev GT (X : Cx) (Wx : WX) (e : Expr) (m : Ev Bool) : Prop := PT X e (tG X.K X.mg eqR Wx m)
abbrev GW (X : Cx) (Wx : WX) (e : Expr) (m : Ev Bool) : Prop := PW X e (tG X.K X.mg eqR Wx m)

/-! ### the mirror's words -/
def mC (w : W) : Ev W := fun _ st => .ok w st
def mV (i : Nat) : Ev W := fun env st => match env[i]? with
  | some (some w) => .ok w st
  | _ => .bad
def mOp (f : W → W → Store → Res W) (a b : Ev W) : Ev W := fun env st => (a env st).bind fun x s1 => (b env s1).bind fun y s2 => f x y s2
def mUn (f : W → Store → Res W) (a : Ev W) : Ev W := fun env st => (a env st).bind fun x s1 => f x s1
def mNil : Ev (List W) := fun _ st => .ok [] st
def mCons (a : Ev W) (r : Ev (List W)) : Ev (List W) := fun env st => (a env st).bind fun x s1 => (r env s1).bind fun xs s2 => .ok (x :: xs) s2
def mCall (f : List W → Store → Res W) (a : Ev (List W)) : Ev W := fun env st => (a env st).bind fun xs s1 => f xs s1
def mTup (a : Ev (List W)) : Ev W := mCall (fun xs st => if xs.length ≤ 100000 then .ok (.tup xs) st else .bad) a
def mLst (a : Ev (List W)) : Ev W := mCall (fun xs st => if xs.length ≤ 100000 then .ok (.lst xs) st else .bad) a
/-- a list that will change -/
def mNew (a : Ev (List W)) : Ev W := mCall (fun xs st => if xs.length ≤ 100000 then .ok (.ref st.length) (st ++ [.lst xs]) else .bad) a
def mIf (t : Ev Bool) (a b : Ev W) : Ev W := fun env st => (t env st).bind fun c s1 => if c = true then a env s1 else b env s1
def asB : W → Store → Res Bool
  | .bl b, st => .ok b st
  | _, _ => .bad
def mB (a : Ev W) : Ev Bool := fun env st => (a env st).bind asB
def mAnd (t u : Ev Bool) : Ev Bool := fun env st => (t env st).bind fun c s1 => if c = true then u env s1 else .ok false s1
def mOr (t u : Ev Bool) : Ev Bool := fun env st => (t env st).bind fun c s1 => if c = true then .ok true s1 else u env s1
def mNot (t : Ev Bool) : Ev Bool := fun env st => (t env st).bind fun c s1 => .ok (!c) s1
def mAndV (a b : Ev W) : Ev W := fun env st => (mB a env st).bind fun c s1 => if c = true then b env s1 else .ok (.bl false) s1
def mOrV (a b : Ev W) : Ev W := fun env st => (mB a env st).bind fun c s1 => if c = true then .ok (.bl true) s1 else b env s1
def mNotV (a : Ev W) : Ev W := fun env st => (mB a env st).bind fun c s1 => .ok (.bl (!c)) s1

section
variable {X : Cx} {Wx : WX} {a b c e : Expr} {es : List Expr} {ma mb : Ev W} {mt mu : Ev Bool} {ml : Ev (List W)} {pos : Pos}
theorem ge_var (i : Nat) {x : Str} (hN : X.N[i]? = some x := by rfl) (hv : Vis X.env.scope x := by first | exact Or.inl rfl | exact Or.inr (Or.inl rfl) | exact Or.inr (Or.inr rfl)) (hd : (x == ("__debug__" : Str)) = false := by decide)
    (hcd : (x == ("__classdict__" : Str)) = false := by decide) : GE X Wx (.Name x pos) (mV i) := by
  refine PEimp (pe_var hN hv hd hcd) fun σ H Q ⟨p, st, env, hp, S, E, h⟩ => ?_
  unfold mV at h
  cases e : env[i]? with
  | none =>
    rw [e] at h
    exact h.elim
  | some o =>
    cases o with
    | none =>
      rw [e] at h
      exact h.elim
    | some w =>
      rw [e] at h
      obtain ⟨v, h1, h2⟩ := E.get i w e
      subst hp
      exact ⟨v, h1, h p v (.refl S) S h2⟩
theorem ge_c {w : W} {v : V} (h : PE X e (tC v)) (r : ∀ p, RW X.K p w v) : GE X Wx e (mC w) := by
  refine PEimp h fun σ H Q ⟨p, st, env, hp, S, E, q⟩ => ?_
  subst hp
  exact q p v (.refl S) S (r p)
theorem ge_int {i j} : GE X Wx (.Constant (.int i) j pos) (mC (.int i)) := ge_c pe_int fun _ => rfl
theorem ge_bl {b j} : GE X Wx (.Constant (.bool b) j pos) (mC (.bl b)) := ge_c pe_bl fun _ => rfl
theorem ge_non {j} : GE X Wx (.Constant .none j pos) (mC .non) := ge_c pe_non fun _ => rfl
theorem ge_str {x j} : GE X Wx (.Constant (.str x) j pos) (mC (.str x)) := ge_c pe_str fun _ => rfl

/-- a rule for an operation on values serves the mirror's f -/
def R2ok (X : Cx) (Wx : WX) (r : R2) (f : W → W → Store → Res W) : Prop :=
  ∀ (p : Wh) (st : Store) (x y : W) (v u : V) (σ : L2.St) (Q : VK), SR X.K p st → RW X.K p x v → RW X.K p y u → Fin X.K X.mg (RW X.K) Wx p σ Q (f x y st) → r v u p.H Q
def R1ok (X : Cx) (Wx : WX) (r : V → Hp → VK → Prop) (f : W → Store → Res W) : Prop :=
  ∀ (p : Wh) (st : Store) (x : W) (v : V) (σ : L2.St) (Q : VK), SR X.K p st → RW X.K p x v → Fin X.K X.mg (RW X.K) Wx p σ Q (f x st) → r v p.H Q
def RCok (X : Cx) (Wx : WX) (r : List V → Hp → VK → Prop) (f : List W → Store → Res W) : Prop :=
  ∀ (p : Wh) (st : Store) (xs : List W) (vs : List V) (σ : L2.St) (Q : VK), SR X.K p st → RWs X.K p xs vs → Fin X.K X.mg (RW X.K) Wx p σ Q (f xs st) → r vs p.H Q

theorem tOp_of {r : R2} {f : W → W → Store → Res W} (hr : R2ok X Wx r f) (σ : L2.St) (H : Hp) (Q : VK) (h : tG X.K X.mg (RW X.K) Wx (mOp f ma mb) σ H Q) : tOp r (tG X.K X.mg (RW X.K) Wx ma) (tG X.K X.mg (RW X.K) Wx mb) σ H Q := by
  obtain ⟨p, st, env, hp, S, E, h⟩ := h
  exact tG_bind hp S E h fun q s1 x v t1 S1 E1 rx h1 => tG_bind rfl S1 E1 h1 fun q2 s2 y u t2 S2 E2 ry h2 => hr q2 s2 x y v u σ Q S2 (RW.step t2 x v rx) ry h2
theorem ge_op {op : Operator} {r : R2} {f : W → W → Store → Res W} (ho : OpR X (binaryOp op) r) (hr : R2ok X Wx r f) (ha : GE X Wx a ma) (hb : GE X Wx b mb) : GE X Wx (.BinOp a op b pos) (mOp f ma mb) :=
  PEimp (pe_op ho ha hb) fun σ H Q h => tOp_of hr σ H Q h
theorem ge_un {op : UnaryOp} {r : V → Hp → VK → Prop} {f : W → Store → Res W} (ho : UnR X (unaryOp op) r) (hr : R1ok X Wx r f) (ha : GE X Wx a ma) : GE X Wx (.UnaryOp op a pos) (mUn f ma) :=
  PEimp (pe_un ho ha) fun σ H Q ⟨p, st, env, hp, S, E, h⟩ => tG_bind hp S E h fun q s1 x v t1 S1 E1 rx h1 => hr q s1 x v σ Q S1 rx h1
theorem ge_cmp {op : CmpOp} {r : R2} {f : W → W → Store → Res W} (ho : OpR X (compareOp op) r) (hr : R2ok X Wx r f) (ha : GE X Wx a ma) (hb : GE X Wx b mb) (hm : behindInMarks op b = false) : GE X Wx (.Compare a [op] [b] pos) (mOp f ma mb) :=
  PEimp (pe_cmpR ho ha hb hm) fun σ H Q h => tOp_of hr σ H Q h
theorem asB_of {σ : L2.St} {H : Hp} {Q : Bool → Hp → Prop} {m : Ev W} (h : tG X.K X.mg eqR Wx (mB m) σ H Q) : tG X.K X.mg (RW X.K) Wx m σ H fun x H' => ∃ k, x = .bl k ∧ Q k H' := by
  obtain ⟨p, st, env, hp, S, E, h⟩ := h
  refine tG_bind hp S E h fun q s1 x v t1 S1 E1 rx h1 => ?_
  cases x with
  | bl k => exact ⟨k, rx, h1 q k (.refl S1) S1 rfl⟩
  | _ => exact h1.elim
theorem gt_cmp {op : CmpOp} {r : R2} {f : W → W → Store → Res W} (ho : OpR X (compareOp op) r) (hr : R2ok X Wx r f) (ha : GE X Wx a ma) (hb : GE X Wx b mb) (hm : behindInMarks op b = false) : GT X Wx (.Compare a [op] [b] pos) (mB (mOp f ma mb)) :=
  PTimp (pt_cmpR ho ha hb hm) fun σ H Q h => tOp_of hr σ H _ (asB_of h)
theorem gt_val (h : GE X Wx e ma) (he : ∀ whole, isTrue e X.env whole = (do let v ← whole; standAt e.pos; holding [v] (truthy v)) := by intro _; rfl) : GT X Wx e (mB ma) :=
  PTimp (pt_val h he) fun σ H Q h => asB_of h
theorem gw_and1 (h : GT X Wx a mt) : GW X Wx (.BoolOp .And [a] pos) mt := pw_and1 h
theorem gw_or1 (h : GT X Wx a mt) : GW X Wx (.BoolOp .Or [a] pos) mt := pw_or1 h
theorem gw_and {rest : List Expr} (h : GT X Wx a mt) (k : GW X Wx (.BoolOp .And (b :: rest) pos) mu) : GW X Wx (.BoolOp .And (a :: b :: rest) pos) (mAnd mt mu) :=
  PWimp (pw_and h k) fun σ H Q ⟨p, st, env, hp, S, E, h⟩ => tG_bind hp S E h fun q s1 x v t1 S1 E1 rx h1 => by
    have rx' : x = v := rx
    subst rx'
    cases x with
    | true => exact ⟨q, s1, env, rfl, S1, E1, h1⟩
    | false => exact h1 q false (.refl S1) S1 rfl
theorem gw_or {rest : List Expr} (h : GT X Wx a mt) (k : GW X Wx (.BoolOp .Or (b :: rest) pos) mu) : GW X Wx (.BoolOp .Or (a :: b :: rest) pos) (mOr mt mu) :=
  PWimp (pw_or h k) fun σ H Q ⟨p, st, env, hp, S, E, h⟩ => tG_bind hp S E h fun q s1 x v t1 S1 E1 rx h1 => by
    have rx' : x = v := rx
    subst rx'
    cases x with
    | false => exact ⟨q, s1, env, rfl, S1, E1, h1⟩
    | true => exact h1 q true (.refl S1) S1 rfl
theorem gt_not (h : GT X Wx a mt) : GT X Wx (.UnaryOp .Not a pos) (mNot mt) :=
  PTimp (pt_not h) fun σ H Q ⟨p, st, env, hp, S, E, h⟩ => tG_bind hp S E h fun q s1 x v t1 S1 E1 rx h1 => by
    have rx' : x = v := rx
    subst rx'
    exact h1 q (!x) (.refl S1) S1 rfl
theorem GW.pt (h : GW X Wx e mt) : GT X Wx e mt := L2.PW.pt h
theorem mB_of {σ : L2.St} {Q : VK} {p : Wh} {st : Store} {env : En} {H : Hp} {k : Bool → Store → Res W} {t : V → Hp → Prop} (hp : p.H = H) (S : SR X.K p st) (E : EnvR X.K p env σ) (h : Fin X.K X.mg (RW X.K) Wx p σ Q ((mB ma env st).bind k))
    (hq : ∀ (q : Wh) (st' : Store) (b : Bool), Step p q → SR X.K q st' → EnvR X.K q env σ → Fin X.K X.mg (RW X.K) Wx q σ Q (k b st') → t (.bl b) q.H) : tG X.K X.mg (RW X.K) Wx ma σ H t := by
  have e : (mB ma env st).bind k = (ma env st).bind fun x s1 => (asB x s1).bind k := by
    unfold mB
    cases ma env st <;> rfl
  rw [e] at h
  refine tG_bind hp S E h fun q s1 x v t1 S1 E1 rx h1 => ?_
  cases x with
  | bl c =>
    have rx' : v = .bl c := rx
    subst rx'
    exact hq q s1 c t1 S1 E1 h1
  | _ => exact h1.elim
theorem ge_one {op} (h : GE X Wx a ma) : GE X Wx (.BoolOp op [a] pos) ma := pe_one h
theorem ge_and {rest : List Expr} (h : GE X Wx a ma) (k : GE X Wx (.BoolOp .And (b :: rest) pos) mb) : GE X Wx (.BoolOp .And (a :: b :: rest) pos) (mAndV ma mb) :=
  PEimp (pe_and h k) fun σ H Q ⟨p, st, env, hp, S, E, h⟩ => mB_of hp S E h fun q s1 c t1 S1 E1 h1 => ⟨c, rfl, by
    cases c with
    | true => exact ⟨q, s1, env, rfl, S1, E1, h1⟩
    | false => exact h1 q _ (.refl S1) S1 rfl⟩
theorem ge_or {rest : List Expr} (h : GE X Wx a ma) (k : GE X Wx (.BoolOp .Or (b :: rest) pos) mb) : GE X Wx (.BoolOp .Or (a :: b :: rest) pos) (mOrV ma mb) :=
  PEimp (pe_or h k) fun σ H Q ⟨p, st, env, hp, S, E, h⟩ => mB_of hp S E h fun q s1 c t1 S1 E1 h1 => ⟨c, rfl, by
    cases c with
    | false => exact ⟨q, s1, env, rfl, S1, E1, h1⟩
    | true => exact h1 q _ (.refl S1) S1 rfl⟩
theorem ge_not (h : GE X Wx a ma) : GE X Wx (.UnaryOp .Not a pos) (mNotV ma) :=
  PEimp (pe_not h) fun σ H Q ⟨p, st, env, hp, S, E, h⟩ => mB_of hp S E h fun q s1 c t1 S1 E1 h1 => ⟨c, rfl, h1 q _ (.refl S1) S1 rfl⟩
theorem ge_if (hc : GT X Wx c mt) (ha : GE X Wx a ma) (hb : GE X Wx b mb) : GE X Wx (.IfExp c a b pos) (mIf mt ma mb) :=
  PEimp (pe_ifExp hc ha hb) fun σ H Q ⟨p, st, env, hp, S, E, h⟩ => tG_bind hp S E h fun q s1 x v t1 S1 E1 rx h1 => by
    have rx' : x = v := rx
    subst rx'
    cases x with
    | true => exact ⟨q, s1, env, rfl, S1, E1, h1⟩
    | false => exact ⟨q, s1, env, rfl, S1, E1, h1⟩

/-! ### argument lists, displays -/
theorem ga_nil : GA X Wx [] mNil := PAimp pa_nil fun σ H Q ⟨p, st, env, hp, S, E, h⟩ => by
  subst hp
  exact h p [] (.refl S) S rfl
theorem ga_cons (ha : GE X Wx e ma) (hr : GA X Wx es ml) (hs : starEach (e :: es) X.env = (false, eval e X.env) :: starEach es X.env := by rfl) : GA X Wx (e :: es) (mCons ma ml) :=
  PAimp (pa_cons ha hr hs) fun σ H Q ⟨p, st, env, hp, S, E, h⟩ => tG_bind hp S E h fun q s1 x v t1 S1 E1 rx h1 => tG_bind rfl S1 E1 h1 fun q2 s2 y u t2 S2 E2 ry h2 =>
    h2 q2 (v :: u) (.refl S2) S2 ⟨v, u, rfl, RW.step t2 x v rx, ry⟩
theorem line_le {n : Nat} (h : n ≤ 100000) : n ≤ sizeLine := Nat.le_trans h (by decide)
/-- a new thing that stands apart -/
theorem fresh_out {K : PySem.W.Frag} {p : Wh} {st : Store} (S : SR K p st) {a : Addr} (h : p.H a = none) : p.out a := ⟨fun i hi e => S.there i hi (by rw [e]; exact h), fun z => (S.hid a z).1 h⟩
theorem step_new {K : PySem.W.Frag} {p : Wh} {st : Store} (S : SR K p st) {a : Addr} {o : HO} (h : p.H a = none) : Step p { p with H := upd p.H a o } := by
  have he : ∀ b u, p.H b = some u → upd p.H a o b = some u := fun b u e => by
    rw [upd_ne (ne_of_none e h)]
    exact e
  have hn : ∀ b, p.H b ≠ none → upd p.H a o b ≠ none := fun b z e => by
    cases q : p.H b with
    | none => exact z q
    | some u =>
      rw [he b u q] at e
      cases e
  refine ⟨⟨Nat.le_refl _, fun _ _ => rfl, fun b u e _ => he b u e, fun i h1 h2 => absurd h2 (Nat.not_lt.mpr h1), fun i hi => hn _ (S.there i hi), fun b z => .inl z, fun b z => hn b (S.hid b z).1⟩, rfl, fun b z => ?_⟩
  cases q : p.H b with
  | none => exact absurd q (S.hid b z).1
  | some u => exact (he b u q)
theorem RO.step {K : PySem.W.Frag} {p q : Wh} (s : Step p q) {o : O} {h : Option HO} (r : RO K p o h) : RO K q o h := by
  cases o with
  | lst xs =>
    obtain ⟨vs, e, k⟩ := r
    exact ⟨vs, e, RWs.step s xs vs k⟩
theorem sr_new {K : PySem.W.Frag} {p : Wh} {st : Store} (S : SR K p st) {a : Addr} {o : HO} (h : p.H a = none) : SR K { p with H := upd p.H a o } st := by
  refine ⟨S.len, S.inj, fun i u e => ?_, fun b z => ⟨(step_new (o := o) S h).hth b z, (S.hid b z).2⟩⟩
  have hi : i < p.n := by
    rw [S.len]
    exact (List.getElem?_eq_some_iff.mp e).1
  have r := (S.obj i u e).step (step_new (o := o) S h)
  show RO K _ u (upd p.H a o (p.ρ i))
  rw [upd_ne (fun e => S.there i hi (by rw [e]; exact h))]
  exact r
theorem new_tup {K : PySem.W.Frag} {p : Wh} {st : Store} (S : SR K p st) {a : Addr} {xs : List W} {vs : List V} (h : p.H a = none) (r : RWs K p xs vs) : RW K { p with H := upd p.H a (.tup vs) } (.tup xs) (.ref a) :=
  ⟨a, vs, rfl, .inl ⟨.inl upd_same, fresh_out S h⟩, RWs.step (step_new S h) xs vs r⟩
theorem new_lst {K : PySem.W.Frag} {p : Wh} {st : Store} (S : SR K p st) {a : Addr} {xs : List W} {vs : List V} (h : p.H a = none) (r : RWs K p xs vs) : RW K { p with H := upd p.H a (.lst vs) } (.lst xs) (.ref a) :=
  ⟨a, vs, rfl, ⟨upd_same, fresh_out S h⟩, RWs.step (step_new S h) xs vs r⟩
theorem ge_tup {x1} (h : GA X Wx es ml) : GE X Wx (.Tuple es x1 pos) (mTup ml) :=
  PEimp (pe_tup h) fun σ H Q ⟨p, st, env, hp, S, E, h⟩ => tG_bind hp S E h fun q s1 xs vs t1 S1 E1 rx h1 => by
    dsimp only at h1
    by_cases hl : xs.length ≤ 100000
    · rw [if_pos hl] at h1
      refine ⟨by rw [← rx.length]; exact line_le hl, fun a ha => ?_⟩
      exact h1 { q with H := upd q.H a (.tup vs) } (.ref a) (step_new S1 ha) (sr_new S1 ha) (new_tup S1 ha rx)
    · rw [if_neg hl] at h1
      exact h1.elim
theorem ge_lst (h : GA X Wx es ml) : GE X Wx (.List es pos) (mLst ml) :=
  PEimp (pe_lst h) fun σ H Q ⟨p, st, env, hp, S, E, h⟩ => tG_bind hp S E h fun q s1 xs vs t1 S1 E1 rx h1 => by
    dsimp only at h1
    by_cases hl : xs.length ≤ 100000
    · rw [if_pos hl] at h1
      refine ⟨by rw [← rx.length]; exact line_le hl, fun a ha => ?_⟩
      exact h1 { q with H := upd q.H a (.lst vs) } (.ref a) (step_new S1 ha) (sr_new S1 ha) (new_lst S1 ha rx)
    · rw [if_neg hl] at h1
      exact h1.elim
/-- a new thing of the store -/
def Wh.more (p : Wh) (a : Addr) (o : HO) : Wh := ⟨fun i => if i = p.n then a else p.ρ i, p.n + 1, upd p.H a o, p.x⟩
theorem step_more {K : PySem.W.Frag} {p : Wh} {st : Store} (S : SR K p st) {a : Addr} {o : HO} (h : p.H a = none) : Step p (p.more a o) := by
  have t := step_new (o := o) S h
  refine ⟨⟨Nat.le_succ _, fun i hi => if_neg (by omega), t.keep, fun i h1 h2 => ?_, fun i hi => ?_, fun b z => .inl z, t.hth⟩, rfl, t.hk⟩
  · have e : i = p.n := Nat.le_antisymm (Nat.lt_succ_iff.mp h2) h1
    show p.H (if i = p.n then a else p.ρ i) = none
    rw [if_pos e]
    exact h
  · show upd p.H a o (if i = p.n then a else p.ρ i) ≠ none
    by_cases e : i = p.n
    · rw [if_pos e, upd_same]
      exact fun z => nomatch z
    · have hi' : i < p.n + 1 := hi
      rw [if_neg e]
      exact t.there i (show i < p.n by omega)
theorem sr_more {K : PySem.W.Frag} {p : Wh} {st : Store} (S : SR K p st) {a : Addr} {xs : List W} {vs : List V} (h : p.H a = none) (r : RWs K p xs vs) : SR K (p.more a (.lst vs)) (st ++ [.lst xs]) := by
  have t := step_more (o := .lst vs) S h
  refine ⟨by rw [List.length_append, ← S.len]; rfl, fun i j hi hj e => ?_, fun i u e => ?_, fun b z => ⟨t.hth b z, fun i hi e => ?_⟩⟩
  · have hi' : i < p.n + 1 := hi
    have hj' : j < p.n + 1 := hj
    have e' : (if i = p.n then a else p.ρ i) = (if j = p.n then a else p.ρ j) := e
    by_cases h1 : i = p.n
    · by_cases h2 : j = p.n
      · omega
      · rw [if_pos h1, if_neg h2] at e'
        exact absurd (by rw [← e']; exact h) (S.there j (by omega))
    · by_cases h2 : j = p.n
      · rw [if_neg h1, if_pos h2] at e'
        exact absurd (by rw [e']; exact h) (S.there i (by omega))
      · rw [if_neg h1, if_neg h2] at e'
        exact S.inj i j (by omega) (by omega) e'
  · show RO K _ u (upd p.H a (.lst vs) (if i = p.n then a else p.ρ i))
    by_cases h1 : i = p.n
    · rw [if_pos h1, upd_same]
      rw [h1, S.len, List.getElem?_append_right (Nat.le_refl _)] at e
      have e' : O.lst xs = u := by simpa using e
      subst e'
      exact ⟨vs, rfl, RWs.step t xs vs r⟩
    · have hi : i < (st ++ [O.lst xs]).length := (List.getElem?_eq_some_iff.mp e).1
      rw [List.length_append, List.length_singleton, ← S.len] at hi
      rw [if_neg h1, upd_ne (fun z => S.there i (by omega) (by rw [z]; exact h))]
      rw [List.getElem?_append_left (by rw [← S.len]; omega)] at e
      exact (S.obj i u e).step t
  · have hi' : i < p.n + 1 := hi
    have e' : (if i = p.n then a else p.ρ i) = b := e
    by_cases h1 : i = p.n
    · rw [if_pos h1] at e'
      exact (S.hid b z).1 (by rw [← e']; exact h)
    · rw [if_neg h1] at e'
      exact (S.hid b z).2 i (by omega) e'
theorem ge_new (h : GA X Wx es ml) : GE X Wx (.List es pos) (mNew ml) :=
  PEimp (pe_lst h) fun σ H Q ⟨p, st, env, hp, S, E, h⟩ => tG_bind hp S E h fun q s1 xs vs t1 S1 E1 rx h1 => by
    dsimp only at h1
    by_cases hl : xs.length ≤ 100000
    · rw [if_pos hl] at h1
      refine ⟨by rw [← rx.length]; exact line_le hl, fun a ha => ?_⟩
      refine h1 (q.more a (.lst vs)) (.ref a) (step_more S1 ha) (sr_more S1 ha rx) ⟨?_, ?_⟩
      · show s1.length < q.n + 1
        rw [S1.len]
        exact Nat.lt_succ_self _
      · show V.ref a = V.ref (if s1.length = q.n then a else q.ρ s1.length)
        rw [if_pos S1.len.symm]
    · rw [if_neg hl] at h1
      exact h1.elim
end
end Mi

namespace Mi
open PySem PySem.Spec PyProof.Rows L2

/-! ### statements -/
inductive Fl where
  | nx (env : En) | rt (w : W) | bk (env : En) | ct (env : En) | ex (x : Xc) (env : En)
inductive Sr where
  | go (f : Fl) (st : Store)
  | bad
abbrev Sm := En → Store → Sr

def FinS (K : PySem.W.Frag) (mg : Str → Option Value) (Wx : WX) (p : Wh) (D : Ends) : Sr → Prop
  | .go (.nx env) st => ∀ (q : Wh) (σ : L2.St), Step p q → SR K q st → EnvR K q env σ → D.nx σ q.H
  | .go (.bk env) st => ∀ (q : Wh) (σ : L2.St), Step p q → SR K q st → EnvR K q env σ → D.bk σ q.H
  | .go (.ct env) st => ∀ (q : Wh) (σ : L2.St), Step p q → SR K q st → EnvR K q env σ → D.ct σ q.H
  | .go (.rt w) st => ∀ (q : Wh) (v : V), Step p q → SR K q st → RW K q w v → D.rt v q.H
  | .go (.ex x env) st => ∀ (q : Wh) (σ : L2.St) (cls : Value) (d : Option Addr), Step p q → SR K q st → EnvR K q env σ → XR K mg q x cls d → Wx cls d σ q.H
  | .bad => False
def tS (K : PySem.W.Frag) (mg : Str → Option Value) (Wx : WX) (m : Sm) : TS := fun D σ H => ∃ (p : Wh) (st : Store) (env : En), p.H = H ∧ SR K p st ∧ EnvR K p env σ ∧ FinS K mg Wx p D (m env st)
abbrev GS (X : Cx) (Wx : WX) (s : Stmt) (m : Sm) : Prop := PS X s (tS X.K X.mg Wx m)
abbrev GSs (X : Cx) (Wx : WX) (s : List Stmt) (m : Sm) : Prop := PSs X s (tS X.K X.mg Wx m)

def liftE {α : Type} (m : Ev α) (k : α → En → Store → Sr) : Sm := fun env st => match m env st with
  | .ok a s1 => k a env s1
  | .exc x s1 => .go (.ex x env) s1
  | .bad => .bad
def sNx : Sm := fun env st => .go (.nx env) st
def sBk : Sm := fun env st => .go (.bk env) st
def sCt : Sm := fun env st => .go (.ct env) st
def sBad : Sm := fun _ _ => .bad
def sSeq (a b : Sm) : Sm := fun env st => match a env st with
  | .go (.nx e2) s1 => b e2 s1
  | r => r
def sSet (i : Nat) (m : Ev W) : Sm := liftE m fun w env st => .go (.nx (env.set i (some w))) st
def sRet (m : Ev W) : Sm := liftE m fun w _ st => .go (.rt w) st
def sRetN : Sm := fun _ st => .go (.rt .non) st
def sDrop (m : Ev W) : Sm := liftE m fun _ env st => .go (.nx env) st
def sIf (t : Ev Bool) (a b : Sm) : Sm := liftE t fun c env st => if c = true then a env st else b env st
/-- a target that a value goes to -/
def putAll : List Nat → List W → En → En
  | i :: is, w :: ws, env => putAll is ws (env.set i (some w))
  | _, _, env => env
def sUnp (is : List Nat) (m : Ev W) : Sm := liftE m fun w env st => match w with
  | .tup xs => if xs.length = is.length then .go (.nx (putAll is xs env)) st else .bad
  | _ => .bad
def sPar (i j : Nat) (m : Ev (List W)) : Sm := liftE m fun ws env st => match ws with
  | [x, y] => .go (.nx ((env.set i (some x)).set j (some y))) st
  | _ => .bad
/-- o[i] = e -/
def putAt (o : W) (i : W) (v : W) (st : Store) : Option Store :=
  match o, i with
  | .ref n, .int k => match st[n]? with
    | some (.lst xs) => match ixN xs.length k with
      | some j => some (st.set n (.lst (xs.set j v)))
      | none => none
    | none => none
  | _, _ => none
def sPut (me mo mi : Ev W) : Sm := liftE me fun v env st => liftE mo (fun o env st => liftE mi (fun i env st => match putAt o i v st with
  | some s2 => .go (.nx env) s2
  | none => .bad) env st) env st
/-- for: what one turn makes of an item -/
def forEach (body : Sm) (put : W → En → En) : List W → Sm
  | [] => fun env st => .go (.nx env) st
  | x :: xs => fun env st => match body (put x env) st with
    | .go (.nx e2) s2 => forEach body put xs e2 s2
    | .go (.ct e2) s2 => forEach body put xs e2 s2
    | .go (.bk e2) s2 => .go (.nx e2) s2
    | r => r
def rngW (lo : Int) (n : Nat) : List W := (List.range n).map fun (i : Nat) => W.int (lo + (i : Int))
def as1 : List W → Option Int
  | [.int n] => some n
  | _ => none
def as2 : List W → Option (Int × Int)
  | [.int a, .int b] => some (a, b)
  | _ => none
def sForR1 (m : Ev (List W)) (j : Nat) (body : Sm) : Sm := liftE m fun ws env st => match as1 ws with
  | some n => if -(2 ^ 62) ≤ n ∧ n < 2 ^ 62 then forEach body (fun x e => e.set j (some x)) (rngW 0 n.toNat) env st else .bad
  | none => .bad
def sForR2 (m : Ev (List W)) (j : Nat) (body : Sm) : Sm := liftE m fun ws env st => match as2 ws with
  | some ab => if -(2 ^ 62) ≤ ab.1 ∧ ab.1 < 2 ^ 62 ∧ -(2 ^ 62) ≤ ab.2 ∧ ab.2 < 2 ^ 62 then forEach body (fun x e => e.set j (some x)) (rngW ab.1 (ab.2 - ab.1).toNat) env st else .bad
  | none => .bad
/-- the items that a for goes over -/
def tupOf : W → Option (List W)
  | .tup xs => some xs
  | _ => none
def seqOf : W → Option (List W)
  | .lst xs => some xs
  | .frz xs => some xs
  | _ => none
def sForT (m : Ev W) (put : W → En → En) (body : Sm) : Sm := liftE m fun w env st => match tupOf w with
  | some xs => forEach body put xs env st
  | none => .bad
def sForS (m : Ev W) (put : W → En → En) (body : Sm) : Sm := liftE m fun w env st => match seqOf w with
  | some xs => forEach body put xs env st
  | none => .bad

section
variable {K : PySem.W.Frag} {mg : Str → Option Value} {Wx : WX} {p q : Wh} {D : Ends} {st : Store} {env : En} {σ : L2.St} {H : Hp} {α β : Type} {R : Wh → α → β → Prop}
theorem FinS.later {r : Sr} (s : Step p q) (h : FinS K mg Wx p D r) : FinS K mg Wx q D r := by
  cases r with
  | bad => exact h
  | go f st =>
    cases f with
    | nx e => exact fun z a t => h z a (s.trans t)
    | bk e => exact fun z a t => h z a (s.trans t)
    | ct e => exact fun z a t => h z a (s.trans t)
    | rt w => exact fun z a t => h z a (s.trans t)
    | ex x e => exact fun z a c d t => h z a c d (s.trans t)
theorem lift_of {m : Ev α} {k : α → En → Store → Sr} {Q : β → Hp → Prop} (hp : p.H = H) (S : SR K p st) (E : EnvR K p env σ) (h : FinS K mg Wx p D (liftE m k env st))
    (hq : ∀ (q : Wh) (st' : Store) (a : α) (b : β), Step p q → SR K q st' → EnvR K q env σ → R q a b → FinS K mg Wx q D (k a env st') → Q b q.H) : tG K mg R Wx m σ H Q := by
  refine ⟨p, st, env, hp, S, E, ?_⟩
  unfold liftE at h
  cases e : m env st with
  | ok a s1 =>
    rw [e] at h
    exact fun q b t s r => hq q s1 a b t s (E.step t) r (FinS.later t h)
  | exc x s1 =>
    rw [e] at h
    exact fun q c d t s xr => h q σ c d t s (E.step t) xr
  | bad =>
    rw [e] at h
    exact h
end
theorem PSimp {X : Cx} {e : Stmt} {t t' : TS} (h : PS X e t) (i : ∀ D σ H, t' D σ H → t D σ H) : PS X e t' := ⟨fun pins s σ H D I z => h.run pins s σ H D I (i D σ H z)⟩
theorem PSsimp {X : Cx} {e : List Stmt} {t t' : TS} (h : PSs X e t) (i : ∀ D σ H, t' D σ H → t D σ H) : PSs X e t' := ⟨fun pins s σ H D I z => h.run pins s σ H D I (i D σ H z)⟩
section
variable {X : Cx} {Wx : WX} {a b c e : Expr} {es : List Expr} {ma mb mc me : Ev W} {mt mu : Ev Bool} {ml : Ev (List W)} {pos : Pos} {s : Stmt} {ss : List Stmt} {m1 m2 : Sm} {N : List Str}
theorem gss_nil : GSs X Wx [] sNx := PSsimp pss_nil fun D σ H ⟨p, st, env, hp, S, E, h⟩ => by
  subst hp
  exact h p σ (.refl S) S E
theorem gss_cons (h1 : GS X Wx s m1) (h2 : GSs X Wx ss m2) : GSs X Wx (s :: ss) (sSeq m1 m2) := PSsimp (pss_cons h1 h2) fun D σ H ⟨p, st, env, hp, S, E, h⟩ => by
  refine ⟨p, st, env, hp, S, E, ?_⟩
  unfold sSeq at h
  cases e : m1 env st with
  | bad =>
    rw [e] at h
    exact h
  | go f s1 =>
    rw [e] at h
    cases f with
    | nx e2 => exact fun q σ' t S' E' => ⟨q, s1, e2, rfl, S', E', FinS.later t h⟩
    | bk e2 => exact h
    | ct e2 => exact h
    | rt w => exact h
    | ex x e2 => exact h
theorem gss_one (h1 : GS X Wx s m1) : GSs X Wx [s] m1 := pss_one h1
theorem gs_pass : GS X Wx (.Pass pos) sNx := PSimp ps_pass fun D σ H ⟨p, st, env, hp, S, E, h⟩ => by
  subst hp
  exact h p σ (.refl S) S E
theorem gs_break : GS X Wx (.Break pos) sBk := PSimp ps_break fun D σ H ⟨p, st, env, hp, S, E, h⟩ => by
  subst hp
  exact h p σ (.refl S) S E
theorem gs_continue : GS X Wx (.Continue pos) sCt := PSimp ps_continue fun D σ H ⟨p, st, env, hp, S, E, h⟩ => by
  subst hp
  exact h p σ (.refl S) S E
theorem gs_never : GS X Wx s sBad := PSimp ps_never fun D σ H ⟨p, st, env, hp, S, E, h⟩ => h.elim
theorem gs_set {i : Nat} {x : Str} {pos' : Pos} (hN : X.N.Nodup) (hi : X.N[i]? = some x) (hx : Loc X.env.scope x) (he : GE X Wx e me) (hs : swapsWith e (some (.Name x pos')) pos.line X.env = pure false := by rfl)
    (hf : X.fn x = true ∨ X.env.scope.names.lookup x = some .local := by first | exact .inl rfl | exact .inr rfl | assumption) : GS X Wx (.Assign [.Name x pos'] e pos) (sSet i me) :=
  PSimp (ps_set hN hi hx he hs hf) fun D σ H ⟨p, st, env, hp, S, E, h⟩ => lift_of hp S E h fun q s1 w v t S1 E1 r h1 => h1 q _ (.refl S1) S1 (E1.set i r)
theorem gs_ret (he : GE X Wx e me) : GS X Wx (.Return (some e) pos) (sRet me) :=
  PSimp (ps_ret he) fun D σ H ⟨p, st, env, hp, S, E, h⟩ => lift_of hp S E h fun q s1 w v t S1 E1 r h1 => h1 q v (.refl S1) S1 r
theorem gs_retN : GS X Wx (.Return none pos) sRetN := PSimp ps_retN fun D σ H ⟨p, st, env, hp, S, E, h⟩ => by
  subst hp
  exact h p .non (.refl S) S rfl
theorem gs_expr (he : GE X Wx e me) (hs : swapsWith e none pos.line X.env = pure false := by rfl) : GS X Wx (.Expr e pos) (sDrop me) :=
  PSimp (ps_expr he hs) fun D σ H ⟨p, st, env, hp, S, E, h⟩ => lift_of hp S E h fun q s1 w v t S1 E1 r h1 => h1 q σ (.refl S1) S1 E1
theorem gs_if {sa sb : List Stmt} (hc : GT X Wx c mt) (ha : GSs X Wx sa m1) (hb : GSs X Wx sb m2) : GS X Wx (.If c sa sb pos) (sIf mt m1 m2) :=
  PSimp (ps_if hc ha hb) fun D σ H ⟨p, st, env, hp, S, E, h⟩ => lift_of hp S E h fun q s1 w v t S1 E1 r h1 => by
    have r' : w = v := r
    subst r'
    cases w with
    | true => exact ⟨q, s1, env, rfl, S1, E1, h1⟩
    | false => exact ⟨q, s1, env, rfl, S1, E1, h1⟩
/-- names that a tuple's items go to -/
def gNames : List Nat → TGs
  | [] => gNil
  | i :: is => gCons (gName i) (gNames is)
theorem gNames_of {K : PySem.W.Frag} {q : Wh} : ∀ (is : List Nat) {xs : List W} {vs : List V} {env : En} {σ : L2.St} {Q : L2.St → Hp → Prop}, xs.length = is.length → RWs K q xs vs → EnvR K q env σ → (∀ σ', EnvR K q (putAll is xs env) σ' → Q σ' q.H) → gNames is vs σ q.H Q
  | [], [], vs, env, σ, Q, _, r, E, h => by
    have r' : vs = [] := r
    exact ⟨r', h σ E⟩
  | [], x :: xs, _, _, _, _, hl, _, _, _ => by simp at hl
  | i :: is, [], _, _, _, _, hl, _, _, _ => by simp at hl
  | i :: is, x :: xs, vs, env, σ, Q, hl, ⟨v, r, e, h1, h2⟩, E, h => ⟨v, r, e, gNames_of is (by simpa using hl) h2 (E.set i h1) h⟩
theorem gs_unp {is : List Nat} {ts : List Expr} {tk : Nat} {tp : Pos} (hg : PG X (.Tuple ts tk tp) (gTup X.K is.length (gNames is))) (he : GE X Wx e me)
    (hs : swapsWithSole [.Tuple ts tk tp] e pos.line X.env = pure false := by rfl) (hw : swappedStores [.Tuple ts tk tp] e X.env = pure none := by rfl) : GS X Wx (.Assign [.Tuple ts tk tp] e pos) (sUnp is me) :=
  PSimp (ps_asg he hg hs hw) fun D σ H ⟨p, st, env, hp, S, E, h⟩ => lift_of hp S E h fun q s1 w v t S1 E1 r h1 => by
    cases w with
    | tup xs =>
      obtain ⟨a, vs, e, ta, rs⟩ := r
      dsimp only at h1
      by_cases hl : xs.length = is.length
      · rw [if_pos hl] at h1
        exact ⟨a, vs, e, ta.seq, by rw [← rs.length]; exact hl, gNames_of is hl rs E1 fun σ' E' => h1 q σ' (.refl S1) S1 E'⟩
      · rw [if_neg hl] at h1
        exact h1.elim
    | _ => exact h1.elim
theorem gs_par {i j : Nat} {x y : Str} {px py pt : Pos} {kt k2 pt2} (hc : X.calm = true) (hN : X.N.Nodup) (hi : X.N[i]? = some x) (hj : X.N[j]? = some y) (hij : i ≠ j)
    (hx : X.env.scope.names.lookup x = some .local) (hy : X.env.scope.names.lookup y = some .local) (ha : GA X Wx [a, b] ml) (hw : swappedStores [.Tuple [.Name x px, .Name y py] kt pt] (.Tuple [a, b] k2 pt2) X.env = pure (some [x, y]))
    (hs : swapsWithSole [.Tuple [.Name x px, .Name y py] kt pt] (.Tuple [a, b] k2 pt2) pos.line X.env = pure false := by rfl) :
    GS X Wx (.Assign [.Tuple [.Name x px, .Name y py] kt pt] (.Tuple [a, b] k2 pt2) pos) (sPar i j ml) :=
  PSimp (ps_par hc hN hi hj hij hx hy ha hw hs) fun D σ H ⟨p, st, env, hp, S, E, h⟩ => lift_of hp S E h fun q s1 ws vs t S1 E1 r h1 => by
    match ws, r, h1 with
    | [], _, h1 => exact h1.elim
    | [_], _, h1 => exact h1.elim
    | [x, y], ⟨v, _, e, r1, u, _, e2, r2, e3⟩, h1 =>
      refine ⟨v, u, ?_, h1 q _ (.refl S1) S1 ((E1.set i r1).set j r2)⟩
      have e3' : _ = [] := e3
      rw [e, e2, e3']
    | _ :: _ :: _ :: _, _, h1 => exact h1.elim
/-- a thing of the store changes -/
theorem SR.at {K : PySem.W.Frag} {p : Wh} {st : Store} (S : SR K p st) {n : Nat} {xs : List W} (h : st[n]? = some (.lst xs)) : n < p.n ∧ ∃ vs, p.H (p.ρ n) = some (.lst vs) ∧ RWs K p xs vs := by
  refine ⟨by rw [S.len]; exact (List.getElem?_eq_some_iff.mp h).1, ?_⟩
  exact S.obj n _ h
theorem step_mut {K : PySem.W.Frag} {p : Wh} {st : Store} (S : SR K p st) {n : Nat} (hn : n < p.n) {o : HO} : Step p { p with H := upd p.H (p.ρ n) o } := by
  have hx : ∀ b, b ∈ p.x → upd p.H (p.ρ n) o b = p.H b := fun b z => upd_ne fun e => (S.hid b z).2 n hn e.symm
  refine ⟨⟨Nat.le_refl _, fun _ _ => rfl, fun b u e h => ?_, fun i h1 h2 => absurd h2 (Nat.not_lt.mpr h1), fun i hi => ?_, fun b z => .inl z, fun b z => ?_⟩, rfl, hx⟩
  · show upd p.H (p.ρ n) o b = some u
    rw [upd_ne (fun z => h.1 n hn z.symm)]
    exact e
  · show upd p.H (p.ρ n) o (p.ρ i) ≠ none
    by_cases z : i = n
    · rw [z, upd_same]
      exact fun z => nomatch z
    · rw [upd_ne (fun e => z (S.inj i n hi hn e))]
      exact S.there i hi
  · show upd p.H (p.ρ n) o b ≠ none
    rw [hx b z]
    exact (S.hid b z).1
theorem sr_mut {K : PySem.W.Frag} {p : Wh} {st : Store} (S : SR K p st) {n : Nat} (hn : n < p.n) {xs : List W} {vs : List V} (r : RWs K p xs vs) : SR K { p with H := upd p.H (p.ρ n) (.lst vs) } (st.set n (.lst xs)) := by
  have t : Step p { p with H := upd p.H (p.ρ n) (.lst vs) } := step_mut S hn
  refine ⟨by rw [List.length_set]; exact S.len, S.inj, fun i u e => ?_, fun b z => ⟨t.hth b z, (S.hid b z).2⟩⟩
  show RO K _ u (upd p.H (p.ρ n) (.lst vs) (p.ρ i))
  by_cases z : n = i
  · subst z
    rw [List.getElem?_set_self (by rw [← S.len]; exact hn)] at e
    cases e
    rw [upd_same]
    exact ⟨vs, rfl, RWs.step t xs vs r⟩
  · rw [List.getElem?_set_ne z] at e
    have hi : i < p.n := by
      rw [S.len]
      exact (List.getElem?_eq_some_iff.mp e).1
    rw [upd_ne (fun e => z (S.inj i n hi hn e).symm)]
    exact (S.obj i u e).step t
theorem gs_put {pos2 : Pos} (ho : GE X Wx a ma) (hi : GE X Wx b mb) (he : GE X Wx e me) (hs : swapsWithSole [.Subscript a b pos2] e pos.line X.env = pure false := by rfl) (hw : swappedStores [.Subscript a b pos2] e X.env = pure none := by rfl)
    (hsub : ∀ v, assign (.Subscript a b pos2) X.env v = (do
      let ov ← holding [v] (eval a X.env)
      let iv ← holding [v, ov] (eval b X.env)
      standAt pos2
      holding [v, ov, iv] (setItem ov iv v)
      release [v, ov, iv] []) := by intro _; rfl) : GS X Wx (.Assign [.Subscript a b pos2] e pos) (sPut me ma mb) :=
  PSimp (ps_asg he (pg_sub ho hi set_list hsub) hs hw) fun D σ H ⟨p, st, env, hp, S, E, h⟩ => lift_of hp S E h fun q s1 w v t S1 E1 r h1 =>
    lift_of rfl S1 E1 h1 fun q2 s2 w2 v2 t2 S2 E2 r2 h2 => lift_of rfl S2 E2 h2 fun q3 s3 w3 v3 t3 S3 E3 r3 h3 => by
      have r := RW.step (t2.trans t3) w v r
      have r2 := RW.step t3 w2 v2 r2
      cases w2 with
      | ref n =>
        cases w3 with
        | int k =>
          obtain ⟨hn, rfl⟩ := r2
          have r3' : v3 = .int k := r3
          subst r3'
          dsimp only [putAt] at h3
          cases e1 : s3[n]? with
          | none =>
            rw [e1] at h3
            exact h3.elim
          | some o =>
            cases o with
            | lst xs =>
              rw [e1] at h3
              dsimp only at h3
              cases e2 : ixN xs.length k with
              | none =>
                rw [e2] at h3
                exact h3.elim
              | some j =>
                rw [e2] at h3
                obtain ⟨hn', vs, hH, rs⟩ := S3.at e1
                refine ⟨q3.ρ n, vs, k, j, rfl, rfl, hH, by rw [← rs.length]; exact e2, ?_⟩
                exact h3 { q3 with H := upd q3.H (q3.ρ n) (.lst (vs.set j v)) } σ (step_mut S3 hn') (sr_mut S3 hn' (rs.set j r)) (E3.step (step_mut S3 hn'))
        | _ => exact h3.elim
      | _ => cases w3 <;> exact h3.elim
/-- the rest of a loop -/
theorem for_of {K : PySem.W.Frag} {mg : Str → Option Value} {D : Ends} {body : Sm} {put : W → En → En} {x : W} {xs : List W} {env : En} {st : Store} {p : Wh} (S : SR K p st) {σ : L2.St} (E : EnvR K p (put x env) σ) (h : FinS K mg Wx p D (forEach body put (x :: xs) env st))
    (Nx : L2.St → Hp → Prop) (hN : ∀ q σ' e2 s2, Step p q → SR K q s2 → EnvR K q e2 σ' → FinS K mg Wx q D (forEach body put xs e2 s2) → Nx σ' q.H) : tS K mg Wx body { D with nx := Nx, ct := Nx, bk := D.nx } σ p.H := by
  refine ⟨p, st, put x env, rfl, S, E, ?_⟩
  unfold forEach at h
  cases e : body (put x env) st with
  | bad =>
    rw [e] at h
    exact h
  | go f s1 =>
    rw [e] at h
    cases f with
    | nx e2 => exact fun q σ' t S' E' => hN q σ' e2 s1 t S' E' (FinS.later t h)
    | ct e2 => exact fun q σ' t S' E' => hN q σ' e2 s1 t S' E' (FinS.later t h)
    | bk e2 => exact h
    | rt w => exact h
    | ex x e2 => exact h
theorem rngW_get {lo : Int} {n i : Nat} (h : i < n) : (rngW lo n)[i]? = some (.int (lo + (i : Int))) := by
  unfold rngW
  rw [List.getElem?_map, List.getElem?_range h]
  rfl
theorem rngW_len {lo : Int} {n : Nat} : (rngW lo n).length = n := by
  unfold rngW
  rw [List.length_map, List.length_range]
theorem for_rng {K : PySem.W.Frag} {mg : Str → Option Value} {D : Ends} {body : Sm} {j : Nat} {lo : Int} {n : Nat} {env : En} {st : Store} {p : Wh} {σ : L2.St} (S : SR K p st) (E : EnvR K p env σ)
    (h : FinS K mg Wx p D (forEach body (fun x e => e.set j (some x)) (rngW lo n) env st)) : ∃ W : Nat → Nat → L2.St → Hp → Prop, (∃ m, W 0 m σ p.H) ∧ ∀ i m σ H, W i m σ H →
      ((Itr lo n).stop i H ∧ D.nx σ H) ∨ ((Itr lo n).go i H ∧ ∃ N : L2.St → Hp → Prop, (∀ σ' H', N σ' H' → ∃ m', m' < m ∧ W (i + 1) m' σ' H') ∧ ∀ x H', (Itr lo n).yld i H x H' → gName j x σ H' fun σ2 H2 => tS K mg Wx body { D with nx := N, ct := N, bk := D.nx } σ2 H2) := by
  let Pv : Nat → L2.St → Hp → Prop := fun i σ' H' => ∃ (q : Wh) (e2 : En) (s2 : Store), q.H = H' ∧ SR K q s2 ∧ EnvR K q e2 σ' ∧ FinS K mg Wx q D (forEach body (fun x e => e.set j (some x)) ((rngW lo n).drop i) e2 s2)
  refine for_range (lo := lo) (n := n) (g := gName j) Pv ⟨p, env, st, rfl, S, E, h⟩ (fun i σ' H' hi ⟨q, e2, s2, eH, S2, E2, h2⟩ => ?_) fun σ' H' ⟨q, e2, s2, eH, S2, E2, h2⟩ => ?_
  · subst eH
    have hl : i < (rngW lo n).length := by
      rw [rngW_len]
      exact hi
    rw [List.drop_eq_getElem_cons hl] at h2
    have ex : (rngW lo n)[i] = W.int (lo + (i : Int)) := by
      have z := List.getElem?_eq_getElem hl
      rw [rngW_get hi] at z
      exact (Option.some.inj z).symm
    rw [ex] at h2
    show tS K mg Wx body _ (σ'.set j (some (.int (lo + (i : Int))))) q.H
    exact for_of S2 (E2.set j (show RW K q (.int (lo + (i : Int))) (.int (lo + (i : Int))) from rfl)) h2 (Pv (i + 1)) fun q3 σ3 e3 s3 t S3 E3 h3 => ⟨q3, e3, s3, rfl, S3, E3, h3⟩
  · subst eH
    rw [List.drop_of_length_le (by rw [rngW_len]; exact Nat.le_refl _)] at h2
    exact h2 q σ' (.refl S2) S2 E2
theorem as1_of {K : PySem.W.Frag} {p : Wh} {ws : List W} {vs : List V} {n : Int} (h : as1 ws = some n) (r : RWs K p ws vs) : vs = [.int n] := by
  unfold as1 at h
  split at h
  · cases h
    obtain ⟨v, _, e, r1, e3⟩ := r
    have r1' : v = .int n := r1
    have e3' : _ = [] := e3
    rw [e, r1', e3']
  · cases h
theorem as2_of {K : PySem.W.Frag} {p : Wh} {ws : List W} {vs : List V} {ab : Int × Int} (h : as2 ws = some ab) (r : RWs K p ws vs) : vs = [.int ab.1, .int ab.2] := by
  unfold as2 at h
  split at h
  · cases h
    obtain ⟨v, _, e, r1, v2, _, e2, r2, e3⟩ := r
    have r1' : v = .int _ := r1
    have r2' : v2 = .int _ := r2
    have e3' : _ = [] := e3
    rw [e, e2, r1', r2', e3']
  · cases h
theorem gs_forR1 {i : Nat} {x : Str} {p pos tp fpos : Pos} {body : List Stmt} (hpo : PassesOwn (model X.prog X.w) X.A X.env X.xe) (hc : X.calm = true) (hg : Gl X "range") (hm : X.mg "range" = none) (ha : GA X Wx [a] ml)
    (hN : X.N.Nodup) (hi : X.N[i]? = some x) (hx : Loc X.env.scope x) (hb : GSs X Wx body m1) (hs : starEach [a] X.env = [(false, eval a X.env)] := by rfl)
    (hfo : ∀ z, foldedSetIterable (.Call (.Name "range" p) [a] [] pos) X.env z = pure z := by intro _; rfl)
    (hf : X.fn x = true ∨ X.env.scope.names.lookup x = some .local := by first | exact .inl rfl | exact .inr rfl | assumption) :
    GS X Wx (.For (.Name x tp) (.Call (.Name "range" p) [a] [] pos) body [] fpos) (sForR1 ml i m1) :=
  PSimp (ps_for hpo hc (pi_range1 hg hm ha hs) (pg_name hN hi hx hf) hb hfo) fun D σ H ⟨p, st, env, hp, S, E, h⟩ => lift_of hp S E h fun q s1 ws vs t S1 E1 r h1 => by
    cases e : as1 ws with
    | none =>
      rw [e] at h1
      exact h1.elim
    | some n =>
      rw [e] at h1
      dsimp only at h1
      by_cases hb : -(2 ^ 62) ≤ n ∧ n < 2 ^ 62
      · rw [if_pos hb] at h1
        exact ⟨n, as1_of e r, hb.1, hb.2, for_rng S1 E1 h1⟩
      · rw [if_neg hb] at h1
        exact h1.elim
theorem gs_forR2 {i : Nat} {x : Str} {p pos tp fpos : Pos} {body : List Stmt} (hpo : PassesOwn (model X.prog X.w) X.A X.env X.xe) (hc : X.calm = true) (hg : Gl X "range") (hm : X.mg "range" = none) (ha : GA X Wx [a, b] ml)
    (hN : X.N.Nodup) (hi : X.N[i]? = some x) (hx : Loc X.env.scope x) (hb : GSs X Wx body m1) (hs : starEach [a, b] X.env = [(false, eval a X.env), (false, eval b X.env)] := by rfl) (hs2 : starEach [b] X.env = [(false, eval b X.env)] := by rfl)
    (hfo : ∀ z, foldedSetIterable (.Call (.Name "range" p) [a, b] [] pos) X.env z = pure z := by intro _; rfl)
    (hf : X.fn x = true ∨ X.env.scope.names.lookup x = some .local := by first | exact .inl rfl | exact .inr rfl | assumption) :
    GS X Wx (.For (.Name x tp) (.Call (.Name "range" p) [a, b] [] pos) body [] fpos) (sForR2 ml i m1) :=
  PSimp (ps_for hpo hc (pi_range2 hg hm ha hs hs2) (pg_name hN hi hx hf) hb hfo) fun D σ H ⟨p, st, env, hp, S, E, h⟩ => lift_of hp S E h fun q s1 ws vs t S1 E1 r h1 => by
    cases e : as2 ws with
    | none =>
      rw [e] at h1
      exact h1.elim
    | some ab =>
      rw [e] at h1
      dsimp only at h1
      by_cases hb : -(2 ^ 62) ≤ ab.1 ∧ ab.1 < 2 ^ 62 ∧ -(2 ^ 62) ≤ ab.2 ∧ ab.2 < 2 ^ 62
      · rw [if_pos hb] at h1
        exact ⟨ab.1, ab.2, as2_of e r, hb, for_rng S1 E1 h1⟩
      · rw [if_neg hb] at h1
        exact h1.elim
/-- the loop's state ahead of its i-th turn -/
def Turn (K : PySem.W.Frag) (mg : Str → Option Value) (Wx : WX) (D : Ends) (body : Sm) (put : W → En → En) (xs : List W) (p : Wh) (i : Nat) (σ' : L2.St) (H' : Hp) : Prop :=
  ∃ (q : Wh) (e2 : En) (s2 : Store), q.H = H' ∧ Step p q ∧ SR K q s2 ∧ EnvR K q e2 σ' ∧ FinS K mg Wx q D (forEach body put (xs.drop i) e2 s2)
/-- what a target does with an item -/
def PutOk (K : PySem.W.Frag) (g : TG) (put : W → En → En) (xs : List W) : Prop :=
  ∀ (q : Wh) (w : W) (v : V) (env : En) (σ : L2.St) (Q : L2.St → Hp → Prop), w ∈ xs → RW K q w v → EnvR K q env σ → (∀ σ', EnvR K q (put w env) σ' → Q σ' q.H) → g v σ q.H Q
theorem turn_of {K : PySem.W.Frag} {mg : Str → Option Value} {D : Ends} {body : Sm} {put : W → En → En} {xs : List W} {vs : List V} {p : Wh} {i : Nat} {g : TG} {v : V} {σ : L2.St} {H : Hp} (hg : PutOk K g put xs) (rs : RWs K p xs vs) (hv : vs[i]? = some v)
    (h : Turn K mg Wx D body put xs p i σ H) : g v σ H fun σ2 H2 => tS K mg Wx body { D with nx := Turn K mg Wx D body put xs p (i + 1), ct := Turn K mg Wx D body put xs p (i + 1), bk := D.nx } σ2 H2 := by
  obtain ⟨q, e2, s2, rfl, t, S2, E2, h2⟩ := h
  obtain ⟨w, hw, r⟩ := rs.getV hv
  obtain ⟨hl, hw'⟩ := List.getElem?_eq_some_iff.mp hw
  rw [List.drop_eq_getElem_cons hl, hw'] at h2
  exact hg q w v e2 σ _ (List.mem_of_getElem? hw) (RW.step t w v r) E2 fun σ' E' => for_of S2 E' h2 _ fun q3 σ3 e3 s3 t3 S3 E3 h3 => ⟨q3, e3, s3, rfl, t.trans t3, S3, E3, h3⟩
theorem turn_end {K : PySem.W.Frag} {mg : Str → Option Value} {D : Ends} {body : Sm} {put : W → En → En} {xs : List W} {vs : List V} {p : Wh} {σ : L2.St} {H : Hp} (rs : RWs K p xs vs) (h : Turn K mg Wx D body put xs p vs.length σ H) : D.nx σ H := by
  obtain ⟨q, e2, s2, rfl, t, S2, E2, h2⟩ := h
  rw [List.drop_of_length_le (by rw [rs.length]; exact Nat.le_refl _)] at h2
  exact h2 q σ (.refl S2) S2 E2
theorem frz_step {K : PySem.W.Frag} {p q : Wh} (t : Mv p q) {a : Addr} {vs : List V} (h : FrzAt K p a vs) : FrzAt K q a vs := h.imp (fun z => rd_step t z.1 z.2) (fun z => z)
theorem tup_step {K : PySem.W.Frag} {p q : Wh} (t : Mv p q) {a : Addr} {vs : List V} (h : TupAt K p a vs) : TupAt K q a vs := h.imp (fun z => rd_step t z.1 z.2) (fun z => z)
theorem lst_step {p q : Wh} (t : Mv p q) {a : Addr} {vs : List V} (h : LstAt p a vs) : LstAt q a vs := ⟨t.keep _ _ h.1 h.2, t.out h.1 h.2⟩
theorem LstAt.seq {K : PySem.W.Frag} {p : Wh} {a : Addr} {vs : List V} (h : LstAt p a vs) : SqL K p.H a vs := .inl (.inl h.1)
theorem tupOf_of {K : PySem.W.Frag} {p : Wh} {w : W} {v : V} {xs : List W} (h : tupOf w = some xs) (r : RW K p w v) : ∃ a vs, v = .ref a ∧ TupAt K p a vs ∧ RWs K p xs vs := by
  cases w with
  | tup ys =>
    cases h
    exact r
  | _ => cases h
theorem seqOf_of {K : PySem.W.Frag} {p : Wh} {w : W} {v : V} {xs : List W} (h : seqOf w = some xs) (r : RW K p w v) : ∃ a vs, v = .ref a ∧ (∀ q, Mv p q → SqL K q.H a vs) ∧ RWs K p xs vs := by
  cases w with
  | lst ys =>
    cases h
    obtain ⟨a, vs, e, ta, rs⟩ := r
    exact ⟨a, vs, e, fun q t => (lst_step t ta).seq, rs⟩
  | frz ys =>
    cases h
    obtain ⟨a, vs, e, ta, rs⟩ := r
    exact ⟨a, vs, e, fun q t => (frz_step t ta).seq, rs⟩
  | _ => cases h
theorem gs_forT {fpos : Pos} {tg it : Expr} {body : List Stmt} {g : TG} {put : W → En → En} (hpo : PassesOwn (model X.prog X.w) X.A X.env X.xe) (hc : X.calm = true) (he : GE X Wx it me) (hg : PG X tg g) (hp : ∀ xs, PutOk X.K g put xs) (hb : GSs X Wx body m1)
    (hfo : ∀ z, foldedSetIterable it X.env z = pure z := by intro _; rfl) : GS X Wx (.For tg it body [] fpos) (sForT me put m1) :=
  PSimp (ps_for hpo hc (pi_tup he) hg hb hfo) fun D σ H ⟨p, st, env, hp', S, E, h⟩ => lift_of hp' S E h fun q s1 w v t S1 E1 r h1 => by
    cases e : tupOf w with
    | none =>
      rw [e] at h1
      exact h1.elim
    | some xs =>
      rw [e] at h1
      obtain ⟨a, vs, ev, ta, rs⟩ := tupOf_of e r
      refine ⟨a, ev, ⟨vs, ta.seq⟩, for_tup (xs := vs) (Turn X.K X.mg Wx D m1 put xs q) ⟨q, env, s1, rfl, .refl S1, S1, E1, h1⟩ (fun i σ' H' hi ⟨z, _, _, ez, tz, _, _, _⟩ => ?_) (fun i x σ' H' hx hT => turn_of (hp xs) rs hx hT) fun σ' H' hT => turn_end rs hT⟩
      subst ez
      exact (tup_step tz.toMv ta).seq
theorem gs_forS {fpos : Pos} {tg it : Expr} {body : List Stmt} {g : TG} {put : W → En → En} (hpo : PassesOwn (model X.prog X.w) X.A X.env X.xe) (hc : X.calm = true) (he : GE X Wx it me) (hg : PG X tg g) (hp : ∀ xs, PutOk X.K g put xs) (hb : GSs X Wx body m1)
    (hfo : ∀ z, foldedSetIterable it X.env z = pure z := by intro _; rfl) : GS X Wx (.For tg it body [] fpos) (sForS me put m1) :=
  PSimp (ps_for hpo hc (pi_list he) hg hb hfo) fun D σ H ⟨p, st, env, hp', S, E, h⟩ => lift_of hp' S E h fun q s1 w v t S1 E1 r h1 => by
    cases e : seqOf w with
    | none =>
      rw [e] at h1
      exact h1.elim
    | some xs =>
      rw [e] at h1
      obtain ⟨a, vs, ev, ta, rs⟩ := seqOf_of e r
      refine ⟨a, ev, ⟨vs, ta q (Step.refl S1).toMv⟩, for_list (xs := vs) (Turn X.K X.mg Wx D m1 put xs q) ⟨q, env, s1, rfl, .refl S1, S1, E1, h1⟩ (fun i σ' H' hi ⟨z, _, _, ez, tz, _, _, _⟩ => ?_) (fun i x σ' H' hx hT => turn_of (hp xs) rs hx hT) fun σ' H' hT => turn_end rs hT⟩
      subst ez
      exact ta z tz.toMv
theorem put_name {K : PySem.W.Frag} {j : Nat} {xs : List W} : PutOk K (gName j) (fun x e => e.set j (some x)) xs := fun q w v env σ Q _ r E h => h _ (E.set j r)
end
end Mi

namespace Mi
open PySem PySem.Spec PyProof.Rows L2

/-! ### defs and their calls -/
def outM : Sr → Res W
  | .go (.rt w) s1 => .ok w s1
  | .go (.nx _) s1 => .ok .non s1
  | .go (.ex x _) s1 => .exc x s1
  | _ => .bad
/-- j parameters, n names -/
def fnM (j n : Nat) (body : Sm) : List W → Store → Res W := fun ws st => if ws.length = j then outM (body (ws.map some ++ List.replicate (n - j) none) st) else .bad
/-- the wish of exceptions without the slots -/
abbrev WxE (E : XK) : WX := fun c d _ H => E c d H

structure FnG (P : Program) (w : World) (K : PySem.W.Frag) (mg : Str → Option Value) (base : Heap) (k : Nat) (f : Addr) (fd : FuncData) (ps : List Str) (m : List W → Store → Res W) : Prop where
  len : ∀ ws st, ws.length ≠ ps.length → m ws st = .bad
  run : ∀ (A : Around) (outer : List Env) (s : Shared) (H : Hp) (args : Args) (us : List Value) (vs : List V) (ws : List W) (p : Wh) (st : Store) (Q : VK) (E : XK),
    Room k A → A.guards = some [] → Env0 P w K mg base A outer s H → BindsTo s fd args (ps.zip us) → Vals vs us → us.length = ps.length → p.H = H → SR K p st → RWs K p ws vs →
    Fin K mg (RW K) (WxE E) p [] Q (m ws st) → codeAny (model P w) A (.call (.ref f) args) (CR (L2.CX P w) outer P w H s Q E) s
theorem FnG.mono {P : Program} {w : World} {K : PySem.W.Frag} {mg : Str → Option Value} {base : Heap} {j k : Nat} {f : Addr} {fd : FuncData} {ps : List Str} {m : List W → Store → Res W} (F : FnG P w K mg base j f fd ps m) (h : j ≤ k) : FnG P w K mg base k f fd ps m :=
  ⟨F.len, fun A o s H a us vs ws p st Q E r => F.run A o s H a us vs ws p st Q E (r.mono h)⟩

section
variable {P : Program} {w : World} {K : PySem.W.Frag} {mg : Str → Option Value} {base : Heap}
theorem env_start {p : Wh} {ws : List W} {vs : List V} {N : List Str} (r : RWs K p ws vs) : EnvR K p (ws.map some ++ List.replicate (N.length - ws.length) none) (L2.start N vs) := by
  unfold L2.start
  refine ⟨by simp [r.length], fun i w h => ?_⟩
  by_cases hi : i < ws.length
  · rw [List.getElem?_append_left (by simpa using hi), List.getElem?_map] at h
    cases e : ws[i]? with
    | none =>
      rw [e] at h
      cases h
    | some x =>
      rw [e] at h
      have h' : x = w := by simpa using h
      subst h'
      obtain ⟨v, hv, rv⟩ := r.get e
      refine ⟨v, ?_, rv⟩
      rw [List.getElem?_append_left (by simpa [← r.length] using hi), List.getElem?_map, hv]
      rfl
  · rw [List.getElem?_append_right (by simpa using hi), List.getElem?_replicate] at h
    split at h <;> cases h
theorem fnG_of {x qual : Str} {st : Stmt} {f : Addr} {fd : FuncData} {N ps : List Str} {k : Nat} {body : Sm} (F : Fun K x qual st f fd) (S : FnScope N ps (defScope st))
    (hb : ∀ (cdv : Value) (A : Around) (outer : List Env) (s : Shared) (H : Hp) (E : XK), Room k (A.deeper (envOfC qual (defScope st) s.heap.objs.size f cdv)) → A.guards = some [] →
      GSs (cxOf (L2.CX P w) P w K mg base N qual (defScope st) f cdv A outer s H E) (WxE E) (defBody st) body) : FnG P w K mg base (k + 1) f fd ps (fnM ps.length N.length body) := by
  obtain ⟨oc, od, kV, doc, pm, an, cdv, ct, osl, rfl, lk, hcd⟩ := F.ex
  refine ⟨fun ws st h => if_neg h, fun A outer s H args us vs ws p sto Q E hr hg e0 hbd rv hlen hp S0 rw0 hfin => ?_⟩
  subst hp
  have inK : K.In s.heap := e0.mod.kin.keeps fun b o z => (e0.bs b o z).1
  have noL : s.heap.NoLimit := e0.mod.nolimit.keeps fun b o z => (e0.bs b o z).1
  have hlv : vs.length = ps.length := by rw [rv.length, hlen]
  have kinds : ∀ y ∈ ps.zip us, (defScope st).names.lookup y.1 = some .local ∨
      ((defScope st).names.lookup y.1 = some .cell ∧ ((cellsFrom (s.heap.objs.size + 1) (defScope st).names []).lookup y.1).isSome = true) := by
    rintro ⟨n, v⟩ hy
    have z := S.par n (List.of_mem_zip hy).1
    exact z.imp (fun a => a) fun a => ⟨a, PySem.W.cellsFrom_some _ _ _ (.inl a)⟩
  refine codeAny_call_function hr.depth (inK _ _ lk) rfl S.co S.gen rfl
    (PySem.W.codeRec_of inK hcd) (hbd _ _ _ _ ?_)
  refine wpAny_newFunctionEnv_cells S.kind kinds
    fun env he s1 ic => ?_
  subst he
  refine ⟨noL.keeps ic.toInCall.keep, codeAny_func ?_⟩
  have I0 := inv_start (CX := L2.CX P w) (E := E) (outer := outer) (base := base) (mg := mg) S hr.hd e0 hlv rv ic
  have G := hb cdv A outer s p.H E (hr.deeper _) hg
  have rd : tS K mg (WxE E) body { nx := fun _ H' => Q .non H', rt := Q } (L2.start N vs) p.H := by
    have hw : ws.length = ps.length := by rw [rw0.length, hlv]
    refine ⟨p, sto, _, rfl, S0, env_start (N := N) rw0, ?_⟩
    unfold fnM at hfin
    rw [if_pos hw] at hfin
    rw [hw]
    revert hfin
    cases body (ws.map some ++ List.replicate (N.length - ps.length) none) sto with
    | bad => exact fun z => z
    | go fl s2 =>
      cases fl with
      | nx e => exact fun z q σ t s' _ => z q .non t s' rfl
      | rt w => exact fun z => z
      | bk e => exact fun z => z.elim
      | ct e => exact fun z => z.elim
      | ex x e => exact fun z q σ c d t s' _ xr => z q c d t s' xr
  refine wpAny_mono (G.run [] s1 (L2.start N vs) p.H _ I0 rd) (fun fl s' hs => ?_) fun e s' hs => hs
  have fin : ∀ {σ' : L2.St} {H' : Hp} {v : V} {u : Value}, Inv (cxOf (L2.CX P w) P w K mg base N qual (defScope st) f cdv A outer s p.H E) [] σ' H' s' →
      RelV v u → Q v H' → CE outer P w p.H s Q u s' := fun {σ' H' v u} J rv q => ⟨v, H', J.os, J.bare, J.base, J.hok, rv, q⟩
  cases fl with
  | ret u =>
    obtain ⟨v, σ', H', J, rv, q⟩ := hs
    exact fin J rv q
  | next =>
    obtain ⟨σ', H', J, q⟩ := hs
    exact fin (v := V.non) (u := Value.none) J rfl q
  | brk =>
    obtain ⟨_, _, _, z⟩ := hs
    exact z.elim
  | cont =>
    obtain ⟨_, _, _, z⟩ := hs
    exact z.elim
end

section
variable {X : Cx} {Wx : WX} {k : Nat} {f : Addr} {fd : FuncData} {ps ks : List Str} {m : List W → Store → Res W} {x : Str} {p pos : Pos} {e : Expr} {es : List Expr} {ml : Ev (List W)} {kws : List Keyword}
/-- the callee runs -/
theorem run_G {pins : List (Addr × Obj)} {σ : L2.St} {H : Hp} {s : Shared} {Q : VK} {us us' : List Value} {kw : List (Str × Value)} {vs : List V} {ws : List W} {q : Wh} {st : Store} (F : FnG X.prog X.w X.K X.mg X.base k f fd ps m) (hr : Room k X.A) (hg : X.A.guards = some []) (tk : Takes X Wx)
    (hb : BindsTo s fd ⟨us', kw⟩ (ps.zip us)) (hl : us.length = ps.length) (I : Inv X pins σ H s) (r : Vals vs us) (hq : q.H = H) (S : SR X.K q st) (rs : RWs X.K q ws vs) (h : Fin X.K X.mg (RW X.K) Wx q σ Q (m ws st)) :
    wpAny (model X.prog X.w) X.A (call (.ref f) us' kw) (EP X pins σ Q) X.xe s := by
  have h' : Fin X.K X.mg (RW X.K) (WxE fun c d H' => Wx c d σ H') q [] Q (m ws st) := by
    revert h
    cases m ws st with
    | ok w s1 => exact fun z => z
    | exc x s1 => exact fun z => z
    | bad => exact fun z => z
  have c := F.run X.A X.stack s H ⟨us', kw⟩ us vs ws q st Q _ hr hg I.env0 hb r hl hq S rs h'
  refine wpAny_call (codeAny_mono c fun res s' z => ?_)
  cases res with
  | error u => exact tk u s' (XE.of_call I (fun _ _ _ w => w) z)
  | ok fl =>
    cases fl with
    | ret u => exact I.after z
    | next => exact z.elim
    | brk => exact z.elim
    | cont => exact z.elim
theorem len_of {q : Wh} {σ : L2.St} {Q : VK} {ws : List W} {st : Store} (F : FnG X.prog X.w X.K X.mg X.base k f fd ps m) (h : Fin X.K X.mg (RW X.K) Wx q σ Q (m ws st)) : ws.length = ps.length := by
  by_cases z : ws.length = ps.length
  · exact z
  · rw [F.len ws st z] at h
    exact h.elim
/-- f(e, ..) -/
theorem ge_call (F : FnG X.prog X.w X.K X.mg X.base k f fd ps m) (hr : Room k X.A) (hg : X.A.guards = some []) (tk : Takes X Wx) (gl : Gl X x) (hm : X.mg x = some (.ref f)) (kp : PySem.W.keepIn X.K (.ref f) = true) (hb : Binds X.K fd ps [])
    (ha : GA X Wx (e :: es) ml) (hdb : (x == ("__debug__" : Str)) = false := by decide) (he : starEach (e :: es) X.env = (false, eval e X.env) :: starEach es X.env := by rfl) (hpl : (backTo pos (starEach es X.env)).any (·.1) = false := by rfl) :
    GE X Wx (.Call (.Name x p) (e :: es) [] pos) (mCall m ml) := by
  refine ⟨fun pins s σ H Q I ⟨q0, st, env, hp, S, E, h⟩ => ?_⟩
  refine wpAny_Call_Name_kw (ld_glob I gl hm ?_ hdb)
  have t := tG_bind (R := RWs X.K) (Q := fun vs H' => ∃ (q : Wh) (ws : List W) (s1 : Store), q.H = H' ∧ SR X.K q s1 ∧ RWs X.K q ws vs ∧ Fin X.K X.mg (RW X.K) Wx q σ Q (m ws s1)) hp S E h
    fun q s1 ws vs t S1 E1 r h1 => ⟨q, ws, s1, rfl, S1, r, h1⟩
  refine PySem.W.callWith_K (h₀ := X.base) I.ok.mod.kin kp
    (thn (ha.run pos pins s σ H _ I t) fun us s1 ⟨vs, H1, I1, r, z⟩ => ⟨I1.kIn, ?_⟩) he hpl
  obtain ⟨q, ws, s2, eH, S1, rw1, h1⟩ := z
  have hl : us.length = ps.length := by rw [← r.length, ← rw1.length, len_of F h1]
  have b := hb s1 us I1.kIn (by rw [List.append_nil]; exact hl)
  rw [List.append_nil] at b
  exact run_G F hr hg tk b hl I1 r eH S1 rw1 h1
/-- f(k = e, ..): g puts the keywords' values in the parameters' order -/
structure KwTo (fd : FuncData) (ps ks : List Str) (g : {α : Type} → List α → List α) : Prop where
  to : ∀ ws : List Value, ws.length = ks.length → bindArgs fd ⟨[], ks.zip ws⟩ = pure (ps.zip (g ws))
  len : ∀ {α : Type} (xs : List α), xs.length = ks.length → (g xs).length = ps.length
  rel : ∀ {vs : List V} {us : List Value}, Vals vs us → Vals (g vs) (g us)
  relW : ∀ {K : PySem.W.Frag} {q : Wh} {ws : List W} {vs : List V}, RWs K q ws vs → RWs K q (g ws) (g vs)
end
end Mi

namespace Mi
open PySem PySem.Spec PyProof.Rows L2

/-! ### values as data -/
mutual
def W.toD : W → Option PyData
  | .non => some .none
  | .bl b => some (.bool b)
  | .int i => some (.int i)
  | .str s => some (.str s)
  | .tup xs => (toDs xs).map PyData.tuple
  | .lst xs => (toDs xs).map PyData.list
  | .frz xs => (toDs xs).map PyData.list
  | .ref _ => none
def toDs : List W → Option (List PyData)
  | [] => some []
  | x :: xs => match x.toD, toDs xs with
    | some d, some ds => some (d :: ds)
    | _, _ => none
end
section
variable {K : PySem.W.Frag} {p : Wh}
mutual
theorem dp_of : ∀ (w : W) (v : V) (d : PyData), w.toD = some d → RW K p w v → Dp K p.H v d
  | .non, v, d, h, r => by
    cases h
    have r' : v = .non := r
    rw [r']
    exact .non
  | .bl b, v, d, h, r => by
    cases h
    have r' : v = .bl b := r
    rw [r']
    exact .bl b
  | .int i, v, d, h, r => by
    cases h
    have r' : v = .int i := r
    rw [r']
    exact .int i
  | .str s, v, d, h, r => by
    cases h
    have r' : v = .str s := r
    rw [r']
    exact .str s
  | .tup xs, v, d, h, r => by
    obtain ⟨a, vs, e, ta, rs⟩ := r
    unfold W.toD at h
    cases e2 : toDs xs with
    | none =>
      rw [e2] at h
      cases h
    | some ds =>
      rw [e2] at h
      have h' : PyData.tuple ds = d := by simpa using h
      rw [e, ← h']
      exact .tup ta.seq (dps_of xs vs ds e2 rs)
  | .lst xs, v, d, h, r => by
    obtain ⟨a, vs, e, ta, rs⟩ := r
    unfold W.toD at h
    cases e2 : toDs xs with
    | none =>
      rw [e2] at h
      cases h
    | some ds =>
      rw [e2] at h
      have h' : PyData.list ds = d := by simpa using h
      rw [e, ← h']
      exact .lst ta.seq (dps_of xs vs ds e2 rs)
  | .frz xs, v, d, h, r => by
    obtain ⟨a, vs, e, ta, rs⟩ := r
    unfold W.toD at h
    cases e2 : toDs xs with
    | none =>
      rw [e2] at h
      cases h
    | some ds =>
      rw [e2] at h
      have h' : PyData.list ds = d := by simpa using h
      rw [e, ← h']
      exact .lst ta.seq (dps_of xs vs ds e2 rs)
  | .ref n, v, d, h, r => by cases h
theorem dps_of : ∀ (ws : List W) (vs : List V) (ds : List PyData), toDs ws = some ds → RWs K p ws vs → DpAll K p.H vs ds
  | [], vs, ds, h, r => by
    cases h
    have r' : vs = [] := r
    rw [r']
    exact .nil
  | x :: xs, vs, ds, h, r => by
    obtain ⟨v, us, e, r1, rs⟩ := r
    unfold toDs at h
    cases e1 : x.toD with
    | none =>
      rw [e1] at h
      cases h
    | some d1 =>
      cases e2 : toDs xs with
      | none =>
        rw [e1, e2] at h
        cases h
      | some ds2 =>
        rw [e1, e2] at h
        have h' : d1 :: ds2 = ds := by simpa using h
        rw [e, ← h']
        exact .cons (dp_of x v d1 e1 r1) (dps_of xs us ds2 e2 rs)
end
end

/-! ### lists as they stand -/
/-- the items of a list: a tree, or a thing of the store -/
def listIn (st : Store) : W → Option (List W)
  | .lst xs => some xs
  | .frz xs => some xs
  | .ref n => match st[n]? with
    | some (.lst xs) => some xs
    | none => none
  | _ => none
/-- one that is tracked -/
def trkIn (st : Store) : W → Option (List W)
  | .lst xs => some xs
  | .ref n => match st[n]? with
    | some (.lst xs) => some xs
    | none => none
  | _ => none
def seqIn (st : Store) (w : W) : Option (List W) := match w with
  | .tup xs => some xs
  | w => listIn st w
section
variable {K : PySem.W.Frag} {p : Wh} {st : Store}
theorem listIn_of (S : SR K p st) {w : W} {v : V} {xs : List W} (h : listIn st w = some xs) (r : RW K p w v) : ∃ a vs, v = .ref a ∧ SqL K p.H a vs ∧ RWs K p xs vs := by
  cases w with
  | lst ys =>
    cases h
    obtain ⟨a, vs, e, ta, rs⟩ := r
    exact ⟨a, vs, e, ta.seq, rs⟩
  | frz ys =>
    cases h
    obtain ⟨a, vs, e, ta, rs⟩ := r
    exact ⟨a, vs, e, ta.seq, rs⟩
  | ref n =>
    dsimp only [listIn] at h
    cases e : st[n]? with
    | none =>
      rw [e] at h
      cases h
    | some o =>
      cases o with
      | lst ys =>
        rw [e] at h
        cases h
        obtain ⟨_, vs, hH, rs⟩ := S.at e
        exact ⟨p.ρ n, vs, r.2, .inl (.inl hH), rs⟩
  | _ => cases h
theorem trkIn_of (S : SR K p st) {w : W} {v : V} {xs : List W} (h : trkIn st w = some xs) (r : RW K p w v) : ∃ a vs, v = .ref a ∧ p.H a = some (.lst vs) ∧ RWs K p xs vs := by
  cases w with
  | lst ys =>
    cases h
    obtain ⟨a, vs, e, ta, rs⟩ := r
    exact ⟨a, vs, e, ta.1, rs⟩
  | ref n =>
    dsimp only [trkIn] at h
    cases e : st[n]? with
    | none =>
      rw [e] at h
      cases h
    | some o =>
      cases o with
      | lst ys =>
        rw [e] at h
        cases h
        obtain ⟨_, vs, hH, rs⟩ := S.at e
        exact ⟨p.ρ n, vs, r.2, hH, rs⟩
  | _ => cases h
theorem seqIn_of (S : SR K p st) {w : W} {v : V} {xs : List W} (h : seqIn st w = some xs) (r : RW K p w v) : ∃ a vs, v = .ref a ∧ (SqL K p.H a vs ∨ SqT K p.H a vs) ∧ RWs K p xs vs := by
  by_cases t : ∃ ys, w = .tup ys
  · obtain ⟨ys, rfl⟩ := t
    cases h
    obtain ⟨a, vs, e, ta, rs⟩ := r
    exact ⟨a, vs, e, .inr ta.seq, rs⟩
  · have h' : listIn st w = some xs := by
      unfold seqIn at h
      split at h
      · exact absurd ⟨_, rfl⟩ t
      · exact h
    obtain ⟨a, vs, e, ta, rs⟩ := listIn_of S h' r
    exact ⟨a, vs, e, .inl ta, rs⟩
end
/-! ### operations on numbers, texts, lists, tuples -/
def fAdd (x y : W) (st : Store) : Res W := match x, y with
  | .int i, .int j => .ok (.int (i + j)) st
  | .str a, .str b => if a.length + b.length ≤ sizeLine then .ok (.str (a ++ b)) st else .bad
  | .tup xs, .tup ys => if xs.length + ys.length ≤ sizeLine then .ok (.tup (xs ++ ys)) st else .bad
  | x, y => match trkIn st x, trkIn st y with
    | some xs, some ys => if xs.length + ys.length ≤ sizeLine then .ok (.lst (xs ++ ys)) st else .bad
    | _, _ => .bad
/-- two ints under a condition -/
def fI (C : Int → Int → Prop) [∀ i j, Decidable (C i j)] (g : Int → Int → W) : W → W → Store → Res W
  | .int i, .int j, st => if C i j then .ok (g i j) st else .bad
  | _, _, _ => .bad
def fSub : W → W → Store → Res W := fI (fun _ _ => True) fun i j => .int (i - j)
def fMul : W → W → Store → Res W := fI (fun i j => i.natAbs.log2 + j.natAbs.log2 < 1000000) fun i j => .int (i * j)
def fDiv : W → W → Store → Res W := fI (fun _ j => 0 < j ∧ j.natAbs.log2 < 9000) fun i j => .int (i / j)
def fMod : W → W → Store → Res W := fI (fun _ j => 0 < j) fun i j => .int (i % j)
def fPow : W → W → Store → Res W := fI (fun i j => 0 ≤ j ∧ j ≤ 1000 ∧ i.natAbs.log2 < 10000) fun i j => .int (i ^ j.toNat)
def fLtI : W → W → Store → Res W := fI (fun _ _ => True) fun i j => .bl (decide (i < j))
/-- data against data -/
def fD (C : PyData → PyData → Bool) (g : PyData → PyData → Bool) : W → W → Store → Res W := fun x y st => match x.toD, y.toD with
  | some d, some e => if C d e = true then .ok (.bl (g d e)) st else .bad
  | _, _ => .bad
def cEq (d e : PyData) : Bool := d.plain && e.plain && decide (d.depth ≤ 60)
def cOrd (d e : PyData) : Bool := PySem.W.alike d e && decide (d.depth ≤ 60) && (match d with | .none => false | _ => true)
def fEq := fD cEq fun d e => PyData.eqv d e
def fNe := fD cEq fun d e => !PyData.eqv d e
def fLt := fD cOrd fun d e => PySem.W.dataLt d e
def fGt := fD cOrd fun d e => PySem.W.dataLt e d
def fLe := fD cOrd fun d e => !PySem.W.dataLt e d
def fGe := fD cOrd fun d e => !PySem.W.dataLt d e
def cIn (d c : PyData) : Bool := d.plain && decide (d.depth ≤ 60) && (match c with | .list xs => PyData.plainAll xs | .tuple xs => PyData.plainAll xs | _ => false)
def gIn (d c : PyData) : Bool := match c with | .list xs => xs.any (fun y => PyData.eqv y d) | .tuple xs => xs.any (fun y => PyData.eqv y d) | _ => false
def fIn := fD cIn gIn
def fNin := fD cIn fun d c => !gIn d c
def isN : W → Bool
  | .non => true
  | _ => false
def fIs : W → W → Store → Res W := fun x y st => if isN y = true then .ok (.bl (isN x)) st else .bad
def fIsNot : W → W → Store → Res W := fun x y st => if isN y = true then .ok (.bl (!isN x)) st else .bad
def fNeg : W → Store → Res W
  | .int i, st => .ok (.int (-i)) st
  | _, _ => .bad

section
variable {X : Cx} {Wx : WX}
theorem fin_ok {p : Wh} {st : Store} {σ : L2.St} {Q : VK} {w : W} {v : V} (S : SR X.K p st) (h : Fin X.K X.mg (RW X.K) Wx p σ Q (.ok w st)) (r : RW X.K p w v) : Q v p.H := h p v (.refl S) S r
theorem r2_int {r : R2} {C : Int → Int → Prop} [∀ i j, Decidable (C i j)] {g : Int → Int → W} {gV : Int → Int → V} (hr : ∀ i j H Q, C i j → Q (gV i j) H → r (.int i) (.int j) H Q) (hg : ∀ p i j, RW X.K p (g i j) (gV i j)) : R2ok X Wx r (fI C g) := by
  intro p st x y v u σ Q S rx ry h
  cases x with
  | int i =>
    cases y with
    | int j =>
      have e1 : v = .int i := rx
      have e2 : u = .int j := ry
      subst e1 e2
      dsimp only [fI] at h
      by_cases c : C i j
      · rw [if_pos c] at h
        exact hr i j _ Q c (fin_ok S h (hg p i j))
      · rw [if_neg c] at h
        exact h.elim
    | _ => exact h.elim
  | _ => exact h.elim
theorem r2_sub : R2ok X Wx (rI0 fun i j => .int (i - j)) fSub := r2_int (fun i j H Q _ q => ⟨i, j, rfl, rfl, q⟩) fun p i j => rfl
theorem r2_mul : R2ok X Wx (rI CMulW fun i j => .int (i * j)) fMul := r2_int (fun i j H Q c q => ⟨i, j, rfl, rfl, c, q⟩) fun p i j => rfl
theorem r2_div : R2ok X Wx (rI CDivW fun i j => .int (i / j)) fDiv := r2_int (fun i j H Q c q => ⟨i, j, rfl, rfl, c, q⟩) fun p i j => rfl
theorem r2_mod : R2ok X Wx (rI (fun _ j => 0 < j) fun i j => .int (i % j)) fMod := r2_int (fun i j H Q c q => ⟨i, j, rfl, rfl, c, q⟩) fun p i j => rfl
def CPowW (i j : Int) : Prop := 0 ≤ j ∧ j ≤ 1000 ∧ i.natAbs.log2 < 10000
theorem op_powW : OpR X (binaryOp .Pow) (rI CPowW fun i j => .int (i ^ j.toNat)) := opI fun i j _ _ _ _ _ hc q => by
  refine pow_int hc.1 ?_ q
  have b : Builtin.Int.intBits i ≤ i.natAbs.log2 + 1 := by
    unfold Builtin.Int.intBits
    split <;> omega
  have h1 := hc.2.1
  have h2 := hc.2.2
  have h0 := hc.1
  have b' : (Builtin.Int.intBits i : Int) ≤ 10000 := by omega
  have m : (Builtin.Int.intBits i : Int) * j ≤ 10000 * 1000 := Int.mul_le_mul b' h1 h0 (by omega)
  omega
theorem r2_pow : R2ok X Wx (rI CPowW fun i j => .int (i ^ j.toNat)) fPow := r2_int (fun i j H Q c q => ⟨i, j, rfl, rfl, c, q⟩) fun p i j => rfl
theorem op_addA : OpR X (binaryOp .Add) (fun x y H Q => (rI0 (fun i j => .int (i + j)) x y H Q) ∨ (∃ i j, x = .str i ∧ y = .str j ∧ i.length + j.length ≤ sizeLine ∧ Q (.str (i ++ j)) H) ∨ rCat x y H Q ∨ rCatA X.K x y H Q) :=
  op_add.or (op_add_str.or (op_cat.or op_catA))
theorem r2_add : R2ok X Wx (fun x y H Q => (rI0 (fun i j => .int (i + j)) x y H Q) ∨ (∃ i j, x = .str i ∧ y = .str j ∧ i.length + j.length ≤ sizeLine ∧ Q (.str (i ++ j)) H) ∨ rCat x y H Q ∨ rCatA X.K x y H Q) fAdd := by
  intro p st x y v u σ Q S rx ry h
  unfold fAdd at h
  split at h
  · rename_i i j
    have e1 : v = .int i := rx
    have e2 : u = .int j := ry
    subst e1 e2
    exact .inl ⟨i, j, rfl, rfl, fin_ok S h rfl⟩
  · rename_i i j
    have e1 : v = .str i := rx
    have e2 : u = .str j := ry
    subst e1 e2
    by_cases c : i.length + j.length ≤ sizeLine
    · rw [if_pos c] at h
      exact .inr (.inl ⟨i, j, rfl, rfl, c, fin_ok S h rfl⟩)
    · rw [if_neg c] at h
      exact h.elim
  · rename_i xs ys
    obtain ⟨a, vs, e1, ta, rs⟩ := rx
    obtain ⟨b, us, e2, tb, rs2⟩ := ry
    subst e1 e2
    by_cases c : xs.length + ys.length ≤ sizeLine
    · rw [if_pos c] at h
      refine .inr (.inr (.inr ⟨a, b, vs, us, rfl, rfl, ta.seq, tb.seq, by rw [← rs.length, ← rs2.length]; exact c, fun z => ?_, fun _ z => ?_, fun _ _ q hq => ?_⟩))
      · have zx : xs = [] := List.length_eq_zero_iff.mp (by rw [rs.length, z]; rfl)
        subst zx
        exact fin_ok S h ⟨b, us, rfl, tb, rs2⟩
      · have zy : ys = [] := List.length_eq_zero_iff.mp (by rw [rs2.length, z]; rfl)
        subst zy
        rw [List.append_nil] at h
        exact fin_ok S h ⟨a, vs, rfl, ta, rs⟩
      · exact h { p with H := upd p.H q (.tup (vs ++ us)) } (.ref q) (step_new S hq) (sr_new S hq) (new_tup S hq (rs.append rs2))
    · rw [if_neg c] at h
      exact h.elim
  · cases ex : trkIn st x with
    | none =>
      rw [ex] at h
      exact h.elim
    | some xs =>
      cases ey : trkIn st y with
      | none =>
        rw [ex, ey] at h
        exact h.elim
      | some ys =>
        rw [ex, ey] at h
        dsimp only at h
        obtain ⟨a, vs, e1, ta, rs⟩ := trkIn_of S ex rx
        obtain ⟨b, us, e2, tb, rs2⟩ := trkIn_of S ey ry
        subst e1 e2
        by_cases c : xs.length + ys.length ≤ sizeLine
        · rw [if_pos c] at h
          refine .inr (.inr (.inl ⟨a, b, vs, us, rfl, rfl, ta, tb, by rw [← rs.length, ← rs2.length]; exact c, fun q hq => ?_⟩))
          exact h { p with H := upd p.H q (.lst (vs ++ us)) } (.ref q) (step_new S hq) (sr_new S hq) (new_lst S hq (rs.append rs2))
        · rw [if_neg c] at h
          exact h.elim
theorem un_of_neg : R1ok X Wx (rU fun i => .int (-i)) fNeg := by
  intro p st x v σ Q S rx h
  cases x with
  | int i =>
    have e1 : v = .int i := rx
    subst e1
    exact ⟨i, rfl, fin_ok S h rfl⟩
  | _ => exact h.elim

/-! ### data -/
def rD (K : PySem.W.Frag) (C : PyData → PyData → Bool) (g : PyData → PyData → Bool) : R2 := fun x y H Q => ∃ d e, Dp K H x d ∧ Dp K H y e ∧ C d e = true ∧ Q (.bl (g d e)) H
theorem r2_data {C : PyData → PyData → Bool} {g : PyData → PyData → Bool} : R2ok X Wx (rD X.K C g) (fD C g) := by
  intro p st x y v u σ Q S rx ry h
  unfold fD at h
  cases e1 : x.toD with
  | none =>
    rw [e1] at h
    exact h.elim
  | some d =>
    cases e2 : y.toD with
    | none =>
      rw [e1, e2] at h
      exact h.elim
    | some e =>
      rw [e1, e2] at h
      dsimp only at h
      by_cases c : C d e = true
      · rw [if_pos c] at h
        exact ⟨d, e, dp_of x v d e1 rx, dp_of y u e e2 ry, c, fin_ok S h rfl⟩
      · rw [if_neg c] at h
        exact h.elim
theorem op_data {op : CmpOp} {C : PyData → PyData → Bool} {g : PyData → PyData → Bool}
    (rule : ∀ (s : Shared) (v u : Value) (d e : PyData) (as bs : List Addr) (Q : Value → Shared → Prop) (E : Value → Shared → Prop), Reads s.heap v d as → Reads s.heap u e bs → C d e = true → Q (.bool (g d e)) s → wpAny (model X.prog X.w) X.A (compareOp op v u) Q E s) :
    OpR X (compareOp op) (rD X.K C g) := by
  intro pins s σ H x y v u Q I rx ry h
  obtain ⟨d, e, hd, he, c, q⟩ := h
  obtain ⟨as, r1⟩ := Dp.reads I d x v hd rx
  obtain ⟨bs, r2⟩ := Dp.reads I e y u he ry
  exact rule s v u d e as bs _ _ r1 r2 c ⟨.bl _, H, I, rfl, q⟩
theorem cEq_of {d e : PyData} (h : cEq d e = true) : d.plain = true ∧ e.plain = true ∧ d.depth ≤ 60 := by
  unfold cEq at h
  rw [Bool.and_eq_true, Bool.and_eq_true, decide_eq_true_eq] at h
  exact ⟨h.1.1, h.1.2, h.2⟩
theorem cOrd_of {d e : PyData} (h : cOrd d e = true) : PySem.W.alike d e = true ∧ d.depth ≤ 60 ∧ d ≠ .none := by
  unfold cOrd at h
  rw [Bool.and_eq_true, Bool.and_eq_true, decide_eq_true_eq] at h
  refine ⟨h.1.1, h.1.2, fun z => ?_⟩
  have h2 := h.2
  rw [z] at h2
  cases h2
theorem room_min {A : Around} {d e : PyData} (hu : A.units + 64 < cLine) (h : d.depth ≤ 60) : A.units + min d.depth e.depth < cLine := by
  have := Nat.min_le_left d.depth e.depth
  omega
theorem op_eqP (hu : X.A.units + 64 < cLine) : OpR X (compareOp .Eq) (rD X.K cEq fun d e => PyData.eqv d e) := op_data fun s v u d e as bs Q E r1 r2 c q => by
  obtain ⟨h1, h2, h3⟩ := cEq_of c
  exact SeqAt.eq_plain r1 r2 h1 h2 (room_min hu h3) q
theorem op_neP (hu : X.A.units + 64 < cLine) : OpR X (compareOp .NotEq) (rD X.K cEq fun d e => !PyData.eqv d e) := op_data fun s v u d e as bs Q E r1 r2 c q => by
  obtain ⟨h1, h2, h3⟩ := cEq_of c
  exact SeqAt.ne_plain r1 r2 h1 h2 (room_min hu h3) q
theorem op_ltP (hu : X.A.units + 64 < cLine) : OpR X (compareOp .Lt) (rD X.K cOrd fun d e => PySem.W.dataLt d e) := op_data fun s v u d e as bs Q E r1 r2 c q => by
  obtain ⟨h1, h2, h3⟩ := cOrd_of c
  exact PySem.W.lt_data r1 r2 h1 h3 (room_min hu h2) q
theorem op_gtP (hu : X.A.units + 64 < cLine) : OpR X (compareOp .Gt) (rD X.K cOrd fun d e => PySem.W.dataLt e d) := op_data fun s v u d e as bs Q E r1 r2 c q => by
  obtain ⟨h1, h2, h3⟩ := cOrd_of c
  exact PySem.W.gt_data r1 r2 h1 h3 (room_min hu h2) q
theorem op_leP (hu : X.A.units + 64 < cLine) : OpR X (compareOp .LtE) (rD X.K cOrd fun d e => !PySem.W.dataLt e d) := op_data fun s v u d e as bs Q E r1 r2 c q => by
  obtain ⟨h1, h2, h3⟩ := cOrd_of c
  exact PySem.W.le_data r1 r2 h1 h3 (room_min hu h2) q
theorem op_geP (hu : X.A.units + 64 < cLine) : OpR X (compareOp .GtE) (rD X.K cOrd fun d e => !PySem.W.dataLt d e) := op_data fun s v u d e as bs Q E r1 r2 c q => by
  obtain ⟨h1, h2, h3⟩ := cOrd_of c
  exact PySem.W.ge_data r1 r2 h1 h3 (room_min hu h2) q
theorem op_inP (hu : X.A.units + 64 < cLine) : OpR X (compareOp .In) (rD X.K cIn gIn) := op_data fun s v u d e as bs Q E r1 r2 c q => by
  unfold cIn at c
  rw [Bool.and_eq_true, Bool.and_eq_true, decide_eq_true_eq] at c
  have hm : ∀ n, min n d.depth ≤ d.depth := fun n => Nat.min_le_right _ _
  cases e with
  | list xs => exact SeqAt.in_list_data r2 r1 c.2 c.1.1 (by have := hm (PyData.depthAll xs); omega) q
  | tuple xs => exact SeqAt.in_tuple_data r2 r1 c.2 c.1.1 (by have := hm (PyData.depthAll xs); omega) q
  | _ => exact absurd c.2 Bool.false_ne_true
theorem op_ninP (hu : X.A.units + 64 < cLine) : OpR X (compareOp .NotIn) (rD X.K cIn fun d c => !gIn d c) := op_data fun s v u d e as bs Q E r1 r2 c q => by
  unfold cIn at c
  rw [Bool.and_eq_true, Bool.and_eq_true, decide_eq_true_eq] at c
  have hm : ∀ n, min n d.depth ≤ d.depth := fun n => Nat.min_le_right _ _
  cases e with
  | list xs => exact SeqAt.notIn_list_data r2 r1 c.2 c.1.1 (by have := hm (PyData.depthAll xs); omega) q
  | tuple xs => exact SeqAt.notIn_tuple_data r2 r1 c.2 c.1.1 (by have := hm (PyData.depthAll xs); omega) q
  | _ => exact absurd c.2 Bool.false_ne_true
theorem isN_of {K : PySem.W.Frag} {p : Wh} {w : W} {v : V} (r : RW K p w v) : decide (v = .non) = isN w := by
  cases w with
  | non =>
    have e : v = .non := r
    rw [e]
    rfl
  | bl b =>
    have e : v = .bl b := r
    rw [e]
    rfl
  | int b =>
    have e : v = .int b := r
    rw [e]
    rfl
  | str b =>
    have e : v = .str b := r
    rw [e]
    rfl
  | tup xs =>
    obtain ⟨a, vs, e, _⟩ := r
    rw [e]
    rfl
  | lst xs =>
    obtain ⟨a, vs, e, _⟩ := r
    rw [e]
    rfl
  | frz xs =>
    obtain ⟨a, vs, e, _⟩ := r
    rw [e]
    rfl
  | ref n =>
    rw [r.2]
    rfl
theorem non_of {K : PySem.W.Frag} {p : Wh} {w : W} {v : V} (h : isN w = true) (r : RW K p w v) : v = .non := by
  have e := isN_of r
  rw [h] at e
  exact of_decide_eq_true e
theorem r2_is : R2ok X Wx (fun x y H Q => y = .non ∧ Q (.bl (decide (x = .non))) H) fIs := by
  intro p st x y v u σ Q S rx ry h
  unfold fIs at h
  by_cases c : isN y = true
  · rw [if_pos c] at h
    refine ⟨non_of c ry, ?_⟩
    rw [isN_of rx]
    exact fin_ok S h rfl
  · rw [if_neg c] at h
    exact h.elim
theorem r2_isNot : R2ok X Wx (fun x y H Q => y = .non ∧ Q (.bl (!decide (x = .non))) H) fIsNot := by
  intro p st x y v u σ Q S rx ry h
  unfold fIsNot at h
  by_cases c : isN y = true
  · rw [if_pos c] at h
    refine ⟨non_of c ry, ?_⟩
    rw [isN_of rx]
    exact fin_ok S h rfl
  · rw [if_neg c] at h
    exact h.elim
end
end Mi

namespace Mi
open PySem PySem.Spec PyProof.Rows L2

/-! ### calls of built-ins -/
def fLen : List W → Store → Res W
  | [.str s], st => if s.length ≤ sizeLine then .ok (.int s.length) st else .bad
  | [w], st => match seqIn st w with
    | some xs => .ok (.int xs.length) st
    | none => .bad
  | _, _ => .bad
def fInt : List W → Store → Res W
  | [.int i], st => .ok (.int i) st
  | [.bl b], st => .ok (.int (if b then 1 else 0)) st
  | _, _ => .bad
def fBool : List W → Store → Res W
  | [.int i], st => .ok (.bl (i != 0)) st
  | [.bl b], st => .ok (.bl b) st
  | _, _ => .bad
def fAbs : List W → Store → Res W
  | [.int i], st => .ok (.int (if i < 0 then -i else i)) st
  | _, _ => .bad
def fMax2 : List W → Store → Res W
  | [.int i, .int j], st => .ok (.int (if j > i then j else i)) st
  | _, _ => .bad
def fMin2 : List W → Store → Res W
  | [.int i, .int j], st => .ok (.int (if j < i then j else i)) st
  | _, _ => .bad
def bools : List W → Option (List Bool)
  | [] => some []
  | .bl b :: xs => (bools xs).map (b :: ·)
  | _ :: _ => none
def fAll : List W → Store → Res W
  | [w], st => match listIn st w with
    | some xs => match bools xs with
      | some bs => .ok (.bl (bs.all id)) st
      | none => .bad
    | none => .bad
  | _, _ => .bad
def fAny : List W → Store → Res W
  | [w], st => match listIn st w with
    | some xs => match bools xs with
      | some bs => .ok (.bl (bs.any id)) st
      | none => .bad
    | none => .bad
  | _, _ => .bad
def cRepr (d : PyData) : Bool := d.showable && !d.hasDict && decide (d.depth ≤ 60) && decide (d.shown.length ≤ sizeLine)
def fRepr : List W → Store → Res W
  | [w], st => match w.toD with
    | some d => if cRepr d = true then .ok (.str d.shown) st else .bad
    | none => .bad
  | _, _ => .bad
def fTuple : List W → Store → Res W
  | [w], st => match seqIn st w with
    | some xs => .ok (.tup xs) st
    | none => .bad
  | _, _ => .bad
def fList : List W → Store → Res W
  | [w], st => match seqIn st w with
    | some xs => .ok (.lst xs) st
    | none => .bad
  | _, _ => .bad
/-- isinstance(x, T) for a built-in T -/
def isTy (T : String) : W → Bool
  | .non => false
  | .bl _ => T == "bool" || T == "int"
  | .int _ => T == "int"
  | .str _ => T == "str"
  | .tup _ => T == "tuple"
  | _ => T == "list"
def tyName : W → String
  | .non => "NoneType"
  | .bl _ => "bool"
  | .int _ => "int"
  | .str _ => "str"
  | .tup _ => "tuple"
  | _ => "list"
def fIsi (T : String) : W → Store → Res W := fun w st => match w with
  | .ref n => match st[n]? with
    | some (.lst _) => .ok (.bl (T == "list")) st
    | none => .bad
  | w => .ok (.bl (isTy T w)) st
/-- x[i] -/
def fIx : W → W → Store → Res W := fun x i st => match i with
  | .int k => match x with
    | .str s => if s.length ≤ sizeLine then (match atI s.cps.toList k with | some c => .ok (.str ⟨#[c]⟩) st | none => .bad) else .bad
    | w => match seqIn st w with
      | some xs => match atI xs k with
        | some y => .ok y st
        | none => .bad
      | none => .bad
  | _ => .bad
def fAppend : W → List W → Store → Res W := fun o vs st => match o, vs with
  | .ref n, [v] => match st[n]? with
    | some (.lst xs) => if xs.length < 100000 then .ok .non (st.set n (.lst (xs ++ [v]))) else .bad
    | none => .bad
  | _, _ => .bad
def fExtend : W → List W → Store → Res W := fun o vs st => match o, vs with
  | .ref n, [v] => match st[n]?, trkIn st v with
    | some (.lst xs), some ys => if xs.length + ys.length ≤ 100000 then .ok .non (st.set n (.lst (xs ++ ys))) else .bad
    | _, _ => .bad
  | _, _ => .bad
/-- a list of the store -/
def isRef (st : Store) : W → Bool
  | .ref n => decide (n < st.length)
  | _ => false
def mBM (f : W → List W → Store → Res W) (o : Ev W) (a : Ev (List W)) : Ev W := fun env st => (o env st).bind fun x s1 => if isRef s1 x = true then (a env s1).bind fun vs s2 => f x vs s2 else .bad

section
variable {K : PySem.W.Frag} {p : Wh} {st : Store}
theorem one_of {w : W} {vs : List V} (r : RWs K p [w] vs) : ∃ v, vs = [v] ∧ RW K p w v := by
  obtain ⟨v, us, e, h, h2⟩ := r
  have h2' : us = [] := h2
  rw [h2'] at e
  exact ⟨v, e, h⟩
theorem two_of {w x : W} {vs : List V} (r : RWs K p [w, x] vs) : ∃ v u, vs = [v, u] ∧ RW K p w v ∧ RW K p x u := by
  obtain ⟨v, us, e, h, h2⟩ := r
  obtain ⟨u, e2, h3⟩ := one_of h2
  rw [e2] at e
  exact ⟨v, u, e, h, h3⟩
theorem bools_of : ∀ {xs : List W} {bs : List Bool} {vs : List V}, bools xs = some bs → RWs K p xs vs → vs = bs.map V.bl
  | [], bs, vs, h, r => by
    cases h
    exact r
  | .bl b :: xs, bs, vs, h, r => by
    obtain ⟨v, us, e, h1, h2⟩ := r
    unfold bools at h
    cases e2 : bools xs with
    | none =>
      rw [e2] at h
      cases h
    | some cs =>
      rw [e2] at h
      have h' : b :: cs = bs := by simpa using h
      have h1' : v = .bl b := h1
      rw [e, ← h', h1', bools_of e2 h2]
      rfl
  | .non :: _, _, _, h, _ => by cases h
  | .int _ :: _, _, _, h, _ => by cases h
  | .str _ :: _, _, _, h, _ => by cases h
  | .tup _ :: _, _, _, h, _ => by cases h
  | .lst _ :: _, _, _, h, _ => by cases h
  | .frz _ :: _, _, _, h, _ => by cases h
  | .ref _ :: _, _, _, h, _ => by cases h
end
section
variable {X : Cx} {Wx : WX} {a b e o : Expr} {es : List Expr} {ma mb me mo : Ev W} {ml : Ev (List W)} {pos p : Pos} {x : Str} {id T : String} {r : List V → Hp → VK → Prop} {f : List W → Store → Res W}
theorem ge_callB (hc : CallR X (.builtin id) r) (hr : RCok X Wx r f) (hg : Gl X x) (hm : X.mg x = none) (hv : bootBuiltins x = some (.builtin id)) (ha : GA X Wx (e :: es) ml) (hn : x ≠ "__name__" := by decide) (hdb : (x == ("__debug__" : Str)) = false := by decide)
    (he : starEach (e :: es) X.env = (false, eval e X.env) :: starEach es X.env := by rfl) (hpl : (backTo pos (starEach es X.env)).any (·.1) = false := by rfl) : GE X Wx (.Call (.Name x p) (e :: es) [] pos) (mCall f ml) :=
  PEimp (pe_callB hc hg hm hv ha hn hdb he hpl) fun σ H Q ⟨p, st, env, hp, S, E, h⟩ => tG_bind hp S E h fun q s1 ws vs t S1 E1 r1 h1 => hr q s1 ws vs σ Q S1 r1 h1
theorem ge_callTy (hc : CallR X (.type T) r) (hr : RCok X Wx r f) (hg : Gl X x) (hm : X.mg x = none) (hv : bootBuiltins x = some (.type T)) (ha : GA X Wx (e :: es) ml) (hn : x ≠ "__name__" := by decide) (hdb : (x == ("__debug__" : Str)) = false := by decide)
    (he : starEach (e :: es) X.env = (false, eval e X.env) :: starEach es X.env := by rfl) (hpl : (backTo pos (starEach es X.env)).any (·.1) = false := by rfl) : GE X Wx (.Call (.Name x p) (e :: es) [] pos) (mCall f ml) :=
  PEimp (pe_callTy hc hg hm hv ha hn hdb he hpl) fun σ H Q ⟨p, st, env, hp, S, E, h⟩ => tG_bind hp S E h fun q s1 ws vs t S1 E1 r1 h1 => hr q s1 ws vs σ Q S1 r1 h1

theorem rc_len : RCok X Wx (fun xs H Q => ∃ x n, xs = [x] ∧ LenV X.K x H n ∧ Q (.int n) H) fLen := by
  intro p st xs vs σ Q S rs h
  unfold fLen at h
  split at h
  · obtain ⟨v, rfl, r⟩ := one_of rs
    rename_i s
    have r' : v = .str s := r
    subst r'
    by_cases c : s.length ≤ sizeLine
    · rw [if_pos c] at h
      exact ⟨_, _, rfl, ⟨c, rfl⟩, fin_ok S h rfl⟩
    · rw [if_neg c] at h
      exact h.elim
  · obtain ⟨v, rfl, r⟩ := one_of rs
    rename_i w _
    cases e : seqIn st w with
    | none =>
      rw [e] at h
      exact h.elim
    | some ys =>
      rw [e] at h
      obtain ⟨a, us, rfl, ta, rs2⟩ := seqIn_of S e r
      refine ⟨_, us.length, rfl, ?_, ?_⟩
      · rcases ta with ta | ta
        · exact .inl ⟨us, ta, rfl⟩
        · exact .inr ⟨us, ta, rfl⟩
      · rw [← rs2.length]
        exact fin_ok S h rfl
  · exact h.elim
theorem rc_int : RCok X Wx (fun xs H Q => (∃ i, xs = [.int i] ∧ Q (.int i) H) ∨ ∃ k, xs = [.bl k] ∧ Q (.int (if k then 1 else 0)) H) fInt := by
  intro p st xs vs σ Q S rs h
  unfold fInt at h
  split at h
  · obtain ⟨v, rfl, r⟩ := one_of rs
    rename_i i
    have r' : v = .int i := r
    subst r'
    exact .inl ⟨i, rfl, fin_ok S h rfl⟩
  · obtain ⟨v, rfl, r⟩ := one_of rs
    rename_i i
    have r' : v = .bl i := r
    subst r'
    exact .inr ⟨i, rfl, fin_ok S h rfl⟩
  · exact h.elim
theorem rc_abs : RCok X Wx (fun xs H Q => ∃ i, xs = [.int i] ∧ Q (.int (if i < 0 then -i else i)) H) fAbs := by
  intro p st xs vs σ Q S rs h
  unfold fAbs at h
  split at h
  · obtain ⟨v, rfl, r⟩ := one_of rs
    rename_i i
    have r' : v = .int i := r
    subst r'
    exact ⟨i, rfl, fin_ok S h rfl⟩
  · exact h.elim
theorem rc_max2 : RCok X Wx (fun xs H Q => ∃ i j, xs = [.int i, .int j] ∧ Q (.int (if j > i then j else i)) H) fMax2 := by
  intro p st xs vs σ Q S rs h
  unfold fMax2 at h
  split at h
  · obtain ⟨v, u, rfl, r, r2⟩ := two_of rs
    rename_i i j
    have r' : v = .int i := r
    have r2' : u = .int j := r2
    subst r' r2'
    exact ⟨i, j, rfl, fin_ok S h rfl⟩
  · exact h.elim
theorem rc_min2 : RCok X Wx (fun xs H Q => ∃ i j, xs = [.int i, .int j] ∧ Q (.int (if j < i then j else i)) H) fMin2 := by
  intro p st xs vs σ Q S rs h
  unfold fMin2 at h
  split at h
  · obtain ⟨v, u, rfl, r, r2⟩ := two_of rs
    rename_i i j
    have r' : v = .int i := r
    have r2' : u = .int j := r2
    subst r' r2'
    exact ⟨i, j, rfl, fin_ok S h rfl⟩
  · exact h.elim
theorem rc_all : RCok X Wx (rAll X.K) fAll := by
  intro p st xs vs σ Q S rs h
  unfold fAll at h
  split at h
  · obtain ⟨v, rfl, r⟩ := one_of rs
    rename_i w
    cases e : listIn st w with
    | none =>
      rw [e] at h
      exact h.elim
    | some ys =>
      rw [e] at h
      dsimp only at h
      cases e2 : bools ys with
      | none =>
        rw [e2] at h
        exact h.elim
      | some bs =>
        rw [e2] at h
        obtain ⟨a, us, rfl, ta, rs2⟩ := listIn_of S e r
        rw [bools_of e2 rs2] at ta
        exact ⟨a, bs, rfl, ta, fin_ok S h rfl⟩
  · exact h.elim
theorem rc_any : RCok X Wx (rAny X.K) fAny := by
  intro p st xs vs σ Q S rs h
  unfold fAny at h
  split at h
  · obtain ⟨v, rfl, r⟩ := one_of rs
    rename_i w
    cases e : listIn st w with
    | none =>
      rw [e] at h
      exact h.elim
    | some ys =>
      rw [e] at h
      dsimp only at h
      cases e2 : bools ys with
      | none =>
        rw [e2] at h
        exact h.elim
      | some bs =>
        rw [e2] at h
        obtain ⟨a, us, rfl, ta, rs2⟩ := listIn_of S e r
        rw [bools_of e2 rs2] at ta
        exact ⟨a, bs, rfl, ta, fin_ok S h rfl⟩
  · exact h.elim
/-! ### repr of data -/
def rReprD (K : PySem.W.Frag) : List V → Hp → VK → Prop := fun xs H Q => ∃ v d, xs = [v] ∧ Dp K H v d ∧ cRepr d = true ∧ Q (.str d.shown) H
theorem call_reprD (hg : X.A.guards = some []) (hu : X.A.units + 64 < cLine) : CallR X (.builtin "repr") (rReprD X.K) := by
  intro pins s σ H xs us Q I r h
  obtain ⟨v, d, rfl, hd, hc, q⟩ := h
  obtain ⟨u, rfl, rv⟩ := vals1 r
  obtain ⟨as, rd⟩ := Dp.reads I d v u hd rv
  unfold cRepr at hc
  rw [Bool.and_eq_true, Bool.and_eq_true, Bool.and_eq_true, decide_eq_true_eq, decide_eq_true_eq] at hc
  obtain ⟨⟨⟨h1, h2⟩, h3⟩, h4⟩ := hc
  have hnd : d.hasDict = false := by simpa using h2
  cases rd with
  | none => exact PySem.P.repr_of_none ⟨.str _, H, I.tok _, ⟨_, rfl⟩, q⟩
  | bool b => exact PySem.P.repr_of_bool ⟨.str _, H, I.tok _, ⟨_, rfl⟩, q⟩
  | int i t => exact PySem.P.repr_of_int (by simpa [PyData.showable] using h1) ⟨.str _, H, I.tok _, ⟨_, rfl⟩, q⟩
  | str x t => exact PySem.P.repr_of_str ⟨.str _, H, I.tok _, ⟨_, rfl⟩, q⟩ h4
  | list k1 k2 k3 k4 => exact repr_of_reads' (.list k1 k2 k3 k4) h1 (PyData.noDict_hsm hnd) hg (by omega) (fun _ _ z => z) (fun h' u tk hk => ⟨.str _, H, I.kept hk, ⟨_, rfl⟩, q⟩) h4
  | tuple k1 k2 k3 k4 => exact repr_of_reads' (.tuple k1 k2 k3 k4) h1 (PyData.noDict_hsm hnd) hg (by omega) (fun _ _ z => z) (fun h' u tk hk => ⟨.str _, H, I.kept hk, ⟨_, rfl⟩, q⟩) h4
  | dict k1 k2 k3 k4 k5 => simp [PyData.hasDict] at hnd
theorem rc_repr : RCok X Wx (rReprD X.K) fRepr := by
  intro p st xs vs σ Q S rs h
  unfold fRepr at h
  split at h
  · obtain ⟨v, rfl, r⟩ := one_of rs
    rename_i w
    cases e : w.toD with
    | none =>
      rw [e] at h
      exact h.elim
    | some d =>
      rw [e] at h
      dsimp only at h
      by_cases c : cRepr d = true
      · rw [if_pos c] at h
        exact ⟨v, d, rfl, dp_of w v d e r, c, fin_ok S h rfl⟩
      · rw [if_neg c] at h
        exact h.elim
  · exact h.elim
theorem rc_tuple : RCok X Wx (fun xs H Q => ∃ p ys, xs = [.ref p] ∧ ((SqL X.K H p ys ∧ ∀ l, H l = none → Q (.ref l) (upd H l (.tup ys))) ∨ (SqT X.K H p ys ∧ Q (.ref p) H))) fTuple := by
  intro p st xs vs σ Q S rs h
  unfold fTuple at h
  split at h
  · obtain ⟨v, rfl, r⟩ := one_of rs
    rename_i w
    cases e : seqIn st w with
    | none =>
      rw [e] at h
      exact h.elim
    | some ys =>
      rw [e] at h
      by_cases t : ∃ zs, w = .tup zs
      · obtain ⟨zs, rfl⟩ := t
        cases e
        obtain ⟨a, us, rfl, ta, rs2⟩ := r
        exact ⟨a, us, rfl, .inr ⟨ta.seq, fin_ok S h ⟨a, us, rfl, ta, rs2⟩⟩⟩
      · have e' : listIn st w = some ys := by
          unfold seqIn at e
          split at e
          · exact absurd ⟨_, rfl⟩ t
          · exact e
        obtain ⟨a, us, rfl, ta, rs2⟩ := listIn_of S e' r
        exact ⟨a, us, rfl, .inl ⟨ta, fun l hl => h { p with H := upd p.H l (.tup us) } (.ref l) (step_new S hl) (sr_new S hl) (new_tup S hl rs2)⟩⟩
  · exact h.elim
theorem rc_list : RCok X Wx (fun xs H Q => ∃ p ys, xs = [.ref p] ∧ (SqL X.K H p ys ∨ SqT X.K H p ys) ∧ ∀ l, H l = none → Q (.ref l) (upd H l (.lst ys))) fList := by
  intro p st xs vs σ Q S rs h
  unfold fList at h
  split at h
  · obtain ⟨v, rfl, r⟩ := one_of rs
    rename_i w
    cases e : seqIn st w with
    | none =>
      rw [e] at h
      exact h.elim
    | some ys =>
      rw [e] at h
      obtain ⟨a, us, rfl, ta, rs2⟩ := seqIn_of S e r
      exact ⟨a, us, rfl, ta, fun l hl => h { p with H := upd p.H l (.lst us) } (.ref l) (step_new S hl) (sr_new S hl) (new_lst S hl rs2)⟩
  · exact h.elim

/-! ### subscripts -/
theorem atI_of {K : PySem.W.Frag} {p : Wh} {xs : List W} {vs : List V} {k : Int} {y : W} (h : atI xs k = some y) (rs : RWs K p xs vs) : ∃ v, atI vs k = some v ∧ RW K p y v := by
  unfold atI at h ⊢
  rw [← rs.length]
  cases e : ixN xs.length k with
  | none =>
    rw [e] at h
    cases h
  | some j =>
    rw [e] at h
    exact rs.get h
theorem r2_ix : R2ok X Wx (rIx X.K) fIx := by
  intro p st x y v u σ Q S rx ry h
  cases y with
  | int k =>
    have e2 : u = .int k := ry
    subst e2
    by_cases t : ∃ s, x = .str s
    · obtain ⟨s, rfl⟩ := t
      have e1 : v = .str s := rx
      subst e1
      dsimp only [fIx] at h
      by_cases c : s.length ≤ sizeLine
      · rw [if_pos c] at h
        cases e : atI s.cps.toList k with
        | none =>
          rw [e] at h
          exact h.elim
        | some z =>
          rw [e] at h
          exact .inr (.inr ⟨s, k, z, rfl, rfl, c, e, fin_ok S h rfl⟩)
      · rw [if_neg c] at h
        exact h.elim
    · have h' : Fin X.K X.mg (RW X.K) Wx p σ Q (match seqIn st x with | some xs => (match atI xs k with | some y => .ok y st | none => .bad) | none => .bad) := by
        cases x with
        | str s => exact absurd ⟨_, rfl⟩ t
        | _ => exact h
      cases e : seqIn st x with
      | none =>
        rw [e] at h'
        exact h'.elim
      | some xs =>
        rw [e] at h'
        dsimp only at h'
        cases e3 : atI xs k with
        | none =>
          rw [e3] at h'
          exact h'.elim
        | some z =>
          rw [e3] at h'
          obtain ⟨a, vs, rfl, ta, rs⟩ := seqIn_of S e rx
          obtain ⟨v', hv, rv⟩ := atI_of e3 rs
          rcases ta with ta | ta
          · exact .inl ⟨a, vs, k, v', rfl, rfl, ta, hv, fin_ok S h' rv⟩
          · exact .inr (.inl ⟨a, vs, k, v', rfl, rfl, ta, hv, fin_ok S h' rv⟩)
  | _ => exact h.elim
theorem ge_ix (ha : GE X Wx a ma) (hb : GE X Wx b mb) (hs : PlainIx b) : GE X Wx (.Subscript a b pos) (mOp fIx ma mb) :=
  PEimp (pe_ix ix_seq ha hb hs) fun σ H Q h => tOp_of r2_ix σ H Q h

/-! ### isinstance -/
def TyOk (T : String) : Prop := ∀ (K : PySem.W.Frag) (w : W), PySem.W.kitOne K (.type (tyName w)) (.type T) = some (isTy T w)
theorem isTy_of {T : String} (hT : TyOk T) {p : Wh} {st : Store} {w : W} {v : V}
    (S : SR X.K p st) (r : RW X.K p w v) {σ : L2.St} {Q : VK} (h : Fin X.K X.mg (RW X.K) Wx p σ Q (fIsi T w st)) : rIsi X.K [v, .ty T] p.H Q := by
  have go : TyX X.K p.H v (.type (tyName w)) → Fin X.K X.mg (RW X.K) Wx p σ Q (.ok (.bl (isTy T w)) st) → rIsi X.K [v, .ty T] p.H Q :=
    fun t h => ⟨v, .ty T, _, _, _, rfl, .ty T, t, hT X.K w, fin_ok S h rfl⟩
  cases w with
  | non =>
    have e : v = .non := r
    subst e
    exact go (.base .non) h
  | bl b =>
    have e : v = .bl b := r
    subst e
    exact go (.base (.bl b)) h
  | int b =>
    have e : v = .int b := r
    subst e
    exact go (.base (.int b)) h
  | str b =>
    have e : v = .str b := r
    subst e
    exact go (.base (.str b)) h
  | tup xs =>
    obtain ⟨a, vs, rfl, ta, rs⟩ := r
    refine go ?_ h
    rcases ta.seq with z | ⟨o, its, n, z1, z2, _⟩
    · rcases z with z | ⟨o, z⟩
      · exact .base (.tup z)
      · exact .fTuple z
    · exact .kTuple z1 z2
  | lst xs =>
    obtain ⟨a, vs, rfl, ta, rs⟩ := r
    exact go (.base (.lst ta.1)) h
  | frz xs =>
    obtain ⟨a, vs, rfl, ta, rs⟩ := r
    refine go ?_ h
    rcases ta.seq with z | ⟨o, its, n, z1, z2, _⟩
    · rcases z with z | ⟨o, z⟩
      · exact .base (.lst z)
      · exact .base (.frz z)
    · exact .kList z1 z2
  | ref n =>
    dsimp only [fIsi] at h
    cases e : st[n]? with
    | none =>
      rw [e] at h
      exact h.elim
    | some o =>
      cases o with
      | lst ys =>
        rw [e] at h
        obtain ⟨_, vs, hH, rs⟩ := S.at e
        have e2 : v = .ref (p.ρ n) := r.2
        subst e2
        exact go (.base (.lst hH)) h
theorem ge_isi {T : String} {pT : Pos} (hT : TyOk T) (hg : Gl X "isinstance") (hm : X.mg "isinstance" = none) (hgT : Gl X T) (hmT : X.mg T = none) (hvT : bootBuiltins T = some (.type T)) (he : GE X Wx e me)
    (hs : starEach [e, .Name T pT] X.env = (false, eval e X.env) :: starEach [.Name T pT] X.env := by rfl) (hpl : (backTo pos (starEach [.Name T pT] X.env)).any (·.1) = false := by rfl)
    (hs2 : starEach [.Name T pT] X.env = (false, eval (.Name T pT) X.env) :: starEach [] X.env := by rfl) (hn : (T : Str) ≠ "__name__" := by decide) (hd : ((T : Str) == ("__debug__" : Str)) = false := by decide) :
    GE X Wx (.Call (.Name "isinstance" p) [e, .Name T pT] [] pos) (mUn (fIsi T) me) :=
  PEimp (pe_callB call_isi hg hm (by decide +kernel) (pa_cons he (pa_cons (pe_bltn (v := .ty T) hgT hmT hvT rfl hn hd) pa_nil hs2) hs) (he := hs) (hpl := hpl)) fun σ H Q ⟨p, st, env, hp, S, E, h⟩ =>
    tG_bind hp S E h fun q s1 w v t S1 E1 r h1 => isTy_of hT S1 r h1
theorem ty_int : TyOk "int" := fun K w => by cases w <;> rfl
theorem ty_bool : TyOk "bool" := fun K w => by cases w <;> rfl
theorem ty_str : TyOk "str" := fun K w => by cases w <;> rfl
theorem ty_tuple : TyOk "tuple" := fun K w => by cases w <;> rfl
theorem ty_list : TyOk "list" := fun K w => by cases w <;> rfl
theorem ty_dict : TyOk "dict" := fun K w => by cases w <;> rfl
end
end Mi

namespace Mi
open PySem PySem.Spec PyProof.Rows L2

/-! ### list comprehensions -/
def noX {α : Type} : Res α → Res α
  | .exc _ _ => .bad
  | r => r
def lcEach (put : W → En → En) (tt : Ev Bool) (te : Ev W) (env : En) : List W → List W → Store → Res (List W)
  | [], acc, st => .ok acc st
  | x :: xs, acc, st => (noX (tt (put x env) st)).bind fun b s1 =>
    if b = true then (noX (te (put x env) s1)).bind fun y s2 => if acc.length < 100000 then lcEach put tt te env xs (acc ++ [y]) s2 else .bad else lcEach put tt te env xs acc s1
def wipeE (env : En) : List Nat → En
  | [] => env
  | v :: vs => (wipeE env vs).set v none
def asLst (r : Res (List W)) : Res W := r.bind fun acc s => .ok (.lst acc) s
def yes : Ev Bool := fun _ st => .ok true st
def setN (j : Nat) : W → En → En := fun x e => e.set j (some x)
/-- over a range of n | from a below b | over a list | over a tuple -/
def mLcR1 (vs : List Nat) (put : W → En → En) (ml : Ev (List W)) (tt : Ev Bool) (te : Ev W) : Ev W := fun env st => (ml env st).bind fun ws s1 => match as1 ws with
  | some n => if -(2 ^ 62) ≤ n ∧ n < 2 ^ 62 then asLst (lcEach put tt te (wipeE env vs) (rngW 0 n.toNat) [] s1) else .bad
  | none => .bad
def mLcR2 (vs : List Nat) (put : W → En → En) (ml : Ev (List W)) (tt : Ev Bool) (te : Ev W) : Ev W := fun env st => (ml env st).bind fun ws s1 => match as2 ws with
  | some ab => if -(2 ^ 62) ≤ ab.1 ∧ ab.1 < 2 ^ 62 ∧ -(2 ^ 62) ≤ ab.2 ∧ ab.2 < 2 ^ 62 then asLst (lcEach put tt te (wipeE env vs) (rngW ab.1 (ab.2 - ab.1).toNat) [] s1) else .bad
  | none => .bad
def mLcS (vs : List Nat) (put : W → En → En) (me : Ev W) (tt : Ev Bool) (te : Ev W) : Ev W := fun env st => (me env st).bind fun w s1 => match seqOf w with
  | some xs => asLst (lcEach put tt te (wipeE env vs) xs [] s1)
  | none => .bad
def mLcT (vs : List Nat) (put : W → En → En) (me : Ev W) (tt : Ev Bool) (te : Ev W) : Ev W := fun env st => (me env st).bind fun w s1 => match tupOf w with
  | some xs => asLst (lcEach put tt te (wipeE env vs) xs [] s1)
  | none => .bad

section
variable {K : PySem.W.Frag} {mg : Str → Option Value} {p q : Wh} {st : Store} {env : En} {σ : L2.St} {D : Addr}
theorem RO.move (s : Mv p q) {o : O} {h : Option HO} (r : RO K p o h) : RO K q o h := by
  cases o with
  | lst xs =>
    obtain ⟨vs, e, k⟩ := r
    exact ⟨vs, e, RWs.move s xs vs k⟩
theorem wipe_set {j : Nat} {o : Option V} : ∀ {vs : List Nat}, j ∈ vs → ∀ σ : L2.St, wipe (σ.set j o) vs = wipe σ vs
  | v :: vs, h, σ => by
    unfold wipe
    by_cases e : j ∈ vs
    · rw [wipe_set e σ]
    · have ev : j = v := by
        rcases List.mem_cons.mp h with z | z
        · exact z
        · exact absurd z e
      subst ev
      have out : ∀ (ws : List Nat), j ∉ ws → ∀ σ : L2.St, wipe (σ.set j o) ws = (wipe σ ws).set j o := by
        intro ws
        induction ws with
        | nil => intro _ _; rfl
        | cons a r ih =>
          intro hn σ
          unfold wipe
          rw [ih (fun z => hn (List.mem_cons_of_mem _ z)) σ]
          exact List.set_comm _ _ (fun z => hn (by rw [z]; exact List.mem_cons_self))
      rw [out vs e σ, List.set_set]
theorem wipe_wipe : ∀ {vs : List Nat} (σ : L2.St), wipe (wipe σ vs) vs = wipe σ vs := by
  have go : ∀ (us vs : List Nat) (σ : L2.St), (∀ u ∈ us, u ∈ vs) → wipe (wipe σ us) vs = wipe σ vs := by
    intro us
    induction us with
    | nil => intro _ _ _; rfl
    | cons u r ih =>
      intro vs σ h
      show wipe ((wipe σ r).set u none) vs = wipe σ vs
      rw [wipe_set (h u List.mem_cons_self), ih vs σ (fun z hz => h z (List.mem_cons_of_mem _ hz))]
  exact fun {vs} σ => go vs vs σ fun _ h => h
theorem EnvR.wiped (e : EnvR K p env σ) : ∀ vs : List Nat, EnvR K p (wipeE env vs) (wipe σ vs)
  | [] => e
  | v :: vs => (EnvR.wiped e vs).unset v none
theorem mv_hide (S : SR K p st) (h : p.H D = none) : Mv p { p with H := upd p.H D (.lst []), x := D :: p.x } := by
  have t := step_new (o := .lst []) S h
  refine ⟨Nat.le_refl _, fun _ _ => rfl, t.keep, fun i h1 h2 => absurd h2 (Nat.not_lt.mpr h1), t.there, fun a z => ?_, t.hth⟩
  rcases List.mem_cons.mp z with z | z
  · exact .inr (by rw [z]; exact h)
  · exact .inl z
theorem sr_hide (S : SR K p st) (h : p.H D = none) : SR K { p with H := upd p.H D (.lst []), x := D :: p.x } st := by
  have t := sr_new (o := .lst []) S h
  have m := mv_hide S h
  refine ⟨t.len, t.inj, fun i u e => ?_, fun a z => ?_⟩
  · have hi : i < p.n := by
      rw [S.len]
      exact (List.getElem?_eq_some_iff.mp e).1
    have r := (S.obj i u e).move m
    show RO K _ u (upd p.H D (.lst []) (p.ρ i))
    rw [upd_ne (fun e => S.there i hi (by rw [e]; exact h))]
    exact r
  · rcases List.mem_cons.mp z with z | z
    · subst z
      refine ⟨?_, fun i hi e => S.there i hi (by rw [e]; exact h)⟩
      show upd p.H a (.lst []) a ≠ none
      rw [upd_same]
      exact fun z => nomatch z
    · exact ⟨m.hth a z, (S.hid a z).2⟩
theorem mv_write (S : SR K p st) (hD : D ∈ p.x) (o : HO) : Mv p { p with H := upd p.H D o } := by
  refine ⟨Nat.le_refl _, fun _ _ => rfl, fun a u e h => ?_, fun i h1 h2 => absurd h2 (Nat.not_lt.mpr h1), fun i hi => ?_, fun a z => .inl z, fun a z => ?_⟩
  · show upd p.H D o a = some u
    rw [upd_ne (fun z => h.2 (by rw [z]; exact hD))]
    exact e
  · show upd p.H D o (p.ρ i) ≠ none
    rw [upd_ne ((S.hid D hD).2 i hi)]
    exact S.there i hi
  · show upd p.H D o a ≠ none
    by_cases e : a = D
    · rw [e, upd_same]
      exact fun z => nomatch z
    · rw [upd_ne e]
      exact (S.hid a z).1
theorem sr_write (S : SR K p st) (hD : D ∈ p.x) (o : HO) : SR K { p with H := upd p.H D o } st := by
  have m := mv_write S hD o
  refine ⟨S.len, S.inj, fun i u e => ?_, fun a z => ⟨m.hth a z, (S.hid a z).2⟩⟩
  have hi : i < p.n := by
    rw [S.len]
    exact (List.getElem?_eq_some_iff.mp e).1
  have r := (S.obj i u e).move m
  show RO K _ u (upd p.H D o (p.ρ i))
  rw [upd_ne ((S.hid D hD).2 i hi)]
  exact r
theorem mv_show (S : SR K p st) {x : List Addr} (hx : ∀ a, a ∈ x → a ∈ p.x) : Mv p { p with x := x } :=
  ⟨Nat.le_refl _, fun _ _ => rfl, fun a o e _ => e, fun i h1 h2 => absurd h2 (Nat.not_lt.mpr h1), S.there, fun a z => .inl (hx a z), fun a z => (S.hid a z).1⟩
theorem sr_show (S : SR K p st) {x : List Addr} (hx : ∀ a, a ∈ x → a ∈ p.x) : SR K { p with x := x } st :=
  ⟨S.len, S.inj, fun i u e => (S.obj i u e).move (mv_show S hx), fun a z => S.hid a (hx a z)⟩

/-- what a comprehension's target does -/
def PutLc (K : PySem.W.Frag) (g : TG) (put : W → En → En) (vs : List Nat) (xs : List W) : Prop :=
  ∀ (q : Wh) (w : W) (v : V) (env : En) (σ : L2.St) (Q : L2.St → Hp → Prop), w ∈ xs → RW K q w v → EnvR K q env σ → (∀ σ', EnvR K q (put w env) σ' → wipe σ' vs = wipe σ vs → Q σ' q.H) → g v σ q.H Q
theorem putLc_name {j : Nat} {vs : List Nat} {xs : List W} (h : j ∈ vs) : PutLc K (gName j) (setN j) vs xs := fun q w v env σ Q _ r E k => k _ (E.set j r) (wipe_set h σ)

abbrev W0 : WX := fun _ _ _ _ => False
/-- ahead of the i-th turn -/
def LcT (K : PySem.W.Frag) (mg : Str → Option Value) (Wx : WX) (put : W → En → En) (tt : Ev Bool) (te : Ev W) (env : En) (p : Wh) (D : Addr) (σ : L2.St) (Q : VK) (xs : List W) (i : Nat) (H' : Hp) : Prop :=
  ∃ (q : Wh) (s2 : Store) (acc : List W) (accV : List V), q.H = H' ∧ q.x = D :: p.x ∧ Mv p q ∧ (∀ a, a ∈ p.x → q.H a = p.H a) ∧ SR K q s2 ∧ q.H D = some (.lst accV) ∧ RWs K q acc accV ∧
    Fin K mg (RW K) Wx p σ Q (asLst (lcEach put tt te env (xs.drop i) acc s2))
theorem lc_start {Wx : WX} {put : W → En → En} {tt : Ev Bool} {te : Ev W} {Q : VK} {xs : List W} (S : SR K p st) (hD : p.H D = none) (h : Fin K mg (RW K) Wx p σ Q (asLst (lcEach put tt te env xs [] st))) :
    LcT K mg Wx put tt te env p D σ Q xs 0 (upd p.H D (.lst [])) :=
  ⟨{ p with H := upd p.H D (.lst []), x := D :: p.x }, st, [], [], rfl, rfl, mv_hide S hD, (step_new (o := .lst []) S hD).hk, sr_hide S hD, upd_same, rfl, h⟩
theorem lc_turn {Wx : WX} {put : W → En → En} {tt : Ev Bool} {te : Ev W} {Q : VK} {xs : List W} {vs : List V} {i : Nat} {g : TG} {v : V} {own : List Nat} {H' : Hp} (S : SR K p st) (hD : p.H D = none) (E : EnvR K p env σ) (hg : PutLc K g put own xs) (rs : RWs K p xs vs) (hv : vs[i]? = some v)
    (h : LcT K mg Wx put tt te (wipeE env own) p D σ Q xs i H') : g v (wipe σ own) H' fun σ2 H2 => wipe σ2 own = wipe σ own ∧ tG K mg eqR W0 tt σ2 H2 fun b H3 =>
      if b = true then tG K mg (RW K) W0 te σ2 H3 fun y H4 => ∃ acc, H4 D = some (.lst acc) ∧ acc.length < sizeLine ∧ LcT K mg Wx put tt te (wipeE env own) p D σ Q xs (i + 1) (upd H4 D (.lst (acc ++ [y]))) else LcT K mg Wx put tt te (wipeE env own) p D σ Q xs (i + 1) H3 := by
  obtain ⟨q, s2, acc, accV, rfl, ex, m, hk, S2, hA, ra, hF⟩ := h
  obtain ⟨w, hw, r⟩ := rs.getV hv
  obtain ⟨hl, hw'⟩ := List.getElem?_eq_some_iff.mp hw
  rw [List.drop_eq_getElem_cons hl, hw'] at hF
  refine hg q w v (wipeE env own) (wipe σ own) _ (List.mem_of_getElem? hw) (RW.move m w v r) ((E.wiped own).move m) fun σ2 E2 ew => ⟨ew.trans (wipe_wipe σ), q, s2, put w (wipeE env own), rfl, S2, E2, ?_⟩
  have hDq : D ∈ q.x := by
    rw [ex]
    exact List.mem_cons_self
  unfold asLst lcEach at hF
  cases e1 : tt (put w (wipeE env own)) s2 with
  | bad =>
    rw [e1] at hF
    exact hF
  | exc x s3 =>
    rw [e1] at hF
    exact hF.elim
  | ok b s3 =>
    rw [e1] at hF
    intro q3 b' t3 S3 eb
    have eb' : b = b' := eb
    subst eb'
    have keep3 : ∀ a, a ∈ p.x → q3.H a = p.H a := fun a z => (t3.hk a (by rw [ex]; exact List.mem_cons_of_mem _ z)).trans (hk a z)
    have hA3 : q3.H D = some (.lst accV) := (t3.hk D hDq).trans hA
    cases b with
    | false => exact ⟨q3, s3, acc, accV, rfl, t3.xs.trans ex, m.trans t3.toMv, keep3, S3, hA3, RWs.step t3 acc accV ra, hF⟩
    | true =>
      refine ⟨q3, s3, put w (wipeE env own), rfl, S3, E2.step t3, ?_⟩
      have hF' : Fin K mg (RW K) Wx p σ Q (((noX (te (put w (wipeE env own)) s3)).bind fun y s2 => if acc.length < 100000 then lcEach put tt te (wipeE env own) (List.drop (i + 1) xs) (acc ++ [y]) s2 else .bad).bind fun acc s => .ok (.lst acc) s) := hF
      cases e2 : te (put w (wipeE env own)) s3 with
      | bad =>
        rw [e2] at hF'
        exact hF'
      | exc x s4 =>
        rw [e2] at hF'
        exact hF'.elim
      | ok y s4 =>
        rw [e2] at hF'
        have hF2 : Fin K mg (RW K) Wx p σ Q ((if acc.length < 100000 then lcEach put tt te (wipeE env own) (List.drop (i + 1) xs) (acc ++ [y]) s4 else .bad).bind fun acc s => .ok (.lst acc) s) := hF'
        by_cases c : acc.length < 100000
        · rw [if_pos c] at hF2
          intro q4 v4 t4 S4 r4
          have hD4 : D ∈ q4.x := by
            rw [t4.xs, t3.xs]
            exact hDq
          have ma := mv_write S4 hD4 (.lst (accV ++ [v4]))
          refine ⟨accV, (t4.hk D (by rw [t3.xs]; exact hDq)).trans hA3, by rw [← ra.length]; exact Nat.lt_of_lt_of_le c (by decide), { q4 with H := upd q4.H D (.lst (accV ++ [v4])) }, s4, acc ++ [y], accV ++ [v4], rfl, t4.xs.trans (t3.xs.trans ex), ((m.trans t3.toMv).trans t4.toMv).trans ma,
            fun a z => ?_, sr_write S4 hD4 _, upd_same, RWs.append (RWs.move ma acc accV (RWs.step (t3.trans t4) acc accV ra)) ⟨v4, [], rfl, RW.move ma y v4 r4, rfl⟩, hF2⟩
          have hne : a ≠ D := fun e => (S.hid a z).1 (by rw [e]; exact hD)
          show upd q4.H D _ a = p.H a
          rw [upd_ne hne]
          exact (t4.hk a (by rw [t3.xs, ex]; exact List.mem_cons_of_mem _ z)).trans (keep3 a z)
        · rw [if_neg c] at hF2
          exact hF2.elim
theorem lc_end {Wx : WX} {put : W → En → En} {tt : Ev Bool} {te : Ev W} {Q : VK} {xs : List W} {H' : Hp} {i : Nat} (S : SR K p st) (hD : p.H D = none) (hi : xs.length ≤ i) (h : LcT K mg Wx put tt te env p D σ Q xs i H') : Q (.ref D) H' := by
  obtain ⟨q, s2, acc, accV, rfl, ex, m, hk, S2, hA, ra, hF⟩ := h
  rw [List.drop_of_length_le hi] at hF
  have sub : ∀ a, a ∈ p.x → a ∈ q.x := fun a z => by
    rw [ex]
    exact List.mem_cons_of_mem _ z
  have ms := mv_show S2 sub
  have hDq : D ∈ q.x := by
    rw [ex]
    exact List.mem_cons_self
  exact hF { q with x := p.x } (.ref D) ⟨m.trans ms, rfl, hk⟩ (sr_show S2 sub) ⟨D, accV, rfl, ⟨hA, (S2.hid D hDq).2, fun z => (S.hid D z).1 hD⟩, RWs.move ms acc accV ra⟩
end

section
variable {X : Cx} {Wx : WX} {elt tg it : Expr} {ifs : List Expr} {scope : Scope} {own : List (Str × Nat)} {pos p : Pos} {g : TG} {put : W → En → En} {tt : Ev Bool} {te me : Ev W} {ml : Ev (List W)} {a b : Expr}
abbrev GP (X : Cx) (Wx : WX) (e : List Expr) (m : Ev Bool) : Prop := PTs X e (tG X.K X.mg eqR Wx m)
theorem gp_nil : GP X Wx [] yes := ⟨fun pins s σ H Q I h => by
  obtain ⟨p, st, env, rfl, S, E, q⟩ := h
  exact pts_nil.run pins s σ _ Q I (q p true (.refl S) S rfl)⟩
theorem gp_one {c : Expr} (h : GT X Wx c tt) : GP X Wx [c] tt := pts_one h
theorem lcR1_of {σ : L2.St} {H : Hp} {Q : VK} (hg : ∀ xs, PutLc X.K g put (own.map (·.2)) xs) (h : tG X.K X.mg (RW X.K) Wx (mLcR1 (own.map (·.2)) put ml tt te) σ H Q) :
    tLc (iRng1 (tG X.K X.mg (RWs X.K) Wx ml)) g (tG X.K X.mg eqR W0 tt) (tG X.K X.mg (RW X.K) W0 te) (own.map (·.2)) σ H Q := by
  obtain ⟨p, st, env, hp, S, E, h⟩ := h
  refine tG_bind hp S E h fun q s1 ws vs t S1 E1 r h1 => ?_
  cases e : as1 ws with
  | none =>
    rw [e] at h1
    exact h1.elim
  | some n =>
    rw [e] at h1
    dsimp only at h1
    by_cases hb : -(2 ^ 62) ≤ n ∧ n < 2 ^ 62
    · rw [if_pos hb] at h1
      refine ⟨n, as1_of e r, hb.1, hb.2, fun D hD => ?_⟩
      have rs : RWs X.K q (rngW 0 n.toNat) ((List.range n.toNat).map fun (i : Nat) => V.int ((0 : Int) + (i : Int))) := by
        unfold rngW
        generalize List.range n.toNat = l
        induction l with
        | nil => exact (rfl : ([] : List V) = [])
        | cons i l ih => exact ⟨_, _, rfl, rfl, ih⟩
      refine lc_range (LcT X.K X.mg Wx put tt te (wipeE env (own.map (·.2))) q D σ Q (rngW 0 n.toNat)) (lc_start S1 hD h1) (fun i H' hi hT => ?_) fun H' hT => lc_end S1 hD (by rw [rngW_len]; exact Nat.le_refl _) hT
      exact lc_turn S1 hD E1 (hg _) rs (by rw [List.getElem?_map, List.getElem?_range hi]; rfl) hT
    · rw [if_neg hb] at h1
      exact h1.elim
theorem lcR2_of {σ : L2.St} {H : Hp} {Q : VK} (hg : ∀ xs, PutLc X.K g put (own.map (·.2)) xs) (h : tG X.K X.mg (RW X.K) Wx (mLcR2 (own.map (·.2)) put ml tt te) σ H Q) :
    tLc (iRng2 (tG X.K X.mg (RWs X.K) Wx ml)) g (tG X.K X.mg eqR W0 tt) (tG X.K X.mg (RW X.K) W0 te) (own.map (·.2)) σ H Q := by
  obtain ⟨p, st, env, hp, S, E, h⟩ := h
  refine tG_bind hp S E h fun q s1 ws vs t S1 E1 r h1 => ?_
  cases e : as2 ws with
  | none =>
    rw [e] at h1
    exact h1.elim
  | some ab =>
    rw [e] at h1
    dsimp only at h1
    by_cases hb : -(2 ^ 62) ≤ ab.1 ∧ ab.1 < 2 ^ 62 ∧ -(2 ^ 62) ≤ ab.2 ∧ ab.2 < 2 ^ 62
    · rw [if_pos hb] at h1
      refine ⟨ab.1, ab.2, as2_of e r, hb, fun D hD => ?_⟩
      have rs : RWs X.K q (rngW ab.1 (ab.2 - ab.1).toNat) ((List.range (ab.2 - ab.1).toNat).map fun (i : Nat) => V.int (ab.1 + (i : Int))) := by
        unfold rngW
        generalize List.range (ab.2 - ab.1).toNat = l
        induction l with
        | nil => exact (rfl : ([] : List V) = [])
        | cons i l ih => exact ⟨_, _, rfl, rfl, ih⟩
      refine lc_range (LcT X.K X.mg Wx put tt te (wipeE env (own.map (·.2))) q D σ Q (rngW ab.1 (ab.2 - ab.1).toNat)) (lc_start S1 hD h1) (fun i H' hi hT => ?_) fun H' hT => lc_end S1 hD (by rw [rngW_len]; exact Nat.le_refl _) hT
      exact lc_turn S1 hD E1 (hg _) rs (by rw [List.getElem?_map, List.getElem?_range hi]; rfl) hT
    · rw [if_neg hb] at h1
      exact h1.elim
theorem lcS_of {σ : L2.St} {H : Hp} {Q : VK} (hg : ∀ xs, PutLc X.K g put (own.map (·.2)) xs) (h : tG X.K X.mg (RW X.K) Wx (mLcS (own.map (·.2)) put me tt te) σ H Q) :
    tLc (iList X.K (tG X.K X.mg (RW X.K) Wx me)) g (tG X.K X.mg eqR W0 tt) (tG X.K X.mg (RW X.K) W0 te) (own.map (·.2)) σ H Q := by
  obtain ⟨p, st, env, hp, S, E, h⟩ := h
  refine tG_bind hp S E h fun q s1 w v t S1 E1 r h1 => ?_
  cases e : seqOf w with
  | none =>
    rw [e] at h1
    exact h1.elim
  | some xs =>
    rw [e] at h1
    obtain ⟨a, vs, ev, ta, rs⟩ := seqOf_of e r
    refine ⟨a, ev, ⟨vs, ta q (Step.refl S1).toMv⟩, fun D hD => lc_list (xs := vs) (LcT X.K X.mg Wx put tt te (wipeE env (own.map (·.2))) q D σ Q xs) (lc_start S1 hD h1) (fun i H' hi hT => ?_) (fun i x H' hx hT => lc_turn S1 hD E1 (hg _) rs hx hT) fun H' hT => lc_end S1 hD (by rw [rs.length]; exact Nat.le_refl _) hT⟩
    obtain ⟨z, _, _, _, rfl, ez, m, hk, _⟩ := hT
    exact ta z m
theorem lcT_of {σ : L2.St} {H : Hp} {Q : VK} (hg : ∀ xs, PutLc X.K g put (own.map (·.2)) xs) (h : tG X.K X.mg (RW X.K) Wx (mLcT (own.map (·.2)) put me tt te) σ H Q) :
    tLc (iTup X.K (tG X.K X.mg (RW X.K) Wx me)) g (tG X.K X.mg eqR W0 tt) (tG X.K X.mg (RW X.K) W0 te) (own.map (·.2)) σ H Q := by
  obtain ⟨p, st, env, hp, S, E, h⟩ := h
  refine tG_bind hp S E h fun q s1 w v t S1 E1 r h1 => ?_
  cases e : tupOf w with
  | none =>
    rw [e] at h1
    exact h1.elim
  | some xs =>
    rw [e] at h1
    obtain ⟨a, vs, ev, ta, rs⟩ := tupOf_of e r
    refine ⟨a, ev, ⟨vs, ta.seq⟩, fun D hD => lc_tup (xs := vs) (LcT X.K X.mg Wx put tt te (wipeE env (own.map (·.2))) q D σ Q xs) (lc_start S1 hD h1) (fun i H' hi hT => ?_) (fun i x H' hx hT => lc_turn S1 hD E1 (hg _) rs hx hT) fun H' hT => lc_end S1 hD (by rw [rs.length]; exact Nat.le_refl _) hT⟩
    obtain ⟨z, _, _, _, rfl, ez, m, hk, _⟩ := hT
    exact (tup_step m ta).seq
/-- the block's parts, in its own context -/
structure Blk (X : Cx) (scope : Scope) (own : List (Str × Nat)) (tg elt : Expr) (ifs : List Expr) (g : TG) (tt : Ev Bool) (te : Ev W) : Prop where
  ok : BlkOk X.N X.env.scope scope own
  hg : ∀ (s : Shared) (H : Hp) (C : Addr) (cl : List (Str × Addr)) (fp : List Addr), PG (X.blk s H scope (compEnvC scope cl C X.env) fp) tg g
  ht : ∀ (s : Shared) (H : Hp) (C : Addr) (cl : List (Str × Addr)) (fp : List Addr), GP (X.blk s H scope (compEnvC scope cl C X.env) fp) W0 ifs tt
  he : ∀ (s : Shared) (H : Hp) (C : Addr) (cl : List (Str × Addr)) (fp : List Addr), GE (X.blk s H scope (compEnvC scope cl C X.env) fp) W0 elt te
theorem ge_lcR1 {rp : Pos} (B : Blk X scope own tg elt ifs g tt te) (hp : ∀ xs, PutLc X.K g put (own.map (·.2)) xs) (hc : X.calm = true) (hN : X.N.Nodup) (hg : Gl X "range") (hm : X.mg "range" = none) (ha : GA X Wx [a] ml) (hs : starEach [a] X.env = [(false, eval a X.env)] := by rfl)
    (hf : ∀ x, foldedSetIterable (.Call (.Name "range" p) [a] [] rp) X.env x = pure x := by intro _; rfl) :
    GE X Wx (.ListComp elt [⟨tg, .Call (.Name "range" p) [a] [] rp, ifs, 0⟩] scope pos) (mLcR1 (own.map (·.2)) put ml tt te) :=
  PEimp (pe_lc hc hN (pi_range1 hg hm ha hs) B.ok B.hg B.ht B.he hf) fun σ H Q h => lcR1_of hp h
theorem ge_lcR2 {rp : Pos} (B : Blk X scope own tg elt ifs g tt te) (hp : ∀ xs, PutLc X.K g put (own.map (·.2)) xs) (hc : X.calm = true) (hN : X.N.Nodup) (hg : Gl X "range") (hm : X.mg "range" = none) (ha : GA X Wx [a, b] ml) (hs : starEach [a, b] X.env = [(false, eval a X.env), (false, eval b X.env)] := by rfl) (hs2 : starEach [b] X.env = [(false, eval b X.env)] := by rfl)
    (hf : ∀ x, foldedSetIterable (.Call (.Name "range" p) [a, b] [] rp) X.env x = pure x := by intro _; rfl) :
    GE X Wx (.ListComp elt [⟨tg, .Call (.Name "range" p) [a, b] [] rp, ifs, 0⟩] scope pos) (mLcR2 (own.map (·.2)) put ml tt te) :=
  PEimp (pe_lc hc hN (pi_range2 hg hm ha hs hs2) B.ok B.hg B.ht B.he hf) fun σ H Q h => lcR2_of hp h
theorem ge_lcS (B : Blk X scope own tg elt ifs g tt te) (hp : ∀ xs, PutLc X.K g put (own.map (·.2)) xs) (hc : X.calm = true) (hN : X.N.Nodup) (he : GE X Wx it me)
    (hf : ∀ x, foldedSetIterable it X.env x = pure x := by intro _; rfl) : GE X Wx (.ListComp elt [⟨tg, it, ifs, 0⟩] scope pos) (mLcS (own.map (·.2)) put me tt te) :=
  PEimp (pe_lc hc hN (pi_list he) B.ok B.hg B.ht B.he hf) fun σ H Q h => lcS_of hp h
theorem ge_lcT (B : Blk X scope own tg elt ifs g tt te) (hp : ∀ xs, PutLc X.K g put (own.map (·.2)) xs) (hc : X.calm = true) (hN : X.N.Nodup) (he : GE X Wx it me)
    (hf : ∀ x, foldedSetIterable it X.env x = pure x := by intro _; rfl) : GE X Wx (.ListComp elt [⟨tg, it, ifs, 0⟩] scope pos) (mLcT (own.map (·.2)) put me tt te) :=
  PEimp (pe_lc hc hN (pi_tup he) B.ok B.hg B.ht B.he hf) fun σ H Q h => lcT_of hp h
/-- y = [..] on one line, y a local name -/
theorem lc_set {D : Ends} {σ : L2.St} {H : Hp} {i : Nat} {me : Ev W} (h : tS X.K X.mg Wx (sSet i me) D σ H) : tG X.K X.mg (RW X.K) Wx me σ H (fun x H1 => gName i x σ H1 D.nx) := by
  obtain ⟨p, st, env, hp, S, E, h⟩ := h
  exact lift_of hp S E h fun q s1 w v t S1 E1 r h1 => h1 q _ (.refl S1) S1 (E1.set i r)
theorem gs_lcS {i : Nat} {y : Str} {py spos : Pos} (B : Blk X scope own tg elt ifs g tt te) (hp : ∀ xs, PutLc X.K g put (own.map (·.2)) xs) (hc : X.calm = true) (hN : X.N.Nodup) (hy : X.N[i]? = some y) (hyl : X.env.scope.names.lookup y = some .local)
    (hsw : swapsWith (.ListComp elt [⟨tg, it, ifs, 0⟩] scope pos) (some (.Name y py)) spos.line X.env = pure true) (he : GE X Wx it me) (hf : ∀ x, foldedSetIterable it X.env x = pure x := by intro _; rfl) :
    GS X Wx (.Assign [.Name y py] (.ListComp elt [⟨tg, it, ifs, 0⟩] scope pos) spos) (sSet i (mLcS (own.map (·.2)) put me tt te)) :=
  PSimp (ps_setLc hc hN hy hyl hsw (pi_list he) B.ok B.hg B.ht B.he hf) fun D σ H h => lcS_of hp (lc_set h)
theorem gs_lcT {i : Nat} {y : Str} {py spos : Pos} (B : Blk X scope own tg elt ifs g tt te) (hp : ∀ xs, PutLc X.K g put (own.map (·.2)) xs) (hc : X.calm = true) (hN : X.N.Nodup) (hy : X.N[i]? = some y) (hyl : X.env.scope.names.lookup y = some .local)
    (hsw : swapsWith (.ListComp elt [⟨tg, it, ifs, 0⟩] scope pos) (some (.Name y py)) spos.line X.env = pure true) (he : GE X Wx it me) (hf : ∀ x, foldedSetIterable it X.env x = pure x := by intro _; rfl) :
    GS X Wx (.Assign [.Name y py] (.ListComp elt [⟨tg, it, ifs, 0⟩] scope pos) spos) (sSet i (mLcT (own.map (·.2)) put me tt te)) :=
  PSimp (ps_setLc hc hN hy hyl hsw (pi_tup he) B.ok B.hg B.ht B.he hf) fun D σ H h => lcT_of hp (lc_set h)
theorem gs_lcR1 {i : Nat} {y : Str} {py spos rp : Pos} (B : Blk X scope own tg elt ifs g tt te) (hp : ∀ xs, PutLc X.K g put (own.map (·.2)) xs) (hc : X.calm = true) (hN : X.N.Nodup) (hy : X.N[i]? = some y) (hyl : X.env.scope.names.lookup y = some .local)
    (hsw : swapsWith (.ListComp elt [⟨tg, .Call (.Name "range" p) [a] [] rp, ifs, 0⟩] scope pos) (some (.Name y py)) spos.line X.env = pure true) (hg : Gl X "range") (hm : X.mg "range" = none) (ha : GA X Wx [a] ml) (hs : starEach [a] X.env = [(false, eval a X.env)] := by rfl)
    (hf : ∀ x, foldedSetIterable (.Call (.Name "range" p) [a] [] rp) X.env x = pure x := by intro _; rfl) :
    GS X Wx (.Assign [.Name y py] (.ListComp elt [⟨tg, .Call (.Name "range" p) [a] [] rp, ifs, 0⟩] scope pos) spos) (sSet i (mLcR1 (own.map (·.2)) put ml tt te)) :=
  PSimp (ps_setLc hc hN hy hyl hsw (pi_range1 hg hm ha hs) B.ok B.hg B.ht B.he hf) fun D σ H h => lcR1_of hp (lc_set h)

/-! ### methods of lists -/
theorem fApp_of {v : W} {vs : List W} {st : Store} (h : fAppend v vs st ≠ .bad) : ∃ n y xs, v = .ref n ∧ vs = [y] ∧ st[n]? = some (.lst xs) ∧ xs.length < 100000 ∧ fAppend v vs st = .ok .non (st.set n (.lst (xs ++ [y]))) := by
  unfold fAppend at h ⊢
  split at h
  · rename_i n y
    cases e : st[n]? with
    | none =>
      rw [e] at h
      exact absurd rfl h
    | some o =>
      cases o with
      | lst xs =>
        rw [e] at h
        dsimp only at h
        by_cases c : xs.length < 100000
        · refine ⟨n, y, xs, rfl, rfl, e, c, ?_⟩
          simp only [e, if_pos c]
        · rw [if_neg c] at h
          exact absurd rfl h
  · exact absurd rfl h
theorem fExt_of {v : W} {vs : List W} {st : Store} (h : fExtend v vs st ≠ .bad) : ∃ n y xs ys, v = .ref n ∧ vs = [y] ∧ st[n]? = some (.lst xs) ∧ trkIn st y = some ys ∧ xs.length + ys.length ≤ 100000 ∧ fExtend v vs st = .ok .non (st.set n (.lst (xs ++ ys))) := by
  unfold fExtend at h ⊢
  split at h
  · rename_i n y
    cases e : st[n]? with
    | none =>
      rw [e] at h
      exact absurd rfl h
    | some o =>
      cases o with
      | lst xs =>
        cases e2 : trkIn st y with
        | none =>
          rw [e, e2] at h
          exact absurd rfl h
        | some ys =>
          rw [e, e2] at h
          dsimp only at h
          by_cases c : xs.length + ys.length ≤ 100000
          · refine ⟨n, y, xs, ys, rfl, rfl, e, e2, c, ?_⟩
            simp only [e, e2, if_pos c]
          · rw [if_neg c] at h
            exact absurd rfl h
  · exact absurd rfl h
theorem fin_nb {p : Wh} {σ : L2.St} {Q : VK} {r : Res W} (h : Fin X.K X.mg (RW X.K) Wx p σ Q r) : r ≠ .bad := fun e => by
  rw [e] at h
  exact h
/-- a method of a list of the store -/
def RMok (X : Cx) (Wx : WX) (r : V → List V → Hp → VK → Prop) (f : W → List W → Store → Res W) : Prop :=
  ∀ (p : Wh) (st : Store) (x : W) (xs : List W) (v : V) (vs : List V) (σ : L2.St) (Q : VK), SR X.K p st → RW X.K p x v → RWs X.K p xs vs → Fin X.K X.mg (RW X.K) Wx p σ Q (f x xs st) → r v vs p.H Q
theorem tBM_of {to ta : Ev W} {ml : Ev (List W)} {r : V → List V → Hp → VK → Prop} {f : W → List W → Store → Res W} (hr : RMok X Wx r f) {σ : L2.St} {H : Hp} {Q : VK} (h : tG X.K X.mg (RW X.K) Wx (mBM f to ml) σ H Q) :
    tBM X.K "list" r (tG X.K X.mg (RW X.K) Wx to) (tG X.K X.mg (RWs X.K) Wx ml) σ H Q := by
  obtain ⟨p, st, env, hp, S, E, h⟩ := h
  refine tG_bind hp S E h fun q s1 x v t1 S1 E1 rx h1 => ?_
  by_cases c : isRef s1 x = true
  · rw [if_pos c] at h1
    cases x with
    | ref n =>
      have hn : n < s1.length := of_decide_eq_true c
      have e : v = .ref (q.ρ n) := rx.2
      subst e
      have hl : ∃ vs, q.H (q.ρ n) = some (.lst vs) := by
        have ho := S1.obj n s1[n] (List.getElem?_eq_getElem hn)
        cases eo : s1[n] with
        | lst xs =>
          rw [eo] at ho
          obtain ⟨vs, e1, _⟩ := ho
          exact ⟨vs, e1⟩
      obtain ⟨us, hl⟩ := hl
      exact ⟨Or.inl ⟨rfl, us, .inl (.inl hl)⟩, tG_bind rfl S1 E1 h1 fun q2 s2 vs us t2 S2 E2 r2 h2 => hr q2 s2 (.ref n) vs (.ref (q.ρ n)) us σ Q S2 (RW.step t2 (.ref n) _ rx) r2 h2⟩
    | _ => exact absurd c Bool.false_ne_true
  · rw [if_neg c] at h1
    exact h1.elim
theorem rm_append : RMok X Wx rAppend fAppend := by
  intro p st x xs v vs σ Q S rx rs h
  obtain ⟨n, y, ys, rfl, rfl, e, c, ef⟩ := fApp_of (fin_nb h)
  rw [ef] at h
  obtain ⟨hn, us, hH, ru⟩ := S.at e
  obtain ⟨u, rfl, rv⟩ := one_of rs
  have e2 : v = .ref (p.ρ n) := rx.2
  subst e2
  refine ⟨p.ρ n, us, u, rfl, rfl, hH, by rw [← ru.length]; exact Nat.lt_of_lt_of_le c (by decide), ?_⟩
  exact h { p with H := upd p.H (p.ρ n) (.lst (us ++ [u])) } .non (step_mut S hn) (sr_mut S hn (ru.append ⟨u, [], rfl, rv, rfl⟩)) rfl
theorem rm_extend : RMok X Wx rExtend fExtend := by
  intro p st x xs v vs σ Q S rx rs h
  obtain ⟨n, y, ys, zs, rfl, rfl, e, e3, c, ef⟩ := fExt_of (fin_nb h)
  rw [ef] at h
  obtain ⟨hn, us, hH, ru⟩ := S.at e
  obtain ⟨u, rfl, rv⟩ := one_of rs
  obtain ⟨b, ws, rfl, hb, rw2⟩ := trkIn_of S e3 rv
  have e2 : v = .ref (p.ρ n) := rx.2
  subst e2
  refine ⟨p.ρ n, b, us, ws, rfl, rfl, hH, hb, by rw [← ru.length, ← rw2.length]; exact Nat.le_trans c (by decide), ?_⟩
  exact h { p with H := upd p.H (p.ρ n) (.lst (us ++ ws)) } .non (step_mut S hn) (sr_mut S hn (ru.append rw2)) rfl
theorem ge_lm {name : Str} {id : String} {r : V → List V → Hp → VK → Prop} {f : W → List W → Store → Res W} (slot : Slot "list" name id) (hty : typeOf (.builtin id) = pure (.type "method_descriptor")) (hm : MtR X id r) (hr : RMok X Wx r f)
    {o e : Expr} {es : List Expr} {mo : Ev W} {apos cpos : Pos} (ho : GE X Wx o mo) (ha : GA X Wx (e :: es) ml)
    (hbase : attributeBase o name X.env (eval o X.env) = eval o X.env := by rfl)
    (hfew : ((backTo cpos (starEach (e :: es) X.env)).all (fun x => !x.1) && (backToKw cpos (keywordEach [] X.env)).all (fun x => x.1.isSome)
      && decide ((e :: es).length + ([] : List Keyword).length + (if ([] : List Keyword).isEmpty then 0 else 1) < 30)) = true := by rfl)
    (hline : (apos.endLine == cpos.line) = true := by rfl) (hs : starEach (e :: es) X.env = (false, eval e X.env) :: starEach es X.env := by rfl) (hplain : (backTo cpos (starEach es X.env)).any (·.1) = false := by rfl) :
    GE X Wx (.Call (.Attribute o name apos) (e :: es) [] cpos) (mBM f mo ml) :=
  PEimp (pe_bm PySem.F.plainAttrs_list slot hty hm ho ha hbase hfew hline hs hplain) fun σ H Q h => tBM_of (ta := mo) hr h
end

/-! ### calls by keywords alone -/
/-- the places of a list -/
def pick {α : Type} (ix : List Nat) (xs : List α) : List α := ix.filterMap fun i => xs[i]?
section
theorem pick_rws {K : PySem.W.Frag} {q : Wh} {ws : List W} {vs : List V} (r : RWs K q ws vs) : ∀ ix : List Nat, RWs K q (pick ix ws) (pick ix vs)
  | [] => (rfl : ([] : List V) = [])
  | i :: ix => by
    have ih := pick_rws r ix
    unfold pick at ih ⊢
    rw [List.filterMap_cons, List.filterMap_cons]
    cases e : ws[i]? with
    | none =>
      have e2 : vs[i]? = none := by
        rw [List.getElem?_eq_none_iff] at e ⊢
        rw [← r.length]
        exact e
      rw [e2]
      exact ih
    | some w =>
      obtain ⟨v, e2, rv⟩ := r.get e
      rw [e2]
      exact ⟨v, _, rfl, rv, ih⟩
theorem pick_vals {vs : List V} {us : List Value} (r : Vals vs us) : ∀ ix : List Nat, Vals (pick ix vs) (pick ix us)
  | [] => .nil
  | i :: ix => by
    have ih := pick_vals r ix
    unfold pick at ih ⊢
    rw [List.filterMap_cons, List.filterMap_cons]
    cases e : vs[i]? with
    | none =>
      rw [r.none_of e]
      exact ih
    | some w =>
      obtain ⟨v, e2, rv⟩ := r.get e
      rw [e2]
      exact .cons rv ih
variable {X : Cx} {Wx : WX} {k : Nat} {f : Addr} {fd : FuncData} {ps ks : List Str} {m : List W → Store → Res W} {x : Str} {p pos kpos : Pos} {e : Expr} {me : Ev W} {ml : Ev (List W)} {kws : List Keyword} {nm : Option Str}
abbrev GK (X : Cx) (Wx : WX) (e : List Keyword) (m : Ev (List W)) : Prop := PK X e (tG X.K X.mg (RWs X.K) Wx m)
theorem PKimp {X : Cx} {e : List Keyword} {t t' : TA} (h : PK X e t) (i : ∀ σ H Q, t' σ H Q → t σ H Q) : PK X e t' := ⟨fun pos pins s σ H Q I z => h.run pos pins s σ H Q I (i σ H Q z)⟩
theorem gk_nil : GK X Wx [] mNil := PKimp pk_nil fun σ H Q ⟨p, st, env, hp, S, E, h⟩ => by
  subst hp
  exact h p [] (.refl S) S rfl
theorem gk_cons (ha : GE X Wx e me) (hr : GK X Wx kws ml) : GK X Wx (⟨nm, e, kpos⟩ :: kws) (mCons me ml) :=
  PKimp (pk_cons ha hr) fun σ H Q ⟨p, st, env, hp, S, E, h⟩ => tG_bind hp S E h fun q s1 x v t1 S1 E1 rx h1 => tG_bind rfl S1 E1 h1 fun q2 s2 y u t2 S2 E2 ry h2 =>
    h2 q2 (v :: u) (.refl S2) S2 ⟨v, u, rfl, RW.step t2 x v rx, ry⟩
/-- f(k = e, ..): n keywords, and where the parameters' values stand among them -/
def kwM (n : Nat) (ix : List Nat) (m : List W → Store → Res W) : List W → Store → Res W := fun ws st => if ws.length = n then m (pick ix ws) st else .bad
theorem ge_callK {ix : List Nat} {n : Nat} (F : FnG X.prog X.w X.K X.mg X.base k f fd ps m) (hr : Room k X.A) (hg : X.A.guards = some []) (tk : Takes X Wx) (gl : Gl X x) (hm : X.mg x = some (.ref f)) (kp : PySem.W.keepIn X.K (.ref f) = true)
    (hb : ∀ us : List Value, us.length = ks.length → bindArgs fd ⟨[], ks.zip us⟩ = pure (ps.zip (pick ix us)))
    (hkw : GK X Wx kws ml) (hall : (backToKw pos (keywordEach kws X.env)).all (·.1.isSome) = true := by rfl) (hks : (backToKw pos (keywordEach kws X.env)).filterMap (·.1) = ks := by rfl)
    (hn : ks.length = n := by rfl) (hdb : (x == ("__debug__" : Str)) = false := by decide) (hpl : ((backTo pos (starEach [] X.env)).any (·.1) || (backToKw pos (keywordEach kws X.env)).any (·.1.isNone)) = false := by rfl) :
    GE X Wx (.Call (.Name x p) [] kws pos) (mCall (kwM n ix m) ml) := by
  subst hn
  refine ⟨fun pins s σ H Q I ⟨q0, st, env, hp, S, E, h⟩ => ?_⟩
  refine wpAny_Call_Name_kw (ld_glob I gl hm ?_ hdb)
  have t := tG_bind (R := RWs X.K) (Q := fun vs H' => ∃ (q : Wh) (ws : List W) (s1 : Store), q.H = H' ∧ SR X.K q s1 ∧ RWs X.K q ws vs ∧ Fin X.K X.mg (RW X.K) Wx q σ Q (kwM ks.length ix m ws s1)) hp S E h
    fun q s1 ws vs t S1 E1 r h1 => ⟨q, ws, s1, rfl, S1, r, h1⟩
  refine PySem.W.callWith_KW0 (h₀ := X.base) I.ok.mod.kin kp hall (thn (hkw.run pos pins s σ H _ I t)
    fun us s1 ⟨vs, H1, I1, r, z⟩ => ⟨I1.kIn, ?_⟩) hpl
  obtain ⟨q, ws, s2, eH, S1, rw1, h1⟩ := z
  rw [hks]
  have hw : ws.length = ks.length := by
    by_cases c : ws.length = ks.length
    · exact c
    · unfold kwM at h1
      rw [if_neg c] at h1
      exact h1.elim
  unfold kwM at h1
  rw [if_pos hw] at h1
  have hn : (pick ix us).length = ps.length := by rw [← (pick_vals r ix).length, ← (pick_rws rw1 ix).length, len_of F h1]
  have b := BindsTo.of_eq (s := s1) (hb us (by rw [← r.length, ← rw1.length, hw]))
  exact run_G F hr hg tk b hn I1 (pick_vals r ix) eH S1 (pick_rws rw1 ix) h1
end
end Mi

namespace Mi
open PySem PySem.Spec PyProof.Rows L2

/-! ### the law's own call -/
theorem frz_ints {K : PySem.W.Frag} {p : Wh} : ∀ ns : List Int, RWs K p (ns.map W.int) (ns.map V.int)
  | [] => (rfl : ([] : List V) = [])
  | n :: ns => ⟨.int n, ns.map V.int, rfl, rfl, frz_ints ns⟩
section
variable {P : Program} {w : World} {K : PySem.W.Frag} {mg mb : Str → Option Value} {k : Nat} {fa a : Addr} {fd : FuncData} {x : Str} {s₁ : Shared} {vs : List Value} {ns : List Int} {m : List W → Store → Res W}
/-- from an abstract heap in which the script alone may be tracked -/
theorem law_core (KX : K.In s₁.heap) (hns : s₁.heap.Ns mainGlobals mg) (hb : s₁.heap.Ns builtinsNs mb) (hbb : ∀ x : Str, x ≠ "__name__" → mb x = bootBuiltins x) (hlim : s₁.heap.NoLimit) (hg : s₁.gens = #[])
    (ha : s₁.heap.get? a = some { cls := .type "list", data := .seq vs.toArray }) (hr : Room k callerA) (F : ∀ base : Heap, K.In base → base.Ns mainGlobals mg → FnG P w K mg base k fa fd [x] m)
    (hbind : ∀ (s : Shared) (u : Value), BindsTo s fd ⟨[u], []⟩ [(x, u)]) {st' : Store} (hm : m [.frz (ns.map W.int)] [] = .ok (.bl true) st')
    (H : Hp) (only : Only H) (hS : FrzAt K ⟨fun _ => a, 0, H, []⟩ a (ns.map V.int)) (hok : HOk P w H s₁.heap) (hA : ∀ b, H b ≠ none → b = a) (hK : H a ≠ none → K.lookup a = none) :
    codeAny (model P w) callerA (.call (.ref fa) ⟨[.ref a], []⟩) (fun r s' => r = .ok (.ret (.bool true)) ∧ OldK s₁.heap s'.heap ∧ s'.os = s₁.os ∧ AllBare s'.gens) s₁ := by
  let B := hidT s₁.heap H
  have inB : ∀ {b : Addr} {o : Obj}, s₁.heap.get? b = some o → H b = none → B.get? b = some o := fun e n => hidT_get e n
  have dicts : ∀ {b : Addr} {o : Obj} {es : Array DictEntry} {ep : Nat}, s₁.heap.get? b = some o → o.data = .dict es ep → H b = none := by
    intro b o es ep e d
    cases q : H b with
    | none => rfl
    | some u =>
      have eb := hA b (by rw [q]; exact fun z => nomatch z)
      rw [eb, ha] at e
      cases e
      cases (show Data.seq vs.toArray _ = Data.dict es ep from d)
  have nsB : ∀ {b : Addr} {f : Str → Option Value}, s₁.heap.Ns b f → B.Ns b f := fun ⟨o, es, ep, e, d, r⟩ => ⟨o, es, ep, inB e (dicts e d), d, r⟩
  have KB : K.In B := fun b o e => inB (KX b o e) (by
    cases q : H b with
    | none => rfl
    | some u =>
      exfalso
      have eb := hA b (by rw [q]; exact fun z => nomatch z)
      rw [eb, hK (by rw [← eb, q]; exact fun z => nomatch z)] at e
      cases e)
  obtain ⟨mc, hc1, hc2⟩ := hlim
  have e0 : Env0 P w K mg B callerA [] s₁ H :=
    ⟨rfl, ⟨KB, nsB hns, ⟨mb, nsB hb, hbb⟩, mc, nsB hc1, hc2⟩, fun b o e => of_hidT e, Nat.le_of_eq (hidT_size _ _), trivial, fun b z => (nomatch z), hok, .of_eq hg⟩
  have S0 : SR K ⟨fun _ => a, 0, H, []⟩ [] := ⟨rfl, fun i j h => absurd h (Nat.not_lt_zero _), fun i o e => by simp at e, fun b z => (nomatch z)⟩
  refine codeAny_mono ((F B KB (nsB hns)).run callerA [] s₁ H ⟨[.ref a], []⟩ [.ref a] [.ref a] [.frz (ns.map W.int)] ⟨fun _ => a, 0, H, []⟩ [] (fun v H' => v = .bl true) (fun _ _ _ => False)
    hr rfl e0 (hbind s₁ (.ref a)) (.cons rfl .nil) rfl rfl S0 ⟨.ref a, [], rfl, ⟨a, ns.map V.int, rfl, hS, frz_ints ns⟩, rfl⟩ ?_) fun r s' z => ?_
  · rw [hm]
    exact fun q v _ _ r => r
  · cases r with
    | error e =>
      obtain ⟨_, _, _, _, _, _, _, _, _, _, _, _, z⟩ := z
      exact z.elim
    | ok fl =>
      cases fl with
      | next => exact z.elim
      | brk => exact z.elim
      | cont => exact z.elim
      | ret u =>
        obtain ⟨v, H', os, bare, un, hok', r', q⟩ := z
        have q' : v = .bl true := q
        subst q'
        have eu : u = Value.bool true := r'
        subst eu
        refine ⟨rfl, OldK.of_keep fun b o e => ?_, os, bare⟩
        cases q : H b with
        | none => exact un.keep b o e q (fun z => nomatch z) (fun z => nomatch z)
        | some t =>
          rcases only b with z | ⟨ob, xs, z⟩
          · rw [q] at z
            cases z
          · obtain ⟨e1, _⟩ := hok b _ z
            obtain ⟨e2, _⟩ := hok' b _ (un.frzs b ob _ z)
            rw [e] at e1
            cases e1
            exact e2
theorem law_G (KX : K.In s₁.heap) (hns : s₁.heap.Ns mainGlobals mg) (hb : s₁.heap.Ns builtinsNs mb) (hbb : ∀ x : Str, x ≠ "__name__" → mb x = bootBuiltins x) (hlim : s₁.heap.NoLimit) (hg : s₁.gens = #[])
    (ha : s₁.heap.get? a = some { cls := .type "list", data := .seq vs.toArray }) (hi : IntsAre vs ns) (hl : ns.length ≤ sizeLine) (hr : Room k callerA) (F : ∀ base : Heap, K.In base → base.Ns mainGlobals mg → FnG P w K mg base k fa fd [x] m)
    (hbind : ∀ (s : Shared) (u : Value), BindsTo s fd ⟨[u], []⟩ [(x, u)]) {st' : Store} (hm : m [.frz (ns.map W.int)] [] = .ok (.bl true) st') :
    codeAny (model P w) callerA (.call (.ref fa) ⟨[.ref a], []⟩) (fun r s' => r = .ok (.ret (.bool true)) ∧ OldK s₁.heap s'.heap ∧ s'.os = s₁.os ∧ AllBare s'.gens) s₁ := by
  have rv := vals_ints hi
  have out : (Wh.mk (fun _ => a) 0 (fun b => if b = a then some (.frz { cls := .type "list", data := .seq vs.toArray } (.lst (ns.map V.int))) else none) []).out a := ⟨fun i h => absurd h (Nat.not_lt_zero _), fun z => nomatch z⟩
  cases hk : K.lookup a with
  | some o =>
    have e := KX a o hk
    rw [ha] at e
    cases e
    refine law_core KX hns hb hbb hlim hg ha hr F hbind hm (fun _ => none) (fun _ => .inl rfl) (.inr (.inr ⟨_, vs.toArray, _, hk, rfl, rfl, rfl, ?_, by simpa using rv⟩)) (fun b u z => nomatch (show (none : Option HO) = some u from z)) (fun b z => absurd rfl z) fun z => absurd rfl z
    rw [List.size_toArray, hi.length]
    exact hl
  | none =>
    refine law_core KX hns hb hbb hlim hg ha hr F hbind hm (fun b => if b = a then some (.frz { cls := .type "list", data := .seq vs.toArray } (.lst (ns.map V.int))) else none)
      (fun b => ?_) (.inl ⟨.inr ⟨{ cls := .type "list", data := .seq vs.toArray }, if_pos rfl⟩, out⟩) (fun b u z => ?_) (fun b z => ?_) fun _ => hk
    · by_cases h : b = a
      · exact .inr ⟨_, _, if_pos h⟩
      · exact .inl (if_neg h)
    · by_cases h : b = a
      · have z' := (if_pos h).symm.trans z
        cases z'
        subst h
        exact ⟨ha, by rw [List.length_map]; exact hl, vs, _, rv, ha⟩
      · have z' := (if_neg h).symm.trans z
        cases z'
    · by_cases h : b = a
      · exact h
      · exact absurd (if_neg h) z
end
/-- the goal that k_head leaves -/
theorem walkG {l : PySem.W.OpenLaw} {n k : Nat} {q : Program} {loose : List Str} {XP : (Str → Option Value) → Heap → Prop} {YP : World → Heap → Prop} {d : DefRec} {K : Params → PySem.W.Frag} {x : Str} {m : List W → Store → Res W}
    (hn : l.most = some n) (hn2 : n ≤ sizeLine) (hdf : d.params.defaults = []) (hr : Room k callerA) (hY : ∀ (w : World) (h : Heap), YP w h → (K w.params).In h)
    (F : ∀ (w : World) (mg : Str → Option Value) (fa : Addr) (h : Heap), (K w.params).In h → h.Ns mainGlobals mg → mg d.name = some (.ref fa) →
      ∃ fd : FuncData, (∀ (s : Shared) (u : Value), BindsTo s fd ⟨[u], []⟩ [(x, u)]) ∧ ∀ base : Heap, (K w.params).In base → base.Ns mainGlobals mg → FnG l.prog w (K w.params) mg base k fa fd [x] m)
    (hm : ∀ ns : List Int, ns.length ≤ n → ∃ st', m [.frz (ns.map W.int)] [] = .ok (.bl true) st') : PySem.W.WalkO q loose XP YP l.row.toRowW d [] (fun f vs => PySem.call f vs) := by
  refine Att.attach_call hn hdf fun w s₀ s₁ mg mb fa o pm cd doc a vs ns G Y ho hd hcd hmg hobj hints hlen hg => ?_
  have KX := hY w _ Y
  obtain ⟨fd, hb, hF⟩ := F w mg fa _ KX G.T.g hmg
  obtain ⟨st', e⟩ := hm ns hlen
  exact law_G KX G.T.g G.T.b G.T.builtins G.T.nolimit hg hobj hints (Nat.le_trans hlen hn2) hr hF hb e
end Mi

namespace Mi
open PySem PySem.Spec PyProof.Rows L2

/-! ### truth of any value -/
def truW (st : Store) : W → Option Bool
  | .non => some false
  | .bl b => some b
  | .int i => some (i != 0)
  | .str s => if s.length ≤ sizeLine then some ((s.length : Int) != 0) else none
  | .tup xs => some (!xs.isEmpty)
  | w => (listIn st w).map fun xs => !xs.isEmpty
def mTru (a : Ev W) : Ev Bool := fun env st => (a env st).bind fun w s1 => match truW s1 w with
  | some b => .ok b s1
  | none => .bad
section
variable {X : Cx} {Wx : WX} {a : Expr} {ma : Ev W}
theorem empty_of {K : PySem.W.Frag} {p : Wh} {xs : List W} {vs : List V} (r : RWs K p xs vs) : xs.isEmpty = vs.isEmpty := by
  cases xs with
  | nil =>
    have e : vs = [] := r
    rw [e]
    rfl
  | cons x xs =>
    obtain ⟨v, us, e, _⟩ := r
    rw [e]
    rfl
theorem truV_of {p : Wh} {st : Store} {w : W} {v : V} {b : Bool} (S : SR X.K p st) (r : RW X.K p w v) (h : truW st w = some b) : TruV X.K v p.H b := by
  have lists : ∀ xs, listIn st w = some xs → b = !xs.isEmpty → TruV X.K v p.H b := by
    intro xs e hb
    obtain ⟨a, vs, rfl, ta, rs⟩ := listIn_of S e r
    exact .inl ⟨vs, ta, by rw [hb, empty_of rs]⟩
  cases w with
  | non =>
    have e : v = .non := r
    subst e
    cases h
    exact rfl
  | bl b =>
    have e : v = .bl b := r
    subst e
    cases h
    exact rfl
  | int i =>
    have e : v = .int i := r
    subst e
    cases h
    exact rfl
  | str s =>
    have e : v = .str s := r
    subst e
    dsimp only [truW] at h
    by_cases c : s.length ≤ sizeLine
    · rw [if_pos c] at h
      cases h
      exact ⟨c, rfl⟩
    · rw [if_neg c] at h
      cases h
  | tup xs =>
    obtain ⟨a, vs, rfl, ta, rs⟩ := r
    cases h
    exact .inr (.inl ⟨vs, ta.seq, by rw [empty_of rs]⟩)
  | lst xs =>
    cases h
    exact lists xs rfl rfl
  | frz xs =>
    cases h
    exact lists xs rfl rfl
  | ref n =>
    dsimp only [truW] at h
    cases e : listIn st (.ref n) with
    | none =>
      rw [e] at h
      cases h
    | some xs =>
      rw [e] at h
      have h' : (!xs.isEmpty) = b := by simpa using h
      exact lists xs e h'.symm
theorem gt_tru (ha : GE X Wx a ma) (he : ∀ whole, isTrue a X.env whole = (do let v ← whole; standAt a.pos; holding [v] (truthy v)) := by intro _; rfl) : GT X Wx a (mTru ma) :=
  PTimp (pt_truth ha he) fun σ H Q ⟨p, st, env, hp, S, E, h⟩ => tG_bind hp S E h fun q s1 w v t S1 E1 r h1 => by
    cases e : truW s1 w with
    | none =>
      rw [e] at h1
      exact h1.elim
    | some b =>
      rw [e] at h1
      exact ⟨b, truV_of S1 r e, h1 q b (.refl S1) S1 rfl⟩
end

/-! ### the defs of a module -/
structure DefAt (K : PySem.W.Frag) (mg : Str → Option Value) (x : Str) (st : Stmt) : Prop where
  ex : ∃ (f : Addr) (fd : FuncData), Fun K x x st f fd ∧ mg x = some (.ref f)
structure DefOk (P : Program) (w : World) (K : PySem.W.Frag) (mg : Str → Option Value) (base : Heap) (x : Str) (st : Stmt) (k : Nat) (ps : List Str) (m : List W → Store → Res W) : Prop where
  ex : ∃ (f : Addr) (fd : FuncData), Fun K x x st f fd ∧ mg x = some (.ref f) ∧ FnG P w K mg base k f fd ps m
theorem defOk_of {P : Program} {w : World} {K : PySem.W.Frag} {mg : Str → Option Value} {base : Heap} {x : Str} {st : Stmt} {N ps : List Str} {k : Nat} {body : Sm} (D : DefAt K mg x st) (S : FnScope N ps (defScope st))
    (hb : ∀ (f : Addr) (cdv : Value) (A : Around) (outer : List Env) (s : Shared) (H : Hp) (E : XK), Room k (A.deeper (envOfC x (defScope st) s.heap.objs.size f cdv)) → A.guards = some [] →
      GSs (cxOf (L2.CX P w) P w K mg base N x (defScope st) f cdv A outer s H E) (WxE E) (defBody st) body) : DefOk P w K mg base x st (k + 1) ps (fnM ps.length N.length body) := by
  obtain ⟨f, fd, F, hm⟩ := D.ex
  exact ⟨f, fd, F, hm, fnG_of F S (hb f)⟩
section
variable {X : Cx} {Wx : WX} {k : Nat} {st : Stmt} {ps ks : List Str} {m : List W → Store → Res W} {x : Str} {p pos : Pos} {e : Expr} {es : List Expr} {ml : Ev (List W)} {kws : List Keyword}
theorem ge_callD (D : DefOk X.prog X.w X.K X.mg X.base x st k ps m) (hr : Room k X.A) (hg : X.A.guards = some []) (tk : Takes X Wx) (gl : Gl X x)
    (hbind : ∀ (kV doc pm : Value) (an : Option Addr) (cdv ct : Value) (us : List Value), us.length = ps.length → bindArgs (PySem.W.fnOf x x (defArgs st) (defBody st) (defScope st) .none kV doc pm an cdv ct) ⟨us, []⟩ = pure (ps.zip us))
    (ha : GA X Wx (e :: es) ml) (hdb : (x == ("__debug__" : Str)) = false := by decide) (he : starEach (e :: es) X.env = (false, eval e X.env) :: starEach es X.env := by rfl) (hpl : (backTo pos (starEach es X.env)).any (·.1) = false := by rfl) :
    GE X Wx (.Call (.Name x p) (e :: es) [] pos) (mCall m ml) := by
  obtain ⟨f, fd, F, hm, G⟩ := D.ex
  exact ge_call G hr hg tk gl hm F.kp (F.binds hbind) ha hdb he hpl
theorem ge_callKD {ix : List Nat} {n : Nat} (D : DefOk X.prog X.w X.K X.mg X.base x st k ps m) (hr : Room k X.A) (hg : X.A.guards = some []) (tk : Takes X Wx) (gl : Gl X x)
    (hbind : ∀ (kV doc pm : Value) (an : Option Addr) (cdv ct : Value) (us : List Value), us.length = ks.length → bindArgs (PySem.W.fnOf x x (defArgs st) (defBody st) (defScope st) .none kV doc pm an cdv ct) ⟨[], ks.zip us⟩ = pure (ps.zip (pick ix us)))
    (hkw : GK X Wx kws ml) (hall : (backToKw pos (keywordEach kws X.env)).all (·.1.isSome) = true := by rfl) (hks : (backToKw pos (keywordEach kws X.env)).filterMap (·.1) = ks := by rfl)
    (hn : ks.length = n := by rfl) (hdb : (x == ("__debug__" : Str)) = false := by decide) (hpl : ((backTo pos (starEach [] X.env)).any (·.1) || (backToKw pos (keywordEach kws X.env)).any (·.1.isNone)) = false := by rfl) :
    GE X Wx (.Call (.Name x p) [] kws pos) (mCall (kwM n ix m) ml) := by
  obtain ⟨f, fd, F, hm, G⟩ := D.ex
  obtain ⟨oc, od, kV, doc, pm, an, cdv, ct, osl, rfl, lk, hcd⟩ := F.ex
  exact ge_callK G hr hg tk gl hm F.kp (hbind kV doc pm an cdv ct) hkw hall hks hn hdb hpl
end
end Mi

namespace Mi
open PySem PySem.Spec PyProof.Rows L2
/-! ### what the operations give on ints and pairs of ints -/
theorem lt_int (i j : Int) : PySem.W.dataLt (.int i) (.int j) = decide (i < j) := by
  unfold PySem.W.dataLt
  simp only [PySem.W.keyToks, PyProof.Rows.lexLt, PyProof.Rows.itemLt, Bool.and_false, Bool.or_false]
theorem lt_pair (a b c d : Int) : PySem.W.dataLt (.tuple [.int a, .int b]) (.tuple [.int c, .int d]) = decide (a < c ∨ (a = c ∧ b < d)) := by
  unfold PySem.W.dataLt
  simp only [PySem.W.keyToks, PySem.W.keyToksAll, PyProof.Rows.lexLt, PyProof.Rows.itemLt, Bool.and_false, Bool.or_false, List.cons_append, List.nil_append, Int.lt_irrefl, decide_false, Bool.false_or, Bool.not_false, Bool.true_and]
  by_cases h1 : a < c
  · simp [h1]
  · by_cases h2 : c < a
    · have h3 : ¬ a = c := by omega
      simp [h1, h2, h3]
    · have h3 : a = c := by omega
      simp [h1, h2, h3]
theorem fD_ok {C g : PyData → PyData → Bool} {x y : W} {d e : PyData} {st : Store} {b : Bool} (hx : x.toD = some d) (hy : y.toD = some e) (hc : C d e = true) (hb : g d e = b) : fD C g x y st = .ok (.bl b) st := by
  unfold fD
  rw [hx, hy]
  dsimp only
  rw [if_pos hc, hb]
section
variable {st : Store} {i j : Int}
theorem f_lt : fLt (.int i) (.int j) st = .ok (.bl (decide (i < j))) st := fD_ok rfl rfl rfl (lt_int i j)
theorem f_gt : fGt (.int i) (.int j) st = .ok (.bl (decide (j < i))) st := fD_ok rfl rfl rfl (lt_int j i)
theorem f_le : fLe (.int i) (.int j) st = .ok (.bl (decide (i ≤ j))) st := fD_ok rfl rfl rfl (by
  rw [lt_int, ← decide_not]
  exact decide_eq_decide.mpr (by omega))
theorem f_ge : fGe (.int i) (.int j) st = .ok (.bl (decide (j ≤ i))) st := fD_ok rfl rfl rfl (by
  rw [lt_int, ← decide_not]
  exact decide_eq_decide.mpr (by omega))
theorem f_eq : fEq (.int i) (.int j) st = .ok (.bl (decide (i = j))) st := fD_ok rfl rfl rfl (by
  simp only [PyData.eqv]
  rfl)
theorem f_ne : fNe (.int i) (.int j) st = .ok (.bl (decide (i ≠ j))) st := fD_ok rfl rfl rfl (by
  simp only [PyData.eqv, ne_eq, decide_not]
  rfl)
theorem f_eqS {x y : Str} : fEq (.str x) (.str y) st = .ok (.bl (decide (x = y))) st := fD_ok rfl rfl rfl (by
  simp only [PyData.eqv]
  by_cases h : x = y
  · subst h
    simp
  · simp [h])
theorem f_neS {x y : Str} : fNe (.str x) (.str y) st = .ok (.bl (decide (x ≠ y))) st := fD_ok rfl rfl rfl (by
  simp only [PyData.eqv]
  by_cases h : x = y
  · subst h
    simp
  · simp [h])
theorem f_eqB {x y : Bool} : fEq (.bl x) (.bl y) st = .ok (.bl (decide (x = y))) st := fD_ok rfl rfl rfl (by cases x <;> cases y <;> rfl)
theorem f_neB {x y : Bool} : fNe (.bl x) (.bl y) st = .ok (.bl (decide (x ≠ y))) st := fD_ok rfl rfl rfl (by cases x <;> cases y <;> rfl)
/-- a pair of ints -/
abbrev pr (a b : Int) : W := .tup [.int a, .int b]
variable {a b c d : Int}
theorem f_ltP : fLt (pr a b) (pr c d) st = .ok (.bl (decide (a < c ∨ (a = c ∧ b < d)))) st := fD_ok rfl rfl rfl (lt_pair a b c d)
theorem f_gtP : fGt (pr a b) (pr c d) st = .ok (.bl (decide (c < a ∨ (c = a ∧ d < b)))) st := fD_ok rfl rfl rfl (lt_pair c d a b)
theorem f_leP : fLe (pr a b) (pr c d) st = .ok (.bl (decide (a < c ∨ (a = c ∧ b ≤ d)))) st := fD_ok rfl rfl rfl (by
  rw [lt_pair, ← decide_not]
  exact decide_eq_decide.mpr (by omega))
theorem f_geP : fGe (pr a b) (pr c d) st = .ok (.bl (decide (c < a ∨ (a = c ∧ d ≤ b)))) st := fD_ok rfl rfl rfl (by
  rw [lt_pair, ← decide_not]
  exact decide_eq_decide.mpr (by omega))
theorem f_eqP : fEq (pr a b) (pr c d) st = .ok (.bl (decide (a = c ∧ b = d))) st := fD_ok rfl rfl rfl (by
  simp only [PyData.eqv, PyData.eqvAll, Bool.and_true]
  by_cases h1 : a = c <;> by_cases h2 : b = d <;> simp [h1, h2])
theorem f_mod (h : 0 < j) : fMod (.int i) (.int j) st = .ok (.int (i % j)) st := if_pos h
theorem f_add : fAdd (.int i) (.int j) st = .ok (.int (i + j)) st := rfl
theorem f_sub : fSub (.int i) (.int j) st = .ok (.int (i - j)) st := rfl
theorem log_lt {n k : Nat} (h0 : 0 < k) (h : n < 2 ^ k) : n.log2 < k := PySem.Flt.log2_lt_of h0 h
theorem f_div (h : 0 < j) (h2 : j.natAbs < 2 ^ 1000) : fDiv (.int i) (.int j) st = .ok (.int (i / j)) st := if_pos ⟨h, Nat.lt_trans (log_lt (by decide) h2) (by decide)⟩
theorem f_mul (h : i.natAbs < 2 ^ 2000) (h2 : j.natAbs < 2 ^ 2000) : fMul (.int i) (.int j) st = .ok (.int (i * j)) st :=
  if_pos (by
    have := log_lt (by decide) h
    have := log_lt (by decide) h2
    omega)
theorem f_pow (h0 : 0 ≤ j) (h1 : j ≤ 1000) (h : i.natAbs < 2 ^ 2000) : fPow (.int i) (.int j) st = .ok (.int (i ^ j.toNat)) st :=
  if_pos ⟨h0, h1, Nat.lt_trans (log_lt (by decide) h) (by decide)⟩
theorem f_ixL {xs : List W} {n : Nat} {y : W} (h : st[n]? = some (.lst xs)) {k : Int} (ha : atI xs k = some y) : fIx (.ref n) (.int k) st = .ok y st := by
  show (match listIn st (.ref n) with | some xs => (match atI xs k with | some y => Res.ok y st | none => .bad) | none => .bad) = _
  simp only [listIn, h, ha]
theorem f_ixV {xs : List W} {k : Int} {y : W} (ha : atI xs k = some y) : fIx (.lst xs) (.int k) st = .ok y st := by
  show (match atI xs k with | some y => Res.ok y st | none => .bad) = _
  rw [ha]
theorem f_ixT {xs : List W} {k : Int} {y : W} (ha : atI xs k = some y) : fIx (.tup xs) (.int k) st = .ok y st := by
  show (match atI xs k with | some y => Res.ok y st | none => .bad) = _
  rw [ha]
theorem f_ixF {xs : List W} {k : Int} {y : W} (ha : atI xs k = some y) : fIx (.frz xs) (.int k) st = .ok y st := by
  show (match atI xs k with | some y => Res.ok y st | none => .bad) = _
  rw [ha]
end
theorem f_lenV {xs : List W} {st : Store} : fLen [.lst xs] st = .ok (.int xs.length) st := rfl
theorem f_lenF {xs : List W} {st : Store} : fLen [.frz xs] st = .ok (.int xs.length) st := rfl
theorem f_lenT {xs : List W} {st : Store} : fLen [.tup xs] st = .ok (.int xs.length) st := rfl
theorem short_int {a : Int} (h : a.natAbs < 2 ^ 64) : (Str.ofString (toString a)).length ≤ 65 := by
  have e := int_text_length_le (a := a) (k := 64) (by decide) (log_lt (by decide) h)
  rw [PySem.ofString_length]
  exact e
theorem f_reprP {a b : Int} {st : Store} (ha : a.natAbs < 2 ^ 64) (hb : b.natAbs < 2 ^ 64) : fRepr [pr a b] st = .ok (.str (PyData.shown (.tuple [.int a, .int b]))) st := by
  have l1 := Nat.lt_trans (log_lt (by decide) ha) (show 64 < 1920 by decide)
  have l2 := Nat.lt_trans (log_lt (by decide) hb) (show 64 < 1920 by decide)
  have hs : (PyData.shown (.tuple [.int a, .int b])).length ≤ sizeLine := by
    have e := tupleText_len_le [Str.ofString (toString a), Str.ofString (toString b)]
    have e1 := short_int ha
    have e2 := short_int hb
    simp only [List.map_cons, List.map_nil, List.sum_cons, List.sum_nil, List.length_cons, List.length_nil] at e
    have e3 : PyData.shown (.tuple [.int a, .int b]) = tupleText [Str.ofString (toString a), Str.ofString (toString b)] := rfl
    rw [e3, sizeLine_eq]
    omega
  have c : cRepr (.tuple [.int a, .int b]) = true := by
    unfold cRepr
    rw [Bool.and_eq_true, Bool.and_eq_true, Bool.and_eq_true, decide_eq_true_eq, decide_eq_true_eq]
    refine ⟨⟨⟨?_, rfl⟩, (by simp [PyData.depth, PyData.depthAll])⟩, hs⟩
    simp only [PyData.showable, PyData.showableAll, Bool.and_true, Bool.and_eq_true, decide_eq_true_eq]
    exact ⟨l1, l2⟩
  show (if cRepr (.tuple [.int a, .int b]) = true then Res.ok (W.str (PyData.shown (.tuple [.int a, .int b]))) st else .bad) = _
  rw [if_pos c]
/-! ### loops -/
theorem forEach_inv {body : Sm} {put : W → En → En} {xs : List W} (I : Nat → En → Store → Prop)
    (h : ∀ i x env st, xs[i]? = some x → I i env st → ∃ e2 s2, body (put x env) st = .go (.nx e2) s2 ∧ I (i + 1) e2 s2) (env : En) (st : Store) (h0 : I 0 env st) :
    ∃ e2 s2, forEach body put xs env st = .go (.nx e2) s2 ∧ I xs.length e2 s2 := by
  have go : ∀ (ys : List W) (k : Nat) (env : En) (st : Store), (∀ i, ys[i]? = xs[k + i]?) → k + ys.length = xs.length → I k env st → ∃ e2 s2, forEach body put ys env st = .go (.nx e2) s2 ∧ I xs.length e2 s2 := by
    intro ys
    induction ys with
    | nil =>
      intro k env st _ hl hI
      have e : k = xs.length := by simpa using hl
      subst e
      exact ⟨env, st, rfl, hI⟩
    | cons y ys ih =>
      intro k env st hy hl hI
      obtain ⟨e2, s2, e, hI2⟩ := h k y env st (by rw [← Nat.add_zero k, ← hy 0]; rfl) hI
      obtain ⟨e3, s3, e4, hI3⟩ := ih (k + 1) e2 s2 (fun i => by
        have z := hy (i + 1)
        rw [List.getElem?_cons_succ] at z
        rw [z]
        congr 1
        omega) (by rw [List.length_cons] at hl; omega) hI2
      refine ⟨e3, s3, ?_, hI3⟩
      unfold forEach
      rw [e]
      exact e4
  exact go xs 0 env st (fun i => by rw [Nat.zero_add]) (by omega) h0
/-- a comprehension whose elements are all True, while I goes on -/
theorem lc_true {put : W → En → En} {te : Ev W} {env : En} {xs : List W} (I : Nat → Store → Prop) (hn : xs.length ≤ 100000)
    (h : ∀ i x st, xs[i]? = some x → I i st → ∃ s2, te (put x env) st = .ok (.bl true) s2 ∧ I (i + 1) s2) (st : Store) (h0 : I 0 st) :
    ∃ s2, lcEach put yes te env xs [] st = .ok (List.replicate xs.length (.bl true)) s2 ∧ I xs.length s2 := by
  have go : ∀ (ys : List W) (k : Nat) (st : Store), (∀ i, ys[i]? = xs[k + i]?) → k + ys.length = xs.length → I k st → ∃ s2, lcEach put yes te env ys (List.replicate k (.bl true)) st = .ok (List.replicate xs.length (.bl true)) s2 ∧ I xs.length s2 := by
    intro ys
    induction ys with
    | nil =>
      intro k st _ hl hI
      have e : k = xs.length := by simpa using hl
      subst e
      exact ⟨st, rfl, hI⟩
    | cons y ys ih =>
      intro k st hy hl hI
      obtain ⟨s2, e, hI2⟩ := h k y st (by rw [← Nat.add_zero k, ← hy 0]; rfl) hI
      obtain ⟨s3, e4, hI3⟩ := ih (k + 1) s2 (fun i => by
        have z := hy (i + 1)
        rw [List.getElem?_cons_succ] at z
        rw [z]
        congr 1
        omega) (by rw [List.length_cons] at hl; omega) hI2
      refine ⟨s3, ?_, hI3⟩
      unfold lcEach
      rw [List.length_cons] at hl
      have c : (List.replicate k (W.bl true)).length < 100000 := by
        rw [List.length_replicate]
        omega
      simp only [yes, noX, Res.bind, if_true, e, if_pos c, ← List.replicate_succ']
      exact e4
  exact go xs 0 st (fun i => by rw [Nat.zero_add]) (by omega) h0
/-- a comprehension whose elements change nothing -/
theorem lc_map {put : W → En → En} {te : Ev W} {env : En} {xs : List W} {st : Store} (g : W → W) (hn : xs.length ≤ 100000) (h : ∀ x ∈ xs, te (put x env) st = .ok (g x) st) : lcEach put yes te env xs [] st = .ok (xs.map g) st := by
  have go : ∀ (ys acc : List W), (∀ x ∈ ys, te (put x env) st = .ok (g x) st) → acc.length + ys.length ≤ 100000 → lcEach put yes te env ys acc st = .ok (acc ++ ys.map g) st := by
    intro ys
    induction ys with
    | nil =>
      intro acc _ _
      rw [List.map_nil, List.append_nil]
      rfl
    | cons y ys ih =>
      intro acc hy hl
      have e := hy y List.mem_cons_self
      rw [List.length_cons] at hl
      have c : acc.length < 100000 := by omega
      unfold lcEach
      simp only [yes, noX, Res.bind, if_true, e, if_pos c]
      rw [ih (acc ++ [g y]) (fun x hx => hy x (List.mem_cons_of_mem _ hx)) (by rw [List.length_append, List.length_singleton]; omega), List.append_assoc, List.map_cons]
      rfl
  have z := go xs [] h (by simpa using hn)
  rw [List.nil_append] at z
  exact z
theorem mem_rng {lo : Int} {n : Nat} {x : W} (h : x ∈ rngW lo n) : ∃ i : Nat, i < n ∧ x = .int (lo + (i : Int)) := by
  unfold rngW at h
  obtain ⟨i, hi, e⟩ := List.mem_map.mp h
  exact ⟨i, List.mem_range.mp hi, e.symm⟩
theorem bools_rep : ∀ n : Nat, bools (List.replicate n (.bl true)) = some (List.replicate n true)
  | 0 => rfl
  | n + 1 => by
    rw [List.replicate_succ]
    unfold bools
    rw [bools_rep n]
    rfl
theorem f_all {n : Nat} {st : Store} : fAll [.lst (List.replicate n (.bl true))] st = .ok (.bl true) st := by
  show (match bools (List.replicate n (.bl true)) with | some bs => Res.ok (W.bl (bs.all id)) st | none => .bad) = _
  rw [bools_rep n]
  have e : (List.replicate n true).all id = true := by
    rw [List.all_eq_true]
    intro b hb
    rw [(List.mem_replicate.mp hb).2]
    rfl
  show Res.ok (W.bl ((List.replicate n true).all id)) st = _
  rw [e]
/-! ### a result that is had -/
def Got {α : Type} (r : Res α) (R : α → Store → Prop) : Prop := ∃ a st, r = .ok a st ∧ R a st
theorem Got.bind {α β : Type} {r : Res α} {k : α → Store → Res β} {R : α → Store → Prop} {R2 : β → Store → Prop} (h : Got r R) (hk : ∀ a st, R a st → Got (k a st) R2) : Got (r.bind k) R2 := by
  obtain ⟨a, st, rfl, ha⟩ := h
  exact hk a st ha
theorem Got.mono {α : Type} {r : Res α} {R R2 : α → Store → Prop} (h : Got r R) (hk : ∀ a st, R a st → R2 a st) : Got r R2 := by
  obtain ⟨a, st, e, ha⟩ := h
  exact ⟨a, st, e, hk a st ha⟩
theorem Got.of {α : Type} {a : α} {st : Store} {R : α → Store → Prop} (h : R a st) : Got (.ok a st) R := ⟨a, st, rfl, h⟩

/-! ### the draws -/
structure Pot (st : Store) (p : Nat) (c : Int) : Prop where
  ex : ∃ own seed cnt : Int, st[p]? = some (.lst [.int own, .int seed, .int cnt]) ∧ 0 ≤ own ∧ own.natAbs < 2 ^ 1000 ∧ 0 ≤ seed ∧ seed < 2 ^ 61 ∧ 0 ≤ cnt ∧ cnt ≤ c
/-- at most the thing at p has changed, and what is new -/
structure Fr (p : Nat) (st st' : Store) : Prop where
  len : st.length ≤ st'.length
  keep : ∀ i, i < st.length → i ≠ p → st'[i]? = st[i]?
theorem Fr.refl {p : Nat} {st : Store} : Fr p st st := ⟨Nat.le_refl _, fun _ _ _ => rfl⟩
theorem Fr.trans {p : Nat} {a b c : Store} (h : Fr p a b) (k : Fr p b c) : Fr p a c := ⟨Nat.le_trans h.len k.len, fun i hi hp => (k.keep i (Nat.lt_of_lt_of_le hi h.len) hp).trans (h.keep i hi hp)⟩
theorem Pot.mono {st : Store} {p : Nat} {c c' : Int} (h : Pot st p c) (hc : c ≤ c') : Pot st p c' := by
  obtain ⟨o, s, n, h1, h2, h3, h4, h5, h6, h7⟩ := h.ex
  exact ⟨o, s, n, h1, h2, h3, h4, h5, h6, by omega⟩
end Mi

namespace K11gen
open PySem PySem.Spec PyProof.Rows L2 Mi
def topS (i : Nat) : Stmt := PySem.Challenge.pw_farasnothing_k11_whole_stamps_in_order.main.body.getD i (.Pass ⟨0, 0, 0, 0⟩)
structure Blt (mg : Str → Option Value) : Prop where
  abs : mg "abs" = none
  all : mg "all" = none
  bool : mg "bool" = none
  int : mg "int" = none
  isinstance : mg "isinstance" = none
  len : mg "len" = none
  max : mg "max" = none
  min : mg "min" = none
  range : mg "range" = none
  repr : mg "repr" = none
  tuple : mg "tuple" = none
section
variable {P : Program} {w : World} {K : PySem.W.Frag} {mg : Str → Option Value} {base : Heap}
abbrev s_is_integer : Stmt := topS 5
theorem sc_is_integer : FnScope ["value"] ["value"] (defScope s_is_integer) := ⟨rfl, rfl, rfl, by decide +kernel, rfl, by decide +kernel, by decide +kernel⟩
def m_is_integer : List W → Store → Res W := fnM 1 1
  (sRet (mAndV (mUn (fIsi "int") (mV 0)) (mNotV (mUn (fIsi "bool") (mV 0)))))
theorem ok_is_integer (T : Blt mg) (D : DefAt K mg "is_integer" s_is_integer) : DefOk P w K mg base "is_integer" s_is_integer 1 ["value"] m_is_integer :=
  defOk_of (N := ["value"]) D sc_is_integer fun f cdv A outer s H E hr hg =>
  (gss_one (gs_ret (ge_and (ge_isi (T := "int") ty_int rfl T.isinstance rfl T.int (by decide +kernel) (ge_var 0)) (ge_one (ge_not (ge_isi (T := "bool") ty_bool rfl T.isinstance rfl T.bool (by decide +kernel) (ge_var 0)))))))
abbrev s_is_tuple_of : Stmt := topS 7
theorem sc_is_tuple_of : FnScope ["value", "many"] ["value", "many"] (defScope s_is_tuple_of) := ⟨rfl, rfl, rfl, by decide +kernel, rfl, by decide +kernel, by decide +kernel⟩
def m_is_tuple_of : List W → Store → Res W := fnM 2 2
  (sRet (mAndV (mUn (fIsi "tuple") (mV 0)) (mOp fEq (mCall fLen (mCons (mV 0) (mNil))) (mV 1))))
theorem ok_is_tuple_of (T : Blt mg) (D : DefAt K mg "is_tuple_of" s_is_tuple_of) : DefOk P w K mg base "is_tuple_of" s_is_tuple_of 1 ["value", "many"] m_is_tuple_of :=
  defOk_of (N := ["value", "many"]) D sc_is_tuple_of fun f cdv A outer s H E hr hg =>
  (gss_one (gs_ret (ge_and (ge_isi (T := "tuple") ty_tuple rfl T.isinstance rfl T.tuple (by decide +kernel) (ge_var 0)) (ge_one (ge_cmp (op_eqP hr.units) r2_data (ge_callB call_len rc_len rfl T.len (by decide +kernel) (ga_cons (ge_var 0) (ga_nil))) (ge_var 1) (nomark _))))))
abbrev s_l_pot : Stmt := topS 14
theorem sc_l_pot : FnScope ["_law_script", "_law_k", "_law_cell", "_law_own"] ["_law_script", "_law_k"] (defScope s_l_pot) := ⟨rfl, rfl, rfl, by decide +kernel, rfl, by decide +kernel, by decide +kernel⟩
def m_l_pot : List W → Store → Res W := fnM 2 4
  (sSeq (sSet 2 (mIf (mB (mOp fLt (mV 1) (mCall fLen (mCons (mV 0) (mNil))))) (mOp fIx (mV 0) (mV 1)) (mOp fAdd (mOp fMul (mC (.int 37)) (mV 1)) (mC (.int 11)))))
  (sSeq (sSet 3 (mOp fMul (mOp fMod (mCall fInt (mCons (mCall fAbs (mCons (mV 2) (mNil))) (mNil))) (mOp fPow (mOp fPow (mC (.int 10)) (mC (.int 60))) (mC (.int 5)))) (mCall fInt (mCons (mOp fGe (mCall fAbs (mCons (mV 2) (mNil))) (mOp fPow (mC (.int 10)) (mC (.int 18)))) (mNil)))))
  (sRet (mNew (mCons (mV 3) (mCons (mOp fMod (mCall fInt (mCons (mOp fAdd (mOp fAdd (mOp fMul (mOp fMod (mCall fInt (mCons (mV 2) (mNil))) (mC (.int 2305843009213693951))) (mC (.int 70441))) (mOp fMul (mOp fMul (mC (.int 6337)) (mV 1)) (mV 1))) (mC (.int 71))) (mNil))) (mC (.int 2305843009213693921))) (mCons (mC (.int 0)) (mNil))))))))
theorem ok_l_pot (T : Blt mg) (D : DefAt K mg "_law_pot" s_l_pot) : DefOk P w K mg base "_law_pot" s_l_pot 1 ["_law_script", "_law_k"] m_l_pot :=
  defOk_of (N := ["_law_script", "_law_k", "_law_cell", "_law_own"]) D sc_l_pot fun f cdv A outer s H E hr hg =>
  (gss_cons (gs_set (i := 2) sc_l_pot.nd rfl (by first | exact Or.inl rfl | exact Or.inr rfl) (ge_if (gt_cmp (op_ltP hr.units) r2_data (ge_var 1) (ge_callB call_len rc_len rfl T.len (by decide +kernel) (ga_cons (ge_var 0) (ga_nil))) (nomark _)) (ge_ix (ge_var 0) (ge_var 1) (fun _ _ => rfl)) (ge_op op_addA r2_add (ge_op op_mulW r2_mul (ge_int) (ge_var 1)) (ge_int))))
  (gss_cons (gs_set (i := 3) sc_l_pot.nd rfl (by first | exact Or.inl rfl | exact Or.inr rfl) (ge_op op_mulW r2_mul (ge_op op_mod r2_mod (ge_callTy call_int1 rc_int rfl T.int (by decide +kernel) (ga_cons (ge_callB call_abs rc_abs rfl T.abs (by decide +kernel) (ga_cons (ge_var 2) (ga_nil))) (ga_nil))) (ge_op op_powW r2_pow (ge_op op_powW r2_pow (ge_int) (ge_int)) (ge_int))) (ge_callTy call_int1 rc_int rfl T.int (by decide +kernel) (ga_cons (ge_cmp (op_geP hr.units) r2_data (ge_callB call_abs rc_abs rfl T.abs (by decide +kernel) (ga_cons (ge_var 2) (ga_nil))) (ge_op op_powW r2_pow (ge_int) (ge_int)) (nomark _)) (ga_nil)))))
  (gss_one (gs_ret (ge_new (ga_cons (ge_var 3) (ga_cons (ge_op op_mod r2_mod (ge_callTy call_int1 rc_int rfl T.int (by decide +kernel) (ga_cons (ge_op op_addA r2_add (ge_op op_addA r2_add (ge_op op_mulW r2_mul (ge_op op_mod r2_mod (ge_callTy call_int1 rc_int rfl T.int (by decide +kernel) (ga_cons (ge_var 2) (ga_nil))) (ge_int)) (ge_int)) (ge_op op_mulW r2_mul (ge_op op_mulW r2_mul (ge_int) (ge_var 1)) (ge_var 1))) (ge_int)) (ga_nil))) (ge_int)) (ga_cons (ge_int) (ga_nil)))))))))
abbrev s_l_take : Stmt := topS 15
theorem sc_l_take : FnScope ["_law_pot_here", "_law_upto", "_law_prime", "_law_mixed", "_law_digit"] ["_law_pot_here", "_law_upto"] (defScope s_l_take) := ⟨rfl, rfl, rfl, by decide +kernel, rfl, by decide +kernel, by decide +kernel⟩
def m_l_take : List W → Store → Res W := fnM 2 5
  (sSeq (sIf (mB (mOp fGt (mOp fIx (mV 0) (mC (.int 0))) (mC (.int 0)))) (sSeq (sSet 4 (mOp fMod (mCall fInt (mCons (mOp fIx (mV 0) (mC (.int 0))) (mNil))) (mV 1)))
  (sSeq (sPut (mOp fDiv (mOp fIx (mV 0) (mC (.int 0))) (mV 1)) (mV 0) (mC (.int 0)))
  (sRet (mV 4)))) (sNx))
  (sSeq (sPut (mOp fAdd (mOp fIx (mV 0) (mC (.int 2))) (mC (.int 1))) (mV 0) (mC (.int 2)))
  (sSeq (sSet 2 (mOp fIx (mLst (mCons (mC (.int 2147483647)) (mCons (mC (.int 2147483629)) (mCons (mC (.int 2147483587)) (mCons (mC (.int 2147483579)) (mCons (mC (.int 2147483563)) (mNil))))))) (mOp fMod (mCall fInt (mCons (mOp fIx (mV 0) (mC (.int 2))) (mNil))) (mC (.int 5)))))
  (sSeq (sSet 3 (mOp fMod (mCall fInt (mCons (mOp fPow (mCall fInt (mCons (mOp fAdd (mOp fAdd (mOp fIx (mV 0) (mC (.int 1))) (mOp fMul (mOp fMul (mC (.int 99907)) (mOp fIx (mV 0) (mC (.int 2)))) (mOp fIx (mV 0) (mC (.int 2))))) (mC (.int 53))) (mNil))) (mC (.int 3))) (mNil))) (mV 2)))
  (sSeq (sSet 3 (mOp fMod (mCall fInt (mCons (mOp fMul (mV 3) (mOp fAdd (mOp fMod (mCall fInt (mCons (mV 3) (mNil))) (mC (.int 10007))) (mOp fMul (mC (.int 89)) (mOp fIx (mV 0) (mC (.int 2)))))) (mNil))) (mC (.int 2305843009213693907))))
  (sRet (mOp fMod (mCall fInt (mCons (mOp fDiv (mV 3) (mC (.int 103))) (mNil))) (mV 1))))))))
theorem ok_l_take (T : Blt mg) (D : DefAt K mg "_law_take" s_l_take) : DefOk P w K mg base "_law_take" s_l_take 1 ["_law_pot_here", "_law_upto"] m_l_take :=
  defOk_of (N := ["_law_pot_here", "_law_upto", "_law_prime", "_law_mixed", "_law_digit"]) D sc_l_take fun f cdv A outer s H E hr hg =>
  (gss_cons (gs_if (gt_cmp (op_gtP hr.units) r2_data (ge_ix (ge_var 0) (ge_int) (fun _ _ => rfl)) (ge_int) (nomark _)) (gss_cons (gs_set (i := 4) sc_l_take.nd rfl (by first | exact Or.inl rfl | exact Or.inr rfl) (ge_op op_mod r2_mod (ge_callTy call_int1 rc_int rfl T.int (by decide +kernel) (ga_cons (ge_ix (ge_var 0) (ge_int) (fun _ _ => rfl)) (ga_nil))) (ge_var 1)))
  (gss_cons (gs_put (ge_var 0) (ge_int) (ge_op op_fdivW r2_div (ge_ix (ge_var 0) (ge_int) (fun _ _ => rfl)) (ge_var 1)))
  (gss_one (gs_ret (ge_var 4))))) (gss_nil))
  (gss_cons (gs_put (ge_var 0) (ge_int) (ge_op op_addA r2_add (ge_ix (ge_var 0) (ge_int) (fun _ _ => rfl)) (ge_int)))
  (gss_cons (gs_set (i := 2) sc_l_take.nd rfl (by first | exact Or.inl rfl | exact Or.inr rfl) (ge_ix (ge_lst (ga_cons (ge_int) (ga_cons (ge_int) (ga_cons (ge_int) (ga_cons (ge_int) (ga_cons (ge_int) (ga_nil))))))) (ge_op op_mod r2_mod (ge_callTy call_int1 rc_int rfl T.int (by decide +kernel) (ga_cons (ge_ix (ge_var 0) (ge_int) (fun _ _ => rfl)) (ga_nil))) (ge_int)) (fun _ _ => rfl)))
  (gss_cons (gs_set (i := 3) sc_l_take.nd rfl (by first | exact Or.inl rfl | exact Or.inr rfl) (ge_op op_mod r2_mod (ge_callTy call_int1 rc_int rfl T.int (by decide +kernel) (ga_cons (ge_op op_powW r2_pow (ge_callTy call_int1 rc_int rfl T.int (by decide +kernel) (ga_cons (ge_op op_addA r2_add (ge_op op_addA r2_add (ge_ix (ge_var 0) (ge_int) (fun _ _ => rfl)) (ge_op op_mulW r2_mul (ge_op op_mulW r2_mul (ge_int) (ge_ix (ge_var 0) (ge_int) (fun _ _ => rfl))) (ge_ix (ge_var 0) (ge_int) (fun _ _ => rfl)))) (ge_int)) (ga_nil))) (ge_int)) (ga_nil))) (ge_var 2)))
  (gss_cons (gs_set (i := 3) sc_l_take.nd rfl (by first | exact Or.inl rfl | exact Or.inr rfl) (ge_op op_mod r2_mod (ge_callTy call_int1 rc_int rfl T.int (by decide +kernel) (ga_cons (ge_op op_mulW r2_mul (ge_var 3) (ge_op op_addA r2_add (ge_op op_mod r2_mod (ge_callTy call_int1 rc_int rfl T.int (by decide +kernel) (ga_cons (ge_var 3) (ga_nil))) (ge_int)) (ge_op op_mulW r2_mul (ge_int) (ge_ix (ge_var 0) (ge_int) (fun _ _ => rfl))))) (ga_nil))) (ge_int)))
  (gss_one (gs_ret (ge_op op_mod r2_mod (ge_callTy call_int1 rc_int rfl T.int (by decide +kernel) (ga_cons (ge_op op_fdivW r2_div (ge_var 3) (ge_int)) (ga_nil))) (ge_var 1)))))))))
abbrev s_l_later : Stmt := topS 19
theorem sc_l_later : FnScope ["_law_moment_here", "_law_gap"] ["_law_moment_here", "_law_gap"] (defScope s_l_later) := ⟨rfl, rfl, rfl, by decide +kernel, rfl, by decide +kernel, by decide +kernel⟩
def m_l_later : List W → Store → Res W := fnM 2 2
  (sRet (mIf (mB (mOp fGt (mV 1) (mC (.int 0)))) (mTup (mCons (mOp fAdd (mOp fIx (mV 0) (mC (.int 0))) (mV 1)) (mCons (mC (.int 0)) (mNil)))) (mTup (mCons (mOp fIx (mV 0) (mC (.int 0))) (mCons (mOp fAdd (mOp fIx (mV 0) (mC (.int 1))) (mC (.int 1))) (mNil))))))
theorem ok_l_later (T : Blt mg) (D : DefAt K mg "_law_later" s_l_later) : DefOk P w K mg base "_law_later" s_l_later 1 ["_law_moment_here", "_law_gap"] m_l_later :=
  defOk_of (N := ["_law_moment_here", "_law_gap"]) D sc_l_later fun f cdv A outer s H E hr hg =>
  (gss_one (gs_ret (ge_if (gt_cmp (op_gtP hr.units) r2_data (ge_var 1) (ge_int) (nomark _)) (ge_tup (ga_cons (ge_op op_addA r2_add (ge_ix (ge_var 0) (ge_int) (fun _ _ => rfl)) (ge_var 1)) (ga_cons (ge_int) (ga_nil)))) (ge_tup (ga_cons (ge_ix (ge_var 0) (ge_int) (fun _ _ => rfl)) (ga_cons (ge_op op_addA r2_add (ge_ix (ge_var 0) (ge_int) (fun _ _ => rfl)) (ge_int)) (ga_nil)))))))
abbrev s_l_ahead : Stmt := topS 20
theorem sc_l_ahead : FnScope ["_law_moment_here", "_law_gap", "_law_time", "_law_turn", "_law_first"] ["_law_moment_here", "_law_gap"] (defScope s_l_ahead) := ⟨rfl, rfl, rfl, by decide +kernel, rfl, by decide +kernel, by decide +kernel⟩
def m_l_ahead : List W → Store → Res W := fnM 2 5
  (sSeq (sUnp [2, 3] (mV 0))
  (sSeq (sIf (mB (mOp fEq (mV 1) (mC (.int 0)))) (sRet (mTup (mCons (mV 2) (mCons (mCall fMax2 (mCons (mC (.int 0)) (mCons (mOp fSub (mV 3) (mC (.int 1))) (mNil)))) (mNil))))) (sNx))
  (sSeq (sSet 4 (mIf (mB (mOp fEq (mV 3) (mC (.int 0)))) (mOp fSub (mV 2) (mV 1)) (mOp fAdd (mOp fSub (mV 2) (mV 1)) (mC (.int 1)))))
  (sRet (mTup (mCons (mCall fMax2 (mCons (mC (.int 0)) (mCons (mV 4) (mNil)))) (mCons (mC (.int 0)) (mNil))))))))
theorem ok_l_ahead (T : Blt mg) (D : DefAt K mg "_law_ahead" s_l_ahead) : DefOk P w K mg base "_law_ahead" s_l_ahead 1 ["_law_moment_here", "_law_gap"] m_l_ahead :=
  defOk_of (N := ["_law_moment_here", "_law_gap", "_law_time", "_law_turn", "_law_first"]) D sc_l_ahead fun f cdv A outer s H E hr hg =>
  (gss_cons (gs_unp (is := [2, 3]) (pg_tup rfl (pgs_cons (pg_name (i := 2) sc_l_ahead.nd rfl (by first | exact Or.inl rfl | exact Or.inr rfl)) (pgs_cons (pg_name (i := 3) sc_l_ahead.nd rfl (by first | exact Or.inl rfl | exact Or.inr rfl)) (pgs_nil)))) (ge_var 0))
  (gss_cons (gs_if (gt_cmp (op_eqP hr.units) r2_data (ge_var 1) (ge_int) (nomark _)) (gss_one (gs_ret (ge_tup (ga_cons (ge_var 2) (ga_cons (ge_callB (call_max2 rfl) rc_max2 rfl T.max (by decide +kernel) (ga_cons (ge_int) (ga_cons (ge_op op_sub r2_sub (ge_var 3) (ge_int)) (ga_nil)))) (ga_nil)))))) (gss_nil))
  (gss_cons (gs_set (i := 4) sc_l_ahead.nd rfl (by first | exact Or.inl rfl | exact Or.inr rfl) (ge_if (gt_cmp (op_eqP hr.units) r2_data (ge_var 3) (ge_int) (nomark _)) (ge_op op_sub r2_sub (ge_var 2) (ge_var 1)) (ge_op op_addA r2_add (ge_op op_sub r2_sub (ge_var 2) (ge_var 1)) (ge_int))))
  (gss_one (gs_ret (ge_tup (ga_cons (ge_callB (call_max2 rfl) rc_max2 rfl T.max (by decide +kernel) (ga_cons (ge_int) (ga_cons (ge_var 4) (ga_nil)))) (ga_cons (ge_int) (ga_nil)))))))))
abbrev s_l_near : Stmt := topS 21
theorem sc_l_near : FnScope ["_law_moment_here", "_law_time", "_law_turn", "_law_found", "_law_beside_here", "_law_other"] ["_law_moment_here"] (defScope s_l_near) := ⟨rfl, rfl, rfl, by decide +kernel, rfl, by decide +kernel, by decide +kernel⟩
def m_l_near_e1 : Ev W := mTup (mCons (mV 4) (mCons (mV 5) (mNil)))
def m_l_near_b1 : Sm := sDrop (mBM fExtend (mV 3) (mCons (mLcR1 [5] (setN 5) (mCons (mOp fAdd (mV 2) (mC (.int 3))) (mNil)) (yes) (m_l_near_e1)) (mNil)))
def m_l_near : List W → Store → Res W := fnM 1 6
  (sSeq (sUnp [1, 2] (mV 0))
  (sSeq (sSet 3 (mNew (mNil)))
  (sSeq (sForR2 (mCons (mCall fMax2 (mCons (mC (.int 0)) (mCons (mOp fSub (mV 1) (mC (.int 2))) (mNil)))) (mCons (mOp fAdd (mV 1) (mC (.int 2))) (mNil))) 4 (m_l_near_b1))
  (sRet (mV 3)))))
theorem ok_l_near (T : Blt mg) (D : DefAt K mg "_law_near" s_l_near) : DefOk P w K mg base "_law_near" s_l_near 1 ["_law_moment_here"] m_l_near :=
  defOk_of (N := ["_law_moment_here", "_law_time", "_law_turn", "_law_found", "_law_beside_here", "_law_other"]) D sc_l_near fun f cdv A outer s H E hr hg =>
  (gss_cons (gs_unp (is := [1, 2]) (pg_tup rfl (pgs_cons (pg_name (i := 1) sc_l_near.nd rfl (by first | exact Or.inl rfl | exact Or.inr rfl)) (pgs_cons (pg_name (i := 2) sc_l_near.nd rfl (by first | exact Or.inl rfl | exact Or.inr rfl)) (pgs_nil)))) (ge_var 0))
  (gss_cons (gs_set (i := 3) sc_l_near.nd rfl (by first | exact Or.inl rfl | exact Or.inr rfl) (ge_new (ga_nil)))
  (gss_cons (gs_forR2 (i := 4) (passes_of rfl) rfl rfl T.range (ga_cons (ge_callB (call_max2 rfl) rc_max2 rfl T.max (by decide +kernel) (ga_cons (ge_int) (ga_cons (ge_op op_sub r2_sub (ge_var 1) (ge_int)) (ga_nil)))) (ga_cons (ge_op op_addA r2_add (ge_var 1) (ge_int)) (ga_nil))) sc_l_near.nd rfl (by first | exact Or.inl rfl | exact Or.inr rfl) (gss_one (gs_expr (ge_lm PySem.F.slot_list_extend PySem.F.type_list_extend mt_extend rm_extend (ge_var 3) (ga_cons (ge_lcR1 (own := [("_law_other", 5)]) ⟨blkOk_by (N := ["_law_moment_here", "_law_time", "_law_turn", "_law_found", "_law_beside_here", "_law_other"]) (sc := defScope s_l_near) (by decide +kernel), fun _ _ _ _ _ => pg_name (i := 5) sc_l_near.nd rfl (by first | exact Or.inl rfl | exact Or.inr rfl), fun _ _ _ _ _ => gp_nil, fun _ _ _ _ _ => ge_tup (ga_cons (ge_var 4) (ga_cons (ge_var 5) (ga_nil)))⟩ (fun _ => putLc_name (by decide)) rfl sc_l_near.nd rfl T.range (ga_cons (ge_op op_addA r2_add (ge_var 2) (ge_int)) (ga_nil))) (ga_nil))))))
  (gss_one (gs_ret (ge_var 3))))))
abbrev s_is_count : Stmt := topS 6
theorem sc_is_count : FnScope ["value"] ["value"] (defScope s_is_count) := ⟨rfl, rfl, rfl, by decide +kernel, rfl, by decide +kernel, by decide +kernel⟩
def m_is_count : List W → Store → Res W := fnM 1 1
  (sRet (mAndV (mCall m_is_integer (mCons (mV 0) (mNil))) (mOp fGe (mV 0) (mC (.int 0)))))
theorem ok_is_count (T : Blt mg) (D : DefAt K mg "is_count" s_is_count) (D_is_integer : DefOk P w K mg base "is_integer" s_is_integer 1 ["value"] m_is_integer) : DefOk P w K mg base "is_count" s_is_count 2 ["value"] m_is_count :=
  defOk_of (N := ["value"]) D sc_is_count fun f cdv A outer s H E hr hg =>
  (gss_one (gs_ret (ge_and (ge_callD D_is_integer hr hg (takes_of rfl rfl rfl rfl) rfl (fun _ _ _ _ _ _ us hl => match us, hl with | [_], _ => rfl) (ga_cons (ge_var 0) (ga_nil))) (ge_one (ge_cmp (op_geP hr.units) r2_data (ge_var 0) (ge_int) (nomark _))))))
abbrev s_l_of : Stmt := topS 16
theorem sc_l_of : FnScope ["_law_pot_here", "_law_some"] ["_law_pot_here", "_law_some"] (defScope s_l_of) := ⟨rfl, rfl, rfl, by decide +kernel, rfl, by decide +kernel, by decide +kernel⟩
def m_l_of : List W → Store → Res W := fnM 2 2
  (sRet (mOp fIx (mV 1) (mCall m_l_take (mCons (mV 0) (mCons (mCall fLen (mCons (mV 1) (mNil))) (mNil))))))
theorem ok_l_of (T : Blt mg) (D : DefAt K mg "_law_of" s_l_of) (D_l_take : DefOk P w K mg base "_law_take" s_l_take 1 ["_law_pot_here", "_law_upto"] m_l_take) : DefOk P w K mg base "_law_of" s_l_of 2 ["_law_pot_here", "_law_some"] m_l_of :=
  defOk_of (N := ["_law_pot_here", "_law_some"]) D sc_l_of fun f cdv A outer s H E hr hg =>
  (gss_one (gs_ret (ge_ix (ge_var 1) (ge_callD D_l_take hr hg (takes_of rfl rfl rfl rfl) rfl (fun _ _ _ _ _ _ us hl => match us, hl with | [_, _], _ => rfl) (ga_cons (ge_var 0) (ga_cons (ge_callB call_len rc_len rfl T.len (by decide +kernel) (ga_cons (ge_var 1) (ga_nil))) (ga_nil)))) (fun _ _ => rfl))))
abbrev s_is_stamp : Stmt := topS 9
theorem sc_is_stamp : FnScope ["value"] ["value"] (defScope s_is_stamp) := ⟨rfl, rfl, rfl, by decide +kernel, rfl, by decide +kernel, by decide +kernel⟩
def m_is_stamp : List W → Store → Res W := fnM 1 1
  (sRet (mAndV (mCall m_is_tuple_of (mCons (mV 0) (mCons (mC (.int 2)) (mNil)))) (mAndV (mCall m_is_count (mCons (mOp fIx (mV 0) (mC (.int 0))) (mNil))) (mCall m_is_count (mCons (mOp fIx (mV 0) (mC (.int 1))) (mNil))))))
theorem ok_is_stamp (T : Blt mg) (D : DefAt K mg "is_stamp" s_is_stamp) (D_is_tuple_of : DefOk P w K mg base "is_tuple_of" s_is_tuple_of 1 ["value", "many"] m_is_tuple_of) (D_is_count : DefOk P w K mg base "is_count" s_is_count 2 ["value"] m_is_count) : DefOk P w K mg base "is_stamp" s_is_stamp 3 ["value"] m_is_stamp :=
  defOk_of (N := ["value"]) D sc_is_stamp fun f cdv A outer s H E hr hg =>
  (gss_one (gs_ret (ge_and (ge_callD D_is_tuple_of (hr.mono (by decide)) hg (takes_of rfl rfl rfl rfl) rfl (fun _ _ _ _ _ _ us hl => match us, hl with | [_, _], _ => rfl) (ga_cons (ge_var 0) (ga_cons (ge_int) (ga_nil)))) (ge_and (ge_callD D_is_count hr hg (takes_of rfl rfl rfl rfl) rfl (fun _ _ _ _ _ _ us hl => match us, hl with | [_], _ => rfl) (ga_cons (ge_ix (ge_var 0) (ge_int) (fun _ _ => rfl)) (ga_nil))) (ge_one (ge_callD D_is_count hr hg (takes_of rfl rfl rfl rfl) rfl (fun _ _ _ _ _ _ us hl => match us, hl with | [_], _ => rfl) (ga_cons (ge_ix (ge_var 0) (ge_int) (fun _ _ => rfl)) (ga_nil))))))))
abbrev s_l_moment : Stmt := topS 17
theorem sc_l_moment : FnScope ["_law_pot_here"] ["_law_pot_here"] (defScope s_l_moment) := ⟨rfl, rfl, rfl, by decide +kernel, rfl, by decide +kernel, by decide +kernel⟩
def m_l_moment : List W → Store → Res W := fnM 1 1
  (sRet (mTup (mCons (mCall m_l_take (mCons (mV 0) (mCons (mCall m_l_of (mCons (mV 0) (mCons (mLst (mCons (mC (.int 2)) (mCons (mC (.int 5)) (mCons (mC (.int 40)) (mCons (mOp fPow (mC (.int 10)) (mC (.int 6))) (mNil)))))) (mNil)))) (mNil)))) (mCons (mCall m_l_of (mCons (mV 0) (mCons (mLst (mCons (mC (.int 0)) (mCons (mC (.int 0)) (mCons (mC (.int 1)) (mCons (mC (.int 2)) (mCons (mCall m_l_take (mCons (mV 0) (mCons (mC (.int 30)) (mNil)))) (mNil))))))) (mNil)))) (mNil)))))
theorem ok_l_moment (T : Blt mg) (D : DefAt K mg "_law_moment" s_l_moment) (D_l_of : DefOk P w K mg base "_law_of" s_l_of 2 ["_law_pot_here", "_law_some"] m_l_of) (D_l_take : DefOk P w K mg base "_law_take" s_l_take 1 ["_law_pot_here", "_law_upto"] m_l_take) : DefOk P w K mg base "_law_moment" s_l_moment 3 ["_law_pot_here"] m_l_moment :=
  defOk_of (N := ["_law_pot_here"]) D sc_l_moment fun f cdv A outer s H E hr hg =>
  (gss_one (gs_ret (ge_tup (ga_cons (ge_callD D_l_take (hr.mono (by decide)) hg (takes_of rfl rfl rfl rfl) rfl (fun _ _ _ _ _ _ us hl => match us, hl with | [_, _], _ => rfl) (ga_cons (ge_var 0) (ga_cons (ge_callD D_l_of hr hg (takes_of rfl rfl rfl rfl) rfl (fun _ _ _ _ _ _ us hl => match us, hl with | [_, _], _ => rfl) (ga_cons (ge_var 0) (ga_cons (ge_lst (ga_cons (ge_int) (ga_cons (ge_int) (ga_cons (ge_int) (ga_cons (ge_op op_powW r2_pow (ge_int) (ge_int)) (ga_nil)))))) (ga_nil)))) (ga_nil)))) (ga_cons (ge_callD D_l_of hr hg (takes_of rfl rfl rfl rfl) rfl (fun _ _ _ _ _ _ us hl => match us, hl with | [_, _], _ => rfl) (ga_cons (ge_var 0) (ga_cons (ge_lst (ga_cons (ge_int) (ga_cons (ge_int) (ga_cons (ge_int) (ga_cons (ge_int) (ga_cons (ge_callD D_l_take (hr.mono (by decide)) hg (takes_of rfl rfl rfl rfl) rfl (fun _ _ _ _ _ _ us hl => match us, hl with | [_, _], _ => rfl) (ga_cons (ge_var 0) (ga_cons (ge_int) (ga_nil)))) (ga_nil))))))) (ga_nil)))) (ga_nil))))))
abbrev s_require_both : Stmt := topS 12
theorem sc_require_both : FnScope ["stamp", "delay"] ["stamp", "delay"] (defScope s_require_both) := ⟨rfl, rfl, rfl, by decide +kernel, rfl, by decide +kernel, by decide +kernel⟩
def m_require_both : List W → Store → Res W := fnM 2 2
  (sSeq (sIf (mNot (mTru (mCall m_is_stamp (mCons (mV 0) (mNil))))) (sBad) (sNx))
  (sIf (mNot (mTru (mCall m_is_count (mCons (mV 1) (mNil))))) (sBad) (sNx)))
theorem ok_require_both (T : Blt mg) (D : DefAt K mg "require_both" s_require_both) (D_is_stamp : DefOk P w K mg base "is_stamp" s_is_stamp 3 ["value"] m_is_stamp) (D_is_count : DefOk P w K mg base "is_count" s_is_count 2 ["value"] m_is_count) : DefOk P w K mg base "require_both" s_require_both 4 ["stamp", "delay"] m_require_both :=
  defOk_of (N := ["stamp", "delay"]) D sc_require_both fun f cdv A outer s H E hr hg =>
  (gss_cons (gs_if (gt_not (gt_tru (ge_callD D_is_stamp hr hg (takes_of rfl rfl rfl rfl) rfl (fun _ _ _ _ _ _ us hl => match us, hl with | [_], _ => rfl) (ga_cons (ge_var 0) (ga_nil))) (fun _ => rfl))) (gss_one (gs_never)) (gss_nil))
  (gss_one (gs_if (gt_not (gt_tru (ge_callD D_is_count (hr.mono (by decide)) hg (takes_of rfl rfl rfl rfl) rfl (fun _ _ _ _ _ _ us hl => match us, hl with | [_], _ => rfl) (ga_cons (ge_var 1) (ga_nil))) (fun _ => rfl))) (gss_one (gs_never)) (gss_nil))))
abbrev s_l_beside : Stmt := topS 18
theorem sc_l_beside : FnScope ["_law_pot_here", "_law_one", "_law_time", "_law_turn", "_law_some"] ["_law_pot_here", "_law_one"] (defScope s_l_beside) := ⟨rfl, rfl, rfl, by decide +kernel, rfl, by decide +kernel, by decide +kernel⟩
def m_l_beside : List W → Store → Res W := fnM 2 5
  (sSeq (sUnp [2, 3] (mV 1))
  (sSeq (sSet 4 (mLst (mCons (mV 1) (mCons (mTup (mCons (mV 2) (mCons (mOp fAdd (mV 3) (mC (.int 1))) (mNil)))) (mCons (mTup (mCons (mOp fAdd (mV 2) (mC (.int 1))) (mCons (mC (.int 0)) (mNil)))) (mCons (mTup (mCons (mOp fAdd (mV 2) (mC (.int 1))) (mCons (mV 3) (mNil)))) (mCons (mTup (mCons (mV 2) (mCons (mC (.int 0)) (mNil)))) (mCons (mTup (mCons (mCall fMax2 (mCons (mC (.int 0)) (mCons (mOp fSub (mV 2) (mC (.int 1))) (mNil)))) (mCons (mOp fAdd (mV 3) (mC (.int 2))) (mNil)))) (mNil)))))))))
  (sRet (mCall m_l_of (mCons (mV 0) (mCons (mOp fAdd (mV 4) (mLst (mCons (mCall m_l_moment (mCons (mV 0) (mNil))) (mNil)))) (mNil)))))))
theorem ok_l_beside (T : Blt mg) (D : DefAt K mg "_law_beside" s_l_beside) (D_l_of : DefOk P w K mg base "_law_of" s_l_of 2 ["_law_pot_here", "_law_some"] m_l_of) (D_l_moment : DefOk P w K mg base "_law_moment" s_l_moment 3 ["_law_pot_here"] m_l_moment) : DefOk P w K mg base "_law_beside" s_l_beside 4 ["_law_pot_here", "_law_one"] m_l_beside :=
  defOk_of (N := ["_law_pot_here", "_law_one", "_law_time", "_law_turn", "_law_some"]) D sc_l_beside fun f cdv A outer s H E hr hg =>
  (gss_cons (gs_unp (is := [2, 3]) (pg_tup rfl (pgs_cons (pg_name (i := 2) sc_l_beside.nd rfl (by first | exact Or.inl rfl | exact Or.inr rfl)) (pgs_cons (pg_name (i := 3) sc_l_beside.nd rfl (by first | exact Or.inl rfl | exact Or.inr rfl)) (pgs_nil)))) (ge_var 1))
  (gss_cons (gs_set (i := 4) sc_l_beside.nd rfl (by first | exact Or.inl rfl | exact Or.inr rfl) (ge_lst (ga_cons (ge_var 1) (ga_cons (ge_tup (ga_cons (ge_var 2) (ga_cons (ge_op op_addA r2_add (ge_var 3) (ge_int)) (ga_nil)))) (ga_cons (ge_tup (ga_cons (ge_op op_addA r2_add (ge_var 2) (ge_int)) (ga_cons (ge_int) (ga_nil)))) (ga_cons (ge_tup (ga_cons (ge_op op_addA r2_add (ge_var 2) (ge_int)) (ga_cons (ge_var 3) (ga_nil)))) (ga_cons (ge_tup (ga_cons (ge_var 2) (ga_cons (ge_int) (ga_nil)))) (ga_cons (ge_tup (ga_cons (ge_callB (call_max2 rfl) rc_max2 rfl T.max (by decide +kernel) (ga_cons (ge_int) (ga_cons (ge_op op_sub r2_sub (ge_var 2) (ge_int)) (ga_nil)))) (ga_cons (ge_op op_addA r2_add (ge_var 3) (ge_int)) (ga_nil)))) (ga_nil)))))))))
  (gss_one (gs_ret (ge_callD D_l_of (hr.mono (by decide)) hg (takes_of rfl rfl rfl rfl) rfl (fun _ _ _ _ _ _ us hl => match us, hl with | [_, _], _ => rfl) (ga_cons (ge_var 0) (ga_cons (ge_op op_addA r2_add (ge_var 4) (ge_lst (ga_cons (ge_callD D_l_moment hr hg (takes_of rfl rfl rfl rfl) rfl (fun _ _ _ _ _ _ us hl => match us, hl with | [_], _ => rfl) (ga_cons (ge_var 0) (ga_nil))) (ga_nil)))) (ga_nil))))))))
abbrev s_later : Stmt := topS 10
theorem sc_later : FnScope ["stamp", "delay", "time", "turn"] ["stamp", "delay"] (defScope s_later) := ⟨rfl, rfl, rfl, by decide +kernel, rfl, by decide +kernel, by decide +kernel⟩
def m_later : List W → Store → Res W := fnM 2 4
  (sSeq (sDrop (mCall m_require_both (mCons (mV 0) (mCons (mV 1) (mNil)))))
  (sSeq (sUnp [2, 3] (mV 0))
  (sSeq (sIf (mTru (mV 1)) (sRet (mTup (mCons (mOp fAdd (mV 2) (mV 1)) (mCons (mC (.int 0)) (mNil))))) (sNx))
  (sRet (mTup (mCons (mV 2) (mCons (mOp fAdd (mV 3) (mC (.int 1))) (mNil))))))))
theorem ok_later (T : Blt mg) (D : DefAt K mg "later" s_later) (D_require_both : DefOk P w K mg base "require_both" s_require_both 4 ["stamp", "delay"] m_require_both) : DefOk P w K mg base "later" s_later 5 ["stamp", "delay"] m_later :=
  defOk_of (N := ["stamp", "delay", "time", "turn"]) D sc_later fun f cdv A outer s H E hr hg =>
  (gss_cons (gs_expr (ge_callD D_require_both hr hg (takes_of rfl rfl rfl rfl) rfl (fun _ _ _ _ _ _ us hl => match us, hl with | [_, _], _ => rfl) (ga_cons (ge_var 0) (ga_cons (ge_var 1) (ga_nil)))))
  (gss_cons (gs_unp (is := [2, 3]) (pg_tup rfl (pgs_cons (pg_name (i := 2) sc_later.nd rfl (by first | exact Or.inl rfl | exact Or.inr rfl)) (pgs_cons (pg_name (i := 3) sc_later.nd rfl (by first | exact Or.inl rfl | exact Or.inr rfl)) (pgs_nil)))) (ge_var 0))
  (gss_cons (gs_if (gt_tru (ge_var 1) (fun _ => rfl)) (gss_one (gs_ret (ge_tup (ga_cons (ge_op op_addA r2_add (ge_var 2) (ge_var 1)) (ga_cons (ge_int) (ga_nil)))))) (gss_nil))
  (gss_one (gs_ret (ge_tup (ga_cons (ge_var 2) (ga_cons (ge_op op_addA r2_add (ge_var 3) (ge_int)) (ga_nil)))))))))
abbrev s_ahead_of : Stmt := topS 11
theorem sc_ahead_of : FnScope ["stamp", "delay", "time", "turn", "least"] ["stamp", "delay"] (defScope s_ahead_of) := ⟨rfl, rfl, rfl, by decide +kernel, rfl, by decide +kernel, by decide +kernel⟩
def m_ahead_of : List W → Store → Res W := fnM 2 5
  (sSeq (sDrop (mCall m_require_both (mCons (mV 0) (mCons (mV 1) (mNil)))))
  (sSeq (sUnp [2, 3] (mV 0))
  (sSeq (sIf (mNot (mTru (mV 1))) (sRet (mTup (mCons (mV 2) (mCons (mCall fMax2 (mCons (mOp fSub (mV 3) (mC (.int 1))) (mCons (mC (.int 0)) (mNil)))) (mNil))))) (sNx))
  (sSeq (sSet 4 (mOp fAdd (mOp fSub (mV 2) (mV 1)) (mIf (mTru (mV 3)) (mC (.int 1)) (mC (.int 0)))))
  (sRet (mTup (mCons (mCall fMax2 (mCons (mV 4) (mCons (mC (.int 0)) (mNil)))) (mCons (mC (.int 0)) (mNil)))))))))
theorem ok_ahead_of (T : Blt mg) (D : DefAt K mg "ahead_of" s_ahead_of) (D_require_both : DefOk P w K mg base "require_both" s_require_both 4 ["stamp", "delay"] m_require_both) : DefOk P w K mg base "ahead_of" s_ahead_of 5 ["stamp", "delay"] m_ahead_of :=
  defOk_of (N := ["stamp", "delay", "time", "turn", "least"]) D sc_ahead_of fun f cdv A outer s H E hr hg =>
  (gss_cons (gs_expr (ge_callD D_require_both hr hg (takes_of rfl rfl rfl rfl) rfl (fun _ _ _ _ _ _ us hl => match us, hl with | [_, _], _ => rfl) (ga_cons (ge_var 0) (ga_cons (ge_var 1) (ga_nil)))))
  (gss_cons (gs_unp (is := [2, 3]) (pg_tup rfl (pgs_cons (pg_name (i := 2) sc_ahead_of.nd rfl (by first | exact Or.inl rfl | exact Or.inr rfl)) (pgs_cons (pg_name (i := 3) sc_ahead_of.nd rfl (by first | exact Or.inl rfl | exact Or.inr rfl)) (pgs_nil)))) (ge_var 0))
  (gss_cons (gs_if (gt_not (gt_tru (ge_var 1) (fun _ => rfl))) (gss_one (gs_ret (ge_tup (ga_cons (ge_var 2) (ga_cons (ge_callB (call_max2 rfl) rc_max2 rfl T.max (by decide +kernel) (ga_cons (ge_op op_sub r2_sub (ge_var 3) (ge_int)) (ga_cons (ge_int) (ga_nil)))) (ga_nil)))))) (gss_nil))
  (gss_cons (gs_set (i := 4) sc_ahead_of.nd rfl (by first | exact Or.inl rfl | exact Or.inr rfl) (ge_op op_addA r2_add (ge_op op_sub r2_sub (ge_var 2) (ge_var 1)) (ge_if (gt_tru (ge_var 3) (fun _ => rfl)) (ge_int) (ge_int))))
  (gss_one (gs_ret (ge_tup (ga_cons (ge_callB (call_max2 rfl) rc_max2 rfl T.max (by decide +kernel) (ga_cons (ge_var 4) (ga_cons (ge_int) (ga_nil)))) (ga_cons (ge_int) (ga_nil))))))))))
abbrev s_l_one_right : Stmt := topS 22
theorem sc_l_one_right : FnScope ["_law_pot_here", "_law_time", "_law_turn", "_law_moment_here", "_law_gap", "_law_told", "_law_some", "_law_one"] ["_law_pot_here"] (defScope s_l_one_right) := ⟨rfl, rfl, rfl, by decide +kernel, rfl, by decide +kernel, by decide +kernel⟩
def m_l_one_right_e1 : Ev W := mOp fEq (mOp fGe (mCall m_l_later (mCons (mV 7) (mCons (mV 4) (mNil)))) (mV 3)) (mOp fGe (mV 7) (mV 5))
def m_l_one_right : List W → Store → Res W := fnM 1 8
  (sSeq (sPar 1 2 (mCons (mCall m_l_take (mCons (mV 0) (mCons (mCall m_l_of (mCons (mV 0) (mCons (mLst (mCons (mC (.int 3)) (mCons (mC (.int 9)) (mCons (mC (.int 60)) (mCons (mOp fPow (mC (.int 10)) (mC (.int 6))) (mNil)))))) (mNil)))) (mNil)))) (mCons (mCall m_l_of (mCons (mV 0) (mCons (mLst (mCons (mC (.int 0)) (mCons (mC (.int 0)) (mCons (mC (.int 1)) (mCons (mC (.int 2)) (mCons (mCall m_l_take (mCons (mV 0) (mCons (mC (.int 400)) (mNil)))) (mNil))))))) (mNil)))) (mNil))))
  (sSeq (sUnp [3, 4] (mTup (mCons (mTup (mCons (mV 1) (mCons (mV 2) (mNil)))) (mCons (mCall m_l_of (mCons (mV 0) (mCons (mLst (mCons (mC (.int 0)) (mCons (mC (.int 0)) (mCons (mC (.int 1)) (mCons (mC (.int 2)) (mCons (mV 1) (mCons (mOp fAdd (mV 1) (mC (.int 1))) (mCons (mCall fMax2 (mCons (mC (.int 0)) (mCons (mOp fSub (mV 1) (mC (.int 1))) (mNil)))) (mCons (mCall m_l_take (mCons (mV 0) (mCons (mC (.int 21)) (mNil)))) (mNil)))))))))) (mNil)))) (mNil)))))
  (sSeq (sIf (mB (mOp fNe (mCall fRepr (mCons (mCall m_later (mCons (mV 3) (mCons (mV 4) (mNil)))) (mNil))) (mCall fRepr (mCons (mCall m_l_later (mCons (mV 3) (mCons (mV 4) (mNil)))) (mNil))))) (sRet (mC (.bl false))) (sNx))
  (sSeq (sIf (mB (mOp fNe (mCall fRepr (mCons (mCall (kwM 2 [1, 0] m_later) (mCons (mV 4) (mCons (mV 3) (mNil)))) (mNil))) (mCall fRepr (mCons (mCall m_l_later (mCons (mV 3) (mCons (mV 4) (mNil)))) (mNil))))) (sRet (mC (.bl false))) (sNx))
  (sSeq (sSet 5 (mCall m_ahead_of (mCons (mV 3) (mCons (mV 4) (mNil)))))
  (sSeq (sIf (mOr (mB (mOp fNe (mCall fRepr (mCons (mV 5) (mNil))) (mCall fRepr (mCons (mCall m_l_ahead (mCons (mV 3) (mCons (mV 4) (mNil)))) (mNil))))) (mB (mOp fNe (mCall fRepr (mCons (mCall (kwM 2 [1, 0] m_ahead_of) (mCons (mV 4) (mCons (mV 3) (mNil)))) (mNil))) (mCall fRepr (mCons (mV 5) (mNil)))))) (sRet (mC (.bl false))) (sNx))
  (sSeq (sSet 6 (mOp fAdd (mOp fAdd (mCall m_l_near (mCons (mTup (mCons (mV 1) (mCons (mCall fMin2 (mCons (mV 2) (mCons (mC (.int 5)) (mNil)))) (mNil)))) (mNil))) (mCall m_l_near (mCons (mCall m_l_ahead (mCons (mV 3) (mCons (mV 4) (mNil)))) (mNil)))) (mLst (mCons (mTup (mCons (mC (.int 0)) (mCons (mC (.int 0)) (mNil)))) (mCons (mTup (mCons (mC (.int 0)) (mCons (mC (.int 1)) (mNil)))) (mNil))))))
  (sRet (mCall fAll (mCons (mLcS [7] (setN 7) (mV 6) (yes) (m_l_one_right_e1)) (mNil)))))))))))
theorem ok_l_one_right (T : Blt mg) (D : DefAt K mg "_law_one_right" s_l_one_right) (D_l_of : DefOk P w K mg base "_law_of" s_l_of 2 ["_law_pot_here", "_law_some"] m_l_of) (D_l_take : DefOk P w K mg base "_law_take" s_l_take 1 ["_law_pot_here", "_law_upto"] m_l_take) (D_later : DefOk P w K mg base "later" s_later 5 ["stamp", "delay"] m_later) (D_l_later : DefOk P w K mg base "_law_later" s_l_later 1 ["_law_moment_here", "_law_gap"] m_l_later) (D_ahead_of : DefOk P w K mg base "ahead_of" s_ahead_of 5 ["stamp", "delay"] m_ahead_of) (D_l_ahead : DefOk P w K mg base "_law_ahead" s_l_ahead 1 ["_law_moment_here", "_law_gap"] m_l_ahead) (D_l_near : DefOk P w K mg base "_law_near" s_l_near 1 ["_law_moment_here"] m_l_near) : DefOk P w K mg base "_law_one_right" s_l_one_right 6 ["_law_pot_here"] m_l_one_right :=
  defOk_of (N := ["_law_pot_here", "_law_time", "_law_turn", "_law_moment_here", "_law_gap", "_law_told", "_law_some", "_law_one"]) D sc_l_one_right fun f cdv A outer s H E hr hg =>
  (gss_cons (gs_par (i := 1) (j := 2) rfl sc_l_one_right.nd rfl rfl (by decide) rfl rfl (ga_cons (ge_callD D_l_take (hr.mono (by decide)) hg (takes_of rfl rfl rfl rfl) rfl (fun _ _ _ _ _ _ us hl => match us, hl with | [_, _], _ => rfl) (ga_cons (ge_var 0) (ga_cons (ge_callD D_l_of (hr.mono (by decide)) hg (takes_of rfl rfl rfl rfl) rfl (fun _ _ _ _ _ _ us hl => match us, hl with | [_, _], _ => rfl) (ga_cons (ge_var 0) (ga_cons (ge_lst (ga_cons (ge_int) (ga_cons (ge_int) (ga_cons (ge_int) (ga_cons (ge_op op_powW r2_pow (ge_int) (ge_int)) (ga_nil)))))) (ga_nil)))) (ga_nil)))) (ga_cons (ge_callD D_l_of (hr.mono (by decide)) hg (takes_of rfl rfl rfl rfl) rfl (fun _ _ _ _ _ _ us hl => match us, hl with | [_, _], _ => rfl) (ga_cons (ge_var 0) (ga_cons (ge_lst (ga_cons (ge_int) (ga_cons (ge_int) (ga_cons (ge_int) (ga_cons (ge_int) (ga_cons (ge_callD D_l_take (hr.mono (by decide)) hg (takes_of rfl rfl rfl rfl) rfl (fun _ _ _ _ _ _ us hl => match us, hl with | [_, _], _ => rfl) (ga_cons (ge_var 0) (ga_cons (ge_int) (ga_nil)))) (ga_nil))))))) (ga_nil)))) (ga_nil))) (by rfl))
  (gss_cons (gs_unp (is := [3, 4]) (pg_tup rfl (pgs_cons (pg_name (i := 3) sc_l_one_right.nd rfl (by first | exact Or.inl rfl | exact Or.inr rfl)) (pgs_cons (pg_name (i := 4) sc_l_one_right.nd rfl (by first | exact Or.inl rfl | exact Or.inr rfl)) (pgs_nil)))) (ge_tup (ga_cons (ge_tup (ga_cons (ge_var 1) (ga_cons (ge_var 2) (ga_nil)))) (ga_cons (ge_callD D_l_of (hr.mono (by decide)) hg (takes_of rfl rfl rfl rfl) rfl (fun _ _ _ _ _ _ us hl => match us, hl with | [_, _], _ => rfl) (ga_cons (ge_var 0) (ga_cons (ge_lst (ga_cons (ge_int) (ga_cons (ge_int) (ga_cons (ge_int) (ga_cons (ge_int) (ga_cons (ge_var 1) (ga_cons (ge_op op_addA r2_add (ge_var 1) (ge_int)) (ga_cons (ge_callB (call_max2 rfl) rc_max2 rfl T.max (by decide +kernel) (ga_cons (ge_int) (ga_cons (ge_op op_sub r2_sub (ge_var 1) (ge_int)) (ga_nil)))) (ga_cons (ge_callD D_l_take (hr.mono (by decide)) hg (takes_of rfl rfl rfl rfl) rfl (fun _ _ _ _ _ _ us hl => match us, hl with | [_, _], _ => rfl) (ga_cons (ge_var 0) (ga_cons (ge_int) (ga_nil)))) (ga_nil)))))))))) (ga_nil)))) (ga_nil)))))
  (gss_cons (gs_if (gt_cmp (op_neP hr.units) r2_data (ge_callB (call_reprD hg hr.units) rc_repr rfl T.repr (by decide +kernel) (ga_cons (ge_callD D_later hr hg (takes_of rfl rfl rfl rfl) rfl (fun _ _ _ _ _ _ us hl => match us, hl with | [_, _], _ => rfl) (ga_cons (ge_var 3) (ga_cons (ge_var 4) (ga_nil)))) (ga_nil))) (ge_callB (call_reprD hg hr.units) rc_repr rfl T.repr (by decide +kernel) (ga_cons (ge_callD D_l_later (hr.mono (by decide)) hg (takes_of rfl rfl rfl rfl) rfl (fun _ _ _ _ _ _ us hl => match us, hl with | [_, _], _ => rfl) (ga_cons (ge_var 3) (ga_cons (ge_var 4) (ga_nil)))) (ga_nil))) (nomark _)) (gss_one (gs_ret (ge_bl))) (gss_nil))
  (gss_cons (gs_if (gt_cmp (op_neP hr.units) r2_data (ge_callB (call_reprD hg hr.units) rc_repr rfl T.repr (by decide +kernel) (ga_cons (ge_callKD (ks := ["delay", "stamp"]) (ix := [1, 0]) D_later hr hg (takes_of rfl rfl rfl rfl) rfl (fun _ _ _ _ _ _ us hl => match us, hl with | [_, _], _ => rfl) (gk_cons (ge_var 4) (gk_cons (ge_var 3) (gk_nil)))) (ga_nil))) (ge_callB (call_reprD hg hr.units) rc_repr rfl T.repr (by decide +kernel) (ga_cons (ge_callD D_l_later (hr.mono (by decide)) hg (takes_of rfl rfl rfl rfl) rfl (fun _ _ _ _ _ _ us hl => match us, hl with | [_, _], _ => rfl) (ga_cons (ge_var 3) (ga_cons (ge_var 4) (ga_nil)))) (ga_nil))) (nomark _)) (gss_one (gs_ret (ge_bl))) (gss_nil))
  (gss_cons (gs_set (i := 5) sc_l_one_right.nd rfl (by first | exact Or.inl rfl | exact Or.inr rfl) (ge_callD D_ahead_of hr hg (takes_of rfl rfl rfl rfl) rfl (fun _ _ _ _ _ _ us hl => match us, hl with | [_, _], _ => rfl) (ga_cons (ge_var 3) (ga_cons (ge_var 4) (ga_nil)))))
  (gss_cons (gs_if (GW.pt (gw_or (gt_cmp (op_neP hr.units) r2_data (ge_callB (call_reprD hg hr.units) rc_repr rfl T.repr (by decide +kernel) (ga_cons (ge_var 5) (ga_nil))) (ge_callB (call_reprD hg hr.units) rc_repr rfl T.repr (by decide +kernel) (ga_cons (ge_callD D_l_ahead (hr.mono (by decide)) hg (takes_of rfl rfl rfl rfl) rfl (fun _ _ _ _ _ _ us hl => match us, hl with | [_, _], _ => rfl) (ga_cons (ge_var 3) (ga_cons (ge_var 4) (ga_nil)))) (ga_nil))) (nomark _)) (gw_or1 (gt_cmp (op_neP hr.units) r2_data (ge_callB (call_reprD hg hr.units) rc_repr rfl T.repr (by decide +kernel) (ga_cons (ge_callKD (ks := ["delay", "stamp"]) (ix := [1, 0]) D_ahead_of hr hg (takes_of rfl rfl rfl rfl) rfl (fun _ _ _ _ _ _ us hl => match us, hl with | [_, _], _ => rfl) (gk_cons (ge_var 4) (gk_cons (ge_var 3) (gk_nil)))) (ga_nil))) (ge_callB (call_reprD hg hr.units) rc_repr rfl T.repr (by decide +kernel) (ga_cons (ge_var 5) (ga_nil))) (nomark _))))) (gss_one (gs_ret (ge_bl))) (gss_nil))
  (gss_cons (gs_set (i := 6) sc_l_one_right.nd rfl (by first | exact Or.inl rfl | exact Or.inr rfl) (ge_op op_addA r2_add (ge_op op_addA r2_add (ge_callD D_l_near (hr.mono (by decide)) hg (takes_of rfl rfl rfl rfl) rfl (fun _ _ _ _ _ _ us hl => match us, hl with | [_], _ => rfl) (ga_cons (ge_tup (ga_cons (ge_var 1) (ga_cons (ge_callB (call_min2 rfl) rc_min2 rfl T.min (by decide +kernel) (ga_cons (ge_var 2) (ga_cons (ge_int) (ga_nil)))) (ga_nil)))) (ga_nil))) (ge_callD D_l_near (hr.mono (by decide)) hg (takes_of rfl rfl rfl rfl) rfl (fun _ _ _ _ _ _ us hl => match us, hl with | [_], _ => rfl) (ga_cons (ge_callD D_l_ahead (hr.mono (by decide)) hg (takes_of rfl rfl rfl rfl) rfl (fun _ _ _ _ _ _ us hl => match us, hl with | [_, _], _ => rfl) (ga_cons (ge_var 3) (ga_cons (ge_var 4) (ga_nil)))) (ga_nil)))) (ge_lst (ga_cons (ge_tup (ga_cons (ge_int) (ga_cons (ge_int) (ga_nil)))) (ga_cons (ge_tup (ga_cons (ge_int) (ga_cons (ge_int) (ga_nil)))) (ga_nil))))))
  (gss_one (gs_ret (ge_callB (cr_all rfl) rc_all rfl T.all (by decide +kernel) (ga_cons (ge_lcS (own := [("_law_one", 7)]) ⟨blkOk_by (N := ["_law_pot_here", "_law_time", "_law_turn", "_law_moment_here", "_law_gap", "_law_told", "_law_some", "_law_one"]) (sc := defScope s_l_one_right) (by decide +kernel), fun _ _ _ _ _ => pg_name (i := 7) sc_l_one_right.nd rfl (by first | exact Or.inl rfl | exact Or.inr rfl), fun _ _ _ _ _ => gp_nil, fun _ _ _ _ _ => ge_cmp (op_eqP hr.units) r2_data (ge_cmp (op_geP hr.units) r2_data (ge_callD D_l_later (hr.mono (by decide)) hg takes0 rfl (fun _ _ _ _ _ _ us hl => match us, hl with | [_, _], _ => rfl) (ga_cons (ge_var 7) (ga_cons (ge_var 4) (ga_nil)))) (ge_var 3) (nomark _)) (ge_cmp (op_geP hr.units) r2_data (ge_var 7) (ge_var 5) (nomark _)) (nomark _)⟩ (fun _ => putLc_name (by decide)) rfl sc_l_one_right.nd (ge_var 6)) (ga_nil))))))))))))
abbrev s_l_pair_right : Stmt := topS 23
theorem sc_l_pair_right : FnScope ["_law_one", "_law_other", "_law_gap", "_law_far", "_law_near_here"] ["_law_one", "_law_other", "_law_gap"] (defScope s_l_pair_right) := ⟨rfl, rfl, rfl, by decide +kernel, rfl, by decide +kernel, by decide +kernel⟩
def m_l_pair_right : List W → Store → Res W := fnM 3 5
  (sSeq (sPar 3 4 (mCons (mCall m_later (mCons (mV 0) (mCons (mV 2) (mNil)))) (mCons (mCall m_later (mCons (mV 1) (mCons (mV 2) (mNil)))) (mNil))))
  (sSeq (sIf (mOr (mNot (mTru (mCall m_is_stamp (mCons (mV 3) (mNil))))) (mOr (mNot (mTru (mCall m_is_stamp (mCons (mV 4) (mNil))))) (mOr (mB (mOp fLe (mV 3) (mV 0))) (mAnd (mB (mOp fLe (mV 0) (mV 1))) (mB (mOp fGt (mV 3) (mV 4))))))) (sRet (mC (.bl false))) (sNx))
  (sSeq (sIf (mB (mOp fNe (mOp fGe (mV 3) (mV 1)) (mOp fGe (mV 0) (mCall m_ahead_of (mCons (mV 1) (mCons (mV 2) (mNil))))))) (sRet (mC (.bl false))) (sNx))
  (sRet (mAndV (mOp fLe (mCall m_ahead_of (mCons (mV 3) (mCons (mV 2) (mNil)))) (mV 0)) (mOp fEq (mCall m_later (mCons (mCall m_ahead_of (mCons (mV 3) (mCons (mV 2) (mNil)))) (mCons (mV 2) (mNil)))) (mV 3)))))))
theorem ok_l_pair_right (T : Blt mg) (D : DefAt K mg "_law_pair_right" s_l_pair_right) (D_later : DefOk P w K mg base "later" s_later 5 ["stamp", "delay"] m_later) (D_is_stamp : DefOk P w K mg base "is_stamp" s_is_stamp 3 ["value"] m_is_stamp) (D_ahead_of : DefOk P w K mg base "ahead_of" s_ahead_of 5 ["stamp", "delay"] m_ahead_of) : DefOk P w K mg base "_law_pair_right" s_l_pair_right 6 ["_law_one", "_law_other", "_law_gap"] m_l_pair_right :=
  defOk_of (N := ["_law_one", "_law_other", "_law_gap", "_law_far", "_law_near_here"]) D sc_l_pair_right fun f cdv A outer s H E hr hg =>
  (gss_cons (gs_par (i := 3) (j := 4) rfl sc_l_pair_right.nd rfl rfl (by decide) rfl rfl (ga_cons (ge_callD D_later hr hg (takes_of rfl rfl rfl rfl) rfl (fun _ _ _ _ _ _ us hl => match us, hl with | [_, _], _ => rfl) (ga_cons (ge_var 0) (ga_cons (ge_var 2) (ga_nil)))) (ga_cons (ge_callD D_later hr hg (takes_of rfl rfl rfl rfl) rfl (fun _ _ _ _ _ _ us hl => match us, hl with | [_, _], _ => rfl) (ga_cons (ge_var 1) (ga_cons (ge_var 2) (ga_nil)))) (ga_nil))) (by rfl))
  (gss_cons (gs_if (GW.pt (gw_or (gt_not (gt_tru (ge_callD D_is_stamp (hr.mono (by decide)) hg (takes_of rfl rfl rfl rfl) rfl (fun _ _ _ _ _ _ us hl => match us, hl with | [_], _ => rfl) (ga_cons (ge_var 3) (ga_nil))) (fun _ => rfl))) (gw_or (gt_not (gt_tru (ge_callD D_is_stamp (hr.mono (by decide)) hg (takes_of rfl rfl rfl rfl) rfl (fun _ _ _ _ _ _ us hl => match us, hl with | [_], _ => rfl) (ga_cons (ge_var 4) (ga_nil))) (fun _ => rfl))) (gw_or (gt_cmp (op_leP hr.units) r2_data (ge_var 3) (ge_var 0) (nomark _)) (gw_or1 (GW.pt (gw_and (gt_cmp (op_leP hr.units) r2_data (ge_var 0) (ge_var 1) (nomark _)) (gw_and1 (gt_cmp (op_gtP hr.units) r2_data (ge_var 3) (ge_var 4) (nomark _)))))))))) (gss_one (gs_ret (ge_bl))) (gss_nil))
  (gss_cons (gs_if (gt_cmp (op_neP hr.units) r2_data (ge_cmp (op_geP hr.units) r2_data (ge_var 3) (ge_var 1) (nomark _)) (ge_cmp (op_geP hr.units) r2_data (ge_var 0) (ge_callD D_ahead_of hr hg (takes_of rfl rfl rfl rfl) rfl (fun _ _ _ _ _ _ us hl => match us, hl with | [_, _], _ => rfl) (ga_cons (ge_var 1) (ga_cons (ge_var 2) (ga_nil)))) (nomark _)) (nomark _)) (gss_one (gs_ret (ge_bl))) (gss_nil))
  (gss_one (gs_ret (ge_and (ge_cmp (op_leP hr.units) r2_data (ge_callD D_ahead_of hr hg (takes_of rfl rfl rfl rfl) rfl (fun _ _ _ _ _ _ us hl => match us, hl with | [_, _], _ => rfl) (ga_cons (ge_var 3) (ga_cons (ge_var 2) (ga_nil)))) (ge_var 0) (nomark _)) (ge_one (ge_cmp (op_eqP hr.units) r2_data (ge_callD D_later hr hg (takes_of rfl rfl rfl rfl) rfl (fun _ _ _ _ _ _ us hl => match us, hl with | [_, _], _ => rfl) (ga_cons (ge_callD D_ahead_of hr hg (takes_of rfl rfl rfl rfl) rfl (fun _ _ _ _ _ _ us hl => match us, hl with | [_, _], _ => rfl) (ga_cons (ge_var 3) (ga_cons (ge_var 2) (ga_nil)))) (ga_cons (ge_var 2) (ga_nil)))) (ge_var 3) (nomark _)))))))))
abbrev s_l_right : Stmt := topS 24
theorem sc_l_right : FnScope ["_law_pot_here", "_law_one", "_law_other", "_law_gap", "_law_more", "_law_both"] ["_law_pot_here"] (defScope s_l_right) := ⟨rfl, rfl, rfl, by decide +kernel, rfl, by decide +kernel, by decide +kernel⟩
def m_l_right : List W → Store → Res W := fnM 1 6
  (sSeq (sSet 1 (mCall m_l_moment (mCons (mV 0) (mNil))))
  (sSeq (sSet 2 (mCall m_l_beside (mCons (mV 0) (mCons (mV 1) (mNil)))))
  (sSeq (sPar 3 4 (mCons (mCall m_l_of (mCons (mV 0) (mCons (mLst (mCons (mC (.int 0)) (mCons (mC (.int 0)) (mCons (mC (.int 1)) (mCons (mC (.int 2)) (mCons (mCall m_l_take (mCons (mV 0) (mCons (mC (.int 21)) (mNil)))) (mNil))))))) (mNil)))) (mCons (mCall m_l_of (mCons (mV 0) (mCons (mLst (mCons (mC (.int 0)) (mCons (mC (.int 1)) (mCons (mCall m_l_take (mCons (mV 0) (mCons (mC (.int 21)) (mNil)))) (mNil))))) (mNil)))) (mNil))))
  (sSeq (sIf (mOr (mNot (mTru (mCall m_l_pair_right (mCons (mV 1) (mCons (mV 2) (mCons (mV 3) (mNil))))))) (mNot (mTru (mCall m_l_pair_right (mCons (mV 2) (mCons (mV 1) (mCons (mV 3) (mNil)))))))) (sRet (mC (.bl false))) (sNx))
  (sSeq (sIf (mB (mOp fGt (mCall m_later (mCons (mV 1) (mCons (mV 3) (mNil)))) (mCall m_later (mCons (mV 1) (mCons (mOp fAdd (mV 3) (mV 4)) (mNil)))))) (sRet (mC (.bl false))) (sNx))
  (sSeq (sSet 5 (mCall m_later (mCons (mCall m_later (mCons (mV 1) (mCons (mV 3) (mNil)))) (mCons (mV 4) (mNil)))))
  (sRet (mAndV (mOp fGe (mV 5) (mCall m_later (mCons (mV 1) (mCons (mOp fAdd (mV 3) (mV 4)) (mNil))))) (mOrV (mOp fEq (mV 3) (mC (.int 0))) (mOrV (mOp fEq (mV 4) (mC (.int 0))) (mOp fEq (mV 5) (mCall m_later (mCons (mV 1) (mCons (mOp fAdd (mV 3) (mV 4)) (mNil)))))))))))))))
theorem ok_l_right (T : Blt mg) (D : DefAt K mg "_law_right" s_l_right) (D_l_moment : DefOk P w K mg base "_law_moment" s_l_moment 3 ["_law_pot_here"] m_l_moment) (D_l_beside : DefOk P w K mg base "_law_beside" s_l_beside 4 ["_law_pot_here", "_law_one"] m_l_beside) (D_l_of : DefOk P w K mg base "_law_of" s_l_of 2 ["_law_pot_here", "_law_some"] m_l_of) (D_l_take : DefOk P w K mg base "_law_take" s_l_take 1 ["_law_pot_here", "_law_upto"] m_l_take) (D_l_pair_right : DefOk P w K mg base "_law_pair_right" s_l_pair_right 6 ["_law_one", "_law_other", "_law_gap"] m_l_pair_right) (D_later : DefOk P w K mg base "later" s_later 5 ["stamp", "delay"] m_later) : DefOk P w K mg base "_law_right" s_l_right 7 ["_law_pot_here"] m_l_right :=
  defOk_of (N := ["_law_pot_here", "_law_one", "_law_other", "_law_gap", "_law_more", "_law_both"]) D sc_l_right fun f cdv A outer s H E hr hg =>
  (gss_cons (gs_set (i := 1) sc_l_right.nd rfl (by first | exact Or.inl rfl | exact Or.inr rfl) (ge_callD D_l_moment (hr.mono (by decide)) hg (takes_of rfl rfl rfl rfl) rfl (fun _ _ _ _ _ _ us hl => match us, hl with | [_], _ => rfl) (ga_cons (ge_var 0) (ga_nil))))
  (gss_cons (gs_set (i := 2) sc_l_right.nd rfl (by first | exact Or.inl rfl | exact Or.inr rfl) (ge_callD D_l_beside (hr.mono (by decide)) hg (takes_of rfl rfl rfl rfl) rfl (fun _ _ _ _ _ _ us hl => match us, hl with | [_, _], _ => rfl) (ga_cons (ge_var 0) (ga_cons (ge_var 1) (ga_nil)))))
  (gss_cons (gs_par (i := 3) (j := 4) rfl sc_l_right.nd rfl rfl (by decide) rfl rfl (ga_cons (ge_callD D_l_of (hr.mono (by decide)) hg (takes_of rfl rfl rfl rfl) rfl (fun _ _ _ _ _ _ us hl => match us, hl with | [_, _], _ => rfl) (ga_cons (ge_var 0) (ga_cons (ge_lst (ga_cons (ge_int) (ga_cons (ge_int) (ga_cons (ge_int) (ga_cons (ge_int) (ga_cons (ge_callD D_l_take (hr.mono (by decide)) hg (takes_of rfl rfl rfl rfl) rfl (fun _ _ _ _ _ _ us hl => match us, hl with | [_, _], _ => rfl) (ga_cons (ge_var 0) (ga_cons (ge_int) (ga_nil)))) (ga_nil))))))) (ga_nil)))) (ga_cons (ge_callD D_l_of (hr.mono (by decide)) hg (takes_of rfl rfl rfl rfl) rfl (fun _ _ _ _ _ _ us hl => match us, hl with | [_, _], _ => rfl) (ga_cons (ge_var 0) (ga_cons (ge_lst (ga_cons (ge_int) (ga_cons (ge_int) (ga_cons (ge_callD D_l_take (hr.mono (by decide)) hg (takes_of rfl rfl rfl rfl) rfl (fun _ _ _ _ _ _ us hl => match us, hl with | [_, _], _ => rfl) (ga_cons (ge_var 0) (ga_cons (ge_int) (ga_nil)))) (ga_nil))))) (ga_nil)))) (ga_nil))) (by rfl))
  (gss_cons (gs_if (GW.pt (gw_or (gt_not (gt_tru (ge_callD D_l_pair_right hr hg (takes_of rfl rfl rfl rfl) rfl (fun _ _ _ _ _ _ us hl => match us, hl with | [_, _, _], _ => rfl) (ga_cons (ge_var 1) (ga_cons (ge_var 2) (ga_cons (ge_var 3) (ga_nil))))) (fun _ => rfl))) (gw_or1 (gt_not (gt_tru (ge_callD D_l_pair_right hr hg (takes_of rfl rfl rfl rfl) rfl (fun _ _ _ _ _ _ us hl => match us, hl with | [_, _, _], _ => rfl) (ga_cons (ge_var 2) (ga_cons (ge_var 1) (ga_cons (ge_var 3) (ga_nil))))) (fun _ => rfl)))))) (gss_one (gs_ret (ge_bl))) (gss_nil))
  (gss_cons (gs_if (gt_cmp (op_gtP hr.units) r2_data (ge_callD D_later (hr.mono (by decide)) hg (takes_of rfl rfl rfl rfl) rfl (fun _ _ _ _ _ _ us hl => match us, hl with | [_, _], _ => rfl) (ga_cons (ge_var 1) (ga_cons (ge_var 3) (ga_nil)))) (ge_callD D_later (hr.mono (by decide)) hg (takes_of rfl rfl rfl rfl) rfl (fun _ _ _ _ _ _ us hl => match us, hl with | [_, _], _ => rfl) (ga_cons (ge_var 1) (ga_cons (ge_op op_addA r2_add (ge_var 3) (ge_var 4)) (ga_nil)))) (nomark _)) (gss_one (gs_ret (ge_bl))) (gss_nil))
  (gss_cons (gs_set (i := 5) sc_l_right.nd rfl (by first | exact Or.inl rfl | exact Or.inr rfl) (ge_callD D_later (hr.mono (by decide)) hg (takes_of rfl rfl rfl rfl) rfl (fun _ _ _ _ _ _ us hl => match us, hl with | [_, _], _ => rfl) (ga_cons (ge_callD D_later (hr.mono (by decide)) hg (takes_of rfl rfl rfl rfl) rfl (fun _ _ _ _ _ _ us hl => match us, hl with | [_, _], _ => rfl) (ga_cons (ge_var 1) (ga_cons (ge_var 3) (ga_nil)))) (ga_cons (ge_var 4) (ga_nil)))))
  (gss_one (gs_ret (ge_and (ge_cmp (op_geP hr.units) r2_data (ge_var 5) (ge_callD D_later (hr.mono (by decide)) hg (takes_of rfl rfl rfl rfl) rfl (fun _ _ _ _ _ _ us hl => match us, hl with | [_, _], _ => rfl) (ga_cons (ge_var 1) (ga_cons (ge_op op_addA r2_add (ge_var 3) (ge_var 4)) (ga_nil)))) (nomark _)) (ge_one (ge_or (ge_cmp (op_eqP hr.units) r2_data (ge_var 3) (ge_int) (nomark _)) (ge_or (ge_cmp (op_eqP hr.units) r2_data (ge_var 4) (ge_int) (nomark _)) (ge_one (ge_cmp (op_eqP hr.units) r2_data (ge_var 5) (ge_callD D_later (hr.mono (by decide)) hg (takes_of rfl rfl rfl rfl) rfl (fun _ _ _ _ _ _ us hl => match us, hl with | [_, _], _ => rfl) (ga_cons (ge_var 1) (ga_cons (ge_op op_addA r2_add (ge_var 3) (ge_var 4)) (ga_nil)))) (nomark _)))))))))))))))
abbrev s_law : Stmt := topS 25
theorem sc_law : FnScope ["_law_script", "_law_k", "_law_pot_here", "_law_turn"] ["_law_script"] (defScope s_law) := ⟨rfl, rfl, rfl, by decide +kernel, rfl, by decide +kernel, by decide +kernel⟩
def m_law_e1 : Ev W := mCall m_l_one_right (mCons (mV 2) (mNil))
def m_law_e2 : Ev W := mCall m_l_right (mCons (mV 2) (mNil))
def m_law_b1 : Sm := sSeq (sSet 2 (mCall m_l_pot (mCons (mV 0) (mCons (mV 1) (mNil)))))
  (sIf (mOr (mNot (mTru (mCall fAll (mCons (mLcR1 [3] (setN 3) (mCons (mC (.int 40)) (mNil)) (yes) (m_law_e1)) (mNil))))) (mNot (mTru (mCall fAll (mCons (mLcR1 [3] (setN 3) (mCons (mC (.int 30)) (mNil)) (yes) (m_law_e2)) (mNil)))))) (sRet (mC (.bl false))) (sNx))
def m_law : List W → Store → Res W := fnM 1 4
  (sSeq (sForR1 (mCons (mCall fMax2 (mCons (mC (.int 1)) (mCons (mCall fMin2 (mCons (mC (.int 3)) (mCons (mCall fLen (mCons (mV 0) (mNil))) (mNil)))) (mNil)))) (mNil)) 1 (m_law_b1))
  (sRet (mC (.bl true))))
theorem ok_law (T : Blt mg) (D : DefAt K mg "law" s_law) (D_l_pot : DefOk P w K mg base "_law_pot" s_l_pot 1 ["_law_script", "_law_k"] m_l_pot) (D_l_one_right : DefOk P w K mg base "_law_one_right" s_l_one_right 6 ["_law_pot_here"] m_l_one_right) (D_l_right : DefOk P w K mg base "_law_right" s_l_right 7 ["_law_pot_here"] m_l_right) : DefOk P w K mg base "law" s_law 8 ["_law_script"] m_law :=
  defOk_of (N := ["_law_script", "_law_k", "_law_pot_here", "_law_turn"]) D sc_law fun f cdv A outer s H E hr hg =>
  (gss_cons (gs_forR1 (i := 1) (passes_of rfl) rfl rfl T.range (ga_cons (ge_callB (call_max2 rfl) rc_max2 rfl T.max (by decide +kernel) (ga_cons (ge_int) (ga_cons (ge_callB (call_min2 rfl) rc_min2 rfl T.min (by decide +kernel) (ga_cons (ge_int) (ga_cons (ge_callB call_len rc_len rfl T.len (by decide +kernel) (ga_cons (ge_var 0) (ga_nil))) (ga_nil)))) (ga_nil)))) (ga_nil)) sc_law.nd rfl (by first | exact Or.inl rfl | exact Or.inr rfl) (gss_cons (gs_set (i := 2) sc_law.nd rfl (by first | exact Or.inl rfl | exact Or.inr rfl) (ge_callD D_l_pot (hr.mono (by decide)) hg (takes_of rfl rfl rfl rfl) rfl (fun _ _ _ _ _ _ us hl => match us, hl with | [_, _], _ => rfl) (ga_cons (ge_var 0) (ga_cons (ge_var 1) (ga_nil)))))
  (gss_one (gs_if (GW.pt (gw_or (gt_not (gt_tru (ge_callB (cr_all rfl) rc_all rfl T.all (by decide +kernel) (ga_cons (ge_lcR1 (own := [("_law_turn", 3)]) ⟨blkOk_by (N := ["_law_script", "_law_k", "_law_pot_here", "_law_turn"]) (sc := defScope s_law) (by decide +kernel), fun _ _ _ _ _ => pg_name (i := 3) sc_law.nd rfl (by first | exact Or.inl rfl | exact Or.inr rfl), fun _ _ _ _ _ => gp_nil, fun _ _ _ _ _ => ge_callD D_l_one_right (hr.mono (by decide)) hg takes0 rfl (fun _ _ _ _ _ _ us hl => match us, hl with | [_], _ => rfl) (ga_cons (ge_var 2) (ga_nil))⟩ (fun _ => putLc_name (by decide)) rfl sc_law.nd rfl T.range (ga_cons (ge_int) (ga_nil))) (ga_nil))) (fun _ => rfl))) (gw_or1 (gt_not (gt_tru (ge_callB (cr_all rfl) rc_all rfl T.all (by decide +kernel) (ga_cons (ge_lcR1 (own := [("_law_turn", 3)]) ⟨blkOk_by (N := ["_law_script", "_law_k", "_law_pot_here", "_law_turn"]) (sc := defScope s_law) (by decide +kernel), fun _ _ _ _ _ => pg_name (i := 3) sc_law.nd rfl (by first | exact Or.inl rfl | exact Or.inr rfl), fun _ _ _ _ _ => gp_nil, fun _ _ _ _ _ => ge_callD D_l_right hr hg takes0 rfl (fun _ _ _ _ _ _ us hl => match us, hl with | [_], _ => rfl) (ga_cons (ge_var 2) (ga_nil))⟩ (fun _ => putLc_name (by decide)) rfl sc_law.nd rfl T.range (ga_cons (ge_int) (ga_nil))) (ga_nil))) (fun _ => rfl)))))) (gss_one (gs_ret (ge_bl))) (gss_nil)))))
  (gss_one (gs_ret (ge_bl))))
end
end K11gen

set_option exponentiation.threshold 5000
namespace K11gen
open PySem PySem.Spec PyProof.Rows L2 Mi

theorem take_ok {st : Store} {p : Nat} {c n : Int} (h : Pot st p c) (hc : c ≤ 1000000) (hn : 1 ≤ n) (hn2 : n ≤ 10000000) :
    Got (m_l_take [.ref p, .int n] st) fun w st' => (∃ d : Int, w = .int d ∧ 0 ≤ d ∧ d < n) ∧ Fr p st st' ∧ Pot st' p (c + 1) := by
  obtain ⟨own, seed, cnt, hp, h1, h2, h3, h4, h5, h6⟩ := h.ex
  have hpl : p < st.length := (List.getElem?_eq_some_iff.mp hp).1
  have x0 : fIx (.ref p) (.int 0) st = .ok (.int own) st := f_ixL hp rfl
  have x1 : fIx (.ref p) (.int 1) st = .ok (.int seed) st := f_ixL hp rfl
  have x2 : fIx (.ref p) (.int 2) st = .ok (.int cnt) st := f_ixL hp rfl
  by_cases ho : 0 < own
  · have hd : fDiv (.int own) (.int n) st = .ok (.int (own / n)) st := f_div (by omega) (Nat.lt_of_lt_of_le (show n.natAbs < 2 ^ 24 by omega) (Nat.pow_le_pow_right (by decide) (by decide)))
    have pa : putAt (.ref p) (.int 0) (.int (own / n)) st = some (st.set p (.lst [.int (own / n), .int seed, .int cnt])) := by
      simp only [Mi.putAt, hp]
      rfl
    refine ⟨.int (own % n), st.set p (.lst [.int (own / n), .int seed, .int cnt]), ?_, ⟨_, rfl, Int.emod_nonneg _ (by omega), Int.emod_lt_of_pos _ (by omega)⟩, ⟨by rw [List.length_set]; exact Nat.le_refl _, fun i hi hne => List.getElem?_set_ne (Ne.symm hne)⟩, ⟨own / n, seed, cnt, List.getElem?_set_self hpl, ?_, ?_, h3, h4, h5, by omega⟩⟩
    · simp only [m_l_take, fnM, outM, sSeq, sSet, sRet, sDrop, sIf, sPut, sPar, sUnp, sNx, liftE, mOp, mUn, mCall, mCons, mNil, mC, mV, mB, asB, mAnd, mOr, mNot, mAndV, mOrV, mNotV, mIf, mTup, mLst, mNew, Res.bind, List.map_cons, List.map_nil, List.length_cons, List.length_nil, List.replicate, List.cons_append, List.nil_append, List.getElem?_cons_zero, List.getElem?_cons_succ, List.set_cons_zero, List.set_cons_succ, Nat.reduceAdd, Nat.reduceSub, Nat.reduceLeDiff, if_pos, if_true, ite_true, Mi.putAll, x0, f_gt, ho, decide_true, fInt, f_mod (show 0 < n by omega), hd, pa]
    · exact Int.ediv_nonneg h1 (by omega)
    · have k1 : own / n ≤ own := Int.ediv_le_self _ h1
      have k2 : 0 ≤ own / n := Int.ediv_nonneg h1 (by omega)
      exact Nat.lt_of_le_of_lt (show (own / n).natAbs ≤ own.natAbs by omega) h2
  · have hc1 : 1 ≤ cnt + 1 ∧ cnt + 1 ≤ 1000001 := by omega
    generalize hk : cnt + 1 = k at hc1
    let s1 := st.set p (.lst [.int own, .int seed, .int k])
    have hs1 : s1[p]? = some (.lst [.int own, .int seed, .int k]) := List.getElem?_set_self hpl
    have pa : Mi.putAt (.ref p) (.int 2) (.int k) st = some s1 := by
      simp only [Mi.putAt, hp]
      rfl
    have y1 : fIx (.ref p) (.int 1) s1 = .ok (.int seed) s1 := f_ixL hs1 rfl
    have y2 : fIx (.ref p) (.int 2) s1 = .ok (.int k) s1 := f_ixL hs1 rfl
    have hq : ∃ q : Int, 0 < q ∧ fIx (.lst [.int 2147483647, .int 2147483629, .int 2147483587, .int 2147483579, .int 2147483563]) (.int (k % 5)) s1 = .ok (.int q) s1 ∧ q < 2 ^ 31 := by
      have h5 : k % 5 = 0 ∨ k % 5 = 1 ∨ k % 5 = 2 ∨ k % 5 = 3 ∨ k % 5 = 4 := by omega
      rcases h5 with e | e | e | e | e <;> rw [e]
      · exact ⟨2147483647, by decide, f_ixV rfl, by decide⟩
      · exact ⟨2147483629, by decide, f_ixV rfl, by decide⟩
      · exact ⟨2147483587, by decide, f_ixV rfl, by decide⟩
      · exact ⟨2147483579, by decide, f_ixV rfl, by decide⟩
      · exact ⟨2147483563, by decide, f_ixV rfl, by decide⟩
    obtain ⟨q, hq0, eq, hq1⟩ := hq
    have big : ∀ x : Int, 0 ≤ x → x < 2 ^ 100 → x.natAbs < 2 ^ 2000 := fun x hx hx2 => Nat.lt_of_lt_of_le (show x.natAbs < 2 ^ 100 by omega) (Nat.pow_le_pow_right (by decide) (by decide))
    have m1 : fMul (.int 99907) (.int k) s1 = .ok (.int (99907 * k)) s1 := f_mul (big _ (by decide) (by decide)) (big _ (by omega) (by omega))
    have kk : 0 ≤ 99907 * k * k ∧ 99907 * k * k ≤ 99907 * 1000001 * 1000001 :=
      ⟨Int.mul_nonneg (by omega) (by omega), Int.mul_le_mul (by omega) (by omega) (by omega) (by omega)⟩
    have m2 : fMul (.int (99907 * k)) (.int k) s1 = .ok (.int (99907 * k * k)) s1 := f_mul (big _ (by omega) (by omega)) (big _ (by omega) (by omega))
    have e3 : fPow (.int (seed + 99907 * k * k + 53)) (.int 3) s1 = .ok (.int ((seed + 99907 * k * k + 53) ^ (3 : Int).toNat)) s1 := f_pow (by decide) (by decide) (big _ (by omega) (by omega))
    have e4 : ∀ x : Int, fMod (.int x) (.int q) s1 = .ok (.int (x % q)) s1 := fun x => f_mod hq0
    generalize hz : (seed + 99907 * k * k + 53) ^ (3 : Int).toNat % q = z at *
    have hz0 : 0 ≤ z ∧ z < 2 ^ 31 := by
      have u1 := Int.emod_nonneg ((seed + 99907 * k * k + 53) ^ (3 : Int).toNat) (show q ≠ 0 by omega)
      have u2 := Int.emod_lt_of_pos ((seed + 99907 * k * k + 53) ^ (3 : Int).toNat) hq0
      omega
    have m3 : fMul (.int 89) (.int k) s1 = .ok (.int (89 * k)) s1 := f_mul (big _ (by decide) (by decide)) (big _ (by omega) (by omega))
    have m4 : fMul (.int z) (.int (z % 10007 + 89 * k)) s1 = .ok (.int (z * (z % 10007 + 89 * k))) s1 := f_mul (big _ (by omega) (by omega)) (big _ (by omega) (by omega))
    have e5 : ∀ x : Int, fMod (.int x) (.int 5) s1 = .ok (.int (x % 5)) s1 := fun x => f_mod (by decide)
    have e6 : ∀ x : Int, fMod (.int x) (.int 10007) s1 = .ok (.int (x % 10007)) s1 := fun x => f_mod (by decide)
    have e7 : ∀ x : Int, fMod (.int x) (.int 2305843009213693907) s1 = .ok (.int (x % 2305843009213693907)) s1 := fun x => f_mod (by decide)
    have e8 : ∀ x : Int, fDiv (.int x) (.int 103) s1 = .ok (.int (x / 103)) s1 := fun x => f_div (by decide) (by decide)
    have e9 : ∀ x : Int, fMod (.int x) (.int n) s1 = .ok (.int (x % n)) s1 := fun x => f_mod (by omega)
    refine ⟨.int (z * (z % 10007 + 89 * k) % 2305843009213693907 / 103 % n), s1, ?_, ⟨_, rfl, Int.emod_nonneg _ (by omega), Int.emod_lt_of_pos _ (by omega)⟩, ⟨by rw [List.length_set]; exact Nat.le_refl _, fun i hi hne => List.getElem?_set_ne (Ne.symm hne)⟩, ⟨own, seed, k, hs1, h1, h2, h3, h4, by omega, by omega⟩⟩
    simp only [m_l_take, fnM, outM, sSeq, sSet, sRet, sDrop, sIf, sPut, sPar, sUnp, sNx, liftE, mOp, mUn, mCall, mCons, mNil, mC, mV, mB, asB, mAnd, mOr, mNot, mAndV, mOrV, mNotV, mIf, mTup, mLst, mNew, Res.bind, List.map_cons, List.map_nil, List.length_cons, List.length_nil, List.replicate, List.cons_append, List.nil_append, List.getElem?_cons_zero, List.getElem?_cons_succ, List.set_cons_zero, List.set_cons_succ, Nat.reduceAdd, Nat.reduceSub, Nat.reduceLeDiff, if_pos, if_true, ite_true, Mi.putAll, x0, x2, f_gt, ho, decide_false, fInt, f_add, hk, pa, y1, y2, e5, eq, m1, m2, e3, e4, hz, m3, m4, e6, e7, e8, e9, Bool.false_eq_true, if_false]
theorem len_ok {xs : List W} {st : Store} : fLen [.lst xs] st = .ok (.int (xs.length : Int)) st := rfl
theorem of_ok {st : Store} {p : Nat} {c : Int} {xs : List W} (h : Pot st p c) (hc : c ≤ 1000000) (hn : 1 ≤ xs.length) (hn2 : xs.length ≤ 10000) :
    Got (m_l_of [.ref p, .lst xs] st) fun w st' => w ∈ xs ∧ Fr p st st' ∧ Pot st' p (c + 1) := by
  obtain ⟨w, s1, e, ⟨d, rfl, h0, h1⟩, f, pt⟩ := take_ok (n := (xs.length : Int)) h hc (by omega) (by omega)
  have hd : d.toNat < xs.length := by omega
  have ed : d = ((d.toNat : Nat) : Int) := by omega
  have ha : atI xs d = some xs[d.toNat] := by
    have z := atI_nat (List.getElem?_eq_getElem hd)
    rw [← ed] at z
    exact z
  refine ⟨xs[d.toNat], s1, ?_, List.getElem_mem hd, f, pt⟩
  simp only [m_l_of, fnM, outM, sSeq, sSet, sRet, sDrop, sIf, sPut, sPar, sUnp, sNx, liftE, mOp, mUn, mCall, mCons, mNil, mC, mV, mB, asB, mAnd, mOr, mNot, mAndV, mOrV, mNotV, mIf, mTup, mLst, mNew, Res.bind, List.map_cons, List.map_nil, List.length_cons, List.length_nil, List.replicate, List.cons_append, List.nil_append, List.getElem?_cons_zero, List.getElem?_cons_succ, List.set_cons_zero, List.set_cons_succ, Nat.reduceAdd, Nat.reduceSub, Nat.reduceLeDiff, if_pos, if_true, ite_true, Mi.putAll, len_ok, e, f_ixV ha]

theorem pow6 {st : Store} : fPow (.int 10) (.int 6) st = .ok (.int 1000000) st := f_pow (by decide) (by decide) (by decide)
theorem moment_ok {st : Store} {p : Nat} {c : Int} (h : Pot st p c) (hc : c ≤ 900000) :
    Got (m_l_moment [.ref p] st) fun w st' => (∃ a b : Int, w = pr a b ∧ 0 ≤ a ∧ a ≤ 1000000 ∧ 0 ≤ b ∧ b ≤ 1000000) ∧ Fr p st st' ∧ Pot st' p (c + 4) := by
  obtain ⟨w1, s1, e1, m1, f1, p1⟩ := of_ok (xs := [.int 2, .int 5, .int 40, .int 1000000]) h (by omega) (by simp) (by simp)
  have q1 : ∃ n : Int, w1 = .int n ∧ 1 ≤ n ∧ n ≤ 1000000 := by
    simp only [List.mem_cons, List.not_mem_nil, or_false] at m1
    rcases m1 with rfl | rfl | rfl | rfl
    · exact ⟨2, rfl, by decide, by decide⟩
    · exact ⟨5, rfl, by decide, by decide⟩
    · exact ⟨40, rfl, by decide, by decide⟩
    · exact ⟨1000000, rfl, by decide, by decide⟩
  obtain ⟨n, rfl, n1, n2⟩ := q1
  obtain ⟨w2, s2, e2, ⟨a, rfl, a1, a2⟩, f2, p2⟩ := take_ok (n := n) p1 (by omega) n1 (by omega)
  obtain ⟨w3, s3, e3, ⟨b, rfl, b1, b2⟩, f3, p3⟩ := take_ok (n := 30) p2 (by omega) (by decide) (by decide)
  obtain ⟨w4, s4, e4, m4, f4, p4⟩ := of_ok (xs := [.int 0, .int 0, .int 1, .int 2, .int b]) p3 (by omega) (by simp) (by simp)
  have q4 : ∃ n : Int, w4 = .int n ∧ 0 ≤ n ∧ n ≤ 1000000 := by
    simp only [List.mem_cons, List.not_mem_nil, or_false] at m4
    rcases m4 with rfl | rfl | rfl | rfl | rfl
    · exact ⟨0, rfl, by decide, by decide⟩
    · exact ⟨0, rfl, by decide, by decide⟩
    · exact ⟨1, rfl, by decide, by decide⟩
    · exact ⟨2, rfl, by decide, by decide⟩
    · exact ⟨b, rfl, by omega, by omega⟩
  obtain ⟨m, rfl, k1, k2⟩ := q4
  refine ⟨pr a m, s4, ?_, ⟨a, m, rfl, a1, by omega, k1, k2⟩, ((f1.trans f2).trans f3).trans f4, p4.mono (by omega)⟩
  simp only [m_l_moment, fnM, outM, sSeq, sSet, sRet, sDrop, sIf, sPut, sPar, sUnp, sNx, liftE, mOp, mUn, mCall, mCons, mNil, mC, mV, mB, asB, mAnd, mOr, mNot, mAndV, mOrV, mNotV, mIf, mTup, mLst, mNew, Res.bind, List.map_cons, List.map_nil, List.length_cons, List.length_nil, List.replicate, List.cons_append, List.nil_append, List.getElem?_cons_zero, List.getElem?_cons_succ, List.set_cons_zero, List.set_cons_succ, Nat.reduceAdd, Nat.reduceSub, Nat.reduceLeDiff, if_pos, if_true, ite_true, Mi.putAll, pow6, e1, e2, e3, e4]

/-! ### the program's stamps -/
theorem ix0 {a b : Int} {st : Store} : fIx (pr a b) (.int 0) st = .ok (.int a) st := rfl
theorem ix1 {a b : Int} {st : Store} : fIx (pr a b) (.int 1) st = .ok (.int b) st := rfl
theorem isint {i : Int} {st : Store} : m_is_integer [.int i] st = .ok (.bl true) st := rfl
theorem iscount {i : Int} {st : Store} : m_is_count [.int i] st = .ok (.bl (decide (0 ≤ i))) st := by
  simp only [m_is_count, fnM, outM, sSeq, sSet, sRet, sDrop, sIf, sPut, sPar, sUnp, sNx, liftE, mOp, mUn, mCall, mCons, mNil, mC, mV, mB, asB, mAnd, mOr, mNot, mAndV, mOrV, mNotV, mIf, mTup, mLst, mNew, Res.bind, List.map_cons, List.map_nil, List.length_cons, List.length_nil, List.replicate, List.cons_append, List.nil_append, List.getElem?_cons_zero, List.getElem?_cons_succ, List.set_cons_zero, List.set_cons_succ, Nat.reduceAdd, Nat.reduceSub, Nat.reduceLeDiff, if_pos, if_true, ite_true, Mi.putAll, isint, f_ge]
theorem istup {a b : Int} {st : Store} : m_is_tuple_of [pr a b, .int 2] st = .ok (.bl true) st := by
  simp only [m_is_tuple_of, fnM, outM, sSeq, sSet, sRet, sDrop, sIf, sPut, sPar, sUnp, sNx, liftE, mOp, mUn, mCall, mCons, mNil, mC, mV, mB, asB, mAnd, mOr, mNot, mAndV, mOrV, mNotV, mIf, mTup, mLst, mNew, Res.bind, List.map_cons, List.map_nil, List.length_cons, List.length_nil, List.replicate, List.cons_append, List.nil_append, List.getElem?_cons_zero, List.getElem?_cons_succ, List.set_cons_zero, List.set_cons_succ, Nat.reduceAdd, Nat.reduceSub, Nat.reduceLeDiff, if_pos, if_true, ite_true, Mi.putAll, fIsi, isTy, f_lenT, f_eq, beq_self_eq_true]
  rfl
theorem isstamp {a b : Int} {st : Store} : m_is_stamp [pr a b] st = .ok (.bl (decide (0 ≤ a) && decide (0 ≤ b))) st := by
  simp only [m_is_stamp, fnM, outM, sSeq, sSet, sRet, sDrop, sIf, sPut, sPar, sUnp, sNx, liftE, mOp, mUn, mCall, mCons, mNil, mC, mV, mB, asB, mAnd, mOr, mNot, mAndV, mOrV, mNotV, mIf, mTup, mLst, mNew, Res.bind, List.map_cons, List.map_nil, List.length_cons, List.length_nil, List.replicate, List.cons_append, List.nil_append, List.getElem?_cons_zero, List.getElem?_cons_succ, List.set_cons_zero, List.set_cons_succ, Nat.reduceAdd, Nat.reduceSub, Nat.reduceLeDiff, if_pos, if_true, ite_true, Mi.putAll, istup, ix0, ix1, iscount]
  by_cases h : 0 ≤ a <;> simp [h]
theorem both_ok {a b d : Int} {st : Store} (ha : 0 ≤ a) (hb : 0 ≤ b) (hd : 0 ≤ d) : m_require_both [pr a b, .int d] st = .ok .non st := by
  simp only [m_require_both, fnM, outM, sSeq, sSet, sRet, sDrop, sIf, sPut, sPar, sUnp, sNx, liftE, mOp, mUn, mCall, mCons, mNil, mC, mV, mB, asB, mAnd, mOr, mNot, mAndV, mOrV, mNotV, mIf, mTup, mLst, mNew, Res.bind, List.map_cons, List.map_nil, List.length_cons, List.length_nil, List.replicate, List.cons_append, List.nil_append, List.getElem?_cons_zero, List.getElem?_cons_succ, List.set_cons_zero, List.set_cons_succ, Nat.reduceAdd, Nat.reduceSub, Nat.reduceLeDiff, if_pos, if_true, ite_true, Mi.putAll, mTru, isstamp, iscount, ha, hb, hd, decide_true, Bool.and_true, truW, Bool.not_true, Bool.false_eq_true, if_false]
def lat (t u d : Int) : W := if d = 0 then pr t (u + 1) else pr (t + d) 0
def aho (t u d : Int) : W := if d = 0 then pr t (max (u - 1) 0) else pr (max (t - d + (if u = 0 then 0 else 1)) 0) 0
theorem ne0 {d : Int} (h : d ≠ 0) : (d != 0) = true := by simp [h]
theorem later_ok {t u d : Int} {st : Store} (ha : 0 ≤ t) (hb : 0 ≤ u) (hd : 0 ≤ d) : m_later [pr t u, .int d] st = .ok (lat t u d) st := by
  have e := both_ok (st := st) ha hb hd
  by_cases h : d = 0
  · subst h
    simp only [m_later, fnM, outM, sSeq, sSet, sRet, sDrop, sIf, sPut, sPar, sUnp, sNx, liftE, mOp, mUn, mCall, mCons, mNil, mC, mV, mB, asB, mAnd, mOr, mNot, mAndV, mOrV, mNotV, mIf, mTup, mLst, mNew, Res.bind, List.map_cons, List.map_nil, List.length_cons, List.length_nil, List.replicate, List.cons_append, List.nil_append, List.getElem?_cons_zero, List.getElem?_cons_succ, List.set_cons_zero, List.set_cons_succ, Nat.reduceAdd, Nat.reduceSub, Nat.reduceLeDiff, if_pos, if_true, ite_true, Mi.putAll, e, mTru, truW, bne_self_eq_false, Bool.false_eq_true, if_false, f_add, lat]
  · simp only [m_later, fnM, outM, sSeq, sSet, sRet, sDrop, sIf, sPut, sPar, sUnp, sNx, liftE, mOp, mUn, mCall, mCons, mNil, mC, mV, mB, asB, mAnd, mOr, mNot, mAndV, mOrV, mNotV, mIf, mTup, mLst, mNew, Res.bind, List.map_cons, List.map_nil, List.length_cons, List.length_nil, List.replicate, List.cons_append, List.nil_append, List.getElem?_cons_zero, List.getElem?_cons_succ, List.set_cons_zero, List.set_cons_succ, Nat.reduceAdd, Nat.reduceSub, Nat.reduceLeDiff, if_pos, if_true, ite_true, Mi.putAll, e, mTru, truW, ne0 h, f_add, lat, if_neg h]
theorem max_if (i j : Int) : (if j > i then j else i) = max i j := by
  by_cases h : j > i
  · rw [if_pos h]; omega
  · rw [if_neg h]; omega
theorem min_if (i j : Int) : (if j < i then j else i) = min i j := by
  by_cases h : j < i
  · rw [if_pos h]; omega
  · rw [if_neg h]; omega
theorem ahead_ok {t u d : Int} {st : Store} (ha : 0 ≤ t) (hb : 0 ≤ u) (hd : 0 ≤ d) : m_ahead_of [pr t u, .int d] st = .ok (aho t u d) st := by
  have e := both_ok (st := st) ha hb hd
  by_cases h : d = 0
  · subst h
    simp only [m_ahead_of, fnM, outM, sSeq, sSet, sRet, sDrop, sIf, sPut, sPar, sUnp, sNx, liftE, mOp, mUn, mCall, mCons, mNil, mC, mV, mB, asB, mAnd, mOr, mNot, mAndV, mOrV, mNotV, mIf, mTup, mLst, mNew, Res.bind, List.map_cons, List.map_nil, List.length_cons, List.length_nil, List.replicate, List.cons_append, List.nil_append, List.getElem?_cons_zero, List.getElem?_cons_succ, List.set_cons_zero, List.set_cons_succ, Nat.reduceAdd, Nat.reduceSub, Nat.reduceLeDiff, if_pos, if_true, ite_true, Mi.putAll, e, mTru, truW, bne_self_eq_false, Bool.not_false, f_sub, fMax2, max_if, aho]
  · by_cases h2 : u = 0
    · subst h2
      simp only [m_ahead_of, fnM, outM, sSeq, sSet, sRet, sDrop, sIf, sPut, sPar, sUnp, sNx, liftE, mOp, mUn, mCall, mCons, mNil, mC, mV, mB, asB, mAnd, mOr, mNot, mAndV, mOrV, mNotV, mIf, mTup, mLst, mNew, Res.bind, List.map_cons, List.map_nil, List.length_cons, List.length_nil, List.replicate, List.cons_append, List.nil_append, List.getElem?_cons_zero, List.getElem?_cons_succ, List.set_cons_zero, List.set_cons_succ, Nat.reduceAdd, Nat.reduceSub, Nat.reduceLeDiff, if_pos, if_true, ite_true, Mi.putAll, e, mTru, truW, ne0 h, Bool.not_true, Bool.false_eq_true, if_false, bne_self_eq_false, f_sub, f_add, fMax2, max_if, aho, if_neg h]
    · simp only [m_ahead_of, fnM, outM, sSeq, sSet, sRet, sDrop, sIf, sPut, sPar, sUnp, sNx, liftE, mOp, mUn, mCall, mCons, mNil, mC, mV, mB, asB, mAnd, mOr, mNot, mAndV, mOrV, mNotV, mIf, mTup, mLst, mNew, Res.bind, List.map_cons, List.map_nil, List.length_cons, List.length_nil, List.replicate, List.cons_append, List.nil_append, List.getElem?_cons_zero, List.getElem?_cons_succ, List.set_cons_zero, List.set_cons_succ, Nat.reduceAdd, Nat.reduceSub, Nat.reduceLeDiff, if_pos, if_true, ite_true, Mi.putAll, e, mTru, truW, ne0 h, ne0 h2, Bool.not_true, Bool.false_eq_true, if_false, f_sub, f_add, fMax2, max_if, aho, if_neg h, if_neg h2]
theorem llater_ok {t u d : Int} {st : Store} (hd : 0 ≤ d) : m_l_later [pr t u, .int d] st = .ok (lat t u d) st := by
  by_cases h : d = 0
  · subst h
    simp only [m_l_later, fnM, outM, sSeq, sSet, sRet, sDrop, sIf, sPut, sPar, sUnp, sNx, liftE, mOp, mUn, mCall, mCons, mNil, mC, mV, mB, asB, mAnd, mOr, mNot, mAndV, mOrV, mNotV, mIf, mTup, mLst, mNew, Res.bind, List.map_cons, List.map_nil, List.length_cons, List.length_nil, List.replicate, List.cons_append, List.nil_append, List.getElem?_cons_zero, List.getElem?_cons_succ, List.set_cons_zero, List.set_cons_succ, Nat.reduceAdd, Nat.reduceSub, Nat.reduceLeDiff, if_pos, if_true, ite_true, Mi.putAll, f_gt, Int.lt_irrefl, decide_false, Bool.false_eq_true, if_false, ix0, ix1, f_add, lat]
  · have h1 : 0 < d := by omega
    simp only [m_l_later, fnM, outM, sSeq, sSet, sRet, sDrop, sIf, sPut, sPar, sUnp, sNx, liftE, mOp, mUn, mCall, mCons, mNil, mC, mV, mB, asB, mAnd, mOr, mNot, mAndV, mOrV, mNotV, mIf, mTup, mLst, mNew, Res.bind, List.map_cons, List.map_nil, List.length_cons, List.length_nil, List.replicate, List.cons_append, List.nil_append, List.getElem?_cons_zero, List.getElem?_cons_succ, List.set_cons_zero, List.set_cons_succ, Nat.reduceAdd, Nat.reduceSub, Nat.reduceLeDiff, if_pos, if_true, ite_true, Mi.putAll, f_gt, h1, decide_true, ix0, f_add, lat, if_neg h]
theorem lahead_ok {t u d : Int} {st : Store} : m_l_ahead [pr t u, .int d] st = .ok (aho t u d) st := by
  by_cases h : d = 0
  · subst h
    simp only [m_l_ahead, fnM, outM, sSeq, sSet, sRet, sDrop, sIf, sPut, sPar, sUnp, sNx, liftE, mOp, mUn, mCall, mCons, mNil, mC, mV, mB, asB, mAnd, mOr, mNot, mAndV, mOrV, mNotV, mIf, mTup, mLst, mNew, Res.bind, List.map_cons, List.map_nil, List.length_cons, List.length_nil, List.replicate, List.cons_append, List.nil_append, List.getElem?_cons_zero, List.getElem?_cons_succ, List.set_cons_zero, List.set_cons_succ, Nat.reduceAdd, Nat.reduceSub, Nat.reduceLeDiff, if_pos, if_true, ite_true, Mi.putAll, f_eq, decide_true, f_sub, fMax2, max_if, aho]
    rw [show max 0 (u - 1) = max (u - 1) 0 by omega]
  · by_cases h2 : u = 0
    · subst h2
      simp only [m_l_ahead, fnM, outM, sSeq, sSet, sRet, sDrop, sIf, sPut, sPar, sUnp, sNx, liftE, mOp, mUn, mCall, mCons, mNil, mC, mV, mB, asB, mAnd, mOr, mNot, mAndV, mOrV, mNotV, mIf, mTup, mLst, mNew, Res.bind, List.map_cons, List.map_nil, List.length_cons, List.length_nil, List.replicate, List.cons_append, List.nil_append, List.getElem?_cons_zero, List.getElem?_cons_succ, List.set_cons_zero, List.set_cons_succ, Nat.reduceAdd, Nat.reduceSub, Nat.reduceLeDiff, if_pos, if_true, ite_true, Mi.putAll, f_eq, h, decide_false, decide_true, Bool.false_eq_true, if_false, f_sub, f_add, fMax2, max_if, aho]
      rw [show max 0 (t - d) = max (t - d + 0) 0 by omega]
    · simp only [m_l_ahead, fnM, outM, sSeq, sSet, sRet, sDrop, sIf, sPut, sPar, sUnp, sNx, liftE, mOp, mUn, mCall, mCons, mNil, mC, mV, mB, asB, mAnd, mOr, mNot, mAndV, mOrV, mNotV, mIf, mTup, mLst, mNew, Res.bind, List.map_cons, List.map_nil, List.length_cons, List.length_nil, List.replicate, List.cons_append, List.nil_append, List.getElem?_cons_zero, List.getElem?_cons_succ, List.set_cons_zero, List.set_cons_succ, Nat.reduceAdd, Nat.reduceSub, Nat.reduceLeDiff, if_pos, if_true, ite_true, Mi.putAll, f_eq, h, h2, decide_false, Bool.false_eq_true, if_false, f_sub, f_add, fMax2, max_if, aho]
      rw [show max 0 (t - d + 1) = max (t - d + 1) 0 by omega]

def GoodP (w : W) : Prop := ∃ a b : Int, w = pr a b ∧ 0 ≤ a ∧ 0 ≤ b
theorem ext_ok {s : Store} {n : Nat} {zs ys : List W} (h : s[n]? = some (.lst zs)) (hl : zs.length + ys.length ≤ 100000) : fExtend (.ref n) [.lst ys] s = .ok .non (s.set n (.lst (zs ++ ys))) := by
  simp only [fExtend, h, trkIn, if_pos hl]
theorem near_ok {t u : Int} {st : Store} (ht : 0 ≤ t) (ht2 : t ≤ 3000000) (hu : 0 ≤ u) (hu2 : u ≤ 1000) :
    Got (m_l_near [pr t u] st) fun w s => ∃ zs, w = .ref st.length ∧ s.length = st.length + 1 ∧ (∀ i, i < st.length → s[i]? = st[i]?) ∧ s[st.length]? = some (.lst zs) ∧ zs.length ≤ 10000 ∧ ∀ z ∈ zs, GoodP z := by
  generalize hn : st.length = n
  generalize hxs : rngW (max 0 (t - 2)) ((t + 2) - max 0 (t - 2)).toNat = xs
  have hlen : xs.length ≤ 4 := by
    rw [← hxs, rngW_len]
    omega
  obtain ⟨e2, s2, ef, ⟨v4, v5, ee⟩, i1, i2, zs, i3, i4, i5⟩ := forEach_inv (xs := xs) (put := fun x e => e.set 4 (some x)) (body := m_l_near_b1)
    (fun i env s => (∃ v4 v5, env = [some (pr t u), some (.int t), some (.int u), some (.ref n), v4, v5]) ∧ s.length = n + 1 ∧ (∀ i, i < n → s[i]? = st[i]?) ∧ ∃ zs, s[n]? = some (.lst zs) ∧ zs.length ≤ i * 1003 ∧ ∀ z ∈ zs, GoodP z)
    (fun i x env s hx hI => by
      obtain ⟨⟨v4, v5, rfl⟩, i1, i2, zs, i3, i4, i5⟩ := hI
      have hm := List.mem_of_getElem? hx
      rw [← hxs] at hm
      obtain ⟨k, hk, rfl⟩ := mem_rng hm
      have hi4 : i < 4 := Nat.lt_of_lt_of_le (List.getElem?_eq_some_iff.mp hx).1 hlen
      have ha : 0 ≤ max 0 (t - 2) + (k : Int) := by omega
      generalize max 0 (t - 2) + (k : Int) = a at ha
      have hr : (rngW 0 (u + 3).toNat).length ≤ 1003 := by
        rw [rngW_len]
        omega
      have hc := lc_map (put := setN 5) (te := m_l_near_e1) (env := wipeE [some (pr t u), some (.int t), some (.int u), some (.ref n), some (.int a), v5] [5]) (xs := rngW 0 (u + 3).toNat) (st := s) (fun x => .tup [.int a, x]) (by omega) (fun x hx => by
        simp only [m_l_near_e1, wipeE, setN, fnM, outM, sSeq, sSet, sRet, sDrop, sIf, sPut, sPar, sUnp, sNx, liftE, mOp, mUn, mCall, mCons, mNil, mC, mV, mB, asB, mAnd, mOr, mNot, mAndV, mOrV, mNotV, mIf, mTup, mLst, mNew, Res.bind, List.map_cons, List.map_nil, List.length_cons, List.length_nil, List.replicate, List.cons_append, List.nil_append, List.getElem?_cons_zero, List.getElem?_cons_succ, List.set_cons_zero, List.set_cons_succ, Nat.reduceAdd, Nat.reduceSub, Nat.reduceLeDiff, if_pos, if_true, ite_true, Mi.putAll])
      have hb : -(2 ^ 62) ≤ u + 3 ∧ u + 3 < 2 ^ 62 := by omega
      have he := ext_ok (ys := (rngW 0 (u + 3).toNat).map fun x => .tup [.int a, x]) i3 (by rw [List.length_map]; omega)
      have hd : decide (n < s.length) = true := decide_eq_true (by omega)
      refine ⟨[some (pr t u), some (.int t), some (.int u), some (.ref n), some (.int a), v5], s.set n (.lst (zs ++ (rngW 0 (u + 3).toNat).map fun x => .tup [.int a, x])), ?_, ⟨_, _, rfl⟩, by rw [List.length_set]; exact i1, fun j hj => ?_, _, List.getElem?_set_self (by omega), ?_, ?_⟩
      · simp only [m_l_near_b1, fnM, outM, sSeq, sSet, sRet, sDrop, sIf, sPut, sPar, sUnp, sNx, liftE, mOp, mUn, mCall, mCons, mNil, mC, mV, mB, asB, mAnd, mOr, mNot, mAndV, mOrV, mNotV, mIf, mTup, mLst, mNew, Res.bind, List.map_cons, List.map_nil, List.length_cons, List.length_nil, List.replicate, List.cons_append, List.nil_append, List.getElem?_cons_zero, List.getElem?_cons_succ, List.set_cons_zero, List.set_cons_succ, Nat.reduceAdd, Nat.reduceSub, Nat.reduceLeDiff, if_pos, if_true, ite_true, Mi.putAll, mBM, isRef, hd, mLcR1, as1, f_add, if_pos hb, hc, asLst, he]
      · rw [List.getElem?_set_ne (by omega)]
        exact i2 j hj
      · rw [List.length_append, List.length_map]
        omega
      · intro z hz
        rcases List.mem_append.mp hz with hz | hz
        · exact i5 z hz
        · obtain ⟨y, hy, rfl⟩ := List.mem_map.mp hz
          obtain ⟨m, _, rfl⟩ := mem_rng hy
          exact ⟨a, 0 + (m : Int), rfl, ha, by omega⟩)
    [some (pr t u), some (.int t), some (.int u), some (.ref n), none, none] (st ++ [.lst []])
    ⟨⟨none, none, rfl⟩, by rw [List.length_append, hn]; rfl, fun i hi => List.getElem?_append_left (by omega), [], by rw [← hn, List.getElem?_append_right (Nat.le_refl _), Nat.sub_self]; rfl, by simp, fun z hz => by simp at hz⟩
  have hb : -(2 ^ 62) ≤ max 0 (t - 2) ∧ max 0 (t - 2) < 2 ^ 62 ∧ -(2 ^ 62) ≤ t + 2 ∧ t + 2 < 2 ^ 62 := by omega
  refine ⟨.ref n, s2, ?_, zs, rfl, i1, i2, i3, by omega, i5⟩
  subst ee
  rw [← hxs] at ef
  simp only [m_l_near, sForR2, as2, fnM, outM, sSeq, sSet, sRet, sDrop, sIf, sPut, sPar, sUnp, sNx, liftE, mOp, mUn, mCall, mCons, mNil, mC, mV, mB, asB, mAnd, mOr, mNot, mAndV, mOrV, mNotV, mIf, mTup, mLst, mNew, Res.bind, List.map_cons, List.map_nil, List.length_cons, List.length_nil, List.replicate, List.cons_append, List.nil_append, List.getElem?_cons_zero, List.getElem?_cons_succ, List.set_cons_zero, List.set_cons_succ, Nat.reduceAdd, Nat.reduceSub, Nat.reduceLeDiff, if_pos, if_true, ite_true, Mi.putAll, f_sub, fMax2, max_if, f_add, if_pos hb, hn, ef, Nat.zero_le, Nat.reduceLeDiff]

def laT (t d : Int) : Int := if d = 0 then t else t + d
def laU (u d : Int) : Int := if d = 0 then u + 1 else 0
def ahT (t u d : Int) : Int := if d = 0 then t else max (t - d + (if u = 0 then 0 else 1)) 0
def ahU (u d : Int) : Int := if d = 0 then max (u - 1) 0 else 0
theorem lat_eq (t u d : Int) : lat t u d = pr (laT t d) (laU u d) := by
  unfold lat laT laU
  by_cases h : d = 0 <;> simp [h]
theorem aho_eq (t u d : Int) : aho t u d = pr (ahT t u d) (ahU u d) := by
  unfold aho ahT ahU
  by_cases h : d = 0 <;> simp [h]
/-- a later stamp is at least a stamp just if the stamp is at least ahead of that -/
theorem just_if (a b t u d : Int) (ha : 0 ≤ a) (hb : 0 ≤ b) (ht : 0 ≤ t) (hu : 0 ≤ u) (hd : 0 ≤ d) : (t < laT a d ∨ (laT a d = t ∧ u ≤ laU b d)) ↔ (ahT t u d < a ∨ (a = ahT t u d ∧ ahU u d ≤ b)) := by
  unfold laT laU ahT ahU
  by_cases h : d = 0
  · simp only [h, if_true]
    omega
  · by_cases h2 : u = 0
    · simp only [h, h2, if_true, if_false]
      omega
    · simp only [h, h2, if_false]
      omega
theorem kw2 {m : List W → Store → Res W} {x y : W} {s : Store} : kwM 2 [1, 0] m [x, y] s = m [y, x] s := rfl
theorem refl_ne (x : Str) : decide (x ≠ x) = false := by simp
theorem elem_ok {z : W} {t u d : Int} {v0 v1 v2 v6 : Option W} {s : Store} (hz : GoodP z) (ht : 0 ≤ t) (hu : 0 ≤ u) (hd : 0 ≤ d) :
    m_l_one_right_e1 [v0, v1, v2, some (pr t u), some (.int d), some (pr (ahT t u d) (ahU u d)), v6, some z] s = .ok (.bl true) s := by
  obtain ⟨a, b, rfl, ha, hb⟩ := hz
  have e : decide (decide (t < laT a d ∨ (laT a d = t ∧ u ≤ laU b d)) = decide (ahT t u d < a ∨ (a = ahT t u d ∧ ahU u d ≤ b))) = true := by
    rw [decide_eq_true_eq, decide_eq_decide]
    exact just_if a b t u d ha hb ht hu hd
  simp only [m_l_one_right_e1, fnM, outM, sSeq, sSet, sRet, sDrop, sIf, sPut, sPar, sUnp, sNx, liftE, mOp, mUn, mCall, mCons, mNil, mC, mV, mB, asB, mAnd, mOr, mNot, mAndV, mOrV, mNotV, mIf, mTup, mLst, mNew, Res.bind, List.map_cons, List.map_nil, List.length_cons, List.length_nil, List.replicate, List.cons_append, List.nil_append, List.getElem?_cons_zero, List.getElem?_cons_succ, List.set_cons_zero, List.set_cons_succ, Nat.reduceAdd, Nat.reduceSub, Nat.reduceLeDiff, if_pos, if_true, ite_true, Mi.putAll, llater_ok hd, lat_eq, f_geP, f_eqB, e]
theorem add_refs {s : Store} {n m : Nat} {xs ys : List W} (hx : s[n]? = some (.lst xs)) (hy : s[m]? = some (.lst ys)) (h : xs.length + ys.length ≤ 100000) : fAdd (.ref n) (.ref m) s = .ok (.lst (xs ++ ys)) s := by
  simp only [fAdd, trkIn, hx, hy]
  rw [if_pos (line_le h)]
theorem add_lsts {s : Store} {xs ys : List W} (h : xs.length + ys.length ≤ 100000) : fAdd (.lst xs) (.lst ys) s = .ok (.lst (xs ++ ys)) s := by
  simp only [fAdd, trkIn]
  rw [if_pos (line_le h)]
theorem abs64 {x : Int} (h : -9000000 ≤ x) (h2 : x ≤ 9000000) : x.natAbs < 2 ^ 64 := by omega
theorem one_right_ok {st : Store} {p : Nat} {c : Int} (h : Pot st p c) (hc : c ≤ 900000) :
    Got (m_l_one_right [.ref p] st) fun w s => w = .bl true ∧ Fr p st s ∧ Pot s p (c + 8) := by
  obtain ⟨w1, s1, e1, m1, f1, p1⟩ := of_ok (xs := [.int 3, .int 9, .int 60, .int 1000000]) h (by omega) (by simp) (by simp)
  have q1 : ∃ n : Int, w1 = .int n ∧ 1 ≤ n ∧ n ≤ 1000000 := by
    simp only [List.mem_cons, List.not_mem_nil, or_false] at m1
    rcases m1 with rfl | rfl | rfl | rfl
    · exact ⟨3, rfl, by decide, by decide⟩
    · exact ⟨9, rfl, by decide, by decide⟩
    · exact ⟨60, rfl, by decide, by decide⟩
    · exact ⟨1000000, rfl, by decide, by decide⟩
  obtain ⟨n, rfl, n1, n2⟩ := q1
  obtain ⟨w2, s2, e2, ⟨t, rfl, t1, t2⟩, f2, p2⟩ := take_ok (n := n) p1 (by omega) n1 (by omega)
  obtain ⟨w3, s3, e3, ⟨b, rfl, b1, b2⟩, f3, p3⟩ := take_ok (n := 400) p2 (by omega) (by decide) (by decide)
  obtain ⟨w4, s4, e4, m4, f4, p4⟩ := of_ok (xs := [.int 0, .int 0, .int 1, .int 2, .int b]) p3 (by omega) (by simp) (by simp)
  have q4 : ∃ n : Int, w4 = .int n ∧ 0 ≤ n ∧ n ≤ 400 := by
    simp only [List.mem_cons, List.not_mem_nil, or_false] at m4
    rcases m4 with rfl | rfl | rfl | rfl | rfl
    · exact ⟨0, rfl, by decide, by decide⟩
    · exact ⟨0, rfl, by decide, by decide⟩
    · exact ⟨1, rfl, by decide, by decide⟩
    · exact ⟨2, rfl, by decide, by decide⟩
    · exact ⟨b, rfl, by omega, by omega⟩
  obtain ⟨u, rfl, u1, u2⟩ := q4
  obtain ⟨w5, s5, e5, ⟨g, rfl, g1, g2⟩, f5, p5⟩ := take_ok (n := 21) p4 (by omega) (by decide) (by decide)
  obtain ⟨w6, s6, e6, m6, f6, p6⟩ := of_ok (xs := [.int 0, .int 0, .int 1, .int 2, .int t, .int (t + 1), .int (max 0 (t - 1)), .int g]) p5 (by omega) (by simp) (by simp)
  have q6 : ∃ n : Int, w6 = .int n ∧ 0 ≤ n ∧ n ≤ 1000001 := by
    simp only [List.mem_cons, List.not_mem_nil, or_false] at m6
    rcases m6 with rfl | rfl | rfl | rfl | rfl | rfl | rfl | rfl
    · exact ⟨0, rfl, by decide, by decide⟩
    · exact ⟨0, rfl, by decide, by decide⟩
    · exact ⟨1, rfl, by decide, by decide⟩
    · exact ⟨2, rfl, by decide, by decide⟩
    · exact ⟨t, rfl, by omega, by omega⟩
    · exact ⟨t + 1, rfl, by omega, by omega⟩
    · exact ⟨max 0 (t - 1), rfl, by omega, by omega⟩
    · exact ⟨g, rfl, by omega, by omega⟩
  obtain ⟨d, rfl, d1, d2⟩ := q6
  have hA : 0 ≤ ahT t u d ∧ ahT t u d ≤ 3000000 ∧ 0 ≤ ahU u d ∧ ahU u d ≤ 1000 := by
    unfold ahT ahU
    by_cases h : d = 0
    · simp only [h, if_true]
      omega
    · by_cases h2 : u = 0
      · simp only [h, h2, if_true, if_false]
        omega
      · simp only [h, h2, if_false]
        omega
  have hL : 0 ≤ laT t d ∧ laT t d ≤ 3000000 ∧ 0 ≤ laU u d ∧ laU u d ≤ 1000 := by
    unfold laT laU
    by_cases h : d = 0
    · simp only [h, if_true]
      omega
    · simp only [h, if_false]
      omega
  have r1 := fun st => f_reprP (st := st) (abs64 (show -9000000 ≤ laT t d by omega) (by omega)) (abs64 (show -9000000 ≤ laU u d by omega) (by omega))
  have r2 := fun st => f_reprP (st := st) (abs64 (show -9000000 ≤ ahT t u d by omega) (by omega)) (abs64 (show -9000000 ≤ ahU u d by omega) (by omega))
  obtain ⟨w7, s7, e7, zs, rfl, l7, k7, x7, y7, g7⟩ := near_ok (t := t) (u := min u 5) (st := s6) (by omega) (by omega) (by omega) (by omega)
  obtain ⟨w8, s8, e8, ys, rfl, l8, k8, x8, y8, g8⟩ := near_ok (t := ahT t u d) (u := ahU u d) (st := s7) (by omega) (by omega) (by omega) (by omega)
  have x7' : s8[s6.length]? = some (.lst zs) := (k8 _ (by omega)).trans x7
  have a1 := add_refs x7' x8 (by omega)
  have a2 := add_lsts (s := s8) (xs := zs ++ ys) (ys := [pr 0 0, pr 0 1]) (by rw [List.length_append]; simp; omega)
  have good : ∀ z ∈ zs ++ ys ++ [pr 0 0, pr 0 1], GoodP z := by
    intro z hz
    rcases List.mem_append.mp hz with hz | hz
    · rcases List.mem_append.mp hz with hz | hz
      · exact g7 z hz
      · exact g8 z hz
    · simp only [List.mem_cons, List.not_mem_nil, or_false] at hz
      rcases hz with rfl | rfl
      · exact ⟨0, 0, rfl, by decide, by decide⟩
      · exact ⟨0, 1, rfl, by decide, by decide⟩
  have hlen : (zs ++ ys ++ [pr 0 0, pr 0 1]).length ≤ 100000 := by
    rw [List.length_append, List.length_append]
    simp
    omega
  generalize hall : zs ++ ys ++ [pr 0 0, pr 0 1] = all at *
  have lc := lc_map (put := setN 7) (te := m_l_one_right_e1) (env := wipeE [some (.ref p), some (.int t), some (.int u), some (pr t u), some (.int d), some (pr (ahT t u d) (ahU u d)), some (.lst all), none] [7]) (xs := all) (st := s8)
    (fun _ => .bl true) hlen (fun x hx => by
      simp only [wipeE, setN, fnM, outM, sSeq, sSet, sRet, sDrop, sIf, sPut, sPar, sUnp, sNx, liftE, mOp, mUn, mCall, mCons, mNil, mC, mV, mB, asB, mAnd, mOr, mNot, mAndV, mOrV, mNotV, mIf, mTup, mLst, mNew, Res.bind, List.map_cons, List.map_nil, List.length_cons, List.length_nil, List.replicate, List.cons_append, List.nil_append, List.getElem?_cons_zero, List.getElem?_cons_succ, List.set_cons_zero, List.set_cons_succ, Nat.reduceAdd, Nat.reduceSub, Nat.reduceLeDiff, if_pos, if_true, ite_true, Mi.putAll]
      exact elem_ok (good x hx) t1 u1 d1)
  rw [List.map_const'] at lc
  have p8 : Pot s8 p (c + 6) := by
    obtain ⟨o, sd, ct, h1, h2⟩ := p6.ex
    have hpl : p < s6.length := (List.getElem?_eq_some_iff.mp h1).1
    refine (Pot.mk ⟨o, sd, ct, ?_, h2⟩).mono (by omega)
    rw [k8 p (by omega), k7 p hpl]
    exact h1
  refine ⟨.bl true, s8, ?_, rfl, ((((((f1.trans f2).trans f3).trans f4).trans f5).trans f6).trans ⟨by omega, fun i hi _ => by rw [k8 i (by omega), k7 i hi]⟩), p8.mono (by omega)⟩
  simp only [m_l_one_right, fnM, outM, sSeq, sSet, sRet, sDrop, sIf, sPut, sPar, sUnp, sNx, liftE, mOp, mUn, mCall, mCons, mNil, mC, mV, mB, asB, mAnd, mOr, mNot, mAndV, mOrV, mNotV, mIf, mTup, mLst, mNew, Res.bind, List.map_cons, List.map_nil, List.length_cons, List.length_nil, List.replicate, List.cons_append, List.nil_append, List.getElem?_cons_zero, List.getElem?_cons_succ, List.set_cons_zero, List.set_cons_succ, Nat.reduceAdd, Nat.reduceSub, Nat.reduceLeDiff, if_pos, if_true, ite_true, Mi.putAll, pow6, e1, e2, e3, e4, e5, e6, f_add, f_sub, fMax2, max_if, fMin2, min_if, later_ok t1 u1 d1, llater_ok d1, lat_eq, r1, f_neS, refl_ne, Bool.false_eq_true, if_false, kw2, ahead_ok t1 u1 d1, lahead_ok, aho_eq, r2, e7, e8, a1, a2, hall, mLcS, seqOf, lc, asLst, f_all]

/-- a stamp of the law's drawing -/
def Sm9 (w : W) : Prop := ∃ a b : Int, w = pr a b ∧ 0 ≤ a ∧ a ≤ 2000000 ∧ 0 ≤ b ∧ b ≤ 2000000
theorem beside_ok {st : Store} {p : Nat} {c a b : Int} (h : Pot st p c) (hc : c ≤ 800000) (ha : 0 ≤ a) (ha2 : a ≤ 1000000) (hb : 0 ≤ b) (hb2 : b ≤ 1000000) :
    Got (m_l_beside [.ref p, pr a b] st) fun w s => Sm9 w ∧ Fr p st s ∧ Pot s p (c + 5) := by
  obtain ⟨w1, s1, e1, ⟨x, y, rfl, x1, x2, y1, y2⟩, f1, p1⟩ := moment_ok h (by omega)
  have ad := add_lsts (s := s1) (xs := [pr a b, pr a (b + 1), pr (a + 1) 0, pr (a + 1) b, pr a 0, pr (max 0 (a - 1)) (b + 2)]) (ys := [pr x y]) (by simp)
  obtain ⟨w2, s2, e2, m2, f2, p2⟩ := of_ok (xs := [pr a b, pr a (b + 1), pr (a + 1) 0, pr (a + 1) b, pr a 0, pr (max 0 (a - 1)) (b + 2)] ++ [pr x y]) p1 (by omega) (by simp) (by simp)
  refine ⟨w2, s2, ?_, ?_, f1.trans f2, p2.mono (by omega)⟩
  · simp only [m_l_beside, fnM, outM, sSeq, sSet, sRet, sDrop, sIf, sPut, sPar, sUnp, sNx, liftE, mOp, mUn, mCall, mCons, mNil, mC, mV, mB, asB, mAnd, mOr, mNot, mAndV, mOrV, mNotV, mIf, mTup, mLst, mNew, Res.bind, List.map_cons, List.map_nil, List.length_cons, List.length_nil, List.replicate, List.cons_append, List.nil_append, List.getElem?_cons_zero, List.getElem?_cons_succ, List.set_cons_zero, List.set_cons_succ, Nat.reduceAdd, Nat.reduceSub, Nat.reduceLeDiff, if_pos, if_true, ite_true, Mi.putAll, f_add, f_sub, fMax2, max_if, e1, ad] at e2 ⊢
    simp only [List.cons_append, List.nil_append] at ad e2
    simp only [ad, e2]
  · simp only [List.cons_append, List.nil_append, List.mem_cons, List.not_mem_nil, or_false] at m2
    rcases m2 with rfl | rfl | rfl | rfl | rfl | rfl | rfl
    · exact ⟨a, b, rfl, by omega, by omega, by omega, by omega⟩
    · exact ⟨a, b + 1, rfl, by omega, by omega, by omega, by omega⟩
    · exact ⟨a + 1, 0, rfl, by omega, by omega, by omega, by omega⟩
    · exact ⟨a + 1, b, rfl, by omega, by omega, by omega, by omega⟩
    · exact ⟨a, 0, rfl, by omega, by omega, by omega, by omega⟩
    · exact ⟨max 0 (a - 1), b + 2, rfl, by omega, by omega, by omega, by omega⟩
    · exact ⟨x, y, rfl, by omega, by omega, by omega, by omega⟩
theorem la_nn {t u d : Int} (ht : 0 ≤ t) (hu : 0 ≤ u) (hd : 0 ≤ d) : 0 ≤ laT t d ∧ 0 ≤ laU u d := by
  unfold laT laU
  by_cases h : d = 0
  · simp only [h, if_true]
    omega
  · simp only [h, if_false]
    omega
theorem ah_nn {t u d : Int} (ht : 0 ≤ t) (hu : 0 ≤ u) (hd : 0 ≤ d) : 0 ≤ ahT t u d ∧ 0 ≤ ahU u d := by
  unfold ahT ahU
  by_cases h : d = 0
  · simp only [h, if_true]
    omega
  · simp only [h, if_false]
    omega
theorem pair_right_ok {a b x y d : Int} {s : Store} (ha : 0 ≤ a) (hb : 0 ≤ b) (hx : 0 ≤ x) (hy : 0 ≤ y) (hd : 0 ≤ d) : m_l_pair_right [pr a b, pr x y, .int d] s = .ok (.bl true) s := by
  obtain ⟨l1, l2⟩ := la_nn ha hb hd
  obtain ⟨k1, k2⟩ := la_nn hx hy hd
  obtain ⟨h1, h2⟩ := ah_nn l1 l2 hd
  have c1 : decide (laT a d < a ∨ (laT a d = a ∧ laU b d ≤ b)) = false := by
    rw [decide_eq_false_iff_not]
    unfold laT laU
    by_cases h : d = 0
    · simp only [h, if_true]
      omega
    · simp only [h, if_false]
      omega
  have c2 : (decide (a < x ∨ (a = x ∧ b ≤ y)) = true → decide (laT x d < laT a d ∨ (laT x d = laT a d ∧ laU y d < laU b d)) = false) := by
    rw [decide_eq_true_eq, decide_eq_false_iff_not]
    unfold laT laU
    by_cases h : d = 0
    · simp only [h, if_true]
      omega
    · simp only [h, if_false]
      omega
  have c3 : decide (decide (x < laT a d ∨ (laT a d = x ∧ y ≤ laU b d)) ≠ decide (ahT x y d < a ∨ (a = ahT x y d ∧ ahU y d ≤ b))) = false := by
    rw [decide_eq_false_iff_not, Decidable.not_not, decide_eq_decide]
    exact just_if a b x y d ha hb hx hy hd
  have c4 : decide (ahT (laT a d) (laU b d) d < a ∨ (ahT (laT a d) (laU b d) d = a ∧ ahU (laU b d) d ≤ b)) = true := by
    rw [decide_eq_true_eq]
    unfold laT laU ahT ahU
    by_cases h : d = 0
    · simp only [h, if_true, true_and, and_true]
      omega
    · rw [if_neg h, if_neg h, if_neg h, if_neg h, if_pos rfl]
      omega
  have c5 : decide (laT (ahT (laT a d) (laU b d) d) d = laT a d ∧ laU (ahU (laU b d) d) d = laU b d) = true := by
    rw [decide_eq_true_eq]
    unfold laT laU ahT ahU
    by_cases h : d = 0
    · simp only [h, if_true, true_and, and_true]
      omega
    · simp only [if_neg h, if_true, true_and, and_true]
      omega
  by_cases q : decide (a < x ∨ (a = x ∧ b ≤ y)) = true
  · simp only [m_l_pair_right, fnM, outM, sSeq, sSet, sRet, sDrop, sIf, sPut, sPar, sUnp, sNx, liftE, mOp, mUn, mCall, mCons, mNil, mC, mV, mB, asB, mAnd, mOr, mNot, mAndV, mOrV, mNotV, mIf, mTup, mLst, mNew, Res.bind, List.map_cons, List.map_nil, List.length_cons, List.length_nil, List.replicate, List.cons_append, List.nil_append, List.getElem?_cons_zero, List.getElem?_cons_succ, List.set_cons_zero, List.set_cons_succ, Nat.reduceAdd, Nat.reduceSub, Nat.reduceLeDiff, if_pos, if_true, ite_true, Mi.putAll, later_ok ha hb hd, later_ok hx hy hd, lat_eq, mTru, isstamp, l1, l2, k1, k2, decide_true, Bool.and_true, truW, Bool.not_true, Bool.false_eq_true, if_false, f_leP, c1, q, f_gtP, c2 q, f_geP, ahead_ok hx hy hd, aho_eq, f_neB, c3, ahead_ok l1 l2 hd, c4, later_ok h1 h2 hd, f_eqP, c5]
  · have q' : decide (a < x ∨ (a = x ∧ b ≤ y)) = false := by simpa using q
    simp only [m_l_pair_right, fnM, outM, sSeq, sSet, sRet, sDrop, sIf, sPut, sPar, sUnp, sNx, liftE, mOp, mUn, mCall, mCons, mNil, mC, mV, mB, asB, mAnd, mOr, mNot, mAndV, mOrV, mNotV, mIf, mTup, mLst, mNew, Res.bind, List.map_cons, List.map_nil, List.length_cons, List.length_nil, List.replicate, List.cons_append, List.nil_append, List.getElem?_cons_zero, List.getElem?_cons_succ, List.set_cons_zero, List.set_cons_succ, Nat.reduceAdd, Nat.reduceSub, Nat.reduceLeDiff, if_pos, if_true, ite_true, Mi.putAll, later_ok ha hb hd, later_ok hx hy hd, lat_eq, mTru, isstamp, l1, l2, k1, k2, decide_true, Bool.and_true, truW, Bool.not_true, Bool.false_eq_true, if_false, f_leP, c1, q', f_geP, ahead_ok hx hy hd, aho_eq, f_neB, c3, ahead_ok l1 l2 hd, c4, later_ok h1 h2 hd, f_eqP, c5]
theorem right_ok {st : Store} {p : Nat} {c : Int} (h : Pot st p c) (hc : c ≤ 700000) : Got (m_l_right [.ref p] st) fun w s => w = .bl true ∧ Fr p st s ∧ Pot s p (c + 14) := by
  obtain ⟨w1, s1, e1, ⟨a, b, rfl, a1, a2, b1, b2⟩, f1, p1⟩ := moment_ok h (by omega)
  obtain ⟨w2, s2, e2, ⟨x, y, rfl, x1, x2, y1, y2⟩, f2, p2⟩ := beside_ok p1 (by omega) a1 a2 b1 b2
  obtain ⟨w3, s3, e3, ⟨g, rfl, g1, g2⟩, f3, p3⟩ := take_ok (n := 21) p2 (by omega) (by decide) (by decide)
  obtain ⟨w4, s4, e4, m4, f4, p4⟩ := of_ok (xs := [.int 0, .int 0, .int 1, .int 2, .int g]) p3 (by omega) (by simp) (by simp)
  have q4 : ∃ n : Int, w4 = .int n ∧ 0 ≤ n := by
    simp only [List.mem_cons, List.not_mem_nil, or_false] at m4
    rcases m4 with rfl | rfl | rfl | rfl | rfl
    · exact ⟨0, rfl, by decide⟩
    · exact ⟨0, rfl, by decide⟩
    · exact ⟨1, rfl, by decide⟩
    · exact ⟨2, rfl, by decide⟩
    · exact ⟨g, rfl, g1⟩
  obtain ⟨d, rfl, d1⟩ := q4
  obtain ⟨w5, s5, e5, ⟨k, rfl, k1, k2⟩, f5, p5⟩ := take_ok (n := 21) p4 (by omega) (by decide) (by decide)
  obtain ⟨w6, s6, e6, m6, f6, p6⟩ := of_ok (xs := [.int 0, .int 1, .int k]) p5 (by omega) (by simp) (by simp)
  have q6 : ∃ n : Int, w6 = .int n ∧ 0 ≤ n := by
    simp only [List.mem_cons, List.not_mem_nil, or_false] at m6
    rcases m6 with rfl | rfl | rfl
    · exact ⟨0, rfl, by decide⟩
    · exact ⟨1, rfl, by decide⟩
    · exact ⟨k, rfl, k1⟩
  obtain ⟨m, rfl, m1⟩ := q6
  have hm : 0 ≤ d + m := by omega
  obtain ⟨l1, l2⟩ := la_nn a1 b1 d1
  have c1 : decide (laT a (d + m) < laT a d ∨ (laT a (d + m) = laT a d ∧ laU b (d + m) < laU b d)) = false := by
    rw [decide_eq_false_iff_not]
    unfold laT laU
    by_cases h : d = 0
    · by_cases h2 : m = 0
      · simp only [h, h2, Int.add_zero, if_true, true_and, and_true, false_and, and_false, or_false, false_or]
        omega
      · have h3 : ¬ (0 + m = 0) := by omega
        simp only [h, h3, if_true, if_false, true_and, and_true, false_and, and_false, or_false, false_or]
        omega
    · have h3 : ¬ (d + m = 0) := by omega
      simp only [h, h3, if_false, true_and, and_true, false_and, and_false, or_false, false_or]
      omega
  have c2 : decide (laT a (d + m) < laT (laT a d) m ∨ (laT (laT a d) m = laT a (d + m) ∧ laU b (d + m) ≤ laU (laU b d) m)) = true := by
    rw [decide_eq_true_eq]
    unfold laT laU
    by_cases h : d = 0
    · by_cases h2 : m = 0
      · simp only [h, h2, Int.add_zero, if_true, true_and, and_true, false_and, and_false, or_false, false_or]
        omega
      · have h3 : ¬ (0 + m = 0) := by omega
        simp only [h, h2, h3, if_true, if_false, true_and, and_true, false_and, and_false, or_false, false_or]
        omega
    · have h3 : ¬ (d + m = 0) := by omega
      by_cases h2 : m = 0
      · simp only [h, h2, Int.add_zero, if_true, if_false, true_and, and_true, false_and, and_false, or_false, false_or]
        omega
      · simp only [h, h2, h3, if_false, true_and, and_true, false_and, and_false, or_false, false_or]
        omega
  have c3 : d ≠ 0 → m ≠ 0 → decide (laT (laT a d) m = laT a (d + m) ∧ laU (laU b d) m = laU b (d + m)) = true := by
    intro h h2
    rw [decide_eq_true_eq]
    have h3 : ¬ (d + m = 0) := by omega
    unfold laT laU
    simp only [h, h2, h3, if_false, true_and, and_true, false_and, and_false, or_false, false_or]
    omega
  refine ⟨.bl true, s6, ?_, rfl, ((((f1.trans f2).trans f3).trans f4).trans f5).trans f6, p6.mono (by omega)⟩
  by_cases h : d = 0
  · simp only [m_l_right, fnM, outM, sSeq, sSet, sRet, sDrop, sIf, sPut, sPar, sUnp, sNx, liftE, mOp, mUn, mCall, mCons, mNil, mC, mV, mB, asB, mAnd, mOr, mNot, mAndV, mOrV, mNotV, mIf, mTup, mLst, mNew, Res.bind, List.map_cons, List.map_nil, List.length_cons, List.length_nil, List.replicate, List.cons_append, List.nil_append, List.getElem?_cons_zero, List.getElem?_cons_succ, List.set_cons_zero, List.set_cons_succ, Nat.reduceAdd, Nat.reduceSub, Nat.reduceLeDiff, if_pos, if_true, ite_true, Mi.putAll, e1, e2, e3, e4, e5, e6, mTru, pair_right_ok a1 b1 x1 y1 d1, pair_right_ok x1 y1 a1 b1 d1, truW, Bool.not_true, Bool.false_eq_true, if_false, later_ok a1 b1 d1, later_ok a1 b1 hm, f_add, lat_eq, f_gtP, c1, later_ok l1 l2 m1, f_geP, c2, f_eq, decide_eq_true h]
  · by_cases h2 : m = 0
    · simp only [m_l_right, fnM, outM, sSeq, sSet, sRet, sDrop, sIf, sPut, sPar, sUnp, sNx, liftE, mOp, mUn, mCall, mCons, mNil, mC, mV, mB, asB, mAnd, mOr, mNot, mAndV, mOrV, mNotV, mIf, mTup, mLst, mNew, Res.bind, List.map_cons, List.map_nil, List.length_cons, List.length_nil, List.replicate, List.cons_append, List.nil_append, List.getElem?_cons_zero, List.getElem?_cons_succ, List.set_cons_zero, List.set_cons_succ, Nat.reduceAdd, Nat.reduceSub, Nat.reduceLeDiff, if_pos, if_true, ite_true, Mi.putAll, e1, e2, e3, e4, e5, e6, mTru, pair_right_ok a1 b1 x1 y1 d1, pair_right_ok x1 y1 a1 b1 d1, truW, Bool.not_true, Bool.false_eq_true, if_false, later_ok a1 b1 d1, later_ok a1 b1 hm, f_add, lat_eq, f_gtP, c1, later_ok l1 l2 m1, f_geP, c2, f_eq, decide_eq_false h, decide_eq_true h2]
    · simp only [m_l_right, fnM, outM, sSeq, sSet, sRet, sDrop, sIf, sPut, sPar, sUnp, sNx, liftE, mOp, mUn, mCall, mCons, mNil, mC, mV, mB, asB, mAnd, mOr, mNot, mAndV, mOrV, mNotV, mIf, mTup, mLst, mNew, Res.bind, List.map_cons, List.map_nil, List.length_cons, List.length_nil, List.replicate, List.cons_append, List.nil_append, List.getElem?_cons_zero, List.getElem?_cons_succ, List.set_cons_zero, List.set_cons_succ, Nat.reduceAdd, Nat.reduceSub, Nat.reduceLeDiff, if_pos, if_true, ite_true, Mi.putAll, e1, e2, e3, e4, e5, e6, mTru, pair_right_ok a1 b1 x1 y1 d1, pair_right_ok x1 y1 a1 b1 d1, truW, Bool.not_true, Bool.false_eq_true, if_false, later_ok a1 b1 d1, later_ok a1 b1 hm, f_add, lat_eq, f_gtP, c1, later_ok l1 l2 m1, f_geP, c2, f_eq, decide_eq_false h, decide_eq_false h2, f_eqP, c3 h h2]

end K11gen

set_option exponentiation.threshold 5000
namespace K11gen
open PySem PySem.Spec PyProof.Rows L2 Mi

def t60 : Int := 1000000000000000000000000000000000000000000000000000000000000
def t300 : Int := 1000000000000000000000000000000000000000000000000000000000000000000000000000000000000000000000000000000000000000000000000000000000000000000000000000000000000000000000000000000000000000000000000000000000000000000000000000000000000000000000000000000000000000000000000000000000000000000000000000000000000
def t18 : Int := 1000000000000000000
theorem pw60 {st : Store} : fPow (.int 10) (.int 60) st = .ok (.int t60) st := (f_pow (by decide) (by decide) (by decide)).trans (by rw [show (10 : Int) ^ (60 : Int).toNat = t60 from by decide +kernel])
theorem pw300 {st : Store} : fPow (.int t60) (.int 5) st = .ok (.int t300) st := (f_pow (by decide) (by decide) (by decide +kernel)).trans (by rw [show t60 ^ (5 : Int).toNat = t300 from by decide +kernel])
theorem pw18 {st : Store} : fPow (.int 10) (.int 18) st = .ok (.int t18) st := (f_pow (by decide) (by decide) (by decide)).trans (by rw [show (10 : Int) ^ (18 : Int).toNat = t18 from by decide +kernel])
theorem t300_pos : 0 < t300 := by decide +kernel
theorem t300_lt : t300.natAbs < 2 ^ 1000 := by decide +kernel
theorem bigger {x : Int} (h : x.natAbs < 2 ^ 1000) : x.natAbs < 2 ^ 2000 := Nat.lt_of_lt_of_le h (Nat.pow_le_pow_right (by decide) (by decide))
theorem small1000 {x : Int} (h : 0 ≤ x) (h2 : x < 2 ^ 90) : x.natAbs < 2 ^ 1000 := Nat.lt_of_lt_of_le (show x.natAbs < 2 ^ 90 by omega) (Nat.pow_le_pow_right (by decide) (by decide))
def ownOf (c : Int) : Int := (if c < 0 then -c else c) % t300 * (if decide (t18 ≤ if c < 0 then -c else c) = true then 1 else 0)
def seedOf (c k : Int) : Int := (c % 2305843009213693951 * 70441 + 6337 * k * k + 71) % 2305843009213693921
theorem own_ok (c : Int) : 0 ≤ ownOf c ∧ (ownOf c).natAbs < 2 ^ 1000 := by
  have h1 := Int.emod_nonneg (if c < 0 then -c else c) (show t300 ≠ 0 from by decide +kernel)
  have h2 := Int.emod_lt_of_pos (if c < 0 then -c else c) t300_pos
  have h3 := t300_lt
  unfold ownOf
  by_cases h : decide (t18 ≤ if c < 0 then -c else c) = true
  · rw [if_pos h, Int.mul_one]
    refine ⟨h1, Nat.lt_of_le_of_lt ?_ h3⟩
    omega
  · rw [if_neg h, Int.mul_zero]
    exact ⟨by decide, Nat.two_pow_pos _⟩
theorem absi {c : Int} {st : Store} : fAbs [.int c] st = .ok (.int (if c < 0 then -c else c)) st := rfl
theorem inti {c : Int} {st : Store} : fInt [.int c] st = .ok (.int c) st := rfl
theorem intb {b : Bool} {st : Store} : fInt [.bl b] st = .ok (.int (if b = true then 1 else 0)) st := by cases b <;> rfl
theorem pot_rest {c k : Int} {st : Store} (hk : 0 ≤ k) (hk2 : k ≤ 2) :
    fMod (.int (if c < 0 then -c else c)) (.int t300) st = .ok (.int ((if c < 0 then -c else c) % t300)) st ∧
    (∀ b : Bool, fMul (.int ((if c < 0 then -c else c) % t300)) (.int (if b = true then 1 else 0)) st = .ok (.int ((if c < 0 then -c else c) % t300 * (if b = true then 1 else 0))) st) ∧
    fMod (.int c) (.int 2305843009213693951) st = .ok (.int (c % 2305843009213693951)) st ∧
    fMul (.int (c % 2305843009213693951)) (.int 70441) st = .ok (.int (c % 2305843009213693951 * 70441)) st ∧
    fMul (.int 6337) (.int k) st = .ok (.int (6337 * k)) st ∧ fMul (.int (6337 * k)) (.int k) st = .ok (.int (6337 * k * k)) st ∧
    (∀ x : Int, fMod (.int x) (.int 2305843009213693921) st = .ok (.int (x % 2305843009213693921)) st) := by
  have h1 := Int.emod_nonneg (if c < 0 then -c else c) (show t300 ≠ 0 from by decide +kernel)
  have h2 := Int.emod_lt_of_pos (if c < 0 then -c else c) t300_pos
  have h3 := t300_lt
  refine ⟨f_mod t300_pos, fun b => f_mul (bigger (Nat.lt_of_le_of_lt (by omega) h3)) (by cases b <;> decide), f_mod (by decide), f_mul (bigger (small1000 (by omega) (by omega))) (bigger (small1000 (by decide) (by decide))),
    f_mul (bigger (small1000 (by decide) (by decide))) (bigger (small1000 hk (by omega))), f_mul (bigger (small1000 (by omega) (by omega))) (bigger (small1000 hk (by omega))), fun x => f_mod (by decide)⟩
theorem pot_ok {ns : List Int} {k : Int} {st : Store} (hk : 0 ≤ k) (hk2 : k ≤ 2) : Got (m_l_pot [.frz (ns.map W.int), .int k] st) fun w s => w = .ref st.length ∧ s.length = st.length + 1 ∧ Pot s st.length 0 := by
  obtain ⟨cell, hc⟩ : ∃ cell : Int, (decide (k < ((ns.map W.int).length : Int)) = true → fIx (.frz (ns.map W.int)) (.int k) st = .ok (.int cell) st) ∧ (decide (k < ((ns.map W.int).length : Int)) = false → 37 * k + 11 = cell) := by
    by_cases h : k < ((ns.map W.int).length : Int)
    · have h2 : k.toNat < ns.length := by
        rw [List.length_map] at h
        omega
      have ed : k = ((k.toNat : Nat) : Int) := by omega
      have z := atI_nat (xs := ns.map W.int) (j := k.toNat) (v := .int ns[k.toNat]) (by rw [List.getElem?_map, List.getElem?_eq_getElem h2]; rfl)
      rw [← ed] at z
      exact ⟨ns[k.toNat], ⟨fun _ => f_ixF z, fun e => absurd h (of_decide_eq_false e)⟩⟩
    · exact ⟨37 * k + 11, ⟨fun e => absurd (of_decide_eq_true e) h, fun _ => rfl⟩⟩
  obtain ⟨hc1, hc2⟩ := hc
  obtain ⟨r1, r2, r3, r4, r5, r6, r7⟩ := pot_rest (c := cell) (st := st) hk hk2
  have r2' := r2 (decide (t18 ≤ if cell < 0 then -cell else cell))
  have m37 : fMul (.int 37) (.int k) st = .ok (.int (37 * k)) st := f_mul (bigger (small1000 (by decide) (by decide))) (bigger (small1000 hk (by omega)))
  obtain ⟨o1, o2⟩ := own_ok cell
  have s1 := Int.emod_nonneg (cell % 2305843009213693951 * 70441 + 6337 * k * k + 71) (show (2305843009213693921 : Int) ≠ 0 by decide)
  have s2 := Int.emod_lt_of_pos (cell % 2305843009213693951 * 70441 + 6337 * k * k + 71) (show (0 : Int) < 2305843009213693921 by decide)
  refine ⟨.ref st.length, st ++ [.lst [.int (ownOf cell), .int (seedOf cell k), .int 0]], ?_, rfl, by rw [List.length_append]; rfl, ⟨ownOf cell, seedOf cell k, 0, by rw [List.getElem?_append_right (Nat.le_refl _), Nat.sub_self]; rfl, o1, o2, s1, by unfold seedOf; omega, by decide, by decide⟩⟩
  cases q : decide (k < ((ns.map W.int).length : Int)) with
  | true =>
    have e1 := hc1 q
    simp only [m_l_pot, fnM, outM, sSeq, sSet, sRet, sDrop, sIf, sPut, sPar, sUnp, sNx, liftE, mOp, mUn, mCall, mCons, mNil, mC, mV, mB, asB, mAnd, mOr, mNot, mAndV, mOrV, mNotV, mIf, mTup, mLst, mNew, Res.bind, List.map_cons, List.map_nil, List.length_cons, List.length_nil, List.replicate, List.cons_append, List.nil_append, List.getElem?_cons_zero, List.getElem?_cons_succ, List.set_cons_zero, List.set_cons_succ, Nat.reduceAdd, Nat.reduceSub, Nat.reduceLeDiff, if_pos, if_true, ite_true, Mi.putAll, f_lenF, f_lt, q, e1, absi, inti, intb, pw60, pw300, pw18, r1, f_ge, r2', r3, r4, r5, r6, r7, f_add, ownOf, seedOf]
  | false =>
    have e1 := hc2 q
    simp only [m_l_pot, fnM, outM, sSeq, sSet, sRet, sDrop, sIf, sPut, sPar, sUnp, sNx, liftE, mOp, mUn, mCall, mCons, mNil, mC, mV, mB, asB, mAnd, mOr, mNot, mAndV, mOrV, mNotV, mIf, mTup, mLst, mNew, Res.bind, List.map_cons, List.map_nil, List.length_cons, List.length_nil, List.replicate, List.cons_append, List.nil_append, List.getElem?_cons_zero, List.getElem?_cons_succ, List.set_cons_zero, List.set_cons_succ, Nat.reduceAdd, Nat.reduceSub, Nat.reduceLeDiff, if_pos, if_true, ite_true, Mi.putAll, f_lenF, f_lt, q, m37, f_add, e1, absi, inti, intb, pw60, pw300, pw18, r1, f_ge, r2', r3, r4, r5, r6, r7, ownOf, seedOf, Bool.false_eq_true, if_false]
end K11gen

namespace K11gen
open PySem PySem.Spec PyProof.Rows L2 Mi

theorem e1_ok {F v : Option W} {p : Nat} {x : W} {s : Store} {c : Int} (h : Pot s p c) (hc : c ≤ 900000) :
    ∃ s2, m_law_e1 (setN 3 x [F, v, some (.ref p), none]) s = .ok (.bl true) s2 ∧ Pot s2 p (c + 8) := by
  obtain ⟨w, s2, e, rfl, f, q⟩ := one_right_ok h hc
  refine ⟨s2, ?_, q⟩
  simp only [m_law_e1, setN, fnM, outM, sSeq, sSet, sRet, sDrop, sIf, sPut, sPar, sUnp, sNx, liftE, mOp, mUn, mCall, mCons, mNil, mC, mV, mB, asB, mAnd, mOr, mNot, mAndV, mOrV, mNotV, mIf, mTup, mLst, mNew, Res.bind, List.map_cons, List.map_nil, List.length_cons, List.length_nil, List.replicate, List.cons_append, List.nil_append, List.getElem?_cons_zero, List.getElem?_cons_succ, List.set_cons_zero, List.set_cons_succ, Nat.reduceAdd, Nat.reduceSub, Nat.reduceLeDiff, if_pos, if_true, ite_true, Mi.putAll, e]
theorem e2_ok {F v : Option W} {p : Nat} {x : W} {s : Store} {c : Int} (h : Pot s p c) (hc : c ≤ 700000) :
    ∃ s2, m_law_e2 (setN 3 x [F, v, some (.ref p), none]) s = .ok (.bl true) s2 ∧ Pot s2 p (c + 14) := by
  obtain ⟨w, s2, e, rfl, f, q⟩ := right_ok h hc
  refine ⟨s2, ?_, q⟩
  simp only [m_law_e2, setN, fnM, outM, sSeq, sSet, sRet, sDrop, sIf, sPut, sPar, sUnp, sNx, liftE, mOp, mUn, mCall, mCons, mNil, mC, mV, mB, asB, mAnd, mOr, mNot, mAndV, mOrV, mNotV, mIf, mTup, mLst, mNew, Res.bind, List.map_cons, List.map_nil, List.length_cons, List.length_nil, List.replicate, List.cons_append, List.nil_append, List.getElem?_cons_zero, List.getElem?_cons_succ, List.set_cons_zero, List.set_cons_succ, Nat.reduceAdd, Nat.reduceSub, Nat.reduceLeDiff, if_pos, if_true, ite_true, Mi.putAll, e]
theorem turn_ok {ns : List Int} {k : Int} {v2 v3 : Option W} {st : Store} (hk : 0 ≤ k) (hk2 : k ≤ 2) :
    ∃ v s2, m_law_b1 [some (.frz (ns.map W.int)), some (.int k), v2, v3] st = .go (.nx [some (.frz (ns.map W.int)), some (.int k), v, v3]) s2 := by
  obtain ⟨w, s1, e1, rfl, l1, p1⟩ := pot_ok (ns := ns) (st := st) hk hk2
  generalize hF : W.frz (ns.map W.int) = F at *
  obtain ⟨s2, e2, p2⟩ := lc_true (put := setN 3) (te := m_law_e1) (env := wipeE [some F, some (.int k), some (.ref st.length), v3] [3]) (xs := rngW 0 40) (fun i s => Pot s st.length (8 * i)) (by rw [rngW_len]; decide) (fun i x s hx hI => by
    have hi : i < 40 := by
      have z := (List.getElem?_eq_some_iff.mp hx).1
      rw [rngW_len] at z
      exact z
    obtain ⟨s2, e, q⟩ := e1_ok (F := some F) (v := some (.int k)) (x := x) hI (by omega)
    refine ⟨s2, e, q.mono (by omega)⟩) s1 (p1.mono (by omega))
  rw [rngW_len] at p2 e2
  have a1 := f_all (n := 40) (st := s2)
  generalize List.replicate 40 (W.bl true) = L1 at *
  obtain ⟨s3, e3, p3⟩ := lc_true (put := setN 3) (te := m_law_e2) (env := wipeE [some F, some (.int k), some (.ref st.length), v3] [3]) (xs := rngW 0 30) (fun i s => Pot s st.length (320 + 14 * i)) (by rw [rngW_len]; decide) (fun i x s hx hI => by
    have hi : i < 30 := by
      have z := (List.getElem?_eq_some_iff.mp hx).1
      rw [rngW_len] at z
      exact z
    obtain ⟨s2, e, q⟩ := e2_ok (F := some F) (v := some (.int k)) (x := x) hI (by omega)
    refine ⟨s2, e, q.mono (by omega)⟩) s2 (p2.mono (by omega))
  rw [rngW_len] at p3 e3
  have a2 := f_all (n := 30) (st := s3)
  generalize List.replicate 30 (W.bl true) = L2 at *
  have b1 : -(2 ^ 62) ≤ (40 : Int) ∧ (40 : Int) < 2 ^ 62 := by decide
  have b2 : -(2 ^ 62) ≤ (30 : Int) ∧ (30 : Int) < 2 ^ 62 := by decide
  refine ⟨some (.ref st.length), s3, ?_⟩
  simp only [m_law_b1, fnM, outM, sSeq, sSet, sRet, sDrop, sIf, sPut, sPar, sUnp, sNx, liftE, mOp, mUn, mCall, mCons, mNil, mC, mV, mB, asB, mAnd, mOr, mNot, mAndV, mOrV, mNotV, mIf, mTup, mLst, mNew, Res.bind, List.map_cons, List.map_nil, List.length_cons, List.length_nil, List.replicate, List.cons_append, List.nil_append, List.getElem?_cons_zero, List.getElem?_cons_succ, List.set_cons_zero, List.set_cons_succ, Nat.reduceAdd, Nat.reduceSub, Nat.reduceLeDiff, if_pos, if_true, ite_true, Mi.putAll, e1, mTru, mLcR1, as1, b1, b2, show (40 : Int).toNat = 40 from rfl, show (30 : Int).toNat = 30 from rfl, e2, e3, asLst, a1, a2, truW, and_self, Bool.not_true, Bool.false_eq_true, if_false]
theorem law_true (ns : List Int) (hn : ns.length ≤ 63) : ∃ st', m_law [.frz (ns.map W.int)] [] = .ok (.bl true) st' := by
  generalize ha : (if ((ns.map W.int).length : Int) < 3 then ((ns.map W.int).length : Int) else 3) = a
  generalize hb : (if a > 1 then a else 1) = b
  have hb2 : 0 ≤ b ∧ b ≤ 3 := by
    rw [← hb, ← ha]
    split <;> split <;> omega
  obtain ⟨e2, s2, ef, _, v1, v2, v3, ee⟩ := forEach_inv (xs := rngW 0 b.toNat) (put := fun x e => e.set 1 (some x)) (body := m_law_b1) (fun _ env _ => True ∧ ∃ v1 v2 v3, env = [some (.frz (ns.map W.int)), v1, v2, v3])
    (fun i x env s hx hI => by
      obtain ⟨_, v1, v2, v3, rfl⟩ := hI
      obtain ⟨k, hk, rfl⟩ := mem_rng (List.mem_of_getElem? hx)
      obtain ⟨v, s2, e⟩ := turn_ok (ns := ns) (k := 0 + (k : Int)) (v2 := v2) (v3 := v3) (st := s) (by omega) (by omega)
      exact ⟨_, s2, e, trivial, _, _, _, rfl⟩) [some (.frz (ns.map W.int)), none, none, none] [] ⟨trivial, _, _, _, rfl⟩
  have b1 : -(2 ^ 62) ≤ b ∧ b < 2 ^ 62 := by omega
  refine ⟨s2, ?_⟩
  simp only [m_law, fnM, outM, sSeq, sSet, sRet, sDrop, sIf, sPut, sPar, sUnp, sNx, liftE, mOp, mUn, mCall, mCons, mNil, mC, mV, mB, asB, mAnd, mOr, mNot, mAndV, mOrV, mNotV, mIf, mTup, mLst, mNew, Res.bind, List.map_cons, List.map_nil, List.length_cons, List.length_nil, List.replicate, List.cons_append, List.nil_append, List.getElem?_cons_zero, List.getElem?_cons_succ, List.set_cons_zero, List.set_cons_succ, Nat.reduceAdd, Nat.reduceSub, Nat.reduceLeDiff, if_pos, if_true, ite_true, Mi.putAll, sForR1, f_lenF, fMin2, ha, fMax2, hb, as1, b1, and_self, ef]
end K11gen

namespace K11gen
open PySem PySem.Spec PyProof.Rows L2 Mi

theorem top_mk {P : Program} {w : World} {K : PySem.W.Frag} {h : Heap} {mg : Str → Option Value} {fa : Addr}
    {f0 : Addr} {od0 an0 : Option Addr} {sl0 : Array (Option Value)} {oc0 kV0 dc0 pm0 cd0 ct0 : Value}
    {f1 : Addr} {od1 an1 : Option Addr} {sl1 : Array (Option Value)} {oc1 kV1 dc1 pm1 cd1 ct1 : Value}
    {f2 : Addr} {od2 an2 : Option Addr} {sl2 : Array (Option Value)} {oc2 kV2 dc2 pm2 cd2 ct2 : Value}
    {f3 : Addr} {od3 an3 : Option Addr} {sl3 : Array (Option Value)} {oc3 kV3 dc3 pm3 cd3 ct3 : Value}
    {f4 : Addr} {od4 an4 : Option Addr} {sl4 : Array (Option Value)} {oc4 kV4 dc4 pm4 cd4 ct4 : Value}
    {f5 : Addr} {od5 an5 : Option Addr} {sl5 : Array (Option Value)} {oc5 kV5 dc5 pm5 cd5 ct5 : Value}
    {f6 : Addr} {od6 an6 : Option Addr} {sl6 : Array (Option Value)} {oc6 kV6 dc6 pm6 cd6 ct6 : Value}
    {f7 : Addr} {od7 an7 : Option Addr} {sl7 : Array (Option Value)} {oc7 kV7 dc7 pm7 cd7 ct7 : Value}
    {f8 : Addr} {od8 an8 : Option Addr} {sl8 : Array (Option Value)} {oc8 kV8 dc8 pm8 cd8 ct8 : Value}
    {f9 : Addr} {od9 an9 : Option Addr} {sl9 : Array (Option Value)} {oc9 kV9 dc9 pm9 cd9 ct9 : Value}
    {f10 : Addr} {od10 an10 : Option Addr} {sl10 : Array (Option Value)} {oc10 kV10 dc10 pm10 cd10 ct10 : Value}
    {f11 : Addr} {od11 an11 : Option Addr} {sl11 : Array (Option Value)} {oc11 kV11 dc11 pm11 cd11 ct11 : Value}
    {f12 : Addr} {od12 an12 : Option Addr} {sl12 : Array (Option Value)} {oc12 kV12 dc12 pm12 cd12 ct12 : Value}
    {f13 : Addr} {od13 an13 : Option Addr} {sl13 : Array (Option Value)} {oc13 kV13 dc13 pm13 cd13 ct13 : Value}
    {f14 : Addr} {od14 an14 : Option Addr} {sl14 : Array (Option Value)} {oc14 kV14 dc14 pm14 cd14 ct14 : Value}
    {f15 : Addr} {od15 an15 : Option Addr} {sl15 : Array (Option Value)} {oc15 kV15 dc15 pm15 cd15 ct15 : Value}
    {f16 : Addr} {od16 an16 : Option Addr} {sl16 : Array (Option Value)} {oc16 kV16 dc16 pm16 cd16 ct16 : Value}
    {f17 : Addr} {od17 an17 : Option Addr} {sl17 : Array (Option Value)} {oc17 kV17 dc17 pm17 cd17 ct17 : Value}
    {f18 : Addr} {od18 an18 : Option Addr} {sl18 : Array (Option Value)} {oc18 kV18 dc18 pm18 cd18 ct18 : Value}
    (X : K.In h) (G : h.Ns mainGlobals mg) (hfa : mg "law" = some (.ref fa))
    (a0 : PySem.W.nsIn K mainGlobals "is_integer" = some (some (.ref f0)))
    (l0 : K.lookup f0 = some ⟨oc0, od0, .func (PySem.W.fnOf "is_integer" "is_integer" (defArgs s_is_integer) (defBody s_is_integer) (defScope s_is_integer) .none kV0 dc0 pm0 an0 cd0 ct0), sl0⟩)
    (c0 : PySem.W.codeIn K cd0 "is_integer" = true) (k0 : PySem.W.keepIn K (.ref f0) = true)
    (a1 : PySem.W.nsIn K mainGlobals "is_tuple_of" = some (some (.ref f1)))
    (l1 : K.lookup f1 = some ⟨oc1, od1, .func (PySem.W.fnOf "is_tuple_of" "is_tuple_of" (defArgs s_is_tuple_of) (defBody s_is_tuple_of) (defScope s_is_tuple_of) .none kV1 dc1 pm1 an1 cd1 ct1), sl1⟩)
    (c1 : PySem.W.codeIn K cd1 "is_tuple_of" = true) (k1 : PySem.W.keepIn K (.ref f1) = true)
    (a2 : PySem.W.nsIn K mainGlobals "_law_pot" = some (some (.ref f2)))
    (l2 : K.lookup f2 = some ⟨oc2, od2, .func (PySem.W.fnOf "_law_pot" "_law_pot" (defArgs s_l_pot) (defBody s_l_pot) (defScope s_l_pot) .none kV2 dc2 pm2 an2 cd2 ct2), sl2⟩)
    (c2 : PySem.W.codeIn K cd2 "_law_pot" = true) (k2 : PySem.W.keepIn K (.ref f2) = true)
    (a3 : PySem.W.nsIn K mainGlobals "_law_take" = some (some (.ref f3)))
    (l3 : K.lookup f3 = some ⟨oc3, od3, .func (PySem.W.fnOf "_law_take" "_law_take" (defArgs s_l_take) (defBody s_l_take) (defScope s_l_take) .none kV3 dc3 pm3 an3 cd3 ct3), sl3⟩)
    (c3 : PySem.W.codeIn K cd3 "_law_take" = true) (k3 : PySem.W.keepIn K (.ref f3) = true)
    (a4 : PySem.W.nsIn K mainGlobals "_law_later" = some (some (.ref f4)))
    (l4 : K.lookup f4 = some ⟨oc4, od4, .func (PySem.W.fnOf "_law_later" "_law_later" (defArgs s_l_later) (defBody s_l_later) (defScope s_l_later) .none kV4 dc4 pm4 an4 cd4 ct4), sl4⟩)
    (c4 : PySem.W.codeIn K cd4 "_law_later" = true) (k4 : PySem.W.keepIn K (.ref f4) = true)
    (a5 : PySem.W.nsIn K mainGlobals "_law_ahead" = some (some (.ref f5)))
    (l5 : K.lookup f5 = some ⟨oc5, od5, .func (PySem.W.fnOf "_law_ahead" "_law_ahead" (defArgs s_l_ahead) (defBody s_l_ahead) (defScope s_l_ahead) .none kV5 dc5 pm5 an5 cd5 ct5), sl5⟩)
    (c5 : PySem.W.codeIn K cd5 "_law_ahead" = true) (k5 : PySem.W.keepIn K (.ref f5) = true)
    (a6 : PySem.W.nsIn K mainGlobals "_law_near" = some (some (.ref f6)))
    (l6 : K.lookup f6 = some ⟨oc6, od6, .func (PySem.W.fnOf "_law_near" "_law_near" (defArgs s_l_near) (defBody s_l_near) (defScope s_l_near) .none kV6 dc6 pm6 an6 cd6 ct6), sl6⟩)
    (c6 : PySem.W.codeIn K cd6 "_law_near" = true) (k6 : PySem.W.keepIn K (.ref f6) = true)
    (a7 : PySem.W.nsIn K mainGlobals "is_count" = some (some (.ref f7)))
    (l7 : K.lookup f7 = some ⟨oc7, od7, .func (PySem.W.fnOf "is_count" "is_count" (defArgs s_is_count) (defBody s_is_count) (defScope s_is_count) .none kV7 dc7 pm7 an7 cd7 ct7), sl7⟩)
    (c7 : PySem.W.codeIn K cd7 "is_count" = true) (k7 : PySem.W.keepIn K (.ref f7) = true)
    (a8 : PySem.W.nsIn K mainGlobals "_law_of" = some (some (.ref f8)))
    (l8 : K.lookup f8 = some ⟨oc8, od8, .func (PySem.W.fnOf "_law_of" "_law_of" (defArgs s_l_of) (defBody s_l_of) (defScope s_l_of) .none kV8 dc8 pm8 an8 cd8 ct8), sl8⟩)
    (c8 : PySem.W.codeIn K cd8 "_law_of" = true) (k8 : PySem.W.keepIn K (.ref f8) = true)
    (a9 : PySem.W.nsIn K mainGlobals "is_stamp" = some (some (.ref f9)))
    (l9 : K.lookup f9 = some ⟨oc9, od9, .func (PySem.W.fnOf "is_stamp" "is_stamp" (defArgs s_is_stamp) (defBody s_is_stamp) (defScope s_is_stamp) .none kV9 dc9 pm9 an9 cd9 ct9), sl9⟩)
    (c9 : PySem.W.codeIn K cd9 "is_stamp" = true) (k9 : PySem.W.keepIn K (.ref f9) = true)
    (a10 : PySem.W.nsIn K mainGlobals "_law_moment" = some (some (.ref f10)))
    (l10 : K.lookup f10 = some ⟨oc10, od10, .func (PySem.W.fnOf "_law_moment" "_law_moment" (defArgs s_l_moment) (defBody s_l_moment) (defScope s_l_moment) .none kV10 dc10 pm10 an10 cd10 ct10), sl10⟩)
    (c10 : PySem.W.codeIn K cd10 "_law_moment" = true) (k10 : PySem.W.keepIn K (.ref f10) = true)
    (a11 : PySem.W.nsIn K mainGlobals "require_both" = some (some (.ref f11)))
    (l11 : K.lookup f11 = some ⟨oc11, od11, .func (PySem.W.fnOf "require_both" "require_both" (defArgs s_require_both) (defBody s_require_both) (defScope s_require_both) .none kV11 dc11 pm11 an11 cd11 ct11), sl11⟩)
    (c11 : PySem.W.codeIn K cd11 "require_both" = true) (k11 : PySem.W.keepIn K (.ref f11) = true)
    (a12 : PySem.W.nsIn K mainGlobals "_law_beside" = some (some (.ref f12)))
    (l12 : K.lookup f12 = some ⟨oc12, od12, .func (PySem.W.fnOf "_law_beside" "_law_beside" (defArgs s_l_beside) (defBody s_l_beside) (defScope s_l_beside) .none kV12 dc12 pm12 an12 cd12 ct12), sl12⟩)
    (c12 : PySem.W.codeIn K cd12 "_law_beside" = true) (k12 : PySem.W.keepIn K (.ref f12) = true)
    (a13 : PySem.W.nsIn K mainGlobals "later" = some (some (.ref f13)))
    (l13 : K.lookup f13 = some ⟨oc13, od13, .func (PySem.W.fnOf "later" "later" (defArgs s_later) (defBody s_later) (defScope s_later) .none kV13 dc13 pm13 an13 cd13 ct13), sl13⟩)
    (c13 : PySem.W.codeIn K cd13 "later" = true) (k13 : PySem.W.keepIn K (.ref f13) = true)
    (a14 : PySem.W.nsIn K mainGlobals "ahead_of" = some (some (.ref f14)))
    (l14 : K.lookup f14 = some ⟨oc14, od14, .func (PySem.W.fnOf "ahead_of" "ahead_of" (defArgs s_ahead_of) (defBody s_ahead_of) (defScope s_ahead_of) .none kV14 dc14 pm14 an14 cd14 ct14), sl14⟩)
    (c14 : PySem.W.codeIn K cd14 "ahead_of" = true) (k14 : PySem.W.keepIn K (.ref f14) = true)
    (a15 : PySem.W.nsIn K mainGlobals "_law_one_right" = some (some (.ref f15)))
    (l15 : K.lookup f15 = some ⟨oc15, od15, .func (PySem.W.fnOf "_law_one_right" "_law_one_right" (defArgs s_l_one_right) (defBody s_l_one_right) (defScope s_l_one_right) .none kV15 dc15 pm15 an15 cd15 ct15), sl15⟩)
    (c15 : PySem.W.codeIn K cd15 "_law_one_right" = true) (k15 : PySem.W.keepIn K (.ref f15) = true)
    (a16 : PySem.W.nsIn K mainGlobals "_law_pair_right" = some (some (.ref f16)))
    (l16 : K.lookup f16 = some ⟨oc16, od16, .func (PySem.W.fnOf "_law_pair_right" "_law_pair_right" (defArgs s_l_pair_right) (defBody s_l_pair_right) (defScope s_l_pair_right) .none kV16 dc16 pm16 an16 cd16 ct16), sl16⟩)
    (c16 : PySem.W.codeIn K cd16 "_law_pair_right" = true) (k16 : PySem.W.keepIn K (.ref f16) = true)
    (a17 : PySem.W.nsIn K mainGlobals "_law_right" = some (some (.ref f17)))
    (l17 : K.lookup f17 = some ⟨oc17, od17, .func (PySem.W.fnOf "_law_right" "_law_right" (defArgs s_l_right) (defBody s_l_right) (defScope s_l_right) .none kV17 dc17 pm17 an17 cd17 ct17), sl17⟩)
    (c17 : PySem.W.codeIn K cd17 "_law_right" = true) (k17 : PySem.W.keepIn K (.ref f17) = true)
    (a18 : PySem.W.nsIn K mainGlobals "law" = some (some (.ref f18)))
    (l18 : K.lookup f18 = some ⟨oc18, od18, .func (PySem.W.fnOf "law" "law" (defArgs s_law) (defBody s_law) (defScope s_law) .none kV18 dc18 pm18 an18 cd18 ct18), sl18⟩)
    (c18 : PySem.W.codeIn K cd18 "law" = true) (k18 : PySem.W.keepIn K (.ref f18) = true)
    (z0 : PySem.W.nsIn K mainGlobals "abs" = some none)
    (z1 : PySem.W.nsIn K mainGlobals "all" = some none)
    (z2 : PySem.W.nsIn K mainGlobals "bool" = some none)
    (z3 : PySem.W.nsIn K mainGlobals "int" = some none)
    (z4 : PySem.W.nsIn K mainGlobals "isinstance" = some none)
    (z5 : PySem.W.nsIn K mainGlobals "len" = some none)
    (z6 : PySem.W.nsIn K mainGlobals "max" = some none)
    (z7 : PySem.W.nsIn K mainGlobals "min" = some none)
    (z8 : PySem.W.nsIn K mainGlobals "range" = some none)
    (z9 : PySem.W.nsIn K mainGlobals "repr" = some none)
    (z10 : PySem.W.nsIn K mainGlobals "tuple" = some none) :
    ∃ fd : FuncData, (∀ (s : Shared) (v : Value), BindsTo s fd ⟨[v], []⟩ [("_law_script", v)]) ∧ ∀ base : Heap, K.In base → base.Ns mainGlobals mg → FnG P w K mg base 8 fa fd ["_law_script"] m_law := by
  have e := hfa.symm.trans (PySem.W.mg_of X G a18)
  injection e with e
  injection e with e
  subst e
  have T : Blt mg := ⟨PySem.W.mg_none_of X G z0, PySem.W.mg_none_of X G z1, PySem.W.mg_none_of X G z2, PySem.W.mg_none_of X G z3, PySem.W.mg_none_of X G z4, PySem.W.mg_none_of X G z5, PySem.W.mg_none_of X G z6, PySem.W.mg_none_of X G z7, PySem.W.mg_none_of X G z8, PySem.W.mg_none_of X G z9, PySem.W.mg_none_of X G z10⟩
  have A0 : DefAt K mg "is_integer" s_is_integer := ⟨_, _, fun_mk l0 c0 k0, PySem.W.mg_of X G a0⟩
  have A1 : DefAt K mg "is_tuple_of" s_is_tuple_of := ⟨_, _, fun_mk l1 c1 k1, PySem.W.mg_of X G a1⟩
  have A2 : DefAt K mg "_law_pot" s_l_pot := ⟨_, _, fun_mk l2 c2 k2, PySem.W.mg_of X G a2⟩
  have A3 : DefAt K mg "_law_take" s_l_take := ⟨_, _, fun_mk l3 c3 k3, PySem.W.mg_of X G a3⟩
  have A4 : DefAt K mg "_law_later" s_l_later := ⟨_, _, fun_mk l4 c4 k4, PySem.W.mg_of X G a4⟩
  have A5 : DefAt K mg "_law_ahead" s_l_ahead := ⟨_, _, fun_mk l5 c5 k5, PySem.W.mg_of X G a5⟩
  have A6 : DefAt K mg "_law_near" s_l_near := ⟨_, _, fun_mk l6 c6 k6, PySem.W.mg_of X G a6⟩
  have A7 : DefAt K mg "is_count" s_is_count := ⟨_, _, fun_mk l7 c7 k7, PySem.W.mg_of X G a7⟩
  have A8 : DefAt K mg "_law_of" s_l_of := ⟨_, _, fun_mk l8 c8 k8, PySem.W.mg_of X G a8⟩
  have A9 : DefAt K mg "is_stamp" s_is_stamp := ⟨_, _, fun_mk l9 c9 k9, PySem.W.mg_of X G a9⟩
  have A10 : DefAt K mg "_law_moment" s_l_moment := ⟨_, _, fun_mk l10 c10 k10, PySem.W.mg_of X G a10⟩
  have A11 : DefAt K mg "require_both" s_require_both := ⟨_, _, fun_mk l11 c11 k11, PySem.W.mg_of X G a11⟩
  have A12 : DefAt K mg "_law_beside" s_l_beside := ⟨_, _, fun_mk l12 c12 k12, PySem.W.mg_of X G a12⟩
  have A13 : DefAt K mg "later" s_later := ⟨_, _, fun_mk l13 c13 k13, PySem.W.mg_of X G a13⟩
  have A14 : DefAt K mg "ahead_of" s_ahead_of := ⟨_, _, fun_mk l14 c14 k14, PySem.W.mg_of X G a14⟩
  have A15 : DefAt K mg "_law_one_right" s_l_one_right := ⟨_, _, fun_mk l15 c15 k15, PySem.W.mg_of X G a15⟩
  have A16 : DefAt K mg "_law_pair_right" s_l_pair_right := ⟨_, _, fun_mk l16 c16 k16, PySem.W.mg_of X G a16⟩
  have A17 : DefAt K mg "_law_right" s_l_right := ⟨_, _, fun_mk l17 c17 k17, PySem.W.mg_of X G a17⟩
  have A18 : DefAt K mg "law" s_law := ⟨_, _, fun_mk l18 c18 k18, PySem.W.mg_of X G a18⟩
  refine ⟨PySem.W.fnOf "law" "law" (defArgs s_law) (defBody s_law) (defScope s_law) .none kV18 dc18 pm18 an18 cd18 ct18, fun s v => .of_eq rfl, fun base _ _ => ?_⟩
  have D0 := ok_is_integer (P := P) (w := w) (base := base) T A0 
  have D1 := ok_is_tuple_of (P := P) (w := w) (base := base) T A1 
  have D2 := ok_l_pot (P := P) (w := w) (base := base) T A2 
  have D3 := ok_l_take (P := P) (w := w) (base := base) T A3 
  have D4 := ok_l_later (P := P) (w := w) (base := base) T A4 
  have D5 := ok_l_ahead (P := P) (w := w) (base := base) T A5 
  have D6 := ok_l_near (P := P) (w := w) (base := base) T A6 
  have D7 := ok_is_count (P := P) (w := w) (base := base) T A7 D0
  have D8 := ok_l_of (P := P) (w := w) (base := base) T A8 D3
  have D9 := ok_is_stamp (P := P) (w := w) (base := base) T A9 D1 D7
  have D10 := ok_l_moment (P := P) (w := w) (base := base) T A10 D8 D3
  have D11 := ok_require_both (P := P) (w := w) (base := base) T A11 D9 D7
  have D12 := ok_l_beside (P := P) (w := w) (base := base) T A12 D8 D10
  have D13 := ok_later (P := P) (w := w) (base := base) T A13 D11
  have D14 := ok_ahead_of (P := P) (w := w) (base := base) T A14 D11
  have D15 := ok_l_one_right (P := P) (w := w) (base := base) T A15 D8 D3 D13 D4 D14 D5 D6
  have D16 := ok_l_pair_right (P := P) (w := w) (base := base) T A16 D13 D9 D14
  have D17 := ok_l_right (P := P) (w := w) (base := base) T A17 D10 D12 D8 D3 D16 D13
  have D18 := ok_law (P := P) (w := w) (base := base) T A18 D2 D15 D17
  obtain ⟨f, fd, F, hm, g⟩ := D18.ex
  have e2 := hm.symm.trans (PySem.W.mg_of X G a18)
  cases e2
  obtain ⟨oc, od, kV, doc, pm, an, cdv, ct, osl, e3, lk, hcd⟩ := F.ex
  have e4 := lk.symm.trans l18
  have e5 : fd = PySem.W.fnOf "law" "law" (defArgs s_law) (defBody s_law) (defScope s_law) .none kV18 dc18 pm18 an18 cd18 ct18 := by
    injection e4 with e4
    injection e4 with _ _ e6 _
    injection e6
  rw [← e5]
  exact g
end K11gen
open PySem PySem.W PyProof.Rows in
set_option maxRecDepth 100000 in
set_option maxHeartbeats 0 in
theorem PySem.Challenge.cw_farasnothing_k11_whole_stamps_in_order_holds : PySem.Challenge.rw_farasnothing_k11_whole_stamps_in_order.Holds := by
  w_on; o_law; k_head; (case hw => w_witness2)
  k_fill
  refine Mi.walkG (l := PySem.Challenge.rw_farasnothing_k11_whole_stamps_in_order) (n := 63) (k := 8) (x := "_law_script") (m := K11gen.m_law) rfl (by decide) rfl ⟨rfl, by decide, by decide⟩ (fun w h Y => PySem.W.kIn_of Y) ?F (fun ns h => K11gen.law_true ns h)
  case F =>
    intro w mg fa h KX G hmg
    refine' K11gen.top_mk KX G hmg ?a0 ?l0 ?c0 ?k0 ?a1 ?l1 ?c1 ?k1 ?a2 ?l2 ?c2 ?k2 ?a3 ?l3 ?c3 ?k3 ?a4 ?l4 ?c4 ?k4 ?a5 ?l5 ?c5 ?k5 ?a6 ?l6 ?c6 ?k6 ?a7 ?l7 ?c7 ?k7 ?a8 ?l8 ?c8 ?k8 ?a9 ?l9 ?c9 ?k9 ?a10 ?l10 ?c10 ?k10 ?a11 ?l11 ?c11 ?k11 ?a12 ?l12 ?c12 ?k12 ?a13 ?l13 ?c13 ?k13 ?a14 ?l14 ?c14 ?k14 ?a15 ?l15 ?c15 ?k15 ?a16 ?l16 ?c16 ?k16 ?a17 ?l17 ?c17 ?k17 ?a18 ?l18 ?c18 ?k18 ?z0 ?z1 ?z2 ?z3 ?z4 ?z5 ?z6 ?z7 ?z8 ?z9 ?z10
    (case a0 => k_is)
    (case l0 => k_is)
    (case c0 => k_is)
    (case k0 => k_is)
    (case a1 => k_is)
    (case l1 => k_is)
    (case c1 => k_is)
    (case k1 => k_is)
    (case a2 => k_is)
    (case l2 => k_is)
    (case c2 => k_is)
    (case k2 => k_is)
    (case a3 => k_is)
    (case l3 => k_is)
    (case c3 => k_is)
    (case k3 => k_is)
    (case a4 => k_is)
    (case l4 => k_is)
    (case c4 => k_is)
    (case k4 => k_is)
    (case a5 => k_is)
    (case l5 => k_is)
    (case c5 => k_is)
    (case k5 => k_is)
    (case a6 => k_is)
    (case l6 => k_is)
    (case c6 => k_is)
    (case k6 => k_is)
    (case a7 => k_is)
    (case l7 => k_is)
    (case c7 => k_is)
    (case k7 => k_is)
    (case a8 => k_is)
    (case l8 => k_is)
    (case c8 => k_is)
    (case k8 => k_is)
    (case a9 => k_is)
    (case l9 => k_is)
    (case c9 => k_is)
    (case k9 => k_is)
    (case a10 => k_is)
    (case l10 => k_is)
    (case c10 => k_is)
    (case k10 => k_is)
    (case a11 => k_is)
    (case l11 => k_is)
    (case c11 => k_is)
    (case k11 => k_is)
    (case a12 => k_is)
    (case l12 => k_is)
    (case c12 => k_is)
    (case k12 => k_is)
    (case a13 => k_is)
    (case l13 => k_is)
    (case c13 => k_is)
    (case k13 => k_is)
    (case a14 => k_is)
    (case l14 => k_is)
    (case c14 => k_is)
    (case k14 => k_is)
    (case a15 => k_is)
    (case l15 => k_is)
    (case c15 => k_is)
    (case k15 => k_is)
    (case a16 => k_is)
    (case l16 => k_is)
    (case c16 => k_is)
    (case k16 => k_is)
    (case a17 => k_is)
    (case l17 => k_is)
    (case c17 => k_is)
    (case k17 => k_is)
    (case a18 => k_is)
    (case l18 => k_is)
    (case c18 => k_is)
    (case k18 => k_is)
    (case z0 => k_is)
    (case z1 => k_is)
    (case z2 => k_is)
    (case z3 => k_is)
    (case z4 => k_is)
    (case z5 => k_is)
    (case z6 => k_is)
    (case z7 => k_is)
    (case z8 => k_is)
    (case z9 => k_is)
    (case z10 => k_is)
