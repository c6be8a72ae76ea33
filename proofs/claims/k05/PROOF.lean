import PyProof.Rows.All
import HandS.ForMost
import HandS.ForExc
import HandS.Wide
import HandS.TupAny
import HandS.Style
import HandS.Deep
import HandS.DeepEq
import HandS.Zip
import HandS.WordsExc
import HandS.CallSlots
import HandS.IsInst
import PyProof.TableCode
import Wide.All
import OpenK.AllK
import Wide.FinOn
import PySem.Challenge.RW_wittspaces_k05_numbers_of_spaces
set_option Elab.async false
set_option linter.all false
set_option maxRecDepth 100000
/-! Wi1: a plain evaluator's values, its store, and how both lie in the machine's heap. -/
namespace Wi
open PySem L2

/-- a value as a tree; a list that may still change, or an object that is being made, is a cell of the store -/
inductive PV where
  | non | bl (b : Bool) | int (i : Int) | str (s : Str)
  | tup (xs : List PV) | lst (xs : List PV) | ref (k : Nat) | obj (c : Nat) (xs : List PV)
instance : Inhabited PV := ⟨.non⟩

inductive Cell where
  | lst (xs : List PV) | frz (xs : List PV) | ins (c : Nat) (xs : List PV)
abbrev Store := List Cell
abbrev Sl := List (Option PV)

inductive Res (α : Type) where
  | ok (a : α) (st : Store) | exc (c : Nat) (l : List PV) (st : Store) | stuck (w : Nat)
def Res.bind {α β : Type} (r : Res α) (f : α → Store → Res β) : Res β := match r with
  | .ok a st => f a st
  | .exc c l st => .exc c l st
  | .stuck w => .stuck w
abbrev Den := Sl → Store → Res PV
abbrev DenA := Sl → Store → Res (List PV)
abbrev DenT := Sl → Store → Res Bool
/-- what a statement leaves -/
inductive RS where
  | nx (ρ : Sl) (st : Store) | rt (v : PV) (st : Store) | bk (ρ : Sl) (st : Store) | ct (ρ : Sl) (st : Store)
  | exc (c : Nat) (l : List PV) (ρ : Sl) (st : Store) | stuck (w : Nat)
abbrev DenS := Sl → Store → RS

/-! ### how they lie in the heap -/
/-- the classes of the text: where they stand, their fields' names in order -/
structure CT where
  ca : Nat → Addr
  lay : Nat → List Str

variable (K : PySem.W.Frag) (T : CT)
mutual
def RepV (F : Hp) : PV → V → Prop
  | .non, x => x = .non
  | .bl b, x => x = .bl b
  | .int i, x => x = .int i
  | .str s, x => x = .str s
  | .tup xs, x => ∃ a vs, x = .ref a ∧ SqT K F a vs ∧ RepVs F xs vs
  | .lst xs, x => ∃ a vs, x = .ref a ∧ SqL K F a vs ∧ RepVs F xs vs
  | .ref _, _ => False
  | .obj c xs, x => ∃ a dx vs, x = .ref a ∧ F a = some (.ins (T.ca c) dx ((T.lay c).zip vs)) ∧ xs.length = (T.lay c).length ∧ RepVs F xs vs
def RepVs (F : Hp) : List PV → List V → Prop
  | [], ys => ys = []
  | x :: xs, ys => ∃ y r, ys = y :: r ∧ RepV F x y ∧ RepVs F xs r
end

variable {K T}
theorem Same.seqT {H H' : Hp} {a : Addr} {xs : List V} (e : Same H H') (h : SqT K H a xs) : SqT K H' a xs := by
  rcases h with h | h
  · rcases h with h | ⟨o, h⟩
    · exact .inl (.inl (e _ _ h))
    · exact .inl (.inr ⟨o, e _ _ h⟩)
  · exact .inr h
mutual
theorem RepV.mono {F F' : Hp} (e : Same F F') : ∀ {v : PV} {x : V}, RepV K T F v x → RepV K T F' v x
  | .non, _, h => h
  | .bl _, _, h => h
  | .int _, _, h => h
  | .str _, _, h => h
  | .tup _, _, ⟨a, vs, r, q, s⟩ => ⟨a, vs, r, Same.seqT e q, RepVs.mono e s⟩
  | .lst _, _, ⟨a, vs, r, q, s⟩ => ⟨a, vs, r, e.seq q, RepVs.mono e s⟩
  | .ref _, _, h => h
  | .obj _ _, _, ⟨a, dx, vs, r, q, l, s⟩ => ⟨a, dx, vs, r, e _ _ q, l, RepVs.mono e s⟩
theorem RepVs.mono {F F' : Hp} (e : Same F F') : ∀ {v : List PV} {x : List V}, RepVs K T F v x → RepVs K T F' v x
  | [], _, h => h
  | _ :: _, _, ⟨y, r, q, h, t⟩ => ⟨y, r, q, RepV.mono e h, RepVs.mono e t⟩
end
theorem RepVs.length {F : Hp} : ∀ {v : List PV} {x : List V}, RepVs K T F v x → v.length = x.length
  | [], _, h => by subst h; rfl
  | _ :: _, _, ⟨y, r, q, _, t⟩ => by subst q; simp [RepVs.length t]
theorem RepVs.append {F : Hp} : ∀ {v w : List PV} {x y : List V}, RepVs K T F v x → RepVs K T F w y → RepVs K T F (v ++ w) (x ++ y)
  | [], _, _, _, h, h' => by subst h; exact h'
  | _ :: _, _, _, _, ⟨y, r, q, h, t⟩, h' => by subst q; exact ⟨y, r ++ _, rfl, h, RepVs.append t h'⟩
theorem RepVs.get {F : Hp} : ∀ {v : List PV} {x : List V} {i : Nat} {a : PV}, RepVs K T F v x → v[i]? = some a → ∃ b, x[i]? = some b ∧ RepV K T F a b
  | [], _, _, _, _, e => by simp at e
  | _ :: _, _, 0, _, ⟨y, r, q, h, t⟩, e => by subst q; simp at e; subst e; exact ⟨y, rfl, h⟩
  | _ :: _, _, i + 1, _, ⟨y, r, q, h, t⟩, e => by subst q; simpa using RepVs.get (i := i) t (by simpa using e)
theorem RepVs.get' {F : Hp} : ∀ {v : List PV} {x : List V} {i : Nat} {b : V}, RepVs K T F v x → x[i]? = some b → ∃ a, v[i]? = some a ∧ RepV K T F a b
  | [], _, _, _, h, e => by subst h; simp at e
  | _ :: _, _, 0, _, ⟨y, r, q, h, t⟩, e => by subst q; simp at e; subst e; exact ⟨_, rfl, h⟩
  | _ :: _, _, i + 1, _, ⟨y, r, q, h, t⟩, e => by subst q; simpa using RepVs.get' (i := i) t (by simpa using e)
theorem RepVs.set {F : Hp} {a : PV} {b : V} (r0 : RepV K T F a b) : ∀ {v : List PV} {x : List V} (i : Nat), RepVs K T F v x → RepVs K T F (v.set i a) (x.set i b)
  | [], _, _, h => by subst h; rfl
  | _ :: _, _, 0, ⟨y, r, q, h, t⟩ => by subst q; exact ⟨b, r, rfl, r0, t⟩
  | _ :: _, _, i + 1, ⟨y, r, q, h, t⟩ => by subst q; exact ⟨y, _, rfl, h, RepVs.set r0 i t⟩
theorem RepVs.take {F : Hp} : ∀ {v : List PV} {x : List V} (n : Nat), RepVs K T F v x → RepVs K T F (v.take n) (x.take n)
  | _, _, 0, _ => by simp [RepVs]
  | [], _, _ + 1, h => by subst h; simp [RepVs]
  | _ :: _, _, n + 1, ⟨y, r, q, h, t⟩ => by subst q; exact ⟨y, r.take n, rfl, h, RepVs.take n t⟩
theorem RepVs.drop {F : Hp} : ∀ {v : List PV} {x : List V} (n : Nat), RepVs K T F v x → RepVs K T F (v.drop n) (x.drop n)
  | _, _, 0, h => h
  | [], _, _ + 1, h => by subst h; simp [RepVs]
  | _ :: _, _, n + 1, ⟨y, r, q, h, t⟩ => by subst q; exact RepVs.drop n t
theorem RepVs.one {F : Hp} {a : PV} {b : V} (r : RepV K T F a b) : RepVs K T F [a] [b] := ⟨b, [], rfl, r, rfl⟩

/-- the addresses of the cells that may change -/
def Cell.live : Cell → Bool
  | .frz _ => false
  | _ => true
def live : Store → List Addr → List Addr
  | c :: st, a :: κ => if c.live then a :: live st κ else live st κ
  | _, _ => []
/-- the heap without what may change -/
def fz (L : List Addr) (H : Hp) : Hp := fun b => if b ∈ L then none else match H b with
  | some (.tbl _) => none
  | o => o
theorem fz_some {L : List Addr} {H : Hp} {b : Addr} {o : HO} : fz L H b = some o → H b = some o := by
  unfold fz
  split
  · intro h; cases h
  · split
    · intro h; cases h
    · exact id
theorem fz_same {L L' : List Addr} {H H' : Hp} (h : ∀ b o, b ∉ L → (∀ ps, o ≠ .tbl ps) → H b = some o → b ∉ L' ∧ H' b = some o) : Same (fz L H) (fz L' H') := fun b o e => by
  have e1 := fz_some e
  have hL : b ∉ L := fun z => by unfold fz at e; rw [if_pos z] at e; cases e
  have ht : ∀ ps, o ≠ .tbl ps := fun ps z => by
    subst z
    unfold fz at e
    rw [if_neg hL, e1] at e
    cases e
  obtain ⟨q1, q2⟩ := h b o hL ht e1
  unfold fz
  rw [if_neg q1, q2]
  split
  · rename_i ps z; cases z; exact absurd rfl (ht ps)
  · rfl

def CellR (K : PySem.W.Frag) (T : CT) (F H : Hp) (a : Addr) : Cell → Prop
  | .lst xs => ∃ vs, H a = some (.lst vs) ∧ RepVs K T F xs vs
  | .frz xs => ∃ vs, SqL K F a vs ∧ RepVs K T F xs vs
  | .ins c xs => ∃ dx vs, H a = some (.ins (T.ca c) dx ((T.lay c).zip vs)) ∧ xs.length ≤ (T.lay c).length ∧ RepVs K T F xs vs
def CellsR (K : PySem.W.Frag) (T : CT) (F H : Hp) : Store → List Addr → Prop
  | [], κ => κ = []
  | c :: st, κ => ∃ a r, κ = a :: r ∧ CellR K T F H a c ∧ CellsR K T F H st r
/-- a value that may be a cell -/
def RepX (K : PySem.W.Frag) (T : CT) (κ : List Addr) (F : Hp) : PV → V → Prop
  | .ref k, x => ∃ a, κ[k]? = some a ∧ x = .ref a
  | v, x => RepV K T F v x
/-- the store lies in the heap; Tb: what the text's tables must be -/
structure StR (K : PySem.W.Frag) (T : CT) (Tb : Hp → Prop) (st : Store) (κ : List Addr) (H : Hp) : Prop where
  cells : CellsR K T (fz (live st κ) H) H st κ
  nd : κ.Nodup
  there : ∀ a ∈ κ, H a ≠ none
  tabs : Tb H
abbrev Fz (st : Store) (κ : List Addr) (H : Hp) : Hp := fz (live st κ) H
/-- later -/
structure Ext (K : PySem.W.Frag) (T : CT) (Tb : Hp → Prop) (st : Store) (κ : List Addr) (H : Hp) (st' : Store) (κ' : List Addr) (H' : Hp) : Prop where
  sr : StR K T Tb st' κ' H'
  pre : κ <+: κ'
  same : Same (Fz st κ H) (Fz st' κ' H')
def SlR (K : PySem.W.Frag) (T : CT) (κ : List Addr) (F : Hp) : Sl → L2.St → Prop
  | [], σ => σ = []
  | o :: ρ, σ => ∃ x r, σ = x :: r ∧ (∀ v, o = some v → ∃ y, x = some y ∧ RepX K T κ F v y) ∧ SlR K T κ F ρ r

theorem RepX.mono {κ κ' : List Addr} {F F' : Hp} (p : κ <+: κ') (e : Same F F') {v : PV} {x : V} (h : RepX K T κ F v x) : RepX K T κ' F' v x := by
  cases v with
  | ref k =>
    obtain ⟨a, q, r⟩ := h
    obtain ⟨t, rfl⟩ := p
    exact ⟨a, by rw [List.getElem?_append_left (by have := (List.getElem?_eq_some_iff.mp q).1; exact this)]; exact q, r⟩
  | non => exact RepV.mono (K := K) (T := T) (v := .non) e h
  | bl b => exact RepV.mono (K := K) (T := T) (v := .bl b) e h
  | int i => exact RepV.mono (K := K) (T := T) (v := .int i) e h
  | str s => exact RepV.mono (K := K) (T := T) (v := .str s) e h
  | tup s => exact RepV.mono (K := K) (T := T) (v := .tup s) e h
  | lst s => exact RepV.mono (K := K) (T := T) (v := .lst s) e h
  | obj c s => exact RepV.mono (K := K) (T := T) (v := .obj c s) e h
theorem RepX.ofV {κ : List Addr} {F : Hp} {v : PV} {x : V} (h : RepV K T F v x) : RepX K T κ F v x := by
  cases v <;> first | exact h | exact h.elim
theorem SlR.mono {κ κ' : List Addr} {F F' : Hp} (p : κ <+: κ') (e : Same F F') : ∀ {ρ : Sl} {σ : L2.St}, SlR K T κ F ρ σ → SlR K T κ' F' ρ σ
  | [], _, h => h
  | _ :: _, _, ⟨x, r, q, h, t⟩ => ⟨x, r, q, fun v hv => let ⟨y, a, b⟩ := h v hv; ⟨y, a, b.mono p e⟩, SlR.mono p e t⟩
theorem SlR.length {κ : List Addr} {F : Hp} : ∀ {ρ : Sl} {σ : L2.St}, SlR K T κ F ρ σ → ρ.length = σ.length
  | [], _, h => by subst h; rfl
  | _ :: _, _, ⟨x, r, q, _, t⟩ => by subst q; simp [SlR.length t]
theorem SlR.get {κ : List Addr} {F : Hp} : ∀ {ρ : Sl} {σ : L2.St} {i : Nat} {v : PV}, SlR K T κ F ρ σ → ρ[i]? = some (some v) → ∃ y, σ[i]? = some (some y) ∧ RepX K T κ F v y
  | [], _, _, _, _, e => by simp at e
  | o :: _, _, 0, v, ⟨x, r, q, h, t⟩, e => by
    subst q; simp at e
    obtain ⟨y, a, b⟩ := h v e
    exact ⟨y, by simp [a], b⟩
  | _ :: _, _, i + 1, _, ⟨x, r, q, h, t⟩, e => by subst q; simpa using SlR.get (i := i) t (by simpa using e)
theorem SlR.set {κ : List Addr} {F : Hp} {v : PV} {y : V} (r0 : RepX K T κ F v y) : ∀ {ρ : Sl} {σ : L2.St} (i : Nat), SlR K T κ F ρ σ → SlR K T κ F (ρ.set i (some v)) (σ.set i (some y))
  | [], _, _, h => by subst h; rfl
  | _ :: _, _, 0, ⟨x, r, q, h, t⟩ => by subst q; exact ⟨some y, r, rfl, fun w hw => ⟨y, rfl, by cases hw; exact r0⟩, t⟩
  | _ :: _, _, i + 1, ⟨x, r, q, h, t⟩ => by subst q; exact ⟨x, _, rfl, h, SlR.set r0 i t⟩
theorem Ext.refl {Tb : Hp → Prop} {st : Store} {κ : List Addr} {H : Hp} (h : StR K T Tb st κ H) : Ext K T Tb st κ H st κ H := ⟨h, List.prefix_refl _, Same.refl _⟩
theorem Ext.trans {Tb : Hp → Prop} {st st1 st2 : Store} {κ κ1 κ2 : List Addr} {H H1 H2 : Hp} (a : Ext K T Tb st κ H st1 κ1 H1) (b : Ext K T Tb st1 κ1 H1 st2 κ2 H2) : Ext K T Tb st κ H st2 κ2 H2 :=
  ⟨b.sr, a.pre.trans b.pre, a.same.trans b.same⟩
end Wi

/-! Wi2: what an expression, a statement is worth in the machine, by the plain evaluator. -/
namespace Wi
open PySem L2

/-- what stays the same through the whole law -/
structure Gm where
  P : Program
  w : World
  K : PySem.W.Frag
  mg : Str → Option Value
  base : Heap
  T : CT
  Tb : Hp → Prop
/-- where the code stands: the names by place, the scope, the room -/
structure Lc where
  N : List Str
  sc : Scope
  n : Nat
  fn : Str → Bool := fun _ => true
structure Jx (g : Gm) (l : Lc) (X : Cx) : Prop where
  p : X.prog = g.P
  w : X.w = g.w
  k : X.K = g.K
  m : X.mg = g.mg
  b : X.base = g.base
  N : X.N = l.N
  sc : X.env.scope = l.sc
  nd : l.N.Nodup
  calm : X.calm = true
  room : Room l.n X.A
  own : PassesOwn (model X.prog X.w) X.A X.env X.xe
  kind : l.sc.kind = .function
  fn : ∀ x, l.fn x = true → X.fn x = true

abbrev RX (g : Gm) : List Addr → Hp → PV → V → Prop := fun κ F v x => RepX g.K g.T κ F v x
def RXs (g : Gm) (κ : List Addr) (F : Hp) : List PV → List V → Prop
  | [], ys => ys = []
  | x :: xs, ys => ∃ y r, ys = y :: r ∧ RepX g.K g.T κ F x y ∧ RXs g κ F xs r
abbrev RB : List Addr → Hp → Bool → Bool → Prop := fun _ _ a b => a = b
theorem RXs.mono {g : Gm} {κ κ' : List Addr} {F F' : Hp} (p : κ <+: κ') (e : Same F F') : ∀ {v : List PV} {x : List V}, RXs g κ F v x → RXs g κ' F' v x
  | [], _, h => h
  | _ :: _, _, ⟨y, r, q, h, t⟩ => ⟨y, r, q, h.mono p e, RXs.mono p e t⟩
theorem RXs.length {g : Gm} {κ : List Addr} {F : Hp} : ∀ {v : List PV} {x : List V}, RXs g κ F v x → v.length = x.length
  | [], _, h => by subst h; rfl
  | _ :: _, _, ⟨y, r, q, _, t⟩ => by subst q; simp [RXs.length t]

/-- an exception's own dict -/
def ExcR (g : Gm) (F H : Hp) (c : Nat) (l : List PV) (d : Option Addr) : Prop :=
  match g.T.lay c with
  | [] => d = none
  | fs => ∃ dx vs, d = some dx ∧ H dx = some (.xd (fs.zip vs)) ∧ RepVs g.K g.T F l vs
abbrev Xt (g : Gm) := Ext g.K g.T g.Tb
/-- what is wanted holds of what comes out -/
def Run (g : Gm) {α β : Type} (R : List Addr → Hp → α → β → Prop) (W : WX) (r : Res α) (st : Store) (κ : List Addr) (σ : L2.St) (H : Hp) (Q : β → Hp → Prop) : Prop := match r with
  | .ok v st' => ∀ κ' H' x, Xt g st κ H st' κ' H' → R κ' (Fz st' κ' H') v x → Q x H'
  | .exc c l st' => ∀ κ' H' d, Xt g st κ H st' κ' H' → ExcR g (Fz st' κ' H') H' c l d → W (.ref (g.T.ca c)) d σ H'
  | .stuck _ => False
/-- the state lies so -/
structure Lies (g : Gm) (ρ : Sl) (st : Store) (κ : List Addr) (σ : L2.St) (H : Hp) : Prop where
  sr : StR g.K g.T g.Tb st κ H
  sl : SlR g.K g.T κ (Fz st κ H) ρ σ
theorem Lies.xt {g : Gm} {ρ : Sl} {st st' : Store} {κ κ' : List Addr} {σ : L2.St} {H H' : Hp} (L : Lies g ρ st κ σ H) (e : Xt g st κ H st' κ' H') : Lies g ρ st' κ' σ H' := ⟨e.sr, L.sl.mono e.pre e.same⟩
def tR (g : Gm) {α β : Type} (R : List Addr → Hp → α → β → Prop) (W : WX) (d : Sl → Store → Res α) : L2.St → Hp → (β → Hp → Prop) → Prop := fun σ H Q =>
  ∃ ρ st κ, Lies g ρ st κ σ H ∧ Run g R W (d ρ st) st κ σ H Q
abbrev tD (g : Gm) (W : WX) (d : Den) : TE := tR g (RX g) W d
abbrev tA (g : Gm) (W : WX) (d : DenA) : TA := tR g (RXs g) W d
abbrev tT (g : Gm) (W : WX) (d : DenT) : TT := tR g RB W d
def RunS (g : Gm) (W : WX) (r : RS) (st : Store) (κ : List Addr) (H : Hp) (D : Ends) : Prop := match r with
  | .nx ρ' st' => ∀ κ' H' σ', Xt g st κ H st' κ' H' → SlR g.K g.T κ' (Fz st' κ' H') ρ' σ' → D.nx σ' H'
  | .bk ρ' st' => ∀ κ' H' σ', Xt g st κ H st' κ' H' → SlR g.K g.T κ' (Fz st' κ' H') ρ' σ' → D.bk σ' H'
  | .ct ρ' st' => ∀ κ' H' σ', Xt g st κ H st' κ' H' → SlR g.K g.T κ' (Fz st' κ' H') ρ' σ' → D.ct σ' H'
  | .rt v st' => ∀ κ' H' x, Xt g st κ H st' κ' H' → RepX g.K g.T κ' (Fz st' κ' H') v x → D.rt x H'
  | .exc c l ρ' st' => ∀ κ' H' σ' d, Xt g st κ H st' κ' H' → SlR g.K g.T κ' (Fz st' κ' H') ρ' σ' → ExcR g (Fz st' κ' H') H' c l d → W (.ref (g.T.ca c)) d σ' H'
  | .stuck _ => False
def tS (g : Gm) (W : WX) (d : DenS) : TS := fun D σ H => ∃ ρ st κ, Lies g ρ st κ σ H ∧ RunS g W (d ρ st) st κ H D

/-- an expression is worth d -/
def ED (g : Gm) (l : Lc) (d : Den) (e : Expr) : Prop := ∀ X W, Jx g l X → Takes X W → PE X e (tD g W d)
def AD (g : Gm) (l : Lc) (d : DenA) (es : List Expr) : Prop := ∀ X W, Jx g l X → Takes X W → PA X es (tA g W d)
def TD (g : Gm) (l : Lc) (d : DenT) (e : Expr) : Prop := ∀ X W, Jx g l X → Takes X W → PT X e (tT g W d)
def WD (g : Gm) (l : Lc) (d : DenT) (e : Expr) : Prop := ∀ X W, Jx g l X → Takes X W → PW X e (tT g W d)
def SD (g : Gm) (l : Lc) (d : DenS) (s : Stmt) : Prop := ∀ X W, Jx g l X → Takes X W → PS X s (tS g W d)
def SsD (g : Gm) (l : Lc) (d : DenS) (s : List Stmt) : Prop := ∀ X W, Jx g l X → Takes X W → PSs X s (tS g W d)

section
variable {g : Gm} {l : Lc} {X : Cx} {W : WX} {α β α' β' : Type} {R : List Addr → Hp → α → β → Prop} {R' : List Addr → Hp → α' → β' → Prop}
theorem PE.imp {e : Expr} {t u : TE} (h : PE X e t) (i : ∀ σ H Q, u σ H Q → t σ H Q) : PE X e u := ⟨fun pins s σ H Q I hu => h.run pins s σ H Q I (i σ H Q hu)⟩
theorem PT.imp {e : Expr} {t u : TT} (h : PT X e t) (i : ∀ σ H Q, u σ H Q → t σ H Q) : PT X e u := ⟨fun pins s σ H Q I hu => h.run pins s σ H Q I (i σ H Q hu)⟩
theorem PW.imp {e : Expr} {t u : TT} (h : PW X e t) (i : ∀ σ H Q, u σ H Q → t σ H Q) : PW X e u := ⟨fun wh pins s σ H Q I hu => h.run wh pins s σ H Q I (i σ H Q hu)⟩
theorem PA.imp {es : List Expr} {t u : TA} (h : PA X es t) (i : ∀ σ H Q, u σ H Q → t σ H Q) : PA X es u := ⟨fun pos pins s σ H Q I hu => h.run pos pins s σ H Q I (i σ H Q hu)⟩
theorem PS.imp {e : Stmt} {t u : TS} (h : PS X e t) (i : ∀ D σ H, u D σ H → t D σ H) : PS X e u := ⟨fun pins s σ H D I hu => h.run pins s σ H D I (i D σ H hu)⟩
theorem PSs.imp {e : List Stmt} {t u : TS} (h : PSs X e t) (i : ∀ D σ H, u D σ H → t D σ H) : PSs X e u := ⟨fun pins s σ H D I hu => h.run pins s σ H D I (i D σ H hu)⟩

theorem Run.mono {r : Res α} {st : Store} {κ : List Addr} {σ : L2.St} {H : Hp} {Q Q' : β → Hp → Prop} (h : Run g R W r st κ σ H Q) (i : ∀ x H', Q x H' → Q' x H') : Run g R W r st κ σ H Q' := by
  cases r with
  | ok v st' => exact fun κ' H' x e r => i _ _ (h κ' H' x e r)
  | exc c l st' => exact h
  | stuck w => exact h
/-- later on it's the same -/
theorem Run.xt {r : Res α} {st st1 : Store} {κ κ1 : List Addr} {σ : L2.St} {H H1 : Hp} {Q : β → Hp → Prop} (e : Xt g st κ H st1 κ1 H1) (h : Run g R W r st κ σ H Q) : Run g R W r st1 κ1 σ H1 Q := by
  cases r with
  | ok v st' => exact fun κ' H' x e' r => h κ' H' x (e.trans e') r
  | exc c l st' => exact fun κ' H' d e' r => h κ' H' d (e.trans e') r
  | stuck w => exact h
/-- one behind the other -/
theorem Run.bind {r : Res α} {f : α → Store → Res α'} {st : Store} {κ : List Addr} {σ : L2.St} {H : Hp} {Q : β' → Hp → Prop} (h : Run g R' W (r.bind f) st κ σ H Q) :
    Run g R W r st κ σ H fun x H1 => ∃ v st1 κ1, Xt g st κ H st1 κ1 H1 ∧ R κ1 (Fz st1 κ1 H1) v x ∧ Run g R' W (f v st1) st1 κ1 σ H1 Q := by
  cases r with
  | ok v st' => exact fun κ' H' x e r => ⟨v, st', κ', e, r, h.xt e⟩
  | exc c l st' => exact h
  | stuck w => exact h
theorem Run.ret {v : α} {st : Store} {κ : List Addr} {σ : L2.St} {H : Hp} {Q : β → Hp → Prop} {x : β} (s : StR g.K g.T g.Tb st κ H) (h : Run g R W (.ok v st) st κ σ H Q) (r : R κ (Fz st κ H) v x) : Q x H := h κ H x (Ext.refl s) r
theorem RunS.xt {r : RS} {st st1 : Store} {κ κ1 : List Addr} {H H1 : Hp} {D : Ends} (e : Xt g st κ H st1 κ1 H1) (h : RunS g W r st κ H D) : RunS g W r st1 κ1 H1 D := by
  cases r with
  | nx a b => exact fun κ' H' x e' r => h κ' H' x (e.trans e') r
  | bk a b => exact fun κ' H' x e' r => h κ' H' x (e.trans e') r
  | ct a b => exact fun κ' H' x e' r => h κ' H' x (e.trans e') r
  | rt a b => exact fun κ' H' x e' r => h κ' H' x (e.trans e') r
  | exc c l a b => exact fun κ' H' x d e' r q => h κ' H' x d (e.trans e') r q
  | stuck w => exact h
end

/-! ### names and constants -/
/-- a cell that is frozen by now is a list -/
def norm (v : PV) (st : Store) : PV := match v with
  | .ref k => match st[k]? with
    | some (.frz xs) => .lst xs
    | _ => .ref k
  | v => v
def dVar (i : Nat) : Den := fun ρ st => match ρ[i]? with
  | some (some v) => .ok (norm v st) st
  | _ => .stuck i
def dC (v : PV) : Den := fun _ st => .ok v st
theorem cell_at {K : PySem.W.Frag} {T : CT} {F H : Hp} : ∀ {st : Store} {κ : List Addr} {k : Nat} {c : Cell}, CellsR K T F H st κ → st[k]? = some c → ∃ a, κ[k]? = some a ∧ CellR K T F H a c
  | [], _, _, _, _, e => by simp at e
  | _ :: _, _, 0, _, ⟨a, r, q, h, t⟩, e => by subst q; simp at e; subst e; exact ⟨a, rfl, h⟩
  | _ :: _, _, k + 1, _, ⟨a, r, q, h, t⟩, e => by subst q; simpa using cell_at (k := k) t (by simpa using e)
theorem norm_rep {g : Gm} {st : Store} {κ : List Addr} {H : Hp} {v : PV} {x : V} (s : StR g.K g.T g.Tb st κ H) (r : RepX g.K g.T κ (Fz st κ H) v x) : RepX g.K g.T κ (Fz st κ H) (norm v st) x := by
  cases v with
  | ref k =>
    unfold norm
    cases e : st[k]? with
    | none => simp only [e]; exact r
    | some c =>
      cases c with
      | frz xs =>
        simp only [e]
        obtain ⟨a, h1, vs, h2, h3⟩ := cell_at s.cells e
        obtain ⟨b, q1, q2⟩ := r
        rw [h1] at q1
        cases q1
        exact RepX.ofV (v := .lst xs) ⟨a, vs, q2, h2, h3⟩
      | lst xs => simp only [e]; exact r
      | ins c xs => simp only [e]; exact r
  | non => exact r
  | bl b => exact r
  | int i => exact r
  | str s => exact r
  | tup s => exact r
  | lst s => exact r
  | obj c s => exact r
def visB (sc : Scope) (x : Str) : Bool := match sc.names.lookup x with
  | some .local => true
  | some .cell => true
  | some .free => true
  | _ => false
theorem vis_of {sc : Scope} {x : Str} (h : visB sc x = true) : Vis sc x := by
  unfold visB at h
  unfold Vis
  cases e : sc.names.lookup x with
  | none => rw [e] at h; cases h
  | some k => rw [e] at h; cases k <;> first | (cases h; done) | simp
theorem ed_var {g : Gm} {l : Lc} {i : Nat} {x : Str} {pos : Pos} (hi : l.N[i]? = some x) (hv : visB l.sc x = true) (h1 : (x == ("__debug__" : Str)) = false) (h2 : (x == ("__classdict__" : Str)) = false) : ED g l (dVar i) (.Name x pos) := by
  intro X W J tk
  refine PE.imp (pe_var (i := i) (by rw [J.N]; exact hi) (by rw [J.sc]; exact vis_of hv) h1 h2) fun σ H Q ⟨ρ, st, κ, L, h⟩ => ?_
  unfold dVar at h
  split at h
  · rename_i v e
    obtain ⟨y, q1, q2⟩ := L.sl.get e
    exact ⟨y, q1, Run.ret L.sr h (norm_rep L.sr q2)⟩
  · exact h.elim
theorem ed_int {g : Gm} {l : Lc} {i : Int} {j pos} : ED g l (dC (.int i)) (.Constant (.int i) j pos) := fun X W J tk =>
  PE.imp pe_int fun σ H Q ⟨ρ, st, κ, L, h⟩ => Run.ret L.sr h rfl
theorem ed_bl {g : Gm} {l : Lc} {b : Bool} {j pos} : ED g l (dC (.bl b)) (.Constant (.bool b) j pos) := fun X W J tk =>
  PE.imp pe_bl fun σ H Q ⟨ρ, st, κ, L, h⟩ => Run.ret L.sr h rfl
theorem ed_non {g : Gm} {l : Lc} {j pos} : ED g l (dC .non) (.Constant .none j pos) := fun X W J tk =>
  PE.imp pe_non fun σ H Q ⟨ρ, st, κ, L, h⟩ => Run.ret L.sr h rfl
theorem ed_str {g : Gm} {l : Lc} {s : Str} {j pos} : ED g l (dC (.str s)) (.Constant (.str s) j pos) := fun X W J tk =>
  PE.imp pe_str fun σ H Q ⟨ρ, st, κ, L, h⟩ => Run.ret L.sr h rfl

/-! ### operators -/
def dOp2 (f : PV → PV → Store → Res PV) (da db : Den) : Den := fun ρ st => (da ρ st).bind fun v st => (db ρ st).bind fun w st => f v w st
/-- two values in a row, then what is wanted of them -/
theorem run2 {g : Gm} {W : WX} {da db : Den} {f : PV → PV → Store → Res PV} {σ : L2.St} {H : Hp} {Q : VK} (h : tD g W (dOp2 f da db) σ H Q) :
    tD g W da σ H fun x H1 => tD g W db σ H1 fun y H2 => ∃ v w ρ st2 κ2, Lies g ρ st2 κ2 σ H2 ∧ RepX g.K g.T κ2 (Fz st2 κ2 H2) v x ∧ RepX g.K g.T κ2 (Fz st2 κ2 H2) w y ∧ Run g (RX g) W (f v w st2) st2 κ2 σ H2 Q := by
  obtain ⟨ρ, st, κ, L, h⟩ := h
  refine ⟨ρ, st, κ, L, (Run.bind h).mono fun x H1 ⟨v, st1, κ1, e1, r1, h1⟩ => ⟨ρ, st1, κ1, L.xt e1, (Run.bind h1).mono fun y H2 ⟨w, st2, κ2, e2, r2, h2⟩ => ?_⟩⟩
  exact ⟨v, w, ρ, st2, κ2, (L.xt e1).xt e2, r1.mono e2.pre e2.same, r2, h2⟩
theorem ed_op {g : Gm} {l : Lc} {op : Operator} {r : R2} {f : PV → PV → Store → Res PV} {da db : Den} {a b : Expr} {pos : Pos} (ho : ∀ X, X.K = g.K → OpR X (binaryOp op) r) (ha : ED g l da a) (hb : ED g l db b)
    (hf : ∀ v w st κ H x y W σ Q, StR g.K g.T g.Tb st κ H → RepX g.K g.T κ (Fz st κ H) v x → RepX g.K g.T κ (Fz st κ H) w y → Run g (RX g) W (f v w st) st κ σ H Q → r x y H Q) : ED g l (dOp2 f da db) (.BinOp a op b pos) := fun X W J tk =>
  PE.imp (pe_op (ho X J.k) (ha X W J tk) (hb X W J tk)) fun σ H Q h => by
    obtain ⟨ρ, st, κ, L, q⟩ := run2 h
    refine ⟨ρ, st, κ, L, q.mono fun x H1 q1 => ?_⟩
    obtain ⟨ρ, st, κ, L, q⟩ := q1
    exact ⟨ρ, st, κ, L, q.mono fun y H2 ⟨v, w, ρ, st2, κ2, L2, r1, r2, h2⟩ => hf v w st2 κ2 H2 x y W σ Q L2.sr r1 r2 h2⟩
def opInt (f : Int → Int → Option PV) : PV → PV → Store → Res PV := fun v w st => match v, w with
  | .int i, .int j => match f i j with
    | some u => .ok u st
    | none => .stuck 2
  | _, _ => .stuck 1
theorem repX_int {g : Gm} {κ : List Addr} {F : Hp} {i : Int} {x : V} (h : RepX g.K g.T κ F (.int i) x) : x = .int i := h
/-- the operator on ints, by its rule -/
theorem opInt_ok {g : Gm} {f : Int → Int → Option PV} {C : Int → Int → Prop} {o : Int → Int → V} (hf : ∀ i j u, f i j = some u → C i j ∧ ∀ F, RepV g.K g.T F u (o i j)) {v w : PV} {st : Store} {κ : List Addr} {H : Hp} {x y : V} {W : WX} {σ : L2.St} {Q : VK}
    (s : StR g.K g.T g.Tb st κ H) (r1 : RepX g.K g.T κ (Fz st κ H) v x) (r2 : RepX g.K g.T κ (Fz st κ H) w y) (h : Run g (RX g) W (opInt f v w st) st κ σ H Q) : rI C o x y H Q := by
  unfold opInt at h
  split at h
  · rename_i i j
    cases repX_int r1
    cases repX_int r2
    split at h
    · rename_i u e
      obtain ⟨h1, h2⟩ := hf i j u e
      exact ⟨i, j, rfl, rfl, h1, Run.ret s h (RepX.ofV (h2 _))⟩
    · exact h.elim
  · exact h.elim
theorem OpR.imp {X : Cx} {f : Value → Value → Sem Value} {r r' : R2} (h : OpR X f r) (i : ∀ x y H Q, r' x y H Q → r x y H Q) : OpR X f r' := fun pins s σ H x y v u Q I rx ry q => h pins s σ H x y v u Q I rx ry (i _ _ _ _ q)
theorem rI_of0 {o : Int → Int → V} : ∀ x y H Q, rI (fun _ _ => True) o x y H Q → rI0 o x y H Q := fun _ _ _ _ ⟨i, j, a, b, _, q⟩ => ⟨i, j, a, b, q⟩
def smallB (i : Int) : Bool := decide (-(2 ^ 64) < i) && decide (i < 2 ^ 64)
theorem smallB_ok {i : Int} (h : smallB i = true) : -(2 ^ 64) < i ∧ i < 2 ^ 64 := by
  unfold smallB at h
  rw [Bool.and_eq_true, decide_eq_true_eq, decide_eq_true_eq] at h
  exact h
def fAdd : Int → Int → Option PV := fun i j => some (.int (i + j))
def fSub : Int → Int → Option PV := fun i j => some (.int (i - j))
def fMul : Int → Int → Option PV := fun i j => if smallB i || smallB j || decide (i.natAbs.log2 + j.natAbs.log2 < 1000000) then some (.int (i * j)) else none
def fDiv : Int → Int → Option PV := fun i j => if decide (0 < j) && decide (j.natAbs.log2 < 9000) then some (.int (i / j)) else none
def fMod : Int → Int → Option PV := fun i j => if decide (0 < j) then some (.int (i % j)) else none
theorem ed_sub {g : Gm} {l : Lc} {da db : Den} {a b : Expr} {pos : Pos} (ha : ED g l da a) (hb : ED g l db b) : ED g l (dOp2 (opInt fSub) da db) (.BinOp a .Sub b pos) :=
  ed_op (r := rI (fun _ _ => True) fun i j => .int (i - j)) (fun X _ => OpR.imp op_sub rI_of0) ha hb fun v w st κ H x y W σ Q s r1 r2 h => opInt_ok (fun i j u e => by cases e; exact ⟨trivial, fun _ => rfl⟩) s r1 r2 h
theorem ed_mul {g : Gm} {l : Lc} {da db : Den} {a b : Expr} {pos : Pos} (ha : ED g l da a) (hb : ED g l db b) : ED g l (dOp2 (opInt fMul) da db) (.BinOp a .Mult b pos) :=
  ed_op (r := rI (fun i j => CMul i j ∨ CMulW i j) fun i j => .int (i * j)) (fun X _ => OpR.imp (OpR.or op_mul op_mulW) fun x y H Q ⟨i, j, a, b, c, q⟩ => c.elim (fun c => .inl ⟨i, j, a, b, c, q⟩) fun c => .inr ⟨i, j, a, b, c, q⟩) ha hb fun v w st κ H x y W σ Q s r1 r2 h => opInt_ok (fun i j u e => by
    unfold fMul at e
    split at e
    · rename_i c
      cases e
      rw [Bool.or_eq_true, Bool.or_eq_true, decide_eq_true_eq] at c
      refine ⟨?_, fun _ => rfl⟩
      rcases c with (c | c) | c
      · exact .inl (.inl (smallB_ok c))
      · exact .inl (.inr (smallB_ok c))
      · exact .inr c
    · cases e) s r1 r2 h
theorem ed_div {g : Gm} {l : Lc} {da db : Den} {a b : Expr} {pos : Pos} (ha : ED g l da a) (hb : ED g l db b) : ED g l (dOp2 (opInt fDiv) da db) (.BinOp a .FloorDiv b pos) :=
  ed_op (r := rI CDivW fun i j => .int (i / j)) (fun X _ => op_fdivW) ha hb fun v w st κ H x y W σ Q s r1 r2 h => opInt_ok (fun i j u e => by
    unfold fDiv at e
    split at e
    · rename_i c
      cases e
      rw [Bool.and_eq_true, decide_eq_true_eq, decide_eq_true_eq] at c
      exact ⟨c, fun _ => rfl⟩
    · cases e) s r1 r2 h
theorem ed_mod {g : Gm} {l : Lc} {da db : Den} {a b : Expr} {pos : Pos} (ha : ED g l da a) (hb : ED g l db b) : ED g l (dOp2 (opInt fMod) da db) (.BinOp a .Mod b pos) :=
  ed_op (r := rI (fun _ j => 0 < j) fun i j => .int (i % j)) (fun X _ => op_mod) ha hb fun v w st κ H x y W σ Q s r1 r2 h => opInt_ok (fun i j u e => by
    unfold fMod at e
    split at e
    · rename_i c
      cases e
      exact ⟨of_decide_eq_true c, fun _ => rfl⟩
    · cases e) s r1 r2 h
end Wi

/-! Wi3: sequences, displays, items, slices, tests. -/
namespace Wi
open PySem L2

/-! ### the contents of a sequence -/
def seqOf (v : PV) (st : Store) : Option (Bool × List PV) := match v with
  | .tup xs => some (false, xs)
  | .lst xs => some (true, xs)
  | .ref k => match st[k]? with
    | some (.lst xs) => some (true, xs)
    | some (.frz xs) => some (true, xs)
    | _ => none
  | _ => none
theorem SqL.of_fz {K : PySem.W.Frag} {L : List Addr} {H : Hp} {a : Addr} {vs : List V} (h : SqL K (fz L H) a vs) : SqL K H a vs := by
  rcases h with h | h
  · rcases h with h | ⟨o, h⟩
    · exact .inl (.inl (fz_some h))
    · exact .inl (.inr ⟨o, fz_some h⟩)
  · exact .inr h
theorem SqT.of_fz {K : PySem.W.Frag} {L : List Addr} {H : Hp} {a : Addr} {vs : List V} (h : SqT K (fz L H) a vs) : SqT K H a vs := by
  rcases h with h | h
  · rcases h with h | ⟨o, h⟩
    · exact .inl (.inl (fz_some h))
    · exact .inl (.inr ⟨o, fz_some h⟩)
  · exact .inr h
theorem seq_rep {g : Gm} {st : Store} {κ : List Addr} {H : Hp} {v : PV} {x : V} {b : Bool} {xs : List PV} (s : StR g.K g.T g.Tb st κ H) (r : RepX g.K g.T κ (Fz st κ H) v x) (e : seqOf v st = some (b, xs)) :
    ∃ a vs, x = .ref a ∧ (if b = true then SqL g.K H a vs else SqT g.K H a vs) ∧ RepVs g.K g.T (Fz st κ H) xs vs := by
  cases v with
  | tup ys =>
    cases e
    obtain ⟨a, vs, h1, h2, h3⟩ := r
    exact ⟨a, vs, h1, SqT.of_fz h2, h3⟩
  | lst ys =>
    cases e
    obtain ⟨a, vs, h1, h2, h3⟩ := r
    exact ⟨a, vs, h1, SqL.of_fz h2, h3⟩
  | ref k =>
    unfold seqOf at e
    cases q : st[k]? with
    | none => simp only [q] at e; cases e
    | some c =>
      obtain ⟨a, h1, h2⟩ := cell_at s.cells q
      obtain ⟨b', q1, q2⟩ := r
      rw [h1] at q1
      cases q1
      cases c with
      | lst ys =>
        simp only [q] at e
        cases e
        obtain ⟨vs, h3, h4⟩ := h2
        exact ⟨a, vs, q2, SqL.of h3, h4⟩
      | frz ys =>
        simp only [q] at e
        cases e
        obtain ⟨vs, h3, h4⟩ := h2
        exact ⟨a, vs, q2, SqL.of_fz h3, h4⟩
      | ins c ys => simp only [q] at e; cases e
  | non => cases e
  | bl _ => cases e
  | int _ => cases e
  | str _ => cases e
  | obj _ _ => cases e

/-! ### new things in the heap -/
theorem live_sub : ∀ {st : Store} {κ : List Addr} {b : Addr}, b ∈ live st κ → b ∈ κ
  | [], _, _, h => by cases h
  | _ :: _, [], _, h => by cases h
  | c :: st, a :: κ, b, h => by
    unfold live at h
    split at h
    · rcases List.mem_cons.mp h with h | h
      · exact h ▸ List.mem_cons_self
      · exact List.mem_cons_of_mem _ (live_sub h)
    · exact List.mem_cons_of_mem _ (live_sub h)
theorem fz_upd_out {L : List Addr} {H : Hp} {p : Addr} {o : HO} (hp : H p = none) : Same (fz L H) (fz L (upd H p o)) :=
  fz_same fun b u hb _ e => ⟨hb, by rw [upd_ne (ne_of_none e hp)]; exact e⟩
theorem CellR.mono {K : PySem.W.Frag} {T : CT} {F F' H H' : Hp} {a : Addr} {c : Cell} (e : Same F F') (h : H' a = H a) (q : CellR K T F H a c) : CellR K T F' H' a c := by
  cases c with
  | lst xs => obtain ⟨vs, h1, h2⟩ := q; exact ⟨vs, by rw [h]; exact h1, h2.mono e⟩
  | frz xs => obtain ⟨vs, h1, h2⟩ := q; exact ⟨vs, e.seq h1, h2.mono e⟩
  | ins c xs => obtain ⟨dx, vs, h1, h0, h2⟩ := q; exact ⟨dx, vs, by rw [h]; exact h1, h0, h2.mono e⟩
theorem CellsR.mono {K : PySem.W.Frag} {T : CT} {F F' H H' : Hp} (e : Same F F') : ∀ {st : Store} {κ : List Addr}, (∀ a ∈ κ, H' a = H a) → CellsR K T F H st κ → CellsR K T F' H' st κ
  | [], _, _, q => q
  | _ :: _, _, h, ⟨a, r, q, h1, h2⟩ => by subst q; exact ⟨a, r, rfl, h1.mono e (h a List.mem_cons_self), CellsR.mono e (fun b hb => h b (List.mem_cons_of_mem _ hb)) h2⟩
/-- the text's tables stay, whatever else comes -/
def TbOk (g : Gm) : Prop := ∀ H H' : Hp, (∀ b ps, H b = some (.tbl ps) → H' b = some (.tbl ps)) → g.Tb H → g.Tb H'
theorem StR.upd_new {g : Gm} (tb : TbOk g) {st : Store} {κ : List Addr} {H : Hp} {p : Addr} {o : HO} (s : StR g.K g.T g.Tb st κ H) (hp : H p = none) : Xt g st κ H st κ (upd H p o) := by
  have sm : Same (Fz st κ H) (Fz st κ (upd H p o)) := fz_upd_out hp
  have at_ : ∀ a ∈ κ, upd H p o a = H a := fun a ha => upd_ne fun z => s.there a ha (z ▸ hp)
  exact ⟨⟨s.cells.mono sm at_, s.nd, fun a ha => by rw [at_ a ha]; exact s.there a ha, tb _ _ (fun b ps e => by rw [upd_ne (ne_of_none e hp)]; exact e) s.tabs⟩, List.prefix_refl _, sm⟩
theorem StR.not_mem {g : Gm} {st : Store} {κ : List Addr} {H : Hp} {p : Addr} (s : StR g.K g.T g.Tb st κ H) (hp : H p = none) : p ∉ κ := fun h => s.there p h hp
theorem fz_at {L : List Addr} {H : Hp} {p : Addr} {o : HO} (hp : p ∉ L) (e : H p = some o) (ht : ∀ ps, o ≠ .tbl ps) : fz L H p = some o := by
  unfold fz
  rw [if_neg hp, e]
  split
  · rename_i ps z
    cases z
    exact absurd rfl (ht ps)
  · rfl

/-! ### argument lists, displays -/
def aNil : DenA := fun _ st => .ok [] st
def aCons (d : Den) (da : DenA) : DenA := fun ρ st => (d ρ st).bind fun v st => (da ρ st).bind fun vs st => .ok (v :: vs) st
theorem ad_nil {g : Gm} {l : Lc} : AD g l aNil [] := fun X W J tk => PA.imp pa_nil fun σ H Q ⟨ρ, st, κ, L, h⟩ => Run.ret L.sr h rfl
theorem ad_cons {g : Gm} {l : Lc} {d : Den} {da : DenA} {e : Expr} {es : List Expr} (he : ED g l d e) (ha : AD g l da es) (hs : ∀ env, starEach (e :: es) env = (false, eval e env) :: starEach es env) : AD g l (aCons d da) (e :: es) := fun X W J tk =>
  PA.imp (pa_cons (he X W J tk) (ha X W J tk) (hs _)) fun σ H Q ⟨ρ, st, κ, L, h⟩ =>
    ⟨ρ, st, κ, L, (Run.bind h).mono fun x H1 ⟨v, st1, κ1, e1, r1, h1⟩ => ⟨ρ, st1, κ1, L.xt e1, (Run.bind h1).mono fun xs H2 ⟨vs, st2, κ2, e2, r2, h2⟩ =>
      Run.ret e2.sr h2 ⟨x, xs, rfl, r1.mono e2.pre e2.same, r2⟩⟩⟩
/-- the values of a tree: none of them a cell -/
def isTree : PV → Bool
  | .ref _ => false
  | _ => true
theorem RepX.tree {K : PySem.W.Frag} {T : CT} {κ : List Addr} {F : Hp} {v : PV} {x : V} (h : RepX K T κ F v x) (t : isTree v = true) : RepV K T F v x := by
  cases v <;> first | exact h | (cases t; done)
theorem RXs.trees {g : Gm} {κ : List Addr} {F : Hp} : ∀ {v : List PV} {x : List V}, RXs g κ F v x → v.all isTree = true → RepVs g.K g.T F v x
  | [], _, h, _ => h
  | _ :: _, _, ⟨y, r, q, h, t⟩, e => by
    rw [List.all_cons, Bool.and_eq_true] at e
    exact ⟨y, r, q, h.tree e.1, t.trees e.2⟩
def lineB (n : Nat) : Bool := Nat.ble n 16777216
theorem lineB_ok {n : Nat} (h : lineB n = true) : n ≤ sizeLine := Nat.le_of_ble_eq_true h
def dTup (da : DenA) : Den := fun ρ st => (da ρ st).bind fun vs st => if vs.all isTree && lineB vs.length then .ok (.tup vs) st else .stuck 3
theorem ed_tup {g : Gm} {l : Lc} (tb : TbOk g) {da : DenA} {es : List Expr} {n : Nat} {pos : Pos} (ha : AD g l da es) : ED g l (dTup da) (.Tuple es n pos) := fun X W J tk =>
  PE.imp (pe_tup (ha X W J tk)) fun σ H Q ⟨ρ, st, κ, L, h⟩ => ⟨ρ, st, κ, L, (Run.bind h).mono fun xs H1 ⟨vs, st1, κ1, e1, r1, h1⟩ => by
    split at h1
    · rename_i c
      rw [Bool.and_eq_true] at c
      refine ⟨by rw [← r1.length]; exact lineB_ok c.2, fun p hp => ?_⟩
      have e2 := StR.upd_new tb (o := .tup xs) e1.sr hp
      exact h1 _ _ _ e2 ⟨p, xs, rfl, SqT.of (fz_at (fun z => e1.sr.not_mem hp (live_sub z)) upd_same fun ps z => by cases z), (r1.trees c.1).mono e2.same⟩
    · exact h1.elim⟩

/-! ### fresh lists -/
abbrev DenL := Sl → Store → Res (List PV)
theorem fz_more {L : List Addr} {H : Hp} {a : Addr} : Same (fz (a :: L) H) (fz L H) := fz_same fun b o hb _ e => ⟨fun z => hb (List.mem_cons_of_mem _ z), e⟩
/-- a new list at a, that nothing else speaks of -/
structure NewL (g : Gm) (st : Store) (κ : List Addr) (H : Hp) (st' : Store) (κ' : List Addr) (H' : Hp) (a : Addr) (vs : List V) (xs : List PV) : Prop where
  cells : CellsR g.K g.T (fz (a :: live st' κ') H') H' st' κ'
  nd : κ'.Nodup
  there : ∀ b ∈ κ', H' b ≠ none
  tabs : g.Tb H'
  pre : κ <+: κ'
  na : a ∉ κ'
  at_ : H' a = some (.lst vs)
  rep : RepVs g.K g.T (fz (a :: live st' κ') H') xs vs
  same : Same (Fz st κ H) (fz (a :: live st' κ') H')
theorem NewL.of_upd {g : Gm} (tb : TbOk g) {st st1 : Store} {κ κ1 : List Addr} {H H1 : Hp} {p : Addr} {vs : List V} {xs : List PV} (e : Xt g st κ H st1 κ1 H1) (hp : H1 p = none) (r : RepVs g.K g.T (Fz st1 κ1 H1) xs vs) :
    NewL g st κ H st1 κ1 (upd H1 p (.lst vs)) p vs xs := by
  have np := e.sr.not_mem hp
  have sm : Same (Fz st1 κ1 H1) (fz (p :: live st1 κ1) (upd H1 p (.lst vs))) := fz_same fun b u hb _ q => by
    have hne : b ≠ p := ne_of_none q hp
    exact ⟨fun z => (List.mem_cons.mp z).elim hne hb, by rw [upd_ne hne]; exact q⟩
  have e2 := StR.upd_new tb (o := .lst vs) e.sr hp
  exact ⟨e.sr.cells.mono sm fun a ha => upd_ne fun z => np (z ▸ ha), e2.sr.nd, e2.sr.there, e2.sr.tabs, e.pre, np, upd_same, r.mono sm, e.same.trans sm⟩
theorem NewL.sr {g : Gm} {st st' : Store} {κ κ' : List Addr} {H H' : Hp} {a : Addr} {vs : List V} {xs : List PV} (n : NewL g st κ H st' κ' H' a vs xs) : StR g.K g.T g.Tb st' κ' H' := ⟨n.cells.mono fz_more fun _ _ => rfl, n.nd, n.there, n.tabs⟩
theorem NewL.xt {g : Gm} {st st' : Store} {κ κ' : List Addr} {H H' : Hp} {a : Addr} {vs : List V} {xs : List PV} (n : NewL g st κ H st' κ' H' a vs xs) : Xt g st κ H st' κ' H' := ⟨n.sr, n.pre, n.same.trans fz_more⟩
def RunL (g : Gm) (W : WX) (r : Res (List PV)) (st : Store) (κ : List Addr) (σ : L2.St) (H : Hp) (Q : VK) : Prop := match r with
  | .ok xs st' => ∀ κ' H' a vs, NewL g st κ H st' κ' H' a vs xs → Q (.ref a) H'
  | .exc c l st' => ∀ κ' H' d, Xt g st κ H st' κ' H' → ExcR g (Fz st' κ' H') H' c l d → W (.ref (g.T.ca c)) d σ H'
  | .stuck _ => False
def tL (g : Gm) (W : WX) (d : DenL) : TE := fun σ H Q => ∃ ρ st κ, Lies g ρ st κ σ H ∧ RunL g W (d ρ st) st κ σ H Q
def LD (g : Gm) (l : Lc) (d : DenL) (e : Expr) : Prop := ∀ X W, Jx g l X → Takes X W → PE X e (tL g W d)
/-- a list that will never change -/
def dFrz (d : DenL) : Den := fun ρ st => (d ρ st).bind fun xs st => .ok (.lst xs) st
theorem NewL.frz {g : Gm} {st st' : Store} {κ κ' : List Addr} {H H' : Hp} {a : Addr} {vs : List V} {xs : List PV} (n : NewL g st κ H st' κ' H' a vs xs) : RepX g.K g.T κ' (Fz st' κ' H') (.lst xs) (.ref a) :=
  ⟨a, vs, rfl, SqL.of (fz_at (fun z => n.na (live_sub z)) n.at_ fun ps z => by cases z), n.rep.mono fz_more⟩
theorem ed_frz {g : Gm} {l : Lc} {d : DenL} {e : Expr} (h : LD g l d e) : ED g l (dFrz d) e := fun X W J tk =>
  PE.imp (h X W J tk) fun σ H Q ⟨ρ, st, κ, L, h⟩ => ⟨ρ, st, κ, L, by
    unfold dFrz at h
    cases q : d ρ st with
    | ok xs st' =>
      rw [q] at h
      exact fun κ' H' a vs n => h κ' H' (.ref a) n.xt n.frz
    | exc c l st' => rw [q] at h; exact h
    | stuck w => rw [q] at h; exact h⟩
/-- a list that may change: a new cell -/
def dNew (d : DenL) : Den := fun ρ st => (d ρ st).bind fun xs st => .ok (.ref st.length) (st ++ [.lst xs])
theorem live_app : ∀ {st : Store} {κ : List Addr} {c : Cell} {a : Addr}, st.length = κ.length → live (st ++ [c]) (κ ++ [a]) = live st κ ++ (if c.live then [a] else [])
  | [], [], c, a, _ => by show live [c] [a] = _; unfold live; simp [live]
  | [], _ :: _, _, _, h => by simp at h
  | _ :: _, [], _, _, h => by simp at h
  | b :: st, x :: κ, c, a, h => by
    show live (b :: (st ++ [c])) (x :: (κ ++ [a])) = _
    unfold live
    rw [live_app (by simpa using h)]
    split <;> simp
theorem CellsR.length {K : PySem.W.Frag} {T : CT} {F H : Hp} : ∀ {st : Store} {κ : List Addr}, CellsR K T F H st κ → st.length = κ.length
  | [], _, h => by subst h; rfl
  | _ :: _, _, ⟨a, r, q, _, h⟩ => by subst q; simp [CellsR.length h]
theorem CellsR.app {K : PySem.W.Frag} {T : CT} {F H : Hp} {c : Cell} {a : Addr} (hc : CellR K T F H a c) : ∀ {st : Store} {κ : List Addr}, CellsR K T F H st κ → CellsR K T F H (st ++ [c]) (κ ++ [a])
  | [], _, h => by subst h; exact ⟨a, [], rfl, hc, rfl⟩
  | _ :: _, _, ⟨b, r, q, h1, h⟩ => by subst q; exact ⟨b, r ++ [a], rfl, h1, CellsR.app hc h⟩
theorem fz_perm {L L' : List Addr} {H : Hp} (h : ∀ b, b ∈ L' → b ∈ L) : Same (fz L H) (fz L' H) := fz_same fun b o hb _ e => ⟨fun z => hb (h b z), e⟩
theorem nodup_snoc {κ : List Addr} {a : Addr} (h : κ.Nodup) (n : a ∉ κ) : (κ ++ [a]).Nodup :=
  List.nodup_append.mpr ⟨h, by simp, fun x hx y hy => by rw [List.mem_singleton.mp hy]; exact fun z => n (z ▸ hx)⟩
theorem NewL.cell {g : Gm} {st st' : Store} {κ κ' : List Addr} {H H' : Hp} {a : Addr} {vs : List V} {xs : List PV} (n : NewL g st κ H st' κ' H' a vs xs) : Xt g st κ H (st' ++ [.lst xs]) (κ' ++ [a]) H' := by
  have e : live (st' ++ [.lst xs]) (κ' ++ [a]) = live st' κ' ++ [a] := by rw [live_app n.cells.length]; rfl
  have h1 : Same (fz (a :: live st' κ') H') (Fz (st' ++ [.lst xs]) (κ' ++ [a]) H') := fz_perm fun b hb => by
    rw [e] at hb
    rcases List.mem_append.mp hb with hb | hb
    · exact List.mem_cons_of_mem _ hb
    · rw [List.mem_singleton.mp hb]; exact List.mem_cons_self
  refine ⟨⟨CellsR.app (c := .lst xs) ⟨vs, n.at_, n.rep.mono h1⟩ (n.cells.mono h1 fun _ _ => rfl), nodup_snoc n.nd n.na, fun b hb => ?_, n.tabs⟩, n.pre.trans (List.prefix_append _ _), n.same.trans h1⟩
  rcases List.mem_append.mp hb with hb | hb
  · exact n.there b hb
  · rw [List.mem_singleton.mp hb, n.at_]; exact fun z => by cases z
theorem ed_new {g : Gm} {l : Lc} {d : DenL} {e : Expr} (h : LD g l d e) : ED g l (dNew d) e := fun X W J tk =>
  PE.imp (h X W J tk) fun σ H Q ⟨ρ, st, κ, L, h⟩ => ⟨ρ, st, κ, L, by
    unfold dNew at h
    cases q : d ρ st with
    | ok xs st' =>
      rw [q] at h
      refine fun κ' H' a vs n => h _ H' (.ref a) n.cell ⟨a, ?_, rfl⟩
      rw [n.cells.length, List.getElem?_append_right (Nat.le_refl _)]
      simp
    | exc c l st' => rw [q] at h; exact h
    | stuck w => rw [q] at h; exact h⟩
/-- a display -/
def lDisp (da : DenA) : DenL := fun ρ st => (da ρ st).bind fun vs st => if vs.all isTree && lineB vs.length then .ok vs st else .stuck 4
theorem ld_disp {g : Gm} {l : Lc} (tb : TbOk g) {da : DenA} {es : List Expr} {pos : Pos} (ha : AD g l da es) : LD g l (lDisp da) (.List es pos) := fun X W J tk =>
  PE.imp (pe_lst (ha X W J tk)) fun σ H Q ⟨ρ, st, κ, L, h⟩ => ⟨ρ, st, κ, L, by
    unfold lDisp at h
    cases q : da ρ st with
    | exc c l st' => rw [q] at h; exact h
    | stuck w => rw [q] at h; exact h
    | ok vs st1 =>
      rw [q] at h
      intro κ1 H1 xs e1 r1
      by_cases c : (vs.all isTree && lineB vs.length) = true
      · have h' : RunL g W (.ok vs st1) st κ σ H Q := by
          have : (Res.ok vs st1).bind (fun vs st => if vs.all isTree && lineB vs.length then Res.ok vs st else Res.stuck 4) = .ok vs st1 := if_pos c
          rw [this] at h
          exact h
        rw [Bool.and_eq_true] at c
        refine ⟨by rw [← r1.length]; exact lineB_ok c.2, fun p hp => ?_⟩
        exact h' _ _ p xs (NewL.of_upd tb e1 hp (r1.trees c.1))
      · have : (Res.ok vs st1).bind (fun vs st => if vs.all isTree && lineB vs.length then Res.ok vs st else Res.stuck 4) = .stuck 4 := if_neg c
        rw [this] at h
        exact h.elim⟩
/-- behind what comes first, a fresh list -/
theorem RunL.bind {g : Gm} {W : WX} {α β : Type} {R : List Addr → Hp → α → β → Prop} {r : Res α} {f : α → Store → Res (List PV)} {st : Store} {κ : List Addr} {σ : L2.St} {H : Hp} {Q : VK} (h : RunL g W (r.bind f) st κ σ H Q) :
    Run g R W r st κ σ H fun x H1 => ∃ v st1 κ1, Xt g st κ H st1 κ1 H1 ∧ R κ1 (Fz st1 κ1 H1) v x ∧ RunL g W (f v st1) st κ σ H Q := by
  cases r with
  | ok v st' => exact fun κ' H' x e r => ⟨v, st', κ', e, r, h⟩
  | exc c l st' => exact h
  | stuck w => exact h
theorem NewL.xl {g : Gm} {st st1 st' : Store} {κ κ1 κ' : List Addr} {H H1 H' : Hp} {a : Addr} {vs : List V} {xs : List PV} (e : Xt g st κ H st1 κ1 H1) (n : NewL g st1 κ1 H1 st' κ' H' a vs xs) : NewL g st κ H st' κ' H' a vs xs :=
  ⟨n.cells, n.nd, n.there, n.tabs, e.pre.trans n.pre, n.na, n.at_, n.rep, e.same.trans n.same⟩
theorem RunL.xt {g : Gm} {W : WX} {r : Res (List PV)} {st st1 : Store} {κ κ1 : List Addr} {σ : L2.St} {H H1 : Hp} {Q : VK} (e : Xt g st κ H st1 κ1 H1) (h : RunL g W r st κ σ H Q) : RunL g W r st1 κ1 σ H1 Q := by
  cases r with
  | ok v st' => exact fun κ' H' a vs n => h κ' H' a vs (n.xl e)
  | exc c l st' => exact fun κ' H' d e' r => h κ' H' d (e.trans e') r
  | stuck w => exact h
end Wi

/-! Wi4: operators on sequences, comparisons, tests, built-in calls. -/
namespace Wi
open PySem L2

section
variable {g : Gm} {l : Lc}
/-! ### operators, generally -/
/-- what a rule of two values asks is met by the plain operator -/
def Op2 (g : Gm) (r : R2) (f : PV → PV → Store → Res PV) : Prop := ∀ v w st κ H x y W σ Q, StR g.K g.T g.Tb st κ H → RepX g.K g.T κ (Fz st κ H) v x → RepX g.K g.T κ (Fz st κ H) w y → Run g (RX g) W (f v w st) st κ σ H Q → r x y H Q
theorem run2' {da db : Den} {f : PV → PV → Store → Res PV} {r : R2} (hf : Op2 g r f) {W : WX} {σ : L2.St} {H : Hp} {Q : VK} (h : tD g W (dOp2 f da db) σ H Q) : tOp r (tD g W da) (tD g W db) σ H Q := by
  obtain ⟨ρ, st, κ, L, q⟩ := run2 h
  refine ⟨ρ, st, κ, L, q.mono fun x H1 q1 => ?_⟩
  obtain ⟨ρ, st, κ, L, q⟩ := q1
  exact ⟨ρ, st, κ, L, q.mono fun y H2 ⟨v, w, ρ, st2, κ2, L2, r1, r2, h2⟩ => hf v w st2 κ2 H2 x y W σ Q L2.sr r1 r2 h2⟩
theorem ed_op' {op : Operator} {r : R2} {f : PV → PV → Store → Res PV} {da db : Den} {a b : Expr} {pos : Pos} (ho : ∀ X, Jx g l X → OpR X (binaryOp op) r) (hf : Op2 g r f) (ha : ED g l da a) (hb : ED g l db b) : ED g l (dOp2 f da db) (.BinOp a op b pos) := fun X W J tk =>
  PE.imp (pe_op (ho X J) (ha X W J tk) (hb X W J tk)) fun σ H Q h => run2' hf h
theorem ed_cmp {op : CmpOp} {r : R2} {f : PV → PV → Store → Res PV} {da db : Den} {a b : Expr} {pos : Pos} (ho : ∀ X, Jx g l X → OpR X (compareOp op) r) (hf : Op2 g r f) (hm : behindInMarks op b = false) (ha : ED g l da a) (hb : ED g l db b) : ED g l (dOp2 f da db) (.Compare a [op] [b] pos) := fun X W J tk =>
  PE.imp (pe_cmpR (ho X J) (ha X W J tk) (hb X W J tk) hm) fun σ H Q h => run2' hf h
/-- a bool as a test -/
def dB (d : Den) : DenT := fun ρ st => (d ρ st).bind fun v st => match v with
  | .bl b => .ok b st
  | _ => .stuck 5
theorem runB {d : Den} {W : WX} {σ : L2.St} {H : Hp} {Q : Bool → Hp → Prop} (h : tT g W (dB d) σ H Q) : tD g W d σ H fun x H' => ∃ k, x = .bl k ∧ Q k H' := by
  obtain ⟨ρ, st, κ, L, h⟩ := h
  refine ⟨ρ, st, κ, L, (Run.bind h).mono fun x H1 ⟨v, st1, κ1, e1, r1, h1⟩ => ?_⟩
  cases v with
  | bl b => exact ⟨b, r1, Run.ret e1.sr h1 rfl⟩
  | non => exact h1.elim
  | int _ => exact h1.elim
  | str _ => exact h1.elim
  | tup _ => exact h1.elim
  | lst _ => exact h1.elim
  | ref _ => exact h1.elim
  | obj _ _ => exact h1.elim
theorem td_cmp {op : CmpOp} {r : R2} {f : PV → PV → Store → Res PV} {da db : Den} {a b : Expr} {pos : Pos} (ho : ∀ X, Jx g l X → OpR X (compareOp op) r) (hf : Op2 g r f) (hm : behindInMarks op b = false) (ha : ED g l da a) (hb : ED g l db b) : TD g l (dB (dOp2 f da db)) (.Compare a [op] [b] pos) := fun X W J tk =>
  PT.imp (pt_cmpR (ho X J) (ha X W J tk) (hb X W J tk) hm) fun σ H Q h => run2' hf (runB h)
/-- two rules side by side -/
theorem Op2.or {r r' : R2} {f f' : PV → PV → Store → Res PV} (c : PV → PV → Bool) (h : Op2 g r f) (h' : Op2 g r' f') : Op2 g (fun x y H Q => r x y H Q ∨ r' x y H Q) (fun v w st => if c v w then f v w st else f' v w st) := fun v w st κ H x y W σ Q s r1 r2 q => by
  dsimp only at q
  split at q
  · exact .inl (h v w st κ H x y W σ Q s r1 r2 q)
  · exact .inr (h' v w st κ H x y W σ Q s r1 r2 q)
theorem opInt2 {f : Int → Int → Option PV} {C : Int → Int → Prop} {o : Int → Int → V} (hf : ∀ i j u, f i j = some u → C i j ∧ ∀ F, RepV g.K g.T F u (o i j)) : Op2 g (rI C o) (opInt f) := fun v w st κ H x y W σ Q s r1 r2 h => opInt_ok hf s r1 r2 h

/-! ### + -/
def isI : PV → Bool
  | .int _ => true
  | _ => false
def isS : PV → Bool
  | .str _ => true
  | _ => false
def oStr : PV → PV → Store → Res PV := fun v w st => match v, w with
  | .str i, .str j => if lineB (i.length + j.length) then .ok (.str (i ++ j)) st else .stuck 6
  | _, _ => .stuck 7
theorem op2_str : Op2 g (fun x y H Q => ∃ i j, x = .str i ∧ y = .str j ∧ i.length + j.length ≤ sizeLine ∧ Q (.str (i ++ j)) H) oStr := fun v w st κ H x y W σ Q s r1 r2 h => by
  unfold oStr at h
  split at h
  · rename_i i j
    split at h
    · rename_i c
      exact ⟨i, j, r1, r2, lineB_ok c, Run.ret s h rfl⟩
    · exact h.elim
  · exact h.elim
def oTup : PV → PV → Store → Res PV := fun v w st => match v, w with
  | .tup xs, .tup ys => if lineB (xs.length + ys.length) then .ok (.tup (xs ++ ys)) st else .stuck 8
  | _, _ => .stuck 9
theorem RepVs.nil_iff {K : PySem.W.Frag} {T : CT} {F : Hp} {xs : List PV} {vs : List V} (r : RepVs K T F xs vs) : vs = [] ↔ xs = [] := by
  have := r.length
  constructor
  · intro h; subst h; exact List.length_eq_zero_iff.mp this
  · intro h; subst h; exact List.length_eq_zero_iff.mp this.symm
theorem rep_tup_new {st : Store} {κ : List Addr} {H : Hp} {p : Addr} {vs : List V} {xs : List PV} (tb : TbOk g) (s : StR g.K g.T g.Tb st κ H) (hp : H p = none) (r : RepVs g.K g.T (Fz st κ H) xs vs) : RepX g.K g.T κ (Fz st κ (upd H p (.tup vs))) (.tup xs) (.ref p) :=
  ⟨p, vs, rfl, SqT.of (fz_at (fun z => s.not_mem hp (live_sub z)) upd_same fun ps z => by cases z), r.mono (StR.upd_new tb (o := .tup vs) s hp).same⟩
theorem op2_tup (tb : TbOk g) : Op2 g (rCatA g.K) oTup := fun v w st κ H x y W σ Q s r1 r2 h => by
  unfold oTup at h
  split at h
  · rename_i xs ys
    split at h
    · rename_i c
      obtain ⟨a, vs, rfl, q1, q2⟩ := id r1
      obtain ⟨b, ws, rfl, q3, q4⟩ := id r2
      refine ⟨a, b, vs, ws, rfl, rfl, SqT.of_fz q1, SqT.of_fz q3, by rw [← q2.length, ← q4.length]; exact lineB_ok c, fun e => ?_, fun e e' => ?_, fun e e' p hp => ?_⟩
      · have := q2.nil_iff.mp e
        subst this
        exact Run.ret s h r2
      · have := q4.nil_iff.mp e'
        subst this
        rw [List.append_nil] at h
        exact Run.ret s h r1
      · exact h _ _ _ (StR.upd_new tb s hp) (rep_tup_new tb s hp (q2.append q4))
    · exact h.elim
  · exact h.elim
def oAdd : PV → PV → Store → Res PV := fun v w st => if isI v then opInt fAdd v w st else if isS v then oStr v w st else oTup v w st
theorem ed_add (tb : TbOk g) {da db : Den} {a b : Expr} {pos : Pos} (ha : ED g l da a) (hb : ED g l db b) : ED g l (dOp2 oAdd da db) (.BinOp a .Add b pos) :=
  ed_op' (r := fun x y H Q => rI (fun _ _ => True) (fun i j => .int (i + j)) x y H Q ∨ ((∃ i j, x = .str i ∧ y = .str j ∧ i.length + j.length ≤ sizeLine ∧ Q (.str (i ++ j)) H) ∨ rCatA g.K x y H Q))
    (fun X J => OpR.or (OpR.imp op_add rI_of0) (OpR.or op_add_str (J.k ▸ op_catA)))
    (Op2.or (fun v _ => isI v) (opInt2 fun i j u e => by cases e; exact ⟨trivial, fun _ => rfl⟩) (Op2.or (fun v _ => isS v) op2_str (op2_tup tb))) ha hb
/-- lists -/
def lCat (da db : Den) : DenL := fun ρ st => (da ρ st).bind fun v st => (db ρ st).bind fun w st => match seqOf v st, seqOf w st with
  | some (true, xs), some (true, ys) => if lineB (xs.length + ys.length) then .ok (xs ++ ys) st else .stuck 10
  | _, _ => .stuck 11
/-! ### == and != -/
mutual
def toD : PV → Option PyData
  | .non => some .none
  | .bl b => some (.bool b)
  | .int i => some (.int i)
  | .str s => some (.str s)
  | .tup xs => (toDs xs).map .tuple
  | .lst xs => (toDs xs).map .list
  | _ => none
def toDs : List PV → Option (List PyData)
  | [] => some []
  | x :: xs => match toD x, toDs xs with
    | some d, some ds => some (d :: ds)
    | _, _ => none
end
mutual
theorem toD_dp {L : List Addr} {H : Hp} : ∀ {v : PV} {d : PyData} {x : V}, toD v = some d → RepV g.K g.T (fz L H) v x → Dp g.K H x d
  | .non, _, _, e, r => by cases e; cases r; exact .non
  | .bl b, _, _, e, r => by cases e; cases r; exact .bl b
  | .int i, _, _, e, r => by cases e; cases r; exact .int i
  | .str s, _, _, e, r => by cases e; cases r; exact .str s
  | .tup xs, _, _, e, r => by
    unfold toD at e
    cases q : toDs xs with
    | none => rw [q] at e; cases e
    | some ds =>
      rw [q] at e
      cases e
      obtain ⟨a, vs, rfl, h1, h2⟩ := r
      exact .tup (SqT.of_fz h1) (toDs_dp q h2)
  | .lst xs, _, _, e, r => by
    unfold toD at e
    cases q : toDs xs with
    | none => rw [q] at e; cases e
    | some ds =>
      rw [q] at e
      cases e
      obtain ⟨a, vs, rfl, h1, h2⟩ := r
      exact .lst (SqL.of_fz h1) (toDs_dp q h2)
  | .ref _, _, _, e, _ => by cases e
  | .obj _ _, _, _, e, _ => by cases e
theorem toDs_dp {L : List Addr} {H : Hp} : ∀ {v : List PV} {d : List PyData} {x : List V}, toDs v = some d → RepVs g.K g.T (fz L H) v x → DpAll g.K H x d
  | [], _, _, e, r => by cases e; cases r; exact .nil
  | a :: v, _, _, e, ⟨y, r, q, h, t⟩ => by
    unfold toDs at e
    cases q1 : toD a with
    | none => simp only [q1] at e; cases e
    | some d =>
      cases q2 : toDs v with
      | none => simp only [q1, q2] at e; cases e
      | some ds =>
        simp only [q1, q2] at e
        cases e
        subst q
        exact .cons (toD_dp q1 h) (toDs_dp q2 t)
end
/-- a value's data, a cell's too -/
def toX (v : PV) (st : Store) : Option PyData := match v with
  | .ref k => match st[k]? with
    | some (.lst xs) => (toDs xs).map .list
    | some (.frz xs) => (toDs xs).map .list
    | _ => none
  | v => toD v
theorem toX_dp {st : Store} {κ : List Addr} {H : Hp} {v : PV} {x : V} {d : PyData} (s : StR g.K g.T g.Tb st κ H) (e : toX v st = some d) (r : RepX g.K g.T κ (Fz st κ H) v x) : Dp g.K H x d := by
  cases v with
  | ref k =>
    unfold toX at e
    have key : ∀ xs, seqOf (.ref k) st = some (true, xs) → (toDs xs).map PyData.list = some d → Dp g.K H x d := fun xs h1 h2 => by
      obtain ⟨a, vs, rfl, q1, q2⟩ := seq_rep s r h1
      rw [if_pos rfl] at q1
      cases q : toDs xs with
      | none => rw [q] at h2; cases h2
      | some ds =>
        rw [q] at h2
        cases h2
        exact .lst q1 (toDs_dp q q2)
    cases q : st[k]? with
    | none => simp only [q] at e; cases e
    | some c =>
      cases c with
      | lst xs => simp only [q] at e; exact key xs (by unfold seqOf; simp only [q]) e
      | frz xs => simp only [q] at e; exact key xs (by unfold seqOf; simp only [q]) e
      | ins _ _ => simp only [q] at e; cases e
  | non => exact toD_dp (L := live st κ) e r
  | bl _ => exact toD_dp (L := live st κ) e r
  | int _ => exact toD_dp (L := live st κ) e r
  | str _ => exact toD_dp (L := live st κ) e r
  | tup _ => exact toD_dp (L := live st κ) e r
  | lst _ => exact toD_dp (L := live st κ) e r
  | obj _ _ => cases e
/-- == of two values as data -/
def eqX (v w : PV) (st : Store) : Option Bool := match toX v st, toX w st with
  | some d, some e => if SeqAt.shaped d && SeqAt.shaped e then some (PyData.eqv d e) else none
  | _, _ => none
def oEq : PV → PV → Store → Res PV := fun v w st => match eqX v w st with
  | some b => .ok (.bl b) st
  | none => .stuck 12
def oNe : PV → PV → Store → Res PV := fun v w st => match eqX v w st with
  | some b => .ok (.bl (!b)) st
  | none => .stuck 13
theorem eqX_ok {v w : PV} {st : Store} {b : Bool} (e : eqX v w st = some b) : ∃ d f, toX v st = some d ∧ toX w st = some f ∧ SeqAt.shaped d = true ∧ SeqAt.shaped f = true ∧ PyData.eqv d f = b := by
  unfold eqX at e
  cases q1 : toX v st with
  | none => simp only [q1] at e; cases e
  | some d =>
    cases q2 : toX w st with
    | none => simp only [q1, q2] at e; cases e
    | some f =>
      simp only [q1, q2] at e
      split at e
      · rename_i c
        rw [Bool.and_eq_true] at c
        cases e
        exact ⟨d, f, rfl, rfl, c.1, c.2, rfl⟩
      · cases e
theorem op2_eq : Op2 g (rEqD g.K) oEq := fun v w st κ H x y W σ Q s r1 r2 h => by
  unfold oEq at h
  split at h
  · rename_i b e
    obtain ⟨d, f, q1, q2, q3, q4, q5⟩ := eqX_ok e
    exact ⟨d, f, toX_dp s q1 r1, toX_dp s q2 r2, q3, q4, by rw [q5]; exact Run.ret s h rfl⟩
  · exact h.elim
theorem op2_ne : Op2 g (rNeD g.K) oNe := fun v w st κ H x y W σ Q s r1 r2 h => by
  unfold oNe at h
  split at h
  · rename_i b e
    obtain ⟨d, f, q1, q2, q3, q4, q5⟩ := eqX_ok e
    exact ⟨d, f, toX_dp s q1 r1, toX_dp s q2 r2, q3, q4, by rw [q5]; exact Run.ret s h rfl⟩
  · exact h.elim
theorem ho_eq : ∀ X, Jx g l X → OpR X (compareOp .Eq) (rEqD g.K) := fun X J => J.k ▸ op_eqD J.room.units
theorem ho_ne : ∀ X, Jx g l X → OpR X (compareOp .NotEq) (rNeD g.K) := fun X J => J.k ▸ op_neD J.room.units

/-! ### order of ints -/
def fLt : Int → Int → Option PV := fun i j => some (.bl (decide (i < j)))
def fLe : Int → Int → Option PV := fun i j => some (.bl (decide (i ≤ j)))
def fGt : Int → Int → Option PV := fun i j => some (.bl (decide (j < i)))
def fGe : Int → Int → Option PV := fun i j => some (.bl (decide (j ≤ i)))
theorem op2_lt : Op2 g (rI (fun _ _ => True) fun i j => .bl (decide (i < j))) (opInt fLt) := opInt2 fun i j u e => by cases e; exact ⟨trivial, fun _ => rfl⟩
theorem op2_le : Op2 g (rI (fun _ _ => True) fun i j => .bl (decide (i ≤ j))) (opInt fLe) := opInt2 fun i j u e => by cases e; exact ⟨trivial, fun _ => rfl⟩
theorem op2_gt : Op2 g (rI (fun _ _ => True) fun i j => .bl (decide (j < i))) (opInt fGt) := opInt2 fun i j u e => by cases e; exact ⟨trivial, fun _ => rfl⟩
theorem op2_ge : Op2 g (rI (fun _ _ => True) fun i j => .bl (decide (j ≤ i))) (opInt fGe) := opInt2 fun i j u e => by cases e; exact ⟨trivial, fun _ => rfl⟩
theorem ho_lt : ∀ X, Jx g l X → OpR X (compareOp .Lt) (rI (fun _ _ => True) fun i j => .bl (decide (i < j))) := fun X _ => OpR.imp op_lt rI_of0
theorem ho_le : ∀ X, Jx g l X → OpR X (compareOp .LtE) (rI (fun _ _ => True) fun i j => .bl (decide (i ≤ j))) := fun X _ => OpR.imp op_le rI_of0
theorem ho_gt : ∀ X, Jx g l X → OpR X (compareOp .Gt) (rI (fun _ _ => True) fun i j => .bl (decide (j < i))) := fun X _ => OpR.imp op_gt rI_of0
theorem ho_ge : ∀ X, Jx g l X → OpR X (compareOp .GtE) (rI (fun _ _ => True) fun i j => .bl (decide (j ≤ i))) := fun X _ => OpR.imp op_ge rI_of0
/-! ### is -/
def oIs (neg : Bool) : PV → PV → Store → Res PV := fun v w st => match w with
  | .non => match v with
    | .non => .ok (.bl (!neg)) st
    | .ref _ => .stuck 14
    | _ => .ok (.bl neg) st
  | .bl b => match v with
    | .bl a => .ok (.bl (if neg then !decide (a = b) else decide (a = b))) st
    | _ => .stuck 15
  | _ => .stuck 16
def rIs (neg : Bool) : R2 := fun x y H Q => (y = .non ∧ Q (.bl (if neg then !decide (x = .non) else decide (x = .non))) H) ∨ ∃ a b : Bool, x = .bl a ∧ y = .bl b ∧ Q (.bl (if neg then !decide (a = b) else decide (a = b))) H
theorem non_iff {κ : List Addr} {F : Hp} {v : PV} {x : V} (r : RepX g.K g.T κ F v x) (t : isTree v = true) : x = .non ↔ v = .non := by
  cases v with
  | non => exact ⟨fun _ => rfl, fun _ => r⟩
  | bl b => cases (show x = .bl b from r); exact ⟨fun h => (nomatch h), fun h => (nomatch h)⟩
  | int i => cases (show x = .int i from r); exact ⟨fun h => (nomatch h), fun h => (nomatch h)⟩
  | str s => cases (show x = .str s from r); exact ⟨fun h => (nomatch h), fun h => (nomatch h)⟩
  | tup s => obtain ⟨a, vs, rfl, _⟩ := r; exact ⟨fun h => (nomatch h), fun h => (nomatch h)⟩
  | lst s => obtain ⟨a, vs, rfl, _⟩ := r; exact ⟨fun h => (nomatch h), fun h => (nomatch h)⟩
  | obj c s => obtain ⟨a, dx, vs, rfl, _⟩ := r; exact ⟨fun h => (nomatch h), fun h => (nomatch h)⟩
  | ref k => cases t
theorem op2_is (neg : Bool) : Op2 g (rIs neg) (oIs neg) := fun v w st κ H x y W σ Q s r1 r2 h => by
  unfold oIs at h
  cases w with
  | non =>
    refine .inl ⟨r2, ?_⟩
    have go : ∀ v', v = v' → isTree v' = true → v' ≠ .non → Run g (RX g) W (.ok (.bl neg) st) st κ σ H Q → Q (.bl (if neg then !decide (x = .non) else decide (x = .non))) H := fun v' e t hn q => by
      subst e
      rw [decide_eq_false fun z => hn ((non_iff r1 t).mp z)]
      have := Run.ret (g := g) (R := RX g) (x := V.bl neg) s q rfl
      cases neg <;> exact this
    cases v with
    | non =>
      cases (show x = .non from r1)
      have := Run.ret (g := g) (R := RX g) (x := V.bl (!neg)) s h rfl
      cases neg <;> exact this
    | ref k => exact h.elim
    | bl _ => exact go _ rfl rfl (fun z => nomatch z) h
    | int _ => exact go _ rfl rfl (fun z => nomatch z) h
    | str _ => exact go _ rfl rfl (fun z => nomatch z) h
    | tup _ => exact go _ rfl rfl (fun z => nomatch z) h
    | lst _ => exact go _ rfl rfl (fun z => nomatch z) h
    | obj _ _ => exact go _ rfl rfl (fun z => nomatch z) h
  | bl b =>
    cases v with
    | bl a => exact .inr ⟨a, b, r1, r2, Run.ret (g := g) (R := RX g) s h rfl⟩
    | non => exact h.elim
    | int _ => exact h.elim
    | str _ => exact h.elim
    | tup _ => exact h.elim
    | lst _ => exact h.elim
    | ref _ => exact h.elim
    | obj _ _ => exact h.elim
  | int _ => exact h.elim
  | str _ => exact h.elim
  | tup _ => exact h.elim
  | lst _ => exact h.elim
  | ref _ => exact h.elim
  | obj _ _ => exact h.elim
theorem ho_is : ∀ X, Jx g l X → OpR X (compareOp .Is) (rIs false) := fun X _ => OpR.imp (OpR.or op_isN op_isBl) fun _ _ _ _ q => q
theorem ho_isnot : ∀ X, Jx g l X → OpR X (compareOp .IsNot) (rIs true) := fun X _ => OpR.imp (OpR.or op_notN op_notBl) fun _ _ _ _ q => q
end
end Wi

/-! Wi5: tests, items, slices, built-in calls and methods. -/
namespace Wi
open PySem L2

section
variable {g : Gm} {l : Lc}
/-! ### tests -/
def dTru (d : Den) : DenT := fun ρ st => (d ρ st).bind fun v st => match v with
  | .bl b => .ok b st
  | .non => .ok false st
  | .int i => .ok (i != 0) st
  | v => match seqOf v st with
    | some (_, xs) => .ok (!xs.isEmpty) st
    | none => .stuck 20
theorem RepVs.isEmpty {K : PySem.W.Frag} {T : CT} {F : Hp} {xs : List PV} {vs : List V} (r : RepVs K T F xs vs) : xs.isEmpty = vs.isEmpty := by
  have := r.length
  cases xs <;> cases vs <;> first | rfl | (simp at this)
theorem td_tru {d : Den} {e : Expr} (h : ED g l d e) (he : ∀ (env : Env) (whole : Sem Value), isTrue e env whole = (do let v ← whole; standAt e.pos; holding [v] (truthy v))) : TD g l (dTru d) e := fun X W J tk =>
  PT.imp (pt_truth (h X W J tk) (he X.env)) fun σ H Q ⟨ρ, st, κ, L, h⟩ => ⟨ρ, st, κ, L, (Run.bind h).mono fun x H1 ⟨v, st1, κ1, e1, r1, h1⟩ => by
    have key : ∀ b xs, seqOf v st1 = some (b, xs) → Run g RB W (.ok (!xs.isEmpty) st1) st1 κ1 σ H1 Q → ∃ k, TruV X.K x H1 k ∧ Q k H1 := fun b xs e q => by
      obtain ⟨a, vs, rfl, q1, q2⟩ := seq_rep e1.sr r1 e
      refine ⟨!xs.isEmpty, ?_, Run.ret e1.sr q rfl⟩
      rw [RepVs.isEmpty q2, J.k]
      cases b with
      | true => exact .inl ⟨vs, q1, rfl⟩
      | false => exact .inr (.inl ⟨vs, q1, rfl⟩)
    have key2 : Run g RB W (match seqOf v st1 with | some (_, xs) => .ok (!xs.isEmpty) st1 | none => .stuck 20) st1 κ1 σ H1 Q → ∃ k, TruV X.K x H1 k ∧ Q k H1 := fun q => by
      split at q
      · rename_i b xs e
        exact key b xs e q
      · exact q.elim
    cases v with
    | bl b => cases (show x = .bl b from r1); exact ⟨b, rfl, Run.ret e1.sr h1 rfl⟩
    | non => cases (show x = .non from r1); exact ⟨false, rfl, Run.ret e1.sr h1 rfl⟩
    | int i => cases (show x = .int i from r1); exact ⟨i != 0, rfl, Run.ret e1.sr h1 rfl⟩
    | str _ => exact key2 h1
    | tup _ => exact key2 h1
    | lst _ => exact key2 h1
    | ref _ => exact key2 h1
    | obj _ _ => exact key2 h1⟩
/-- a call, a name and the like: its value's truth, no more -/
theorem td_val {d : Den} {e : Expr} (h : ED g l d e) (he : ∀ (env : Env) (whole : Sem Value), isTrue e env whole = (do let v ← whole; standAt e.pos; holding [v] (truthy v))) : TD g l (dTru d) e := td_tru h he
def tAndD (a b : DenT) : DenT := fun ρ st => (a ρ st).bind fun c st => if c then b ρ st else .ok false st
def tOrD (a b : DenT) : DenT := fun ρ st => (a ρ st).bind fun c st => if c then .ok true st else b ρ st
def tNotD (a : DenT) : DenT := fun ρ st => (a ρ st).bind fun c st => .ok (!c) st
theorem wd_and1 {a : Expr} {d : DenT} {pos : Pos} (h : TD g l d a) : WD g l d (.BoolOp .And [a] pos) := fun X W J tk => pw_and1 (h X W J tk)
theorem wd_or1 {a : Expr} {d : DenT} {pos : Pos} (h : TD g l d a) : WD g l d (.BoolOp .Or [a] pos) := fun X W J tk => pw_or1 (h X W J tk)
theorem wd_and {a b : Expr} {r : List Expr} {da db : DenT} {pos : Pos} (ha : TD g l da a) (hb : WD g l db (.BoolOp .And (b :: r) pos)) : WD g l (tAndD da db) (.BoolOp .And (a :: b :: r) pos) := fun X W J tk =>
  PW.imp (pw_and (ha X W J tk) (hb X W J tk)) fun σ H Q ⟨ρ, st, κ, L, h⟩ => ⟨ρ, st, κ, L, (Run.bind h).mono fun c H1 ⟨c', st1, κ1, e1, r1, h1⟩ => by
    have r1 : c' = c := r1
    subst r1
    cases c' with
    | true => exact ⟨ρ, st1, κ1, L.xt e1, h1⟩
    | false => exact Run.ret e1.sr h1 rfl⟩
theorem wd_or {a b : Expr} {r : List Expr} {da db : DenT} {pos : Pos} (ha : TD g l da a) (hb : WD g l db (.BoolOp .Or (b :: r) pos)) : WD g l (tOrD da db) (.BoolOp .Or (a :: b :: r) pos) := fun X W J tk =>
  PW.imp (pw_or (ha X W J tk) (hb X W J tk)) fun σ H Q ⟨ρ, st, κ, L, h⟩ => ⟨ρ, st, κ, L, (Run.bind h).mono fun c H1 ⟨c', st1, κ1, e1, r1, h1⟩ => by
    have r1 : c' = c := r1
    subst r1
    cases c' with
    | true => exact Run.ret e1.sr h1 rfl
    | false => exact ⟨ρ, st1, κ1, L.xt e1, h1⟩⟩
theorem td_bool {op : BoolOp} {es : List Expr} {d : DenT} {pos : Pos} (h : WD g l d (.BoolOp op es pos)) : TD g l d (.BoolOp op es pos) := fun X W J tk => (h X W J tk).pt
theorem td_not {a : Expr} {d : DenT} {pos : Pos} (h : TD g l d a) : TD g l (tNotD d) (.UnaryOp .Not a pos) := fun X W J tk =>
  PT.imp (pt_not (h X W J tk)) fun σ H Q ⟨ρ, st, κ, L, h⟩ => ⟨ρ, st, κ, L, (Run.bind h).mono fun c H1 ⟨c', st1, κ1, e1, r1, h1⟩ => by
    have r1 : c' = c := r1
    subst r1
    exact Run.ret e1.sr h1 rfl⟩
/-- bools as values -/
def dAndV (a b : Den) : Den := fun ρ st => (a ρ st).bind fun c st => match c with
  | .bl true => b ρ st
  | .bl false => .ok (.bl false) st
  | _ => .stuck 21
def dOrV (a b : Den) : Den := fun ρ st => (a ρ st).bind fun c st => match c with
  | .bl true => .ok (.bl true) st
  | .bl false => b ρ st
  | _ => .stuck 22
def dNotV (a : Den) : Den := fun ρ st => (a ρ st).bind fun c st => match c with
  | .bl b => .ok (.bl (!b)) st
  | _ => .stuck 23
theorem ed_one {op : BoolOp} {a : Expr} {d : Den} {pos : Pos} (h : ED g l d a) : ED g l d (.BoolOp op [a] pos) := fun X W J tk => pe_one (h X W J tk)
theorem ed_and {a b : Expr} {r : List Expr} {da db : Den} {pos : Pos} (ha : ED g l da a) (hb : ED g l db (.BoolOp .And (b :: r) pos)) : ED g l (dAndV da db) (.BoolOp .And (a :: b :: r) pos) := fun X W J tk =>
  PE.imp (pe_and (ha X W J tk) (hb X W J tk)) fun σ H Q ⟨ρ, st, κ, L, h⟩ => ⟨ρ, st, κ, L, (Run.bind h).mono fun x H1 ⟨v, st1, κ1, e1, r1, h1⟩ => by
    split at h1
    · exact ⟨true, r1, ρ, st1, κ1, L.xt e1, h1⟩
    · exact ⟨false, r1, Run.ret e1.sr h1 rfl⟩
    · exact h1.elim⟩
theorem ed_or {a b : Expr} {r : List Expr} {da db : Den} {pos : Pos} (ha : ED g l da a) (hb : ED g l db (.BoolOp .Or (b :: r) pos)) : ED g l (dOrV da db) (.BoolOp .Or (a :: b :: r) pos) := fun X W J tk =>
  PE.imp (pe_or (ha X W J tk) (hb X W J tk)) fun σ H Q ⟨ρ, st, κ, L, h⟩ => ⟨ρ, st, κ, L, (Run.bind h).mono fun x H1 ⟨v, st1, κ1, e1, r1, h1⟩ => by
    split at h1
    · exact ⟨true, r1, Run.ret e1.sr h1 rfl⟩
    · exact ⟨false, r1, ρ, st1, κ1, L.xt e1, h1⟩
    · exact h1.elim⟩
theorem ed_not {a : Expr} {da : Den} {pos : Pos} (ha : ED g l da a) : ED g l (dNotV da) (.UnaryOp .Not a pos) := fun X W J tk =>
  PE.imp (pe_not (ha X W J tk)) fun σ H Q ⟨ρ, st, κ, L, h⟩ => ⟨ρ, st, κ, L, (Run.bind h).mono fun x H1 ⟨v, st1, κ1, e1, r1, h1⟩ => by
    split at h1
    · rename_i b
      exact ⟨b, r1, Run.ret e1.sr h1 rfl⟩
    · exact h1.elim⟩
def dIf (c : DenT) (a b : Den) : Den := fun ρ st => (c ρ st).bind fun t st => if t then a ρ st else b ρ st
theorem ed_if {c a b : Expr} {dc : DenT} {da db : Den} {pos : Pos} (hc : TD g l dc c) (ha : ED g l da a) (hb : ED g l db b) : ED g l (dIf dc da db) (.IfExp c a b pos) := fun X W J tk =>
  PE.imp (pe_ifExp (hc X W J tk) (ha X W J tk) (hb X W J tk)) fun σ H Q ⟨ρ, st, κ, L, h⟩ => ⟨ρ, st, κ, L, (Run.bind h).mono fun c H1 ⟨c', st1, κ1, e1, r1, h1⟩ => by
    have r1 : c' = c := r1
    subst r1
    cases c' with
    | true => exact ⟨ρ, st1, κ1, L.xt e1, h1⟩
    | false => exact ⟨ρ, st1, κ1, L.xt e1, h1⟩⟩
def dNeg (d : Den) : Den := fun ρ st => (d ρ st).bind fun v st => match v with
  | .int i => .ok (.int (-i)) st
  | _ => .stuck 24
theorem ed_neg {a : Expr} {da : Den} {pos : Pos} (ha : ED g l da a) : ED g l (dNeg da) (.UnaryOp .USub a pos) := fun X W J tk =>
  PE.imp (pe_un un_neg (ha X W J tk)) fun σ H Q ⟨ρ, st, κ, L, h⟩ => ⟨ρ, st, κ, L, (Run.bind h).mono fun x H1 ⟨v, st1, κ1, e1, r1, h1⟩ => by
    split at h1
    · rename_i i
      exact ⟨i, r1, Run.ret e1.sr h1 rfl⟩
    · exact h1.elim⟩

/-! ### items and slices -/
def oIx : PV → PV → Store → Res PV := fun v w st => match w with
  | .int i => match seqOf v st with
    | some (_, xs) => match atI xs i with
      | some u => .ok u st
      | none => .stuck 25
    | none => match v with
      | .str z => if lineB z.length then (match atI z.cps.toList i with
        | some c => .ok (.str ⟨#[c]⟩) st
        | none => .stuck 26) else .stuck 26
      | _ => .stuck 26
  | _ => .stuck 27
theorem atI_rep {F : Hp} {xs : List PV} {vs : List V} {i : Int} {u : PV} (r : RepVs g.K g.T F xs vs) (e : atI xs i = some u) : ∃ y, atI vs i = some y ∧ RepV g.K g.T F u y := by
  unfold atI at e ⊢
  rw [← r.length]
  cases q : ixN xs.length i with
  | none => rw [q] at e; cases e
  | some j =>
    rw [q] at e
    exact r.get e
theorem op2_ix : Op2 g (rIx g.K) oIx := fun v w st κ H x y W σ Q s r1 r2 h => by
  unfold oIx at h
  split at h
  · rename_i i
    cases hs : seqOf v st with
    | some p =>
      obtain ⟨b, xs⟩ := p
      rw [hs] at h
      dsimp only at h
      split at h
      · rename_i u e
        obtain ⟨a, vs, rfl, q1, q2⟩ := seq_rep s r1 hs
        obtain ⟨z, q3, q4⟩ := atI_rep q2 e
        have := Run.ret s h (RepX.ofV q4)
        cases b with
        | true => exact .inl ⟨a, vs, i, z, rfl, r2, q1, q3, this⟩
        | false => exact .inr (.inl ⟨a, vs, i, z, rfl, r2, q1, q3, this⟩)
      · exact h.elim
    | none =>
      rw [hs] at h
      dsimp only at h
      split at h
      · rename_i z
        split at h
        · rename_i c
          split at h
          · rename_i u e
            exact .inr (.inr ⟨z, i, u, r1, r2, lineB_ok c, e, Run.ret s h rfl⟩)
          · exact h.elim
        · exact h.elim
      · exact h.elim
  · exact h.elim
theorem ed_ix {a b : Expr} {da db : Den} {pos : Pos} (hp : PlainIx b) (ha : ED g l da a) (hb : ED g l db b) : ED g l (dOp2 oIx da db) (.Subscript a b pos) := fun X W J tk =>
  PE.imp (pe_ix (r := rIx g.K) (J.k ▸ ix_seq) (ha X W J tk) (hb X W J tk) hp) fun σ H Q h => run2' op2_ix h

/-- a slice's end -/
abbrev DenO := Sl → Store → Res (Option Int)
def PD (g : Gm) (l : Lc) (d : DenO) (e : Option Expr) : Prop := ∀ X W, Jx g l X → Takes X W → PO X e (tR g (fun _ _ a b => a = b) W d)
def oNo : DenO := fun _ st => .ok none st
def oSome (d : Den) : DenO := fun ρ st => (d ρ st).bind fun v st => match v with
  | .int i => .ok (some i) st
  | _ => .stuck 28
theorem PO.imp {X : Cx} {e : Option Expr} {t u : TO} (h : PO X e t) (i : ∀ σ H Q, u σ H Q → t σ H Q) : PO X e u := ⟨fun pins s σ H Q I hu => h.run pins s σ H Q I (i σ H Q hu)⟩
theorem pd_no : PD g l oNo none := fun X W J tk => PO.imp po_none fun σ H Q ⟨ρ, st, κ, L, h⟩ => Run.ret L.sr h rfl
theorem pd_some {d : Den} {e : Expr} (h : ED g l d e) : PD g l (oSome d) (some e) := fun X W J tk =>
  PO.imp (po_some (h X W J tk)) fun σ H Q ⟨ρ, st, κ, L, h⟩ => ⟨ρ, st, κ, L, (Run.bind h).mono fun x H1 ⟨v, st1, κ1, e1, r1, h1⟩ => by
    split at h1
    · rename_i i
      exact ⟨i, r1, Run.ret e1.sr h1 rfl⟩
    · exact h1.elim⟩
def cutP (xs : List PV) (lo hi : Option Int) : List PV := (xs.drop (HT.sIx xs.length 0 lo)).take (HT.sIx xs.length xs.length hi - HT.sIx xs.length 0 lo)
theorem cut_rep {F : Hp} {xs : List PV} {vs : List V} (r : RepVs g.K g.T F xs vs) (lo hi : Option Int) : RepVs g.K g.T F (cutP xs lo hi) (cutV vs lo hi) := by
  unfold cutP cutV
  rw [r.length]
  exact (r.drop _).take _
/-- a slice of a tuple -/
def dCutT (d : Den) (lo hi : DenO) : Den := fun ρ st => (d ρ st).bind fun v st => (lo ρ st).bind fun a st => (hi ρ st).bind fun b st => match v with
  | .tup xs => .ok (.tup (cutP xs a b)) st
  | _ => .stuck 29
theorem cut_whole {α : Type} {xs : List α} {lo hi : Option Int} (h : HT.sIx xs.length 0 lo = 0 ∧ HT.sIx xs.length xs.length hi = xs.length) : (xs.drop (HT.sIx xs.length 0 lo)).take (HT.sIx xs.length xs.length hi - HT.sIx xs.length 0 lo) = xs := by
  rw [h.1, h.2, List.drop_zero, Nat.sub_zero, List.take_length]
theorem ed_cutT (tb : TbOk g) {a : Expr} {lo hi : Option Expr} {da : Den} {dl dh : DenO} {p2 pos : Pos} (ha : ED g l da a) (hl : PD g l dl lo) (hh : PD g l dh hi) : ED g l (dCutT da dl dh) (.Subscript a (.Slice lo hi none p2) pos) := fun X W J tk =>
  PE.imp (pe_slice (r := rSlA g.K) (J.k ▸ sl_tupA) (ha X W J tk) (hl X W J tk) (hh X W J tk)) fun σ H Q ⟨ρ, st, κ, L, h⟩ => ⟨ρ, st, κ, L, (Run.bind h).mono fun x H1 ⟨v, st1, κ1, e1, r1, h1⟩ =>
    ⟨ρ, st1, κ1, L.xt e1, (Run.bind h1).mono fun o H2 ⟨o', st2, κ2, e2, r2, h2⟩ => ⟨ρ, st2, κ2, (L.xt e1).xt e2, (Run.bind h2).mono fun o3 H3 ⟨o3', st3, κ3, e3, r3, h3⟩ => by
      have r2 : o' = o := r2
      have r3 : o3' = o3 := r3
      subst r2 r3
      cases v with
      | tup xs =>
        obtain ⟨p, vs, rfl, q1, q2⟩ := (r1.mono e2.pre e2.same).mono e3.pre e3.same
        refine ⟨p, vs, rfl, SqT.of_fz q1, fun hw => ?_, fun hw q hq => ?_⟩
        · have hx : cutP xs o' o3' = xs := by unfold cutP; rw [← q2.length] at hw; exact cut_whole hw
          dsimp only at h3
          rw [hx] at h3
          exact Run.ret e3.sr h3 ⟨p, vs, rfl, q1, q2⟩
        · exact h3 _ _ _ (StR.upd_new tb e3.sr hq) (rep_tup_new tb e3.sr hq (cut_rep q2 _ _))
      | non => exact h3.elim
      | bl _ => exact h3.elim
      | int _ => exact h3.elim
      | str _ => exact h3.elim
      | lst _ => exact h3.elim
      | ref _ => exact h3.elim
      | obj _ _ => exact h3.elim⟩⟩⟩
/-- a slice of a list: a new one -/
def lCut (d : Den) (lo hi : DenO) : DenL := fun ρ st => (d ρ st).bind fun v st => (lo ρ st).bind fun a st => (hi ρ st).bind fun b st => match seqOf v st with
  | some (true, xs) => .ok (cutP xs a b) st
  | _ => .stuck 30
theorem ld_cut (tb : TbOk g) {a : Expr} {lo hi : Option Expr} {da : Den} {dl dh : DenO} {p2 pos : Pos} (ha : ED g l da a) (hl : PD g l dl lo) (hh : PD g l dh hi) : LD g l (lCut da dl dh) (.Subscript a (.Slice lo hi none p2) pos) := fun X W J tk =>
  PE.imp (pe_slice (r := rSlL g.K) (J.k ▸ sl_list) (ha X W J tk) (hl X W J tk) (hh X W J tk)) fun σ H Q ⟨ρ, st, κ, L, h⟩ => ⟨ρ, st, κ, L, (RunL.bind h).mono fun x H1 ⟨v, st1, κ1, e1, r1, h1⟩ =>
    ⟨ρ, st1, κ1, L.xt e1, (RunL.bind (h1.xt e1)).mono fun o H2 ⟨o', st2, κ2, e2, r2, h2⟩ => ⟨ρ, st2, κ2, (L.xt e1).xt e2, (RunL.bind (h2.xt e2)).mono fun o3 H3 ⟨o3', st3, κ3, e3, r3, h3⟩ => by
      have r2 : o' = o := r2
      have r3 : o3' = o3 := r3
      subst r2 r3
      split at h3
      · rename_i xs e
        obtain ⟨p, vs, rfl, q1, q2⟩ := seq_rep e3.sr ((r1.mono e2.pre e2.same).mono e3.pre e3.same) e
        exact ⟨p, vs, rfl, q1, fun q hq => h3 _ _ q _ (NewL.of_upd tb e3 hq (cut_rep q2 _ _))⟩
      · exact h3.elim⟩⟩⟩

/-! ### calls of what is built in -/
def Fn (g : Gm) (r : List V → Hp → VK → Prop) (f : List PV → Store → Res PV) : Prop := ∀ vs st κ H xs W σ Q, StR g.K g.T g.Tb st κ H → RXs g κ (Fz st κ H) vs xs → Run g (RX g) W (f vs st) st κ σ H Q → r xs H Q
def dFn (f : List PV → Store → Res PV) (da : DenA) : Den := fun ρ st => (da ρ st).bind f
theorem run_fn' {f : List PV → Store → Res PV} {r : List V → Hp → VK → Prop} (hf : Fn g r f) {da : DenA} {W : WX} {σ : L2.St} {H : Hp} {Q : VK} (h : tD g W (dFn f da) σ H Q) : tCB r (tA g W da) σ H Q := by
  obtain ⟨ρ, st, κ, L, h⟩ := h
  exact ⟨ρ, st, κ, L, (Run.bind h).mono fun xs H1 ⟨vs, st1, κ1, e1, r1, h1⟩ => hf vs st1 κ1 H1 xs W σ Q e1.sr r1 h1⟩
/-- x is no name of the text's: the built-in one -/
structure Blt (g : Gm) (l : Lc) (x : Str) (v : Value) : Prop where
  gl : l.sc.names.lookup x = some .globalImplicit
  mg : g.mg x = none
  bt : bootBuiltins x = some v
theorem gl_of {X : Cx} (J : Jx g l X) {x : Str} (h : l.sc.names.lookup x = some .globalImplicit) : Gl X x := by
  show X.env.scope.names.lookup x = _
  rw [J.sc]
  exact h
theorem ed_callB {id : String} {x : Str} {r : List V → Hp → VK → Prop} {f : List PV → Store → Res PV} {da : DenA} {e : Expr} {es : List Expr} {p pos : Pos} (hc : ∀ X, Jx g l X → CallR X (.builtin id) r) (hf : Fn g r f) (b : Blt g l x (.builtin id)) (ha : AD g l da (e :: es))
    (hn : x ≠ "__name__") (hdb : (x == ("__debug__" : Str)) = false) (he : ∀ env, starEach (e :: es) env = (false, eval e env) :: starEach es env) (hpl : ∀ env, (backTo pos (starEach es env)).any (·.1) = false) : ED g l (dFn f da) (.Call (.Name x p) (e :: es) [] pos) := fun X W J tk =>
  PE.imp (pe_callB (hc X J) (gl_of J b.gl) (by rw [J.m]; exact b.mg) b.bt (ha X W J tk) hn hdb (he _) (hpl _)) fun σ H Q h => run_fn' hf h
theorem ed_callTy {id : String} {x : Str} {r : List V → Hp → VK → Prop} {f : List PV → Store → Res PV} {da : DenA} {e : Expr} {es : List Expr} {p pos : Pos} (hc : ∀ X, Jx g l X → CallR X (.type id) r) (hf : Fn g r f) (b : Blt g l x (.type id)) (ha : AD g l da (e :: es))
    (hn : x ≠ "__name__") (hdb : (x == ("__debug__" : Str)) = false) (he : ∀ env, starEach (e :: es) env = (false, eval e env) :: starEach es env) (hpl : ∀ env, (backTo pos (starEach es env)).any (·.1) = false) : ED g l (dFn f da) (.Call (.Name x p) (e :: es) [] pos) := fun X W J tk =>
  PE.imp (pe_callTy (hc X J) (gl_of J b.gl) (by rw [J.m]; exact b.mg) b.bt (ha X W J tk) hn hdb (he _) (hpl _)) fun σ H Q h => run_fn' hf h
theorem rxs1 {κ : List Addr} {F : Hp} {v : PV} {xs : List V} (h : RXs g κ F [v] xs) : ∃ x, xs = [x] ∧ RepX g.K g.T κ F v x := by
  obtain ⟨y, r, q, h1, h2⟩ := h
  cases h2
  exact ⟨y, q, h1⟩
theorem rxs2 {κ : List Addr} {F : Hp} {v w : PV} {xs : List V} (h : RXs g κ F [v, w] xs) : ∃ x y, xs = [x, y] ∧ RepX g.K g.T κ F v x ∧ RepX g.K g.T κ F w y := by
  obtain ⟨x, r, q, h1, y, r', q', h2, h3⟩ := h
  cases h3
  subst q'
  exact ⟨x, y, q, h1, h2⟩
def cLen : List PV → Store → Res PV := fun vs st => match vs with
  | [.str z] => if lineB z.length then .ok (.int z.length) st else .stuck 31
  | [v] => match seqOf v st with
    | some (_, xs) => .ok (.int xs.length) st
    | none => .stuck 31
  | _ => .stuck 31
theorem fn_len : Fn g (fun xs H Q => ∃ x n, xs = [x] ∧ LenV g.K x H n ∧ Q (.int n) H) cLen := fun vs st κ H xs W σ Q s r h => by
  unfold cLen at h
  split at h
  · rename_i z
    obtain ⟨x, rfl, r1⟩ := rxs1 r
    cases (show x = .str z from r1)
    split at h
    · rename_i c
      exact ⟨_, z.length, rfl, ⟨lineB_ok c, rfl⟩, Run.ret s h rfl⟩
    · exact h.elim
  · rename_i v hv
    obtain ⟨x, rfl, r1⟩ := rxs1 r
    split at h
    · rename_i b ys e
      obtain ⟨a, ws, rfl, q1, q2⟩ := seq_rep s r1 e
      refine ⟨_, ws.length, rfl, ?_, Run.ret s h (by rw [q2.length]; rfl)⟩
      cases b with
      | true => exact .inl ⟨ws, q1, rfl⟩
      | false => exact .inr ⟨ws, q1, rfl⟩
    · exact h.elim
  · exact h.elim
theorem hc_len : ∀ X, Jx g l X → CallR X (.builtin "len") (fun xs H Q => ∃ x n, xs = [x] ∧ LenV g.K x H n ∧ Q (.int n) H) := fun X J => J.k ▸ call_len
def cAbs : List PV → Store → Res PV := fun vs st => match vs with
  | [.int i] => .ok (.int (if i < 0 then -i else i)) st
  | _ => .stuck 32
theorem fn_abs : Fn g (fun xs H Q => ∃ i, xs = [.int i] ∧ Q (.int (if i < 0 then -i else i)) H) cAbs := fun vs st κ H xs W σ Q s r h => by
  unfold cAbs at h
  split at h
  · rename_i i
    obtain ⟨x, rfl, r1⟩ := rxs1 r
    cases (show x = .int i from r1)
    exact ⟨i, rfl, Run.ret s h rfl⟩
  · exact h.elim
def cInt : List PV → Store → Res PV := fun vs st => match vs with
  | [.int i] => .ok (.int i) st
  | [.bl b] => .ok (.int (if b then 1 else 0)) st
  | _ => .stuck 33
theorem fn_int : Fn g (fun xs H Q => (∃ i, xs = [.int i] ∧ Q (.int i) H) ∨ ∃ k, xs = [.bl k] ∧ Q (.int (if k then 1 else 0)) H) cInt := fun vs st κ H xs W σ Q s r h => by
  unfold cInt at h
  split at h
  · rename_i i
    obtain ⟨x, rfl, r1⟩ := rxs1 r
    cases (show x = .int i from r1)
    exact .inl ⟨i, rfl, Run.ret s h rfl⟩
  · rename_i i
    obtain ⟨x, rfl, r1⟩ := rxs1 r
    cases (show x = .bl i from r1)
    exact .inr ⟨i, rfl, Run.ret s h rfl⟩
  · exact h.elim
/-- tuple(x) of a list or tuple -/
def cTup : List PV → Store → Res PV := fun vs st => match vs with
  | [v] => match seqOf v st with
    | some (_, xs) => .ok (.tup xs) st
    | none => .stuck 34
  | _ => .stuck 34
theorem fn_tup (tb : TbOk g) : Fn g (fun xs H Q => ∃ p ys, xs = [.ref p] ∧ ((SqL g.K H p ys ∧ ∀ l, H l = none → Q (.ref l) (upd H l (.tup ys))) ∨ (SqT g.K H p ys ∧ Q (.ref p) H))) cTup := fun vs st κ H xs W σ Q s r h => by
  unfold cTup at h
  split at h
  · rename_i v
    obtain ⟨x, rfl, r1⟩ := rxs1 r
    cases v with
    | tup ys =>
      obtain ⟨p, ws, rfl, q1, q2⟩ := id r1
      exact ⟨p, ws, rfl, .inr ⟨SqT.of_fz q1, Run.ret s h r1⟩⟩
    | lst ys =>
      obtain ⟨p, ws, rfl, q1, q2⟩ := id r1
      exact ⟨p, ws, rfl, .inl ⟨SqL.of_fz q1, fun q hq => h _ _ _ (StR.upd_new tb s hq) (rep_tup_new tb s hq q2)⟩⟩
    | ref k =>
      split at h
      · rename_i b ys e
        obtain ⟨p, ws, rfl, q1, q2⟩ := seq_rep s r1 e
        have hb : b = true := by
          unfold seqOf at e
          dsimp only at e
          split at e <;> first | (cases e; rfl) | cases e
        subst hb
        exact ⟨p, ws, rfl, .inl ⟨q1, fun q hq => h _ _ _ (StR.upd_new tb s hq) (rep_tup_new tb s hq q2)⟩⟩
      · exact h.elim
    | non => exact h.elim
    | bl _ => exact h.elim
    | int _ => exact h.elim
    | str _ => exact h.elim
    | obj _ _ => exact h.elim
  · exact h.elim
theorem hc_tup : ∀ X, Jx g l X → CallR X (.type "tuple") (fun xs H Q => ∃ p ys, xs = [.ref p] ∧ ((SqL g.K H p ys ∧ ∀ l, H l = none → Q (.ref l) (upd H l (.tup ys))) ∨ (SqT g.K H p ys ∧ Q (.ref p) H))) := fun X J => J.k ▸ call_tuple_of
/-- list(x) of a list or tuple: a new one -/
def lList (d : Den) : DenL := fun ρ st => (d ρ st).bind fun v st => match seqOf v st with
  | some (_, xs) => .ok xs st
  | none => .stuck 35
theorem ld_list (tb : TbOk g) {x : Str} {d : Den} {e : Expr} {p pos : Pos} (b : Blt g l x (.type "list")) (h : ED g l d e)
    (hn : x ≠ "__name__") (hdb : (x == ("__debug__" : Str)) = false) (he : ∀ env, starEach [e] env = (false, eval e env) :: starEach [] env) : LD g l (lList d) (.Call (.Name x p) [e] [] pos) := fun X W J tk =>
  PE.imp (pe_callTy (call_list_of) (gl_of J b.gl) (by rw [J.m]; exact b.mg) b.bt (pa_cons (h X W J tk) pa_nil (he _)) hn hdb (he _) rfl) fun σ H Q ⟨ρ, st, κ, L, h⟩ => ⟨ρ, st, κ, L, (RunL.bind h).mono fun x H1 ⟨v, st1, κ1, e1, r1, h1⟩ => by
    split at h1
    · rename_i b ys e
      obtain ⟨p, ws, rfl, q1, q2⟩ := seq_rep e1.sr r1 e
      refine ⟨p, ws, rfl, ?_, fun q hq => h1 _ _ q _ (NewL.of_upd tb e1 hq q2)⟩
      rw [J.k]
      cases b with
      | true => exact .inl q1
      | false => exact .inr q1
    · exact h1.elim⟩
end
end Wi

/-! Wi6: statements, targets, loops. -/
namespace Wi
open PySem L2

/-- an expression within a statement -/
def Res.thenS {α : Type} (r : Res α) (ρ : Sl) (f : α → Store → RS) : RS := match r with
  | .ok a st => f a st
  | .exc c l st => .exc c l ρ st
  | .stuck w => .stuck w
section
variable {g : Gm} {l : Lc}
theorem RunS.of {α β : Type} {R : List Addr → Hp → α → β → Prop} {W : WX} {r : Res α} {ρ : Sl} {f : α → Store → RS} {st : Store} {κ : List Addr} {σ : L2.St} {H : Hp} {D : Ends} (L : Lies g ρ st κ σ H) (h : RunS g W (r.thenS ρ f) st κ H D) :
    Run g R W r st κ σ H fun x H1 => ∃ v st1 κ1, Xt g st κ H st1 κ1 H1 ∧ R κ1 (Fz st1 κ1 H1) v x ∧ RunS g W (f v st1) st1 κ1 H1 D := by
  cases r with
  | ok v st' => exact fun κ' H' x e r => ⟨v, st', κ', e, r, h.xt e⟩
  | exc c l st' => exact fun κ' H' d e r => h κ' H' σ d e (L.xt e).sl r
  | stuck w => exact h
/-! ### targets -/
abbrev DenG := PV → Sl → Store → RS
def tG (g : Gm) (W : WX) (d : DenG) : TG := fun v σ H Q => ∃ pv ρ st κ, Lies g ρ st κ σ H ∧ RepX g.K g.T κ (Fz st κ H) pv v ∧ RunS g W (d pv ρ st) st κ H { nx := Q, rt := fun _ _ => False }
def GD (g : Gm) (l : Lc) (d : DenG) (t : Expr) : Prop := ∀ X W, Jx g l X → Takes X W → PG X t (tG g W d)
abbrev DenGs := List PV → Sl → Store → RS
def tGs (g : Gm) (W : WX) (d : DenGs) : TGs := fun vs σ H Q => ∃ pvs ρ st κ, Lies g ρ st κ σ H ∧ RepVs g.K g.T (Fz st κ H) pvs vs ∧ RunS g W (d pvs ρ st) st κ H { nx := Q, rt := fun _ _ => False }
def GsD (g : Gm) (l : Lc) (d : DenGs) (ts : List Expr) : Prop := ∀ X W, Jx g l X → Takes X W → PGs X ts (tGs g W d)
theorem PG.imp {X : Cx} {e : Expr} {t u : TG} (h : PG X e t) (i : ∀ v σ H Q, u v σ H Q → t v σ H Q) : PG X e u := ⟨fun pins s σ H v uu Q I r hu => h.run pins s σ H v uu Q I r (i v σ H Q hu)⟩
theorem PGs.imp {X : Cx} {e : List Expr} {t u : TGs} (h : PGs X e t) (i : ∀ v σ H Q, u v σ H Q → t v σ H Q) : PGs X e u := ⟨fun pins s σ H v uu Q I r hu => h.run pins s σ H v uu Q I r (i v σ H Q hu)⟩
def locB (l : Lc) (x : Str) : Bool := match l.sc.names.lookup x with
  | some .local => true
  | some .cell => l.fn x
  | _ => false
theorem loc_of {l : Lc} {x : Str} (h : locB l x = true) : L2.Loc l.sc x := by
  unfold locB at h
  unfold L2.Loc
  cases e : l.sc.names.lookup x with
  | none => rw [e] at h; cases h
  | some k => rw [e] at h; cases k <;> first | (cases h; done) | simp
theorem fn_of' {l : Lc} {x : Str} {X : Cx} (J : Jx g l X) (h : locB l x = true) : X.fn x = true ∨ X.env.scope.names.lookup x = some .local := by
  rw [J.sc]
  unfold locB at h
  cases e : l.sc.names.lookup x with
  | none => rw [e] at h; cases h
  | some k =>
    rw [e] at h
    cases k with
    | «local» => exact .inr rfl
    | cell => exact .inl (J.fn x h)
    | _ => cases h
theorem Lies.set {ρ : Sl} {st : Store} {κ : List Addr} {σ : L2.St} {H : Hp} {pv : PV} {v : V} {i : Nat} (L : Lies g ρ st κ σ H) (r : RepX g.K g.T κ (Fz st κ H) pv v) : Lies g (ρ.set i (some pv)) st κ (σ.set i (some v)) H := ⟨L.sr, L.sl.set r i⟩
def gN (i : Nat) : DenG := fun v ρ st => .nx (ρ.set i (some v)) st
theorem gd_name {i : Nat} {x : Str} {pos : Pos} (hi : l.N[i]? = some x) (hx : locB l x = true) : GD g l (gN i) (.Name x pos) := fun X W J tk =>
  PG.imp (pg_name (i := i) (by rw [J.N]; exact J.nd) (by rw [J.N]; exact hi) (by rw [J.sc]; exact loc_of hx) (fn_of' J hx)) fun v σ H Q ⟨pv, ρ, st, κ, L, r, h⟩ => by
    exact h κ H _ (Ext.refl L.sr) (L.set r).sl
def gsNil : DenGs := fun vs ρ st => match vs with
  | [] => .nx ρ st
  | _ => .stuck 40
def gsCons (d : DenG) (ds : DenGs) : DenGs := fun vs ρ st => match vs with
  | v :: r => match d v ρ st with
    | .nx ρ st => ds r ρ st
    | x => x
  | [] => .stuck 41
theorem gsd_nil : GsD g l gsNil [] := fun X W J tk => PGs.imp pgs_nil fun vs σ H Q ⟨pvs, ρ, st, κ, L, r, h⟩ => by
  cases pvs with
  | nil => cases r; exact ⟨rfl, h κ H σ (Ext.refl L.sr) L.sl⟩
  | cons _ _ => exact h.elim
theorem gsd_cons {e : Expr} {es : List Expr} {d : DenG} {ds : DenGs} (h1 : GD g l d e) (h2 : GsD g l ds es) (hs : ∀ env, (assignEach (e :: es) env).map (·.2) = assign e env :: (assignEach es env).map (·.2)) : GsD g l (gsCons d ds) (e :: es) := fun X W J tk =>
  PGs.imp (pgs_cons (h1 X W J tk) (h2 X W J tk) (hs _)) fun vs σ H Q ⟨pvs, ρ, st, κ, L, r, h⟩ => by
    cases pvs with
    | nil => exact h.elim
    | cons v rr =>
      obtain ⟨y, r', q, ry, rt⟩ := r
      refine ⟨y, r', q, v, ρ, st, κ, L, RepX.ofV ry, ?_⟩
      unfold gsCons at h
      dsimp only at h
      cases e : d v ρ st with
      | nx ρ1 st1 =>
        rw [e] at h
        exact fun κ1 H1 σ1 e1 s1 => ⟨rr, ρ1, st1, κ1, ⟨e1.sr, s1⟩, rt.mono e1.same, h.xt e1⟩
      | rt v st' => rw [e] at h; exact h
      | bk _ _ => rw [e] at h; exact h
      | ct _ _ => rw [e] at h; exact h
      | exc _ _ _ _ => rw [e] at h; exact h
      | stuck _ => rw [e] at h; exact h
/-- a, b = a tuple -/
def gTupD (n : Nat) (ds : DenGs) : DenG := fun v ρ st => match v with
  | .tup xs => if xs.length == n then ds xs ρ st else .stuck 42
  | _ => .stuck 43
theorem gd_tup {es : List Expr} {k n : Nat} {ds : DenGs} {pos : Pos} (h : GsD g l ds es) (hn : ∀ env, (assignEach es env).length = n) (hst : ∀ env, (assignEach es env).findIdx? (·.1) = none) : GD g l (gTupD n ds) (.Tuple es k pos) := fun X W J tk =>
  PG.imp (pg_tup J.calm (h X W J tk) (hn _) (hst _)) fun v σ H Q ⟨pv, ρ, st, κ, L, r, h⟩ => by
    cases pv with
    | tup xs =>
      obtain ⟨a, vs, rfl, q1, q2⟩ := r
      unfold gTupD at h
      dsimp only at h
      by_cases c : (xs.length == n) = true
      · rw [if_pos c] at h
        refine ⟨a, vs, rfl, ?_, by rw [← q2.length]; exact eq_of_beq c, xs, ρ, st, κ, L, q2, h⟩
        rw [J.k]
        exact SqT.of_fz q1
      · rw [if_neg c] at h
        exact h.elim
    | non => exact h.elim
    | bl _ => exact h.elim
    | int _ => exact h.elim
    | str _ => exact h.elim
    | lst _ => exact h.elim
    | ref _ => exact h.elim
    | obj _ _ => exact h.elim
/-! ### cells changed -/
theorem live_set {c c' : Cell} : ∀ {st : Store} {κ : List Addr} {k : Nat}, st[k]? = some c → c'.live = c.live → live (st.set k c') κ = live st κ
  | [], _, _, e, _ => by simp at e
  | _ :: _, [], _, _, _ => by simp [live]
  | b :: st, a :: κ, 0, e, h => by
    simp at e
    subst e
    show live (c' :: st) (a :: κ) = _
    unfold live
    rw [h]
  | b :: st, a :: κ, k + 1, e, h => by
    show live (b :: st.set k c') (a :: κ) = _
    unfold live
    rw [live_set (k := k) (by simpa using e) h]
theorem CellsR.set {K : PySem.W.Frag} {T : CT} {F F' H H' : Hp} {c' : Cell} {a : Addr} (e : Same F F') (hc : CellR K T F' H' a c') : ∀ {st : Store} {κ : List Addr} {k : Nat}, κ[k]? = some a → κ.Nodup → (∀ b ∈ κ, b ≠ a → H' b = H b) → CellsR K T F H st κ → CellsR K T F' H' (st.set k c') κ
  | [], _, _, _, _, _, q => q
  | _ :: _, _, 0, hk, nd, h, ⟨b, r, q, h1, h2⟩ => by
    subst q
    simp at hk
    subst hk
    refine ⟨b, r, rfl, hc, h2.mono e fun x hx => h x (List.mem_cons_of_mem _ hx) fun z => ?_⟩
    subst z
    exact (List.nodup_cons.mp nd).1 hx
  | _ :: _, _, k + 1, hk, nd, h, ⟨b, r, q, h1, h2⟩ => by
    subst q
    have hk' : r[k]? = some a := by simpa using hk
    have ne : b ≠ a := fun z => by subst z; exact (List.nodup_cons.mp nd).1 (List.mem_of_getElem? hk')
    exact ⟨b, r, rfl, h1.mono e (h b List.mem_cons_self ne), CellsR.set e hc (k := k) hk' (List.nodup_cons.mp nd).2 (fun x hx => h x (List.mem_cons_of_mem _ hx)) h2⟩
theorem live_mem {c : Cell} {a : Addr} : ∀ {st : Store} {κ : List Addr} {k : Nat}, st[k]? = some c → κ[k]? = some a → c.live = true → a ∈ live st κ
  | [], _, _, e, _, _ => by simp at e
  | _ :: _, [], _, _, e, _ => by simp at e
  | b :: st, x :: κ, 0, e, f, h => by simp at e f; subst e; subst f; unfold live; rw [h]; simp
  | b :: st, x :: κ, k + 1, e, f, h => by
    have := live_mem (k := k) (st := st) (κ := κ) (by simpa using e) (by simpa using f) h
    unfold live
    split
    · exact List.mem_cons_of_mem _ this
    · exact this
/-- a list in a cell is changed -/
theorem cell_upd (tb : TbOk g) {st : Store} {κ : List Addr} {H : Hp} {k : Nat} {xs ys : List PV} {a : Addr} {ws : List V} (s : StR g.K g.T g.Tb st κ H) (e : st[k]? = some (.lst xs)) (hk : κ[k]? = some a) (r : RepVs g.K g.T (Fz st κ H) ys ws) :
    Xt g st κ H (st.set k (.lst ys)) κ (upd H a (.lst ws)) := by
  have hl : live (st.set k (.lst ys)) κ = live st κ := live_set (c := .lst xs) (c' := .lst ys) e rfl
  have ha : a ∈ live st κ := live_mem (c := .lst xs) e hk rfl
  have sm : Same (Fz st κ H) (Fz (st.set k (.lst ys)) κ (upd H a (.lst ws))) := by
    show Same (fz (live st κ) H) (fz (live (st.set k (.lst ys)) κ) (upd H a (.lst ws)))
    rw [hl]
    exact fz_same fun b o hb _ q => ⟨hb, by rw [upd_ne fun z => hb (by rw [z]; exact ha)]; exact q⟩
  obtain ⟨a', h1, vs, h2, h3⟩ := cell_at s.cells e
  rw [hk] at h1
  cases h1
  refine ⟨⟨s.cells.set sm (c' := .lst ys) ⟨ws, upd_same, r.mono sm⟩ hk s.nd fun b _ hb => upd_ne hb, s.nd, fun b hb => ?_, tb _ _ (fun b ps q => ?_) s.tabs⟩, List.prefix_refl _, sm⟩
  · by_cases z : b = a
    · subst z; rw [upd_same]; exact fun z => by cases z
    · rw [upd_ne z]; exact s.there b hb
  · rw [upd_ne fun z => by subst z; rw [h2] at q; cases q]
    exact q
/-- a cell is frozen -/
theorem cell_frz {st : Store} {κ : List Addr} {H : Hp} {k : Nat} {xs : List PV} (s : StR g.K g.T g.Tb st κ H) (e : st[k]? = some (.lst xs)) : Xt g st κ H (st.set k (.frz xs)) κ H := by
  obtain ⟨a, hk, vs, h2, h3⟩ := cell_at s.cells e
  have sub : ∀ {st : Store} {κ : List Addr} {k : Nat}, st[k]? = some (.lst xs) → ∀ b, b ∈ live (st.set k (.frz xs)) κ → b ∈ live st κ := by
    intro st
    induction st with
    | nil => intro κ k e; simp at e
    | cons c st ih =>
      intro κ k e b hb
      cases κ with
      | nil => simp [live] at hb
      | cons a κ =>
        cases k with
        | zero =>
          simp at e
          subst e
          simp only [List.set_cons_zero] at hb
          unfold live at hb ⊢
          exact List.mem_cons_of_mem _ hb
        | succ k =>
          simp only [List.set_cons_succ] at hb
          unfold live at hb ⊢
          split at hb
          · rename_i q
            rw [if_pos q]
            rcases List.mem_cons.mp hb with hb | hb
            · exact hb ▸ List.mem_cons_self
            · exact List.mem_cons_of_mem _ (ih (by simpa using e) b hb)
          · rename_i q
            rw [if_neg q]
            exact ih (by simpa using e) b hb
  have out : ∀ {st : Store} {κ : List Addr} {k : Nat}, st[k]? = some (.lst xs) → κ[k]? = some a → κ.Nodup → a ∉ live (st.set k (.frz xs)) κ := by
    intro st
    induction st with
    | nil => intro κ k e; simp at e
    | cons c st ih =>
      intro κ k e f nd hb
      cases κ with
      | nil => simp at f
      | cons x κ =>
        cases k with
        | zero =>
          simp at f
          subst f
          simp only [List.set_cons_zero] at hb
          unfold live at hb
          exact (List.nodup_cons.mp nd).1 (live_sub hb)
        | succ k =>
          simp only [List.set_cons_succ] at hb
          have f' : κ[k]? = some a := by simpa using f
          unfold live at hb
          split at hb
          · rcases List.mem_cons.mp hb with hb | hb
            · subst hb; exact (List.nodup_cons.mp nd).1 (List.mem_of_getElem? f')
            · exact ih (by simpa using e) f' (List.nodup_cons.mp nd).2 hb
          · exact ih (by simpa using e) f' (List.nodup_cons.mp nd).2 hb
  have sm : Same (Fz st κ H) (Fz (st.set k (.frz xs)) κ H) := fz_perm fun b hb => sub e b hb
  refine ⟨⟨s.cells.set sm (c' := .frz xs) ⟨vs, SqL.of (fz_at (out e hk s.nd) h2 fun ps z => by cases z), h3.mono sm⟩ hk s.nd fun b _ hb => rfl, s.nd, s.there, s.tabs⟩, List.prefix_refl _, sm⟩
/-- a value that will not change from here on -/
def frzV (v : PV) (st : Store) : Res PV := match v with
  | .ref k => match st[k]? with
    | some (.lst xs) => .ok (.lst xs) (st.set k (.frz xs))
    | some (.frz xs) => .ok (.lst xs) st
    | _ => .stuck 44
  | v => .ok v st
def dFreeze (d : Den) : Den := fun ρ st => (d ρ st).bind frzV
theorem frzV_ok {v : PV} {st : Store} {κ : List Addr} {σ : L2.St} {H : Hp} {W : WX} {Q : VK} {x : V} (s : StR g.K g.T g.Tb st κ H) (r : RepX g.K g.T κ (Fz st κ H) v x) (h : Run g (RX g) W (frzV v st) st κ σ H Q) : Q x H := by
  cases v with
  | ref k =>
    unfold frzV at h
    dsimp only at h
    obtain ⟨a, h1, rfl⟩ := id r
    cases e : st[k]? with
    | none => rw [e] at h; exact h.elim
    | some c =>
      rw [e] at h
      cases c with
      | lst xs =>
        dsimp only at h
        have x1 := cell_frz s e
        have e2 : (st.set k (.frz xs))[k]? = some (.frz xs) := by rw [List.getElem?_set_self]; exact (List.getElem?_eq_some_iff.mp e).1
        obtain ⟨a', q1, vs, q2, q3⟩ := cell_at x1.sr.cells e2
        rw [h1] at q1
        cases q1
        exact h _ _ _ x1 ⟨a, vs, rfl, q2, q3⟩
      | frz xs =>
        dsimp only at h
        obtain ⟨a', q1, vs, q2, q3⟩ := cell_at s.cells e
        rw [h1] at q1
        cases q1
        exact Run.ret s h ⟨a, vs, rfl, q2, q3⟩
      | ins _ _ => exact h.elim
  | non => exact Run.ret s h r
  | bl _ => exact Run.ret s h r
  | int _ => exact Run.ret s h r
  | str _ => exact Run.ret s h r
  | tup _ => exact Run.ret s h r
  | lst _ => exact Run.ret s h r
  | obj _ _ => exact Run.ret s h r
theorem ed_freeze {d : Den} {e : Expr} (h : ED g l d e) : ED g l (dFreeze d) e := fun X W J tk =>
  PE.imp (h X W J tk) fun σ H Q ⟨ρ, st, κ, L, h⟩ => ⟨ρ, st, κ, L, (Run.bind h).mono fun x H1 ⟨v, st1, κ1, e1, r1, h1⟩ => frzV_ok e1.sr r1 h1⟩
end
end Wi

/-! Wi7: statements and loops. -/
namespace Wi
open PySem L2
section
variable {g : Gm} {l : Lc}
/-! ### an item stored -/
def SubAsg (o i : Expr) (pos : Pos) : Prop := ∀ (env : Env) (v : Value), assign (.Subscript o i pos) env v = (do
      let ov ← holding [v] (eval o env)
      let iv ← holding [v, ov] (eval i env)
      standAt pos
      holding [v, ov, iv] (setItem ov iv v)
      release [v, ov, iv] [])
def gSubD (dO dI : Den) : DenG := fun v ρ st => Res.thenS (dO ρ st) ρ fun o st => Res.thenS (dI ρ st) ρ fun i st => match o, i with
  | .ref k, .int j => match st[k]? with
    | some (.lst xs) => match ixN xs.length j with
      | some m => if isTree v then .nx ρ (st.set k (.lst (xs.set m v))) else .stuck 50
      | none => .stuck 51
    | _ => .stuck 52
  | _, _ => .stuck 53
theorem gd_sub (tb : TbOk g) {o i : Expr} {dO dI : Den} {pos : Pos} (ho : ED g l dO o) (hi : ED g l dI i) (ha : SubAsg o i pos) : GD g l (gSubD dO dI) (.Subscript o i pos) := fun X W J tk =>
  PG.imp (pg_sub (ho X W J tk) (hi X W J tk) set_list (ha _)) fun v σ H Q ⟨pv, ρ, st, κ, L, r, h⟩ =>
    ⟨ρ, st, κ, L, (RunS.of L h).mono fun x H1 ⟨o', st1, κ1, e1, r1, h1⟩ => ⟨ρ, st1, κ1, L.xt e1, (RunS.of (L.xt e1) h1).mono fun y H2 ⟨i', st2, κ2, e2, r2, h2⟩ => by
      have r1' := r1.mono e2.pre e2.same
      have r' := (r.mono e1.pre e1.same).mono e2.pre e2.same
      have L2 := (L.xt e1).xt e2
      cases o' with
      | ref k =>
        cases i' with
        | int j =>
          dsimp only at h2
          cases e : st2[k]? with
          | none => rw [e] at h2; exact h2.elim
          | some c =>
            rw [e] at h2
            cases c with
            | lst xs =>
              dsimp only at h2
              cases q : ixN xs.length j with
              | none => rw [q] at h2; exact h2.elim
              | some m =>
                rw [q] at h2
                dsimp only at h2
                by_cases t : isTree pv = true
                · rw [if_pos t] at h2
                  obtain ⟨a, q1, rfl⟩ := r1'
                  obtain ⟨a', q2, vs, q3, q4⟩ := cell_at L2.sr.cells e
                  rw [q1] at q2
                  cases q2
                  have x := cell_upd tb L2.sr e q1 (q4.set (r'.tree t) m)
                  exact ⟨a, vs, j, m, rfl, r2, q3, by rw [← q4.length]; exact q, h2 _ _ _ x (L2.xt x).sl⟩
                · rw [if_neg t] at h2
                  exact h2.elim
            | frz _ => exact h2.elim
            | ins _ _ => exact h2.elim
        | non => exact h2.elim
        | bl _ => exact h2.elim
        | str _ => exact h2.elim
        | tup _ => exact h2.elim
        | lst _ => exact h2.elim
        | ref _ => exact h2.elim
        | obj _ _ => exact h2.elim
      | non => exact h2.elim
      | bl _ => exact h2.elim
      | int _ => exact h2.elim
      | str _ => exact h2.elim
      | tup _ => exact h2.elim
      | lst _ => exact h2.elim
      | obj _ _ => exact h2.elim⟩⟩

/-! ### statements -/
def sSkip : DenS := fun ρ st => .nx ρ st
def sSeq (a b : DenS) : DenS := fun ρ st => match a ρ st with
  | .nx ρ st => b ρ st
  | r => r
theorem ssd_nil : SsD g l sSkip [] := fun X W J tk => PSs.imp pss_nil fun D σ H ⟨ρ, st, κ, L, h⟩ => h κ H σ (Ext.refl L.sr) L.sl
theorem ssd_cons {s : Stmt} {ss : List Stmt} {a b : DenS} (h1 : SD g l a s) (h2 : SsD g l b ss) : SsD g l (sSeq a b) (s :: ss) := fun X W J tk =>
  PSs.imp (pss_cons (h1 X W J tk) (h2 X W J tk)) fun D σ H ⟨ρ, st, κ, L, h⟩ => ⟨ρ, st, κ, L, by
    unfold sSeq at h
    cases e : a ρ st with
    | nx ρ1 st1 => rw [e] at h; exact fun κ1 H1 σ1 e1 s1 => ⟨ρ1, st1, κ1, ⟨e1.sr, s1⟩, h.xt e1⟩
    | rt v st' => rw [e] at h; exact h
    | bk _ _ => rw [e] at h; exact h
    | ct _ _ => rw [e] at h; exact h
    | exc _ _ _ _ => rw [e] at h; exact h
    | stuck _ => rw [e] at h; exact h⟩
theorem ssd_one {s : Stmt} {a : DenS} (h1 : SD g l a s) : SsD g l a [s] := fun X W J tk => pss_one (h1 X W J tk)
theorem sd_pass {pos : Pos} : SD g l sSkip (.Pass pos) := fun X W J tk => PS.imp ps_pass fun D σ H ⟨ρ, st, κ, L, h⟩ => h κ H σ (Ext.refl L.sr) L.sl
def sBrk : DenS := fun ρ st => .bk ρ st
def sCont : DenS := fun ρ st => .ct ρ st
theorem sd_break {pos : Pos} : SD g l sBrk (.Break pos) := fun X W J tk => PS.imp ps_break fun D σ H ⟨ρ, st, κ, L, h⟩ => h κ H σ (Ext.refl L.sr) L.sl
theorem sd_continue {pos : Pos} : SD g l sCont (.Continue pos) := fun X W J tk => PS.imp ps_continue fun D σ H ⟨ρ, st, κ, L, h⟩ => h κ H σ (Ext.refl L.sr) L.sl
theorem sd_doc {x : Str} {j : Nat} {pos pos' : Pos} : SD g l sSkip (.Expr (.Constant (.str x) j pos) pos') := fun X W J tk => PS.imp ps_doc fun D σ H ⟨ρ, st, κ, L, h⟩ => h κ H σ (Ext.refl L.sr) L.sl
def sExpr (d : Den) : DenS := fun ρ st => Res.thenS (d ρ st) ρ fun _ st => .nx ρ st
theorem sd_expr {e : Expr} {d : Den} {pos : Pos} (h : ED g l d e) (hs : ∀ env, swapsWith e none pos.line env = pure false) : SD g l (sExpr d) (.Expr e pos) := fun X W J tk =>
  PS.imp (ps_expr (h X W J tk) (hs _)) fun D σ H ⟨ρ, st, κ, L, h⟩ => ⟨ρ, st, κ, L, (RunS.of L h).mono fun x H1 ⟨v, st1, κ1, e1, r1, h1⟩ => h1 κ1 H1 σ (Ext.refl e1.sr) (L.xt e1).sl⟩
def sRet (d : Den) : DenS := fun ρ st => Res.thenS (d ρ st) ρ fun v st => .rt v st
theorem sd_ret {e : Expr} {d : Den} {pos : Pos} (h : ED g l d e) : SD g l (sRet d) (.Return (some e) pos) := fun X W J tk =>
  PS.imp (ps_ret (h X W J tk)) fun D σ H ⟨ρ, st, κ, L, h⟩ => ⟨ρ, st, κ, L, (RunS.of L h).mono fun x H1 ⟨v, st1, κ1, e1, r1, h1⟩ => h1 κ1 H1 x (Ext.refl e1.sr) r1⟩
def sRetN : DenS := fun _ st => .rt .non st
theorem sd_retN {pos : Pos} : SD g l sRetN (.Return none pos) := fun X W J tk => PS.imp ps_retN fun D σ H ⟨ρ, st, κ, L, h⟩ => h κ H .non (Ext.refl L.sr) rfl
def sIf (c : DenT) (a b : DenS) : DenS := fun ρ st => Res.thenS (c ρ st) ρ fun t st => if t then a ρ st else b ρ st
theorem sd_if {c : Expr} {xs ys : List Stmt} {dc : DenT} {a b : DenS} {pos : Pos} (hc : TD g l dc c) (ha : SsD g l a xs) (hb : SsD g l b ys) : SD g l (sIf dc a b) (.If c xs ys pos) := fun X W J tk =>
  PS.imp (ps_if (hc X W J tk) (ha X W J tk) (hb X W J tk)) fun D σ H ⟨ρ, st, κ, L, h⟩ => ⟨ρ, st, κ, L, (RunS.of (R := RB) L h).mono fun c H1 ⟨c', st1, κ1, e1, r1, h1⟩ => by
    have r1 : c' = c := r1
    subst r1
    cases c' with
    | true => exact ⟨ρ, st1, κ1, L.xt e1, h1⟩
    | false => exact ⟨ρ, st1, κ1, L.xt e1, h1⟩⟩
def sSet (i : Nat) (d : Den) : DenS := fun ρ st => Res.thenS (d ρ st) ρ fun v st => .nx (ρ.set i (some v)) st
theorem sd_set {i : Nat} {x : Str} {e : Expr} {d : Den} {pos pos' : Pos} (hi : l.N[i]? = some x) (hx : locB l x = true) (h : ED g l d e) (hs : ∀ env, env.scope = l.sc → swapsWith e (some (.Name x pos')) pos.line env = pure false) : SD g l (sSet i d) (.Assign [.Name x pos'] e pos) := fun X W J tk =>
  PS.imp (ps_set (i := i) (by rw [J.N]; exact J.nd) (by rw [J.N]; exact hi) (by rw [J.sc]; exact loc_of hx) (h X W J tk) (hs _ J.sc) (fn_of' J hx)) fun D σ H ⟨ρ, st, κ, L, h⟩ =>
    ⟨ρ, st, κ, L, (RunS.of L h).mono fun x H1 ⟨v, st1, κ1, e1, r1, h1⟩ => h1 κ1 H1 _ (Ext.refl e1.sr) ((L.xt e1).set r1).sl⟩
/-- target = value -/
def sAsg (d : Den) (t : DenG) : DenS := fun ρ st => Res.thenS (d ρ st) ρ fun v st => t v ρ st
theorem RunS.ends {W : WX} {r : RS} {st : Store} {κ : List Addr} {H : Hp} {D D' : Ends} (h : RunS g W r st κ H D) (h1 : ∀ σ H, D.nx σ H → D'.nx σ H) (h2 : ∀ v H, D.rt v H → D'.rt v H) (h3 : ∀ σ H, D.bk σ H → D'.bk σ H) (h4 : ∀ σ H, D.ct σ H → D'.ct σ H) : RunS g W r st κ H D' := by
  cases r with
  | nx a b => exact fun κ' H' x e r => h1 _ _ (h κ' H' x e r)
  | bk a b => exact fun κ' H' x e r => h3 _ _ (h κ' H' x e r)
  | ct a b => exact fun κ' H' x e r => h4 _ _ (h κ' H' x e r)
  | rt a b => exact fun κ' H' x e r => h2 _ _ (h κ' H' x e r)
  | exc c l a b => exact h
  | stuck w => exact h
/-- a target stores, no more -/
def GOnly (d : DenG) : Prop := ∀ v ρ st, match d v ρ st with
  | .rt _ _ => False
  | .bk _ _ => False
  | .ct _ _ => False
  | _ => True
theorem RunS.only {W : WX} {d : DenG} {v : PV} {ρ : Sl} {st0 st : Store} {κ : List Addr} {H : Hp} {D : Ends} (o : GOnly d) (h : RunS g W (d v ρ st0) st κ H D) : RunS g W (d v ρ st0) st κ H { nx := D.nx, rt := fun _ _ => False } := by
  have := o v ρ st0
  cases e : d v ρ st0 with
  | nx _ _ => rw [e] at h; exact h
  | rt _ _ => rw [e] at this; exact this.elim
  | bk _ _ => rw [e] at this; exact this.elim
  | ct _ _ => rw [e] at this; exact this.elim
  | exc _ _ _ _ => rw [e] at h; exact h
  | stuck _ => rw [e] at h; exact h
theorem go_name {i : Nat} : GOnly (gN i) := fun _ _ _ => trivial
theorem go_sub {a b : Den} : GOnly (gSubD a b) := fun v ρ st => by
  unfold gSubD Res.thenS
  dsimp only
  cases a ρ st with
  | ok o st1 =>
    dsimp only
    cases b ρ st1 with
    | ok i st2 =>
      dsimp only
      split
      · rename_i h
        split at h
        · split at h
          · split at h
            · split at h <;> cases h
            · cases h
          · cases h
        · cases h
      · rename_i h
        split at h
        · split at h
          · split at h
            · split at h <;> cases h
            · cases h
          · cases h
        · cases h
      · rename_i h
        split at h
        · split at h
          · split at h
            · split at h <;> cases h
            · cases h
          · cases h
        · cases h
      · trivial
    | exc _ _ _ => trivial
    | stuck _ => trivial
  | exc _ _ _ => trivial
  | stuck _ => trivial
def GsOnly (d : DenGs) : Prop := ∀ v ρ st, match d v ρ st with
  | .rt _ _ => False
  | .bk _ _ => False
  | .ct _ _ => False
  | _ => True
theorem gos_nil : GsOnly gsNil := fun v ρ st => by cases v <;> trivial
theorem gos_cons {d : DenG} {ds : DenGs} (h1 : GOnly d) (h2 : GsOnly ds) : GsOnly (gsCons d ds) := fun v ρ st => by
  unfold gsCons
  cases v with
  | nil => trivial
  | cons v r =>
    dsimp only
    have := h1 v ρ st
    cases e : d v ρ st with
    | nx ρ1 st1 => exact h2 r ρ1 st1
    | rt _ _ => rw [e] at this; exact this
    | bk _ _ => rw [e] at this; exact this
    | ct _ _ => rw [e] at this; exact this
    | exc _ _ _ _ => trivial
    | stuck _ => trivial
theorem go_tup {n : Nat} {ds : DenGs} (h : GsOnly ds) : GOnly (gTupD n ds) := fun v ρ st => by
  unfold gTupD
  cases v with
  | tup xs =>
    dsimp only
    by_cases c : (xs.length == n) = true
    · rw [if_pos c]; exact h xs ρ st
    · rw [if_neg c]; trivial
  | non => trivial
  | bl _ => trivial
  | int _ => trivial
  | str _ => trivial
  | lst _ => trivial
  | ref _ => trivial
  | obj _ _ => trivial
theorem sd_asg {tg e : Expr} {d : Den} {t : DenG} {pos : Pos} (h : ED g l d e) (ht : GD g l t tg) (o : GOnly t) (hs : ∀ env, swapsWithSole [tg] e pos.line env = pure false) (hw : ∀ env, env.scope = l.sc → swappedStores [tg] e env = pure none)
    (h1 : ∀ env, (assignEach [tg] env).map (·.2) = [assign tg env]) : SD g l (sAsg d t) (.Assign [tg] e pos) := fun X W J tk =>
  PS.imp (ps_asg (h X W J tk) (ht X W J tk) (hs _) (hw _ J.sc) (h1 _)) fun D σ H ⟨ρ, st, κ, L, h⟩ =>
    ⟨ρ, st, κ, L, (RunS.of L h).mono fun x H1 ⟨v, st1, κ1, e1, r1, h1⟩ => ⟨v, ρ, st1, κ1, L.xt e1, r1, h1.only o⟩⟩
/-- a, b = x, y, plain local names -/
def sPar (i j : Nat) (da : DenA) : DenS := fun ρ st => Res.thenS (da ρ st) ρ fun vs st => match vs with
  | [v, w] => .nx ((ρ.set i (some v)).set j (some w)) st
  | _ => .stuck 54
theorem sd_par {i j : Nat} {x y : Str} {a b : Expr} {da : DenA} {px py pt pos : Pos} {kt k2 : Nat} {pt2 : Pos} (hi : l.N[i]? = some x) (hj : l.N[j]? = some y) (hij : i ≠ j) (hx : l.sc.names.lookup x = some .local) (hy : l.sc.names.lookup y = some .local) (ha : AD g l da [a, b])
    (hps : ∀ X W, Jx g l X → Takes X W → PS X (.Assign [.Tuple [.Name x px, .Name y py] kt pt] (.Tuple [a, b] k2 pt2) pos) (tPar i j (tA g W da))) : SD g l (sPar i j da) (.Assign [.Tuple [.Name x px, .Name y py] kt pt] (.Tuple [a, b] k2 pt2) pos) := fun X W J tk =>
  PS.imp (hps X W J tk) fun D σ H ⟨ρ, st, κ, L, h⟩ => ⟨ρ, st, κ, L, (RunS.of (R := RXs g) L h).mono fun xs H1 ⟨vs, st1, κ1, e1, r1, h1⟩ => by
    split at h1
    · rename_i v w
      obtain ⟨x, y, rfl, q1, q2⟩ := rxs2 r1
      exact ⟨x, y, rfl, h1 κ1 H1 _ (Ext.refl e1.sr) (((L.xt e1).set (i := i) q1).set (i := j) q2).sl⟩
    · exact h1.elim⟩
end
end Wi

/-! Wi8: what is walked; for, while, list comprehensions. -/
namespace Wi
open PySem L2
section
variable {g : Gm} {l : Lc}
/-- an iterator that hands out xs -/
structure Wk (g : Gm) (J : It) (xs : List PV) (st : Store) (κ : List Addr) (H : Hp) : Prop where
  go : ∀ i st' κ' H', Xt g st κ H st' κ' H' → i < xs.length → J.go i H'
  stop : ∀ i st' κ' H', Xt g st κ H st' κ' H' → xs.length ≤ i → J.stop i H'
  yld : ∀ i st' κ' H' x H'' v, Xt g st κ H st' κ' H' → xs[i]? = some v → J.yld i H' x H'' → Xt g st' κ' H' st' κ' H'' ∧ RepX g.K g.T κ' (Fz st' κ' H'') v x
theorem Wk.xt {J : It} {xs : List PV} {st st1 : Store} {κ κ1 : List Addr} {H H1 : Hp} (w : Wk g J xs st κ H) (e : Xt g st κ H st1 κ1 H1) : Wk g J xs st1 κ1 H1 :=
  ⟨fun i st' κ' H' x => w.go i st' κ' H' (e.trans x), fun i st' κ' H' x => w.stop i st' κ' H' (e.trans x), fun i st' κ' H' y H'' v x => w.yld i st' κ' H' y H'' v (e.trans x)⟩
abbrev DenI := Sl → Store → Res (List PV)
/-- the items, behind what was done to have them -/
def RunI (g : Gm) (W : WX) (r : Res (List PV)) (st : Store) (κ : List Addr) (σ : L2.St) (H : Hp) (Q : It → Hp → Prop) : Prop := match r with
  | .ok xs st' => ∀ κ' H' J, Xt g st κ H st' κ' H' → Wk g J xs st' κ' H' → Q J H'
  | .exc c l st' => ∀ κ' H' d, Xt g st κ H st' κ' H' → ExcR g (Fz st' κ' H') H' c l d → W (.ref (g.T.ca c)) d σ H'
  | .stuck _ => False
def tI (g : Gm) (W : WX) (d : DenI) : TI := fun σ H R => ∃ ρ st κ, Lies g ρ st κ σ H ∧ RunI g W (d ρ st) st κ σ H R
/-- for tg in e, whatever tg -/
def ID (g : Gm) (l : Lc) (d : DenI) (tg e : Expr) : Prop := ∀ X W, Jx g l X → Takes X W → PI X tg e (tI g W d)
theorem PI.imp {X : Cx} {tg e : Expr} {t u : TI} (h : PI X tg e t) (i : ∀ σ H Q, u σ H Q → t σ H Q) : PI X tg e u := ⟨fun pins s σ H R I hu => h.run pins s σ H R I (i σ H R hu)⟩
theorem PI.or {X : Cx} {tg e : Expr} {t u : TI} (h : PI X tg e t) (h' : PI X tg e u) : PI X tg e (fun σ H R => t σ H R ∨ u σ H R) := ⟨fun pins s σ H R I hu => hu.elim (h.run pins s σ H R I) (h'.run pins s σ H R I)⟩
theorem RunI.bind {W : WX} {α β : Type} {R : List Addr → Hp → α → β → Prop} {r : Res α} {f : α → Store → Res (List PV)} {st : Store} {κ : List Addr} {σ : L2.St} {H : Hp} {Q : It → Hp → Prop} (h : RunI g W (r.bind f) st κ σ H Q) :
    Run g R W r st κ σ H fun x H1 => ∃ v st1 κ1, Xt g st κ H st1 κ1 H1 ∧ R κ1 (Fz st1 κ1 H1) v x ∧ RunI g W (f v st1) st κ σ H Q := by
  cases r with
  | ok v st' => exact fun κ' H' x e r => ⟨v, st', κ', e, r, h⟩
  | exc c l st' => exact h
  | stuck w => exact h
theorem RunI.xt {W : WX} {r : Res (List PV)} {st st1 : Store} {κ κ1 : List Addr} {σ : L2.St} {H H1 : Hp} {Q : It → Hp → Prop} (e : Xt g st κ H st1 κ1 H1) (h : RunI g W r st κ σ H Q) : RunI g W r st1 κ1 σ H1 Q := by
  cases r with
  | ok v st' => exact fun κ' H' J x w => h κ' H' J (e.trans x) w
  | exc c l st' => exact fun κ' H' d e' r => h κ' H' d (e.trans e') r
  | stuck w => exact h
/-! ### sequences that stay -/
theorem wk_list {st : Store} {κ : List Addr} {H : Hp} {a : Addr} {vs : List V} {xs : List PV} (h : SqL g.K (Fz st κ H) a vs) (r : RepVs g.K g.T (Fz st κ H) xs vs) : Wk g (Itl g.K a) xs st κ H where
  go i st' κ' H' e hi := by
    obtain ⟨y, q, _⟩ := (r.mono e.same).get (List.getElem?_eq_getElem hi)
    exact ⟨vs, y, SqL.of_fz (e.same.seq h), q⟩
  stop i st' κ' H' e hi := ⟨vs, SqL.of_fz (e.same.seq h), by rw [← r.length]; exact hi⟩
  yld i st' κ' H' x H'' v e hv hy := by
    obtain ⟨rfl, q⟩ := hy
    obtain ⟨y, q1, q2⟩ := (r.mono e.same).get hv
    have := q vs (SqL.of_fz (e.same.seq h))
    rw [q1] at this
    cases this
    exact ⟨Ext.refl e.sr, RepX.ofV q2⟩
theorem wk_tup {st : Store} {κ : List Addr} {H : Hp} {a : Addr} {vs : List V} {xs : List PV} (h : SqT g.K (Fz st κ H) a vs) (r : RepVs g.K g.T (Fz st κ H) xs vs) : Wk g (Itt g.K a) xs st κ H where
  go i st' κ' H' e hi := by
    obtain ⟨y, q, _⟩ := (r.mono e.same).get (List.getElem?_eq_getElem hi)
    exact ⟨vs, y, SqT.of_fz (Same.seqT e.same h), q⟩
  stop i st' κ' H' e hi := ⟨vs, SqT.of_fz (Same.seqT e.same h), by rw [← r.length]; exact hi⟩
  yld i st' κ' H' x H'' v e hv hy := by
    obtain ⟨rfl, q⟩ := hy
    obtain ⟨y, q1, q2⟩ := (r.mono e.same).get hv
    have := q vs (SqT.of_fz (Same.seqT e.same h))
    rw [q1] at this
    cases this
    exact ⟨Ext.refl e.sr, RepX.ofV q2⟩
/-- a list or tuple walked: frozen first -/
def iSeq (d : Den) : DenI := fun ρ st => (dFreeze d ρ st).bind fun v st => match v with
  | .tup xs => .ok xs st
  | .lst xs => .ok xs st
  | _ => .stuck 60
open PySem.Spec PyProof.Rows in
theorem pi_seq {X : Cx} {tg e : Expr} {te : TE} (h : PE X e te) : PI X tg e (fun σ H R => te σ H fun x H1 => ∃ a, x = .ref a ∧ (((∃ xs, SqL X.K H1 a xs) ∧ R (Itl X.K a) H1) ∨ ((∃ xs, SqT X.K H1 a xs) ∧ R (Itt X.K a) H1))) := by
  refine ⟨fun pins s σ H R I hq => ?_⟩
  refine thn (h.run pins s σ H _ I hq) fun v s1 ⟨x, H1, I1, r1, a, e, q1⟩ => ?_
  subst e
  cases r1
  rcases q1 with ⟨⟨xs, hq⟩, q⟩ | ⟨⟨xs, hq⟩, q⟩
  · obtain ⟨its, rv, p, hz⟩ := I1.list hq
    refine wpAny_pyIter_list p.isList ?_
    refine ⟨s1.heap.objs.size, [s1.heap.objs.size], _, _, H1, rfl, I1.kept (t' := s1.toks) fun b o e => Heap.get?_push_of_some _ e, turn_list a _, ⟨_, Heap.get?_push_size _ rfl, rfl, rfl⟩, fun b hb => ?_, q⟩
    have e : b = s1.heap.objs.size := by simpa using hb
    subst e
    exact I1.fpOk (Nat.le_refl _) (I1.hok.fresh (Nat.le_refl _))
  · obtain ⟨its, rv, p, hz⟩ := I1.tuple hq
    refine wpAny_pyIter_tuple (show s1.heap.IsTuple a its.toArray from p) ?_
    refine ⟨s1.heap.objs.size, [s1.heap.objs.size], _, _, H1, rfl, I1.kept (t' := s1.toks) fun b o e => Heap.get?_push_of_some _ e, turn_tuple a _, ⟨_, Heap.get?_push_size _ rfl, rfl, rfl⟩, fun b hb => ?_, q⟩
    have e : b = s1.heap.objs.size := by simpa using hb
    subst e
    exact I1.fpOk (Nat.le_refl _) (I1.hok.fresh (Nat.le_refl _))
theorem id_seq {d : Den} {tg e : Expr} (h : ED g l d e) : ID g l (iSeq d) tg e := fun X W J tk =>
  PI.imp (pi_seq (ed_freeze h X W J tk)) fun σ H Q ⟨ρ, st, κ, L, h⟩ => ⟨ρ, st, κ, L, (RunI.bind h).mono fun x H1 ⟨v, st1, κ1, e1, r1, h1⟩ => by
    rw [J.k]
    cases v with
    | tup xs => obtain ⟨a, vs, rfl, q1, q2⟩ := r1; exact ⟨a, rfl, .inr ⟨⟨vs, SqT.of_fz q1⟩, h1 κ1 H1 _ e1 (wk_tup q1 q2)⟩⟩
    | lst xs => obtain ⟨a, vs, rfl, q1, q2⟩ := r1; exact ⟨a, rfl, .inl ⟨⟨vs, SqL.of_fz q1⟩, h1 κ1 H1 _ e1 (wk_list q1 q2)⟩⟩
    | non => exact h1.elim
    | bl _ => exact h1.elim
    | int _ => exact h1.elim
    | str _ => exact h1.elim
    | ref _ => exact h1.elim
    | obj _ _ => exact h1.elim⟩
/-! ### ranges -/
def rgP (lo : Int) (n : Nat) : List PV := (List.range n).map fun i => .int (lo + (i : Nat))
theorem wk_range {lo : Int} {n : Nat} {st : Store} {κ : List Addr} {H : Hp} : Wk g (Itr lo n) (rgP lo n) st κ H where
  go i st' κ' H' e hi := (show i < n from by simpa [rgP] using hi)
  stop i st' κ' H' e hi := (show n ≤ i from by simpa [rgP] using hi)
  yld i st' κ' H' x H'' v e hv hy := by
    obtain ⟨rfl, rfl⟩ := hy
    refine ⟨Ext.refl e.sr, ?_⟩
    unfold rgP at hv
    rw [List.getElem?_map] at hv
    cases q : (List.range n)[i]? with
    | none => rw [q] at hv; cases hv
    | some j =>
      rw [q] at hv
      cases hv
      have : j = i := by
        obtain ⟨h1, h2⟩ := List.getElem?_eq_some_iff.mp q
        simpa using h2.symm
      subst this
      rfl
def midB (i : Int) : Bool := decide (-(2 ^ 62) ≤ i) && decide (i < 2 ^ 62)
theorem midB_ok {i : Int} (h : midB i = true) : -(2 ^ 62) ≤ i ∧ i < 2 ^ 62 := by
  unfold midB at h
  rw [Bool.and_eq_true, decide_eq_true_eq, decide_eq_true_eq] at h
  exact h
theorem tD_bindI {W : WX} {d : Den} {f : PV → Store → Res (List PV)} {σ : L2.St} {H : Hp} {Q : It → Hp → Prop} (h : tI g W (fun ρ st => (d ρ st).bind f) σ H Q) : tD g W d σ H fun x H1 => ∃ v ρ st1 κ1, Lies g ρ st1 κ1 σ H1 ∧ RepX g.K g.T κ1 (Fz st1 κ1 H1) v x ∧ RunI g W (f v st1) st1 κ1 σ H1 Q := by
  obtain ⟨ρ, st, κ, L, h⟩ := h
  exact ⟨ρ, st, κ, L, (RunI.bind h).mono fun xs H1 ⟨vs, st1, κ1, e1, r1, h1⟩ => ⟨vs, ρ, st1, κ1, L.xt e1, r1, h1.xt e1⟩⟩
def iRng (d : Den) : DenI := fun ρ st => (d ρ st).bind fun v st => match v with
  | .int j => if midB j then .ok (rgP 0 j.toNat) st else .stuck 61
  | _ => .stuck 63
theorem id_range1 {tg a : Expr} {d : Den} {p pos : Pos} (b : Blt g l "range" (.type "range")) (h : ED g l d a) (hs : ∀ env, starEach [a] env = [(false, eval a env)]) : ID g l (iRng d) tg (.Call (.Name "range" p) [a] [] pos) := fun X W J tk =>
  PI.imp (pi_range1 (gl_of J b.gl) (by rw [J.m]; exact b.mg) (pa_cons (h X W J tk) pa_nil (hs _)) (hs _)) fun σ H Q h => by
    obtain ⟨ρ, st, κ, L, h⟩ := tD_bindI h
    refine ⟨ρ, st, κ, L, h.mono fun x H1 ⟨v, ρ, st1, κ1, L1, r1, h1⟩ => ?_⟩
    cases v with
    | int j =>
      cases (show x = .int j from r1)
      dsimp only at h1
      by_cases c : midB j = true
      · rw [if_pos c] at h1
        obtain ⟨c1, c2⟩ := midB_ok c
        exact ⟨j, rfl, c1, c2, h1 κ1 H1 _ (Ext.refl L1.sr) wk_range⟩
      · rw [if_neg c] at h1
        exact h1.elim
    | non => exact h1.elim
    | bl _ => exact h1.elim
    | str _ => exact h1.elim
    | tup _ => exact h1.elim
    | lst _ => exact h1.elim
    | ref _ => exact h1.elim
    | obj _ _ => exact h1.elim
theorem tA_bindI {W : WX} {da : DenA} {f : List PV → Store → Res (List PV)} {σ : L2.St} {H : Hp} {Q : It → Hp → Prop} (h : tI g W (fun ρ st => (da ρ st).bind f) σ H Q) : tA g W da σ H fun xs H1 => ∃ vs ρ st1 κ1, Lies g ρ st1 κ1 σ H1 ∧ RXs g κ1 (Fz st1 κ1 H1) vs xs ∧ RunI g W (f vs st1) st1 κ1 σ H1 Q := by
  obtain ⟨ρ, st, κ, L, h⟩ := h
  exact ⟨ρ, st, κ, L, (RunI.bind h).mono fun xs H1 ⟨vs, st1, κ1, e1, r1, h1⟩ => ⟨vs, ρ, st1, κ1, L.xt e1, r1, h1.xt e1⟩⟩
def iRng2 (da : DenA) : DenI := fun ρ st => (da ρ st).bind fun vs st => match vs with
  | [.int i, .int j] => if midB i && midB j then .ok (rgP i (j - i).toNat) st else .stuck 62
  | _ => .stuck 63
theorem id_range2 {tg a b : Expr} {da : DenA} {p pos : Pos} (bl : Blt g l "range" (.type "range")) (h : AD g l da [a, b]) (hs : ∀ env, starEach [a, b] env = [(false, eval a env), (false, eval b env)]) (hs2 : ∀ env, starEach [b] env = [(false, eval b env)]) : ID g l (Wi.iRng2 da) tg (.Call (.Name "range" p) [a, b] [] pos) := fun X W J tk =>
  PI.imp (pi_range2 (gl_of J bl.gl) (by rw [J.m]; exact bl.mg) (h X W J tk) (hs _) (hs2 _)) fun σ H Q h => by
    obtain ⟨ρ, st, κ, L, h⟩ := tA_bindI h
    refine ⟨ρ, st, κ, L, h.mono fun xs H1 ⟨vs, ρ, st1, κ1, L1, r1, h1⟩ => ?_⟩
    split at h1
    · rename_i i j
      obtain ⟨x, y, rfl, q1, q2⟩ := rxs2 r1
      cases (show x = .int i from q1)
      cases (show y = .int j from q2)
      by_cases c : (midB i && midB j) = true
      · rw [if_pos c] at h1
        rw [Bool.and_eq_true] at c
        obtain ⟨c1, c2⟩ := midB_ok c.1
        obtain ⟨c3, c4⟩ := midB_ok c.2
        exact ⟨i, j, rfl, ⟨c1, c2, c3, c4⟩, h1 κ1 H1 _ (Ext.refl L1.sr) wk_range⟩
      · rw [if_neg c] at h1
        exact h1.elim
    · exact h1.elim
/-! ### for -/
def forL (t : DenG) (b : DenS) : List PV → Sl → Store → RS
  | [], ρ, st => .nx ρ st
  | x :: xs, ρ, st => match t x ρ st with
    | .nx ρ st => match b ρ st with
      | .nx ρ st => forL t b xs ρ st
      | .ct ρ st => forL t b xs ρ st
      | .bk ρ st => .nx ρ st
      | r => r
    | r => r
def sFor (i : DenI) (t : DenG) (b : DenS) : DenS := fun ρ st => Res.thenS (i ρ st) ρ fun xs st => forL t b xs ρ st
theorem RunS.ofI {W : WX} {r : Res (List PV)} {ρ : Sl} {f : List PV → Store → RS} {st : Store} {κ : List Addr} {σ : L2.St} {H : Hp} {D : Ends} (L : Lies g ρ st κ σ H) (h : RunS g W (r.thenS ρ f) st κ H D) :
    RunI g W r st κ σ H fun J H1 => ∃ xs st1 κ1, Xt g st κ H st1 κ1 H1 ∧ Wk g J xs st1 κ1 H1 ∧ RunS g W (f xs st1) st1 κ1 H1 D := by
  cases r with
  | ok v st' => exact fun κ' H' x e r => ⟨v, st', κ', e, r, h.xt e⟩
  | exc c l st' => exact fun κ' H' d e r => h κ' H' σ d e (L.xt e).sl r
  | stuck w => exact h
theorem RunI.mono {W : WX} {r : Res (List PV)} {st : Store} {κ : List Addr} {σ : L2.St} {H : Hp} {Q Q' : It → Hp → Prop} (h : RunI g W r st κ σ H Q) (i : ∀ x H', Q x H' → Q' x H') : RunI g W r st κ σ H Q' := by
  cases r with
  | ok v st' => exact fun κ' H' x e r => i _ _ (h κ' H' x e r)
  | exc c l st' => exact h
  | stuck w => exact h
theorem sd_for {tg e : Expr} {body : List Stmt} {i : DenI} {t : DenG} {b : DenS} {pos : Pos} (hi : ID g l i tg e) (ht : GD g l t tg) (o : GOnly t) (hb : SsD g l b body) (hs : ∀ env x, foldedSetIterable e env x = pure x) : SD g l (sFor i t b) (.For tg e body [] pos) := fun X W J tk =>
  PS.imp (ps_for J.own J.calm (hi X W J tk) (ht X W J tk) (hb X W J tk) (hs _)) fun D σ H ⟨ρ, st, κ, L, h⟩ => ⟨ρ, st, κ, L, (RunS.ofI L h).mono fun I H1 ⟨xs, st1, κ1, e1, w1, h1⟩ => by
    refine ⟨fun i m σ' H' => ∃ ρ' st' κ', i + m = xs.length ∧ Xt g st1 κ1 H1 st' κ' H' ∧ Lies g ρ' st' κ' σ' H' ∧ RunS g W (forL t b (xs.drop i) ρ' st') st' κ' H' D,
      ⟨xs.length, ρ, st1, κ1, by omega, Ext.refl e1.sr, L.xt e1, h1⟩, fun i m σ' H' ⟨ρ', st', κ', hm, x1, L', h'⟩ => ?_⟩
    by_cases hi : i < xs.length
    · refine .inr ⟨w1.go i st' κ' H' x1 hi, fun σ2 H2 => ∃ m', m' < m ∧ ∃ ρ2 st2 κ2, i + 1 + m' = xs.length ∧ Xt g st1 κ1 H1 st2 κ2 H2 ∧ Lies g ρ2 st2 κ2 σ2 H2 ∧ RunS g W (forL t b (xs.drop (i + 1)) ρ2 st2) st2 κ2 H2 D, fun σ2 H2 q => q, fun x H2 hy => ?_⟩
      obtain ⟨x2, r2⟩ := w1.yld i st' κ' H' x H2 _ x1 (List.getElem?_eq_getElem hi) hy
      have L2 := L'.xt x2
      have h2 := h'.xt x2
      rw [List.drop_eq_getElem_cons hi] at h2
      unfold forL at h2
      refine ⟨xs[i], ρ', st', κ', L2, r2, ?_⟩
      have only := o xs[i] ρ' st'
      cases q : t xs[i] ρ' st' with
      | nx ρ3 st3 =>
        rw [q] at h2
        intro κ3 H3 σ3 x3 s3
        refine ⟨ρ3, st3, κ3, ⟨x3.sr, s3⟩, ?_⟩
        have h3 := h2.xt x3
        have base := (x1.trans x2).trans x3
        dsimp only at h3
        cases q3 : b ρ3 st3 with
        | nx ρ4 st4 =>
          rw [q3] at h3
          exact fun κ4 H4 σ4 x4 s4 => ⟨xs.length - (i + 1), by omega, ρ4, st4, κ4, by omega, base.trans x4, ⟨x4.sr, s4⟩, h3.xt x4⟩
        | ct ρ4 st4 =>
          rw [q3] at h3
          exact fun κ4 H4 σ4 x4 s4 => ⟨xs.length - (i + 1), by omega, ρ4, st4, κ4, by omega, base.trans x4, ⟨x4.sr, s4⟩, h3.xt x4⟩
        | bk ρ4 st4 => rw [q3] at h3; exact h3
        | rt v st4 => rw [q3] at h3; exact h3
        | exc _ _ _ _ => rw [q3] at h3; exact h3
        | stuck _ => rw [q3] at h3; exact h3
      | rt _ _ => rw [q] at only; exact only.elim
      | bk _ _ => rw [q] at only; exact only.elim
      | ct _ _ => rw [q] at only; exact only.elim
      | exc _ _ _ _ => rw [q] at h2; exact h2
      | stuck _ => rw [q] at h2; exact h2
    · refine .inl ⟨w1.stop i st' κ' H' x1 (by omega), ?_⟩
      rw [List.drop_eq_nil_of_le (by omega)] at h'
      exact h' κ' H' σ' (Ext.refl L'.sr) L'.sl⟩
/-! ### while -/
def whileL (c : DenT) (b : DenS) : Nat → Sl → Store → RS
  | 0, _, _ => .stuck 64
  | n + 1, ρ, st => Res.thenS (c ρ st) ρ fun t st => if t then (match b ρ st with
    | .nx ρ st => whileL c b n ρ st
    | .ct ρ st => whileL c b n ρ st
    | .bk ρ st => .nx ρ st
    | r => r) else .nx ρ st
def whileN : Nat := 100000
def sWhile (c : DenT) (b : DenS) : DenS := whileL c b whileN
theorem sd_while {c : Expr} {body : List Stmt} {dc : DenT} {b : DenS} {pos : Pos} (hc : TD g l dc c) (hb : SsD g l b body) : SD g l (sWhile dc b) (.While c body [] pos) := fun X W J tk =>
  PS.imp (ps_while J.own (hc X W J tk) (hb X W J tk)) fun D σ H ⟨ρ, st, κ, L, h⟩ => by
    refine ⟨fun m σ' H' => ∃ ρ' st' κ', Lies g ρ' st' κ' σ' H' ∧ RunS g W (whileL dc b m ρ' st') st' κ' H' D, ⟨whileN, ρ, st, κ, L, h⟩, fun m σ' H' ⟨ρ', st', κ', L', h'⟩ => ?_⟩
    cases m with
    | zero => exact h'.elim
    | succ n =>
      unfold whileL at h'
      refine ⟨ρ', st', κ', L', (RunS.of (R := RB) L' h').mono fun t H1 ⟨t', st1, κ1, e1, r1, h1⟩ => ?_⟩
      have r1 : t' = t := r1
      subst r1
      cases t' with
      | false => exact h1 κ1 H1 σ' (Ext.refl e1.sr) (L'.xt e1).sl
      | true =>
        rw [if_pos rfl] at h1 ⊢
        refine ⟨fun σ2 H2 => ∃ ρ2 st2 κ2, Lies g ρ2 st2 κ2 σ2 H2 ∧ RunS g W (whileL dc b n ρ2 st2) st2 κ2 H2 D, fun σ2 H2 q => ⟨n, Nat.lt_succ_self _, q⟩, ρ', st1, κ1, L'.xt e1, ?_⟩
        cases q3 : b ρ' st1 with
        | nx ρ4 st4 =>
          rw [q3] at h1
          exact fun κ4 H4 σ4 x4 s4 => ⟨ρ4, st4, κ4, ⟨x4.sr, s4⟩, h1.xt x4⟩
        | ct ρ4 st4 =>
          rw [q3] at h1
          exact fun κ4 H4 σ4 x4 s4 => ⟨ρ4, st4, κ4, ⟨x4.sr, s4⟩, h1.xt x4⟩
        | bk ρ4 st4 => rw [q3] at h1; exact h1
        | rt v st4 => rw [q3] at h1; exact h1
        | exc _ _ _ _ => rw [q3] at h1; exact h1
        | stuck _ => rw [q3] at h1; exact h1
end
end Wi

/-! Wi9: list comprehensions. -/
namespace Wi
open PySem L2
section
variable {g : Gm} {l : Lc}
/-! ### targets of a comprehension: names -/
inductive Pt where
  | n (i : Nat) | t (is : List Nat)
def wipeP (ρ : Sl) : List Nat → Sl
  | [] => ρ
  | v :: vs => (wipeP ρ vs).set v none
def setPs : List Nat → List PV → Sl → Option Sl
  | [], [], ρ => some ρ
  | i :: is, v :: vs, ρ => setPs is vs (ρ.set i (some v))
  | _, _, _ => none
def bindPt (t : Pt) (v : PV) (ρ : Sl) : Option Sl := match t with
  | .n i => some (ρ.set i (some v))
  | .t is => match v with
    | .tup xs => setPs is xs ρ
    | _ => none
def gsP : List Nat → TGs
  | [] => gNil
  | i :: is => gCons (gName i) (gsP is)
def gP (K : PySem.W.Frag) : Pt → TG
  | .n i => gName i
  | .t is => gTup K is.length (gsP is)
def Pt.own : Pt → List Nat
  | .n i => [i]
  | .t is => is
/-- the target of a comprehension -/
def PtD (g : Gm) (l : Lc) (t : Pt) (tg : Expr) : Prop := ∀ X, Jx g l X → PG X tg (gP g.K t)
theorem SlR.setNone {K : PySem.W.Frag} {T : CT} {κ : List Addr} {F : Hp} : ∀ {ρ : Sl} {σ : L2.St} (i : Nat), SlR K T κ F ρ σ → SlR K T κ F (ρ.set i none) (σ.set i none)
  | [], _, _, h => by subst h; rfl
  | _ :: _, _, 0, ⟨x, r, q, h, t⟩ => by subst q; exact ⟨none, r, rfl, (fun w hw => nomatch hw), t⟩
  | _ :: _, _, i + 1, ⟨x, r, q, h, t⟩ => by subst q; exact ⟨x, _, rfl, h, SlR.setNone i t⟩
theorem SlR.wipe {K : PySem.W.Frag} {T : CT} {κ : List Addr} {F : Hp} {ρ : Sl} {σ : L2.St} (h : SlR K T κ F ρ σ) : ∀ vs : List Nat, SlR K T κ F (wipeP ρ vs) (L2.wipe σ vs)
  | [] => h
  | v :: vs => SlR.setNone v (SlR.wipe h vs)
theorem wipe_set {σ : L2.St} {i : Nat} {x : Option V} : ∀ {vs : List Nat}, i ∈ vs → L2.wipe (σ.set i x) vs = L2.wipe σ vs
  | [], h => by cases h
  | v :: vs, h => by
    unfold L2.wipe
    by_cases e : i ∈ vs
    · rw [wipe_set e]
    · have hv : i = v := (List.mem_cons.mp h).resolve_right e
      subst hv
      have key : ∀ ws : List Nat, i ∉ ws → L2.wipe (σ.set i x) ws = (L2.wipe σ ws).set i x := by
        intro ws
        induction ws with
        | nil => intro _; rfl
        | cons w ws ih =>
          intro hw
          unfold L2.wipe
          rw [ih fun z => hw (List.mem_cons_of_mem _ z), List.set_comm _ _ (fun z => hw (by rw [z]; exact List.mem_cons_self))]
      rw [key vs e, List.set_set]
/-- names take the items in turn -/
theorem setPs_ok {κ : List Addr} {st : Store} {H : Hp} {own : List Nat} : ∀ {is : List Nat} {xs : List PV} {vs : List V} {ρ ρ' : Sl} {σ : L2.St} {Q : L2.St → Hp → Prop}, setPs is xs ρ = some ρ' → RepVs g.K g.T (Fz st κ H) xs vs → SlR g.K g.T κ (Fz st κ H) ρ σ → (∀ i ∈ is, i ∈ own) →
    (∀ σ', SlR g.K g.T κ (Fz st κ H) ρ' σ' → L2.wipe σ' own = L2.wipe σ own → Q σ' H) → gsP is vs σ H Q
  | [], [], _, _, _, _, _, e, r, s, _, k => by cases e; cases r; exact ⟨rfl, k _ s rfl⟩
  | i :: is, v :: xs, _, ρ, ρ', σ, _, e, ⟨y, r', q, h, t⟩, s, ho, k => by
    subst q
    refine ⟨y, r', rfl, setPs_ok (ρ := ρ.set i (some v)) e t (s.set (RepX.ofV h) i) (fun j hj => ho j (List.mem_cons_of_mem _ hj)) fun σ' s' w => k σ' s' (w.trans (wipe_set (ho i List.mem_cons_self)))⟩
  | [], _ :: _, _, _, _, _, _, e, _, _, _, _ => by cases e
  | _ :: _, [], _, _, _, _, _, e, _, _, _, _ => by cases e
theorem setPs_len : ∀ {is : List Nat} {xs : List PV} {ρ ρ' : Sl}, setPs is xs ρ = some ρ' → xs.length = is.length
  | [], [], _, _, _ => rfl
  | i :: is, v :: xs, ρ, ρ', e => by
    have := setPs_len (is := is) (xs := xs) (ρ := ρ.set i (some v)) (ρ' := ρ') e
    simp [this]
  | [], _ :: _, _, _, e => by cases e
  | _ :: _, [], _, _, e => by cases e
theorem bindPt_ok {κ : List Addr} {st : Store} {H : Hp} {own : List Nat} {t : Pt} {pv : PV} {v : V} {ρ ρ' : Sl} {σ : L2.St} {Q : L2.St → Hp → Prop} (e : bindPt t pv ρ = some ρ') (r : RepX g.K g.T κ (Fz st κ H) pv v) (s : SlR g.K g.T κ (Fz st κ H) ρ σ) (ho : ∀ i ∈ t.own, i ∈ own)
    (k : ∀ σ', SlR g.K g.T κ (Fz st κ H) ρ' σ' → L2.wipe σ' own = L2.wipe σ own → Q σ' H) : gP g.K t v σ H Q := by
  cases t with
  | n i => cases e; exact k _ (s.set r i) (wipe_set (ho i List.mem_cons_self))
  | t is =>
    cases pv with
    | tup xs =>
      obtain ⟨a, vs, rfl, q1, q2⟩ := r
      exact ⟨a, vs, rfl, SqT.of_fz q1, by rw [← q2.length]; exact setPs_len e, setPs_ok e q2 s ho k⟩
    | non => cases e
    | bl _ => cases e
    | int _ => cases e
    | str _ => cases e
    | lst _ => cases e
    | ref _ => cases e
    | obj _ _ => cases e
/-! ### cells dropped -/
theorem live_take : ∀ {st : Store} {κ : List Addr} {k : Nat} {b : Addr}, b ∈ live (st.take k) (κ.take k) → b ∈ live st κ
  | [], _, _, _, h => by simp [live] at h
  | _ :: _, [], _, _, h => by simp [live] at h
  | _ :: _, _ :: _, 0, _, h => by simp [live] at h
  | c :: st, a :: κ, k + 1, b, h => by
    simp only [List.take_succ_cons] at h
    unfold live at h ⊢
    split at h
    · rename_i q
      rw [if_pos q]
      rcases List.mem_cons.mp h with h | h
      · exact h ▸ List.mem_cons_self
      · exact List.mem_cons_of_mem _ (live_take h)
    · rename_i q
      rw [if_neg q]
      exact live_take h
theorem CellsR.take {K : PySem.W.Frag} {T : CT} {F H : Hp} : ∀ {st : Store} {κ : List Addr} (k : Nat), CellsR K T F H st κ → CellsR K T F H (st.take k) (κ.take k)
  | [], _, _, h => by subst h; simp [CellsR]
  | _ :: _, _, 0, _ => by simp [CellsR]
  | _ :: _, _, k + 1, ⟨a, r, q, h, t⟩ => by subst q; exact ⟨a, r.take k, rfl, h, CellsR.take k t⟩
theorem pre_take {α : Type} {a b : List α} (p : a <+: b) {k : Nat} (h : a.length ≤ k) : a <+: b.take k := by
  obtain ⟨t, rfl⟩ := p
  exact ⟨t.take (k - a.length), by rw [List.take_append, List.take_of_length_le h]⟩
theorem Ext.take {st st' : Store} {κ κ' : List Addr} {H H' : Hp} {k : Nat} (x : Xt g st κ H st' κ' H') (hk : κ.length ≤ k) : Xt g st κ H (st'.take k) (κ'.take k) H' := by
  have sm : Same (Fz st' κ' H') (Fz (st'.take k) (κ'.take k) H') := fz_perm fun b hb => live_take hb
  exact ⟨⟨(x.sr.cells.mono sm fun _ _ => rfl).take k, x.sr.nd.sublist (List.take_sublist _ _), fun b hb => x.sr.there b (List.mem_of_mem_take hb), x.sr.tabs⟩, pre_take x.pre hk, x.same.trans sm⟩
/-- the cell at k, and all behind it, are dropped: the list is a new one -/
theorem NewL.of_cell {st st1 st' : Store} {κ κ1 κ' : List Addr} {H H1 H' : Hp} {D : Addr} {xs : List PV} (e1 : Xt g st κ H st1 κ1 H1) (x : Xt g st1 κ1 H1 st' κ' H') (hk : κ1.length = st1.length) (e : st'[st1.length]? = some (.lst xs)) (hD : κ'[st1.length]? = some D) (nD : D ∉ κ1) :
    ∃ vs, NewL g st κ H (st'.take st1.length) (κ'.take st1.length) H' D vs xs := by
  obtain ⟨a, q1, vs, q2, q3⟩ := cell_at x.sr.cells e
  rw [hD] at q1
  cases q1
  have hl : D ∈ live st' κ' := live_mem (c := .lst xs) e hD rfl
  have sm : Same (Fz st' κ' H') (fz (D :: live (st'.take st1.length) (κ'.take st1.length)) H') := fz_perm fun b hb => by
    rcases List.mem_cons.mp hb with z | z
    · rw [z]; exact hl
    · exact live_take z
  have t := Ext.take x (k := st1.length) (by omega)
  have eκ : κ'.take st1.length = κ1 := by
    obtain ⟨r, rfl⟩ := x.pre
    rw [← hk, List.take_left]
  refine ⟨vs, (x.sr.cells.mono sm fun _ _ => rfl).take _, t.sr.nd, t.sr.there, x.sr.tabs, ?_, ?_, q2, q3.mono sm, (e1.same.trans x.same).trans sm⟩
  · rw [eκ]; exact e1.pre
  · rw [eκ]; exact nD

/-! ### [e for t in i if c] -/
def noexc {α : Type} (r : Res α) : Res α := match r with
  | .exc _ _ _ => .stuck 70
  | r => r
def W0 : WX := fun _ _ _ _ => False
theorem Run.noexc {α β : Type} {R : List Addr → Hp → α → β → Prop} {W : WX} {r : Res α} {st : Store} {κ : List Addr} {σ : L2.St} {H : Hp} {Q : β → Hp → Prop} (h : Run g R W (noexc r) st κ σ H Q) : Run g R W0 r st κ σ H Q := by
  cases r with
  | ok v st' => exact h
  | exc c l st' => exact h.elim
  | stuck w => exact h
def compL (t : Pt) (c : DenT) (e : Den) (own : List Nat) (k : Nat) : List PV → Sl → Store → Res (List PV)
  | [], _, st => match st[k]? with
    | some (.lst acc) => .ok acc (st.take k)
    | _ => .stuck 71
  | x :: xs, ρ, st => match bindPt t x (wipeP ρ own) with
    | some ρ1 => (noexc (c ρ1 st)).bind fun b st => if b then (noexc (e ρ1 st)).bind fun y st => match st[k]? with
        | some (.lst acc) => if isTree y && Nat.blt acc.length 16777216 then compL t c e own k xs ρ (st.set k (.lst (acc ++ [y]))) else .stuck 72
        | _ => .stuck 73
      else compL t c e own k xs ρ st
    | none => .stuck 74
def lComp (i : DenI) (t : Pt) (c : DenT) (e : Den) (own : List Nat) : DenL := fun ρ st => (i ρ st).bind fun xs st => compL t c e own st.length xs ρ (st ++ [.lst []])
def tYesD : DenT := fun _ st => .ok true st
def TsD (g : Gm) (l : Lc) (d : DenT) (ifs : List Expr) : Prop := ∀ X W, Jx g l X → Takes X W → PTs X ifs (tT g W d)
theorem PTs.imp {X : Cx} {e : List Expr} {t u : TT} (h : PTs X e t) (i : ∀ σ H Q, u σ H Q → t σ H Q) : PTs X e u := ⟨fun pins s σ H R I hu => h.run pins s σ H R I (i σ H R hu)⟩
theorem tsd_nil : TsD g l tYesD [] := fun X W J tk => PTs.imp pts_nil fun σ H Q ⟨ρ, st, κ, L, h⟩ => Run.ret L.sr h rfl
theorem tsd_one {c : Expr} {d : DenT} (h : TD g l d c) : TsD g l d [c] := fun X W J tk => pts_one (h X W J tk)
theorem jx_blk {X : Cx} (J : Jx g l X) (s : Shared) (H : Hp) (scope : Scope) (C : Addr) (cl : List (Str × Addr)) (fp : List Addr) (hk : scope.kind = .function) : Jx g { l with sc := relS scope l.sc, fn := fun x => scope.names.lookup x == some .cell } (X.blk s H scope (compEnvC scope cl C X.env) fp) where
  p := J.p
  w := J.w
  k := J.k
  m := J.m
  b := J.b
  N := J.N
  sc := by
    show relabel scope X.env = relS scope l.sc
    rw [← J.sc]
    rfl
  nd := J.nd
  calm := J.calm
  room := J.room
  own := PassesOwn.never
  kind := hk
  fn := fun x hx => hx
theorem takes_blk {X : Cx} {s : Shared} {H : Hp} {scope : Scope} {env : Env} {fp : List Addr} : Takes (X.blk s H scope env fp) W0 := fun u s' ⟨a, B, sI, pins, σ, H, cls, d, e, I, nb, up, sky, na, os, ag, w⟩ => w.elim
theorem RunL.bindI {W : WX} {r : Res (List PV)} {f : List PV → Store → Res (List PV)} {st : Store} {κ : List Addr} {σ : L2.St} {H : Hp} {Q : VK} (h : RunL g W (r.bind f) st κ σ H Q) :
    RunI g W r st κ σ H fun J H1 => ∃ xs st1 κ1, Xt g st κ H st1 κ1 H1 ∧ Wk g J xs st1 κ1 H1 ∧ RunL g W (f xs st1) st κ σ H Q := by
  cases r with
  | ok v st' => exact fun κ' H' J e w => ⟨v, st', κ', e, w, h⟩
  | exc c l st' => exact h
  | stuck w => exact h
/-- .. from later on -/
theorem RunL.bind2 {α β : Type} {R : List Addr → Hp → α → β → Prop} {W : WX} {r : Res α} {f : α → Store → Res (List PV)} {st stb : Store} {κ κb : List Addr} {σ : L2.St} {H Hb : Hp} {Q : VK} (e : Xt g st κ H stb κb Hb) (h : RunL g W (r.bind f) st κ σ H Q) :
    Run g R W r stb κb σ Hb fun x H1 => ∃ v st1 κ1, Xt g stb κb Hb st1 κ1 H1 ∧ R κ1 (Fz st1 κ1 H1) v x ∧ RunL g W (f v st1) st κ σ H Q := by
  cases r with
  | ok v st' => exact fun κ' H' x e r => ⟨v, st', κ', e, r, h⟩
  | exc c l st' => exact fun κ' H' d e' r => h κ' H' d (e.trans e') r
  | stuck w => exact h
theorem wipe_none {σ : L2.St} : ∀ {vs : List Nat} {i : Nat}, i ∈ vs → (L2.wipe σ vs).set i none = L2.wipe σ vs
  | [], _, h => by cases h
  | v :: vs, i, h => by
    unfold L2.wipe
    by_cases e : i = v
    · subst e; rw [List.set_set]
    · rw [List.set_comm _ _ (Ne.symm e), wipe_none ((List.mem_cons.mp h).resolve_left e)]
theorem wipe_wipe {σ : L2.St} {vs : List Nat} : L2.wipe (L2.wipe σ vs) vs = L2.wipe σ vs := by
  have key : ∀ ws : List Nat, (∀ i ∈ ws, i ∈ vs) → L2.wipe (L2.wipe σ vs) ws = L2.wipe σ vs := by
    intro ws
    induction ws with
    | nil => intro _; rfl
    | cons w ws ih =>
      intro h
      show (L2.wipe (L2.wipe σ vs) ws).set w none = _
      rw [ih fun i hi => h i (List.mem_cons_of_mem _ hi), wipe_none (h w List.mem_cons_self)]
  exact key vs fun _ h => h
theorem lc_ok (tb : TbOk g) {own : List (Str × Nat)} {i : DenI} {t : Pt} {c : DenT} {e : Den} {W : WX} (ho : ∀ j ∈ t.own, j ∈ own.map (·.2)) : ∀ σ H Q, tL g W (lComp i t c e (own.map (·.2))) σ H Q → tLc (tI g W i) (gP g.K t) (tT g W0 c) (tD g W0 e) (own.map (·.2)) σ H Q :=
  fun σ H Q ⟨ρ, st, κ, L, h⟩ => ⟨ρ, st, κ, L, (RunL.bindI h).mono fun I H1 ⟨xs, st1, κ1, e1, w1, h1⟩ D hD => by
    have n0 := NewL.of_upd tb (vs := []) (xs := []) (Ext.refl e1.sr) hD rfl
    have x0 := n0.cell
    have nD : D ∉ κ1 := n0.na
    have hk1 : st1.length = κ1.length := e1.sr.cells.length
    have atD : ∀ {κ' : List Addr}, κ1 ++ [D] <+: κ' → κ'[st1.length]? = some D := fun {κ'} p => by
      obtain ⟨r, rfl⟩ := p
      rw [hk1, List.append_assoc, List.getElem?_append_right (Nat.le_refl _)]
      simp
    refine ⟨fun j m H' => ∃ st' κ', j + m = xs.length ∧ Xt g (st1 ++ [.lst []]) (κ1 ++ [D]) (upd H1 D (.lst [])) st' κ' H' ∧ RunL g W (compL t c e (own.map (·.2)) st1.length (xs.drop j) ρ st') st κ σ H Q,
      ⟨xs.length, st1 ++ [.lst []], κ1 ++ [D], by omega, Ext.refl x0.sr, by rw [List.drop_zero]; exact h1⟩, fun j m H' ⟨st', κ', hm, x1, h'⟩ => ?_⟩
    have xa : Xt g st1 κ1 H1 st' κ' H' := x0.trans x1
    by_cases hj : j < xs.length
    · refine .inr ⟨w1.go j st' κ' H' xa hj, fun H2 => ∃ m', m' < m ∧ ∃ st2 κ2, j + 1 + m' = xs.length ∧ Xt g (st1 ++ [.lst []]) (κ1 ++ [D]) (upd H1 D (.lst [])) st2 κ2 H2 ∧ RunL g W (compL t c e (own.map (·.2)) st1.length (xs.drop (j + 1)) ρ st2) st κ σ H Q, fun H2 q => q, fun x H2 hy => ?_⟩
      obtain ⟨x2, r2⟩ := w1.yld j st' κ' H' x H2 _ xa (List.getElem?_eq_getElem hj) hy
      have xb := xa.trans x2
      have L2 : Lies g ρ st' κ' σ H2 := (L.xt e1).xt xb
      rw [List.drop_eq_getElem_cons hj] at h'
      unfold compL at h'
      cases q : bindPt t xs[j] (wipeP ρ (own.map (·.2))) with
      | none => rw [q] at h'; exact h'.elim
      | some ρ1 =>
        rw [q] at h'
        dsimp only at h'
        refine bindPt_ok q r2 (SlR.wipe L2.sl _) ho fun σ2 s2 hw => ⟨hw.trans wipe_wipe, ?_⟩
        have rb := RunL.bind2 (R := RB) (e1.trans xb) h'
        refine ⟨ρ1, st', κ', ⟨L2.sr, s2⟩, (Run.noexc rb).mono fun b H3 ⟨b', st3, κ3, e3, r3, h3⟩ => ?_⟩
        have r3 : b' = b := r3
        subst r3
        have xc := xb.trans e3
        cases b' with
        | false => exact ⟨xs.length - (j + 1), by omega, st3, κ3, by omega, (x1.trans x2).trans e3, h3⟩
        | true =>
          rw [if_pos rfl] at h3 ⊢
          have re := RunL.bind2 (R := RX g) (e1.trans xc) h3
          refine ⟨ρ1, st3, κ3, (show Lies g ρ1 st' κ' σ2 H2 from ⟨L2.sr, s2⟩).xt e3, (Run.noexc re).mono fun y H4 ⟨y', st4, κ4, e4, r4, h4⟩ => ?_⟩
          cases q4 : st4[st1.length]? with
          | none => rw [q4] at h4; exact h4.elim
          | some cc =>
            rw [q4] at h4
            cases cc with
            | lst acc =>
              dsimp only at h4
              by_cases cnd : (isTree y' && Nat.blt acc.length 16777216) = true
              · rw [if_pos cnd] at h4
                rw [Bool.and_eq_true] at cnd
                obtain ⟨a, q5, vs, q6, q7⟩ := cell_at e4.sr.cells q4
                have xd := (x1.trans x2).trans (e3.trans e4)
                rw [atD xd.pre] at q5
                cases q5
                have xe := cell_upd tb e4.sr q4 (atD xd.pre) (q7.append (RepVs.one (r4.tree cnd.1)))
                refine ⟨vs, q6, ?_, xs.length - (j + 1), by omega, st4.set st1.length (.lst (acc ++ [y'])), κ4, by omega, xd.trans xe, h4⟩
                rw [← q7.length]
                exact Nat.lt_of_succ_le (Nat.le_of_ble_eq_true cnd.2)
              · rw [if_neg cnd] at h4
                exact h4.elim
            | frz _ => exact h4.elim
            | ins _ _ => exact h4.elim
    · refine .inl ⟨w1.stop j st' κ' H' xa (by omega), ?_⟩
      rw [List.drop_eq_nil_of_le (by omega)] at h'
      unfold compL at h'
      cases q : st'[st1.length]? with
      | none => rw [q] at h'; exact h'.elim
      | some cc =>
        rw [q] at h'
        cases cc with
        | lst acc =>
          obtain ⟨vs, n⟩ := NewL.of_cell e1 xa hk1.symm q (atD x1.pre) nD
          exact h' _ _ _ _ n
        | frz _ => exact h'.elim
        | ins _ _ => exact h'.elim⟩
theorem ld_comp (tb : TbOk g) {elt tg iter : Expr} {ifs : List Expr} {scope : Scope} {own : List (Str × Nat)} {pos : Pos} {i : DenI} {t : Pt} {c : DenT} {e : Den} (hi : ID g l i tg iter) (ok : blkC l.N l.sc scope own = true) (hk : scope.kind = .function)
    (hp : PtD g { l with sc := relS scope l.sc, fn := fun x => scope.names.lookup x == some .cell } t tg) (hc : TsD g { l with sc := relS scope l.sc, fn := fun x => scope.names.lookup x == some .cell } c ifs) (he : ED g { l with sc := relS scope l.sc, fn := fun x => scope.names.lookup x == some .cell } e elt)
    (ho : ∀ j ∈ t.own, j ∈ own.map (·.2)) (hs : ∀ env x, foldedSetIterable iter env x = pure x) : LD g l (lComp i t c e (own.map (·.2))) (.ListComp elt [⟨tg, iter, ifs, 0⟩] scope pos) := fun X W J tk =>
  PE.imp (pe_lc J.calm (by rw [J.N]; exact J.nd) (hi X W J tk) (by rw [J.N, J.sc]; exact blkOk_by ok) (fun s H C cl fp => hp _ (jx_blk J s H scope C cl fp hk)) (fun s H C cl fp => hc _ W0 (jx_blk J s H scope C cl fp hk) takes_blk)
    (fun s H C cl fp => he _ W0 (jx_blk J s H scope C cl fp hk) takes_blk) (hs _)) (lc_ok tb ho)
/-- what a fresh list becomes where it is stored -/
def tLK (g : Gm) (W : WX) (f : List PV → Store → Res PV) (d : DenL) : TE := tD g W fun ρ st => (d ρ st).bind f
/-- name = [..] on one line -/
theorem sd_setLc (tb : TbOk g) {n : Nat} {y : Str} {py spos : Pos} {elt tg iter : Expr} {ifs : List Expr} {scope : Scope} {own : List (Str × Nat)} {pos : Pos} {i : DenI} {t : Pt} {c : DenT} {e : Den} {d : Den} (hi : ID g l i tg iter) (ok : blkC l.N l.sc scope own = true) (hk : scope.kind = .function)
    (hp : PtD g { l with sc := relS scope l.sc, fn := fun x => scope.names.lookup x == some .cell } t tg) (hc : TsD g { l with sc := relS scope l.sc, fn := fun x => scope.names.lookup x == some .cell } c ifs) (he : ED g { l with sc := relS scope l.sc, fn := fun x => scope.names.lookup x == some .cell } e elt)
    (ho : ∀ j ∈ t.own, j ∈ own.map (·.2)) (hs : ∀ env x, foldedSetIterable iter env x = pure x) (hy : l.N[n]? = some y) (hyl : l.sc.names.lookup y = some .local) (hln : (py.line == pos.line) = true) (ha : (scope.names.any fun (n, k) => n == y && (k == .local || k == .cell)) = false)
    (hd : ∀ W σ H Q, tD g W d σ H Q → tL g W (lComp i t c e (own.map (·.2))) σ H Q) : SD g l (sSet n d) (.Assign [.Name y py] (.ListComp elt [⟨tg, iter, ifs, 0⟩] scope pos) spos) := fun X W J tk =>
  PS.imp (ps_setLc (i := n) J.calm (by rw [J.N]; exact J.nd) (by rw [J.N]; exact hy) (by rw [J.sc]; exact hyl) (sw_true (by rw [J.sc]; exact J.kind) (by rw [J.sc]; exact hyl) hln ha) (hi X W J tk) (by rw [J.N, J.sc]; exact blkOk_by ok) (fun s H C cl fp => hp _ (jx_blk J s H scope C cl fp hk)) (fun s H C cl fp => hc _ W0 (jx_blk J s H scope C cl fp hk) takes_blk)
    (fun s H C cl fp => he _ W0 (jx_blk J s H scope C cl fp hk) takes_blk) (hs _)) fun D σ H ⟨ρ, st, κ, L, h⟩ => lc_ok tb ho σ H _ (hd W σ H _ ⟨ρ, st, κ, L, (RunS.of L h).mono fun x H1 ⟨v, st1, κ1, e1, r1, h1⟩ => h1 κ1 H1 _ (Ext.refl e1.sr) ((L.xt e1).set r1).sl⟩)
theorem tL_frz {d : DenL} {W : WX} {σ : L2.St} {H : Hp} {Q : VK} (h : tD g W (dFrz d) σ H Q) : tL g W d σ H Q := by
  obtain ⟨ρ, st, κ, L, h⟩ := h
  refine ⟨ρ, st, κ, L, ?_⟩
  unfold dFrz at h
  cases q : d ρ st with
  | ok xs st' => rw [q] at h; exact fun κ' H' a vs n => h κ' H' (.ref a) n.xt n.frz
  | exc c l st' => rw [q] at h; exact h
  | stuck w => rw [q] at h; exact h
theorem tL_new {d : DenL} {W : WX} {σ : L2.St} {H : Hp} {Q : VK} (h : tD g W (dNew d) σ H Q) : tL g W d σ H Q := by
  obtain ⟨ρ, st, κ, L, h⟩ := h
  refine ⟨ρ, st, κ, L, ?_⟩
  unfold dNew at h
  cases q : d ρ st with
  | ok xs st' =>
    rw [q] at h
    refine fun κ' H' a vs n => h _ H' (.ref a) n.cell ⟨a, ?_, rfl⟩
    rw [n.cells.length, List.getElem?_append_right (Nat.le_refl _)]
    simp
  | exc c l st' => rw [q] at h; exact h
  | stuck w => rw [q] at h; exact h
end
end Wi

/-! Wi10: defs and their calls. -/
namespace Wi
open PySem L2
section
variable {g : Gm} {l : Lc}
abbrev FnS := List PV → Store → Res PV
/-- what a def hands back; its own cells are dropped -/
def retV (n : Nat) (v : PV) (st : Store) : Res PV := match v with
  | .ref k => if Nat.blt k n then .ok (.ref k) (st.take n) else match st[k]? with
    | some (.lst xs) => .ok (.ref n) (st.take n ++ [.lst xs])
    | _ => .stuck 80
  | v => .ok v (st.take n)
def startP (nN : Nat) (args : List PV) : Sl := args.map some ++ List.replicate (nN - args.length) none
def mkFn (nN : Nat) (b : DenS) : FnS := fun args st => match b (startP nN args) st with
  | .rt v st' => retV st.length v st'
  | .nx _ st' => .ok .non (st'.take st.length)
  | .exc c l _ st' => .exc c l (st'.take st.length)
  | .bk _ _ => .stuck 81
  | .ct _ _ => .stuck 82
  | .stuck w => .stuck w
/-- the promise: it does what the plain function does -/
def spM (g : Gm) (np : Nat) (f : FnS) : Sp := fun vs H Q E => vs.length = np ∧ ∃ args st κ, StR g.K g.T g.Tb st κ H ∧ RXs g κ (Fz st κ H) args vs ∧ Run g (RX g) (fun c d _ H' => E c d H') (f args st) st κ [] H Q
theorem slr_start {κ : List Addr} {F : Hp} : ∀ {args : List PV} {vs : List V} {m : Nat}, RXs g κ F args vs → SlR g.K g.T κ F (args.map some ++ List.replicate m none) (vs.map some ++ List.replicate m none)
  | [], _, m, h => by
    cases h
    show SlR g.K g.T κ F (List.replicate m none) (List.replicate m none)
    induction m with
    | zero => rfl
    | succ m ih => exact ⟨none, _, rfl, (fun w hw => nomatch hw), ih⟩
  | a :: args, _, m, ⟨y, r, q, h, t⟩ => by
    subst q
    exact ⟨some y, _, rfl, (fun w hw => by cases hw; exact ⟨y, rfl, h⟩), slr_start t⟩
theorem Run.slots {W : WX} {α β : Type} {R : List Addr → Hp → α → β → Prop} {r : Res α} {st : Store} {κ : List Addr} {σ : L2.St} {H : Hp} {Q : β → Hp → Prop} (h : Run g R W r st κ σ H Q) : Run g R (fun c d _ H' => W c d σ H') r st κ [] H Q := by
  cases r with
  | ok v st' => exact h
  | exc c l st' => exact h
  | stuck w => exact h
theorem get_pre {α : Type} {a b : List α} (p : a <+: b) {k : Nat} (h : k < a.length) : b[k]? = a[k]? := by
  obtain ⟨t, rfl⟩ := p
  rw [List.getElem?_append_left h]
/-- a cell of the callee's is handed back -/
theorem Ext.give {st st' : Store} {κ κ' : List Addr} {H H' : Hp} {k : Nat} {xs : List PV} (s0 : κ.length = st.length) (x : Xt g st κ H st' κ' H') (e : st'[k]? = some (.lst xs)) (hk : st.length ≤ k) :
    ∃ a, κ'[k]? = some a ∧ Xt g st κ H (st'.take st.length ++ [.lst xs]) (κ'.take st.length ++ [a]) H' := by
  obtain ⟨a, q1, vs, q2, q3⟩ := cell_at x.sr.cells e
  have t := Ext.take x (k := st.length) (by omega)
  have hl : live (st'.take st.length ++ [.lst xs]) (κ'.take st.length ++ [a]) = live (st'.take st.length) (κ'.take st.length) ++ [a] := by rw [live_app t.sr.cells.length]; rfl
  have sm : Same (Fz st' κ' H') (Fz (st'.take st.length ++ [.lst xs]) (κ'.take st.length ++ [a]) H') := fz_perm fun b hb => by
    rw [hl] at hb
    rcases List.mem_append.mp hb with hb | hb
    · exact live_take hb
    · rw [List.mem_singleton.mp hb]; exact live_mem (c := .lst xs) e q1 rfl
  have na : a ∉ κ'.take st.length := fun hm => by
    obtain ⟨j, hj, ej⟩ := List.getElem_of_mem hm
    have h1 : κ'[j]? = some a := by
      rw [List.length_take] at hj
      rw [List.getElem_take] at ej
      rw [List.getElem?_eq_getElem (by omega), ej]
    rw [List.length_take] at hj
    have h2 := (List.getElem?_eq_some_iff.mp q1).1
    have h3 : j = k := (List.getElem?_inj (by have := (List.getElem?_eq_some_iff.mp h1).1; omega) x.sr.nd).mp (by rw [h1, q1])
    omega
  refine ⟨a, q1, ⟨CellsR.app (c := .lst xs) ⟨vs, q2, q3.mono sm⟩ ((x.sr.cells.mono sm fun _ _ => rfl).take _), nodup_snoc t.sr.nd na, fun b hb => ?_, x.sr.tabs⟩, t.pre.trans (List.prefix_append _ _), x.same.trans sm⟩
  rcases List.mem_append.mp hb with hb | hb
  · exact t.sr.there b hb
  · rw [List.mem_singleton.mp hb, q2]; exact fun z => by cases z
theorem ok_fn {x qual : Str} {st : Stmt} {f : Addr} {fd : FuncData} {N ps : List Str} {k : Nat} {b : DenS} (F : Fun g.K x qual st f fd) (S : FnScope N ps (defScope st)) (hb : SsD g { N := N, sc := defScope st, n := k } b (defBody st)) :
    FnOk g.P g.w g.K g.mg g.base (L2.CX g.P g.w) (k + 1) f fd ps (spM g ps.length (mkFn N.length b)) := by
  refine F.okX S (fun vs H Q E h => h.1) fun cdv A outer s H vs Q E hr ⟨hl, args, st0, κ, sr, rx, hrun⟩ => ?_
  refine ⟨tS g (fun c d _ H' => E c d H') b, hb _ _ ⟨rfl, rfl, rfl, rfl, rfl, rfl, rfl, S.nd, rfl, hr, passes_of rfl, S.kind, fun _ _ => rfl⟩ (takes_of rfl rfl rfl rfl), ?_⟩
  have hpl : ps.length ≤ N.length := by have := congrArg List.length S.pre; rw [List.length_take] at this; omega
  refine ⟨startP N.length args, st0, κ, ⟨sr, ?_⟩, ?_⟩
  · unfold startP L2.start
    rw [rx.length]
    exact slr_start rx
  · unfold mkFn at hrun
    have s0 : κ.length = st0.length := sr.cells.length.symm
    cases e : b (startP N.length args) st0 with
    | rt v st' =>
      rw [e] at hrun
      intro κ' H' x xt rv
      have tk := Ext.take xt (k := st0.length) (by omega)
      have tree : ∀ u, RepV g.K g.T (Fz st' κ' H') u x → RepV g.K g.T (Fz (st'.take st0.length) (κ'.take st0.length) H') u x := fun u r => r.mono (fz_perm fun b hb => live_take hb)
      cases v with
      | ref k =>
        obtain ⟨a, h1, rfl⟩ := rv
        unfold retV at hrun
        dsimp only at hrun
        by_cases c : Nat.blt k st0.length = true
        · rw [if_pos c] at hrun
          have hk : k < st0.length := Nat.le_of_ble_eq_true c
          refine hrun _ _ _ tk ⟨a, ?_, rfl⟩
          rw [List.getElem?_take_of_lt hk]
          exact h1
        · rw [if_neg c] at hrun
          have hk : st0.length ≤ k := Nat.le_of_not_lt fun z => c (Nat.ble_eq_true_of_le z)
          cases q : st'[k]? with
          | none => rw [q] at hrun; exact hrun.elim
          | some cc =>
            rw [q] at hrun
            cases cc with
            | lst xs =>
              obtain ⟨a', h2, x2⟩ := Ext.give s0 xt q hk
              rw [h1] at h2
              cases h2
              refine hrun _ _ _ x2 ⟨a, ?_, rfl⟩
              have : st0.length = (κ'.take st0.length).length := by
                rw [List.length_take]
                have := (List.getElem?_eq_some_iff.mp h1).1
                omega
              rw [List.getElem?_append_right (by omega)]
              rw [← this]
              simp
            | frz _ => exact hrun.elim
            | ins _ _ => exact hrun.elim
      | non => exact hrun _ _ _ tk (RepX.ofV (tree _ rv))
      | bl _ => exact hrun _ _ _ tk (RepX.ofV (tree _ rv))
      | int _ => exact hrun _ _ _ tk (RepX.ofV (tree _ rv))
      | str _ => exact hrun _ _ _ tk (RepX.ofV (tree _ rv))
      | tup _ => exact hrun _ _ _ tk (RepX.ofV (tree _ rv))
      | lst _ => exact hrun _ _ _ tk (RepX.ofV (tree _ rv))
      | obj _ _ => exact hrun _ _ _ tk (RepX.ofV (tree _ rv))
    | nx ρ' st' =>
      rw [e] at hrun
      exact fun κ' H' σ' xt s' => hrun _ _ _ (Ext.take xt (k := st0.length) (by omega)) rfl
    | exc c l ρ' st' =>
      rw [e] at hrun
      refine fun κ' H' σ' d xt s' q => hrun _ _ d (Ext.take xt (k := st0.length) (by omega)) ?_
      unfold ExcR at q ⊢
      split at q
      · exact q
      · obtain ⟨dx, vs, h1, h2, h3⟩ := q
        exact ⟨dx, vs, h1, h2, h3.mono (fz_perm fun b hb => live_take hb)⟩
    | bk _ _ => rw [e] at hrun; exact hrun.elim
    | ct _ _ => rw [e] at hrun; exact hrun.elim
    | stuck _ => rw [e] at hrun; exact hrun.elim

/-! ### calls -/
/-- a def of the text is worth f -/
structure Df (g : Gm) (n : Nat) (x : Str) (np : Nat) (f : FnS) : Prop where
  ex : ∃ (a : Addr) (fd : FuncData) (ps : List Str), ps.length = np ∧ g.mg x = some (.ref a) ∧ PySem.W.keepIn g.K (.ref a) = true ∧ Binds g.K fd ps [] ∧ FnOk g.P g.w g.K g.mg g.base (L2.CX g.P g.w) n a fd ps (spM g np f)
def dCall (np : Nat) (f : FnS) (da : DenA) : Den := fun ρ st => (da ρ st).bind fun vs st => if vs.length == np then f vs st else .stuck 83
theorem ed_call {n np : Nat} {x : Str} {f : FnS} {da : DenA} {e : Expr} {es : List Expr} {p pos : Pos} (D : Df g n x np f) (hn : n ≤ l.n) (hg : l.sc.names.lookup x = some .globalImplicit) (ha : AD g l da (e :: es)) (hdb : (x == ("__debug__" : Str)) = false)
    (he : ∀ env, starEach (e :: es) env = (false, eval e env) :: starEach es env) (hpl : ∀ env, (backTo pos (starEach es env)).any (·.1) = false) : ED g l (dCall np f da) (.Call (.Name x p) (e :: es) [] pos) := fun X W J tk => by
  obtain ⟨a, fd, ps, hps, hm, hk, hb, F⟩ := D.ex
  have F' : FnOk X.prog X.w X.K X.mg X.base (L2.CX X.prog X.w) n a fd ps (spM g np f) := by rw [J.p, J.w, J.k, J.m, J.b]; exact F
  refine PE.imp (pe_callSD (E := WE W) F' (J.room.mono hn) (gl_of J hg) (by rw [J.m]; exact hm) (by rw [J.k]; exact hk) (by rw [J.k]; exact hb) .nil (fun σ => passAt tk σ) (ha X W J tk) hdb (he _) (hpl _)) fun σ H Q ⟨ρ, st, κ, L, h⟩ => ?_
  refine ⟨ρ, st, κ, L, (Run.bind h).mono fun xs H1 ⟨vs, st1, κ1, e1, r1, h1⟩ => ?_⟩
  by_cases c : (vs.length == np) = true
  · rw [if_pos c] at h1
    rw [List.append_nil]
    exact ⟨by rw [← r1.length]; exact eq_of_beq c, vs, st1, κ1, e1.sr, r1, h1.slots⟩
  · rw [if_neg c] at h1
    exact h1.elim
end
end Wi

/-! Wi11: methods of lists, in, isinstance. -/
namespace Wi
open PySem L2
section
variable {g : Gm} {l : Lc}
/-! ### in -/
def anyEq (d : PyData) (ds : List PyData) : Bool := ds.any fun z => PyData.eqv z d
def inX (v w : PV) (st : Store) : Option Bool := match toX v st, toX w st with
  | some d, some (.list ds) => if SeqAt.shaped d && SeqAt.shaped (.list ds) then some (anyEq d ds) else none
  | _, _ => none
def oIn (neg : Bool) : PV → PV → Store → Res PV := fun v w st => match inX v w st with
  | some b => .ok (.bl (if neg then !b else b)) st
  | none => .stuck 90
theorem inX_ok {v w : PV} {st : Store} {b : Bool} (e : inX v w st = some b) : ∃ d ds, toX v st = some d ∧ toX w st = some (.list ds) ∧ SeqAt.shaped d = true ∧ SeqAt.shaped (.list ds) = true ∧ (ds.any fun z => PyData.eqv z d) = b := by
  unfold inX at e
  cases q1 : toX v st with
  | none => simp only [q1] at e; cases e
  | some d =>
    cases q2 : toX w st with
    | none => simp only [q1, q2] at e; cases e
    | some f =>
      cases f with
      | list ds =>
        simp only [q1, q2] at e
        split at e
        · rename_i c
          rw [Bool.and_eq_true] at c
          cases e
          exact ⟨d, ds, rfl, rfl, c.1, c.2, rfl⟩
        · cases e
      | none => simp only [q1, q2] at e; cases e
      | bool _ => simp only [q1, q2] at e; cases e
      | int _ => simp only [q1, q2] at e; cases e
      | str _ => simp only [q1, q2] at e; cases e
      | tuple _ => simp only [q1, q2] at e; cases e
      | dict _ => simp only [q1, q2] at e; cases e
def rInB (K : PySem.W.Frag) (neg : Bool) : R2 := fun x y H Q => ∃ d ds, Dp K H x d ∧ Dp K H y (.list ds) ∧ SeqAt.shaped d = true ∧ SeqAt.shaped (.list ds) = true ∧ Q (.bl (if neg then !(ds.any fun z => PyData.eqv z d) else (ds.any fun z => PyData.eqv z d))) H
theorem op2_in (neg : Bool) : Op2 g (rInB g.K neg) (oIn neg) := fun v w st κ H x y W σ Q s r1 r2 h => by
  unfold oIn at h
  split at h
  · rename_i b e
    obtain ⟨d, ds, q1, q2, q3, q4, q5⟩ := inX_ok e
    exact ⟨d, ds, toX_dp s q1 r1, toX_dp s q2 r2, q3, q4, by rw [q5]; exact Run.ret s h rfl⟩
  · exact h.elim
theorem room65 {k : Nat} {A : Around} (r : Room k A) : A.units + 65 < cLine := by have := r.un; omega
theorem ho_in : ∀ X, Jx g l X → OpR X (compareOp .In) (rInB g.K false) := fun X J => J.k ▸ OpR.imp (op_inD (room65 J.room)) fun _ _ _ _ q => q
theorem ho_notin : ∀ X, Jx g l X → OpR X (compareOp .NotIn) (rInB g.K true) := fun X J => J.k ▸ OpR.imp (op_notInD (room65 J.room)) fun _ _ _ _ q => q

/-! ### methods of a list in a cell -/
/-- what a method does with the list at k -/
def dLm (f : List PV → List PV → Store → Nat → Res PV) (dO : Den) (da : DenA) : Den := fun ρ st => (dO ρ st).bind fun o st => match o with
  | .ref k => match st[k]? with
    | some (.lst _) => (da ρ st).bind fun vs st => match st[k]? with
      | some (.lst xs) => f xs vs st k
      | _ => .stuck 91
    | _ => .stuck 92
  | _ => .stuck 93
def mAppend : List PV → List PV → Store → Nat → Res PV := fun xs vs st k => match vs with
  | [v] => if isTree v && Nat.blt xs.length 16777216 then .ok .non (st.set k (.lst (xs ++ [v]))) else .stuck 94
  | _ => .stuck 95
theorem run_lm {f : List PV → List PV → Store → Nat → Res PV} {r : V → List V → Hp → VK → Prop} {dO : Den} {da : DenA} {W : WX} {σ : L2.St} {H : Hp} {Q : VK}
    (hf : ∀ xs vs st κ H k a ws ys W σ Q, StR g.K g.T g.Tb st κ H → st[k]? = some (.lst xs) → κ[k]? = some a → H a = some (.lst ws) → RepVs g.K g.T (Fz st κ H) xs ws → RXs g κ (Fz st κ H) vs ys → Run g (RX g) W (f xs vs st k) st κ σ H Q → r (.ref a) ys H Q)
    (h : tD g W (dLm f dO da) σ H Q) : tBM g.K "list" r (tD g W dO) (tA g W da) σ H Q := by
  obtain ⟨ρ, st, κ, L, h⟩ := h
  refine ⟨ρ, st, κ, L, (Run.bind h).mono fun x H1 ⟨o, st1, κ1, e1, r1, h1⟩ => ?_⟩
  cases o with
  | ref k =>
    dsimp only at h1
    obtain ⟨a, hk, rfl⟩ := r1
    cases q : st1[k]? with
    | none => rw [q] at h1; exact h1.elim
    | some c =>
      rw [q] at h1
      cases c with
      | lst xs0 =>
        dsimp only at h1
        obtain ⟨a', q1, ws0, q2, q3⟩ := cell_at e1.sr.cells q
        rw [hk] at q1
        cases q1
        refine ⟨.inl ⟨rfl, ws0, SqL.of q2⟩, ρ, st1, κ1, L.xt e1, (Run.bind (R := RXs g) h1).mono fun ys H2 ⟨vs, st2, κ2, e2, r2, h2⟩ => ?_⟩
        cases q' : st2[k]? with
        | none => rw [q'] at h2; exact h2.elim
        | some c2 =>
          rw [q'] at h2
          cases c2 with
          | lst xs =>
            obtain ⟨a', p1, ws, p2, p3⟩ := cell_at e2.sr.cells q'
            have : κ2[k]? = some a := by rw [get_pre e2.pre (List.getElem?_eq_some_iff.mp hk).1]; exact hk
            rw [this] at p1
            cases p1
            exact hf xs vs st2 κ2 H2 k a ws ys W σ Q e2.sr q' this p2 p3 r2 h2
          | frz _ => exact h2.elim
          | ins _ _ => exact h2.elim
      | frz _ => exact h1.elim
      | ins _ _ => exact h1.elim
  | non => exact h1.elim
  | bl _ => exact h1.elim
  | int _ => exact h1.elim
  | str _ => exact h1.elim
  | tup _ => exact h1.elim
  | lst _ => exact h1.elim
  | obj _ _ => exact h1.elim
/-- how a method of a built-in's is written -/
structure BmE (o : Expr) (name : Str) (es : List Expr) (cpos apos : Pos) : Prop where
  base : ∀ env, attributeBase o name env (eval o env) = eval o env
  few : ∀ env, ((backTo cpos (starEach es env)).all (fun x => !x.1) && (backToKw cpos (keywordEach [] env)).all (fun x => x.1.isSome) && decide (es.length + ([] : List Keyword).length + (if ([] : List Keyword).isEmpty then 0 else 1) < 30)) = true
  line : (apos.endLine == cpos.line) = true
theorem ed_append (tb : TbOk g) {o e : Expr} {apos cpos : Pos} {dO d : Den} (B : BmE o "append" [e] cpos apos) (ho : ED g l dO o) (he : ED g l d e) (hs : ∀ env, starEach [e] env = (false, eval e env) :: starEach [] env) : ED g l (dLm mAppend dO (aCons d aNil)) (.Call (.Attribute o "append" apos) [e] [] cpos) := fun X W J tk =>
  PE.imp (pe_bm PySem.F.plainAttrs_list PySem.F.slot_list_append PySem.F.type_list_append mt_append (ho X W J tk) (ad_cons he ad_nil hs X W J tk) (B.base _) (B.few _) B.line (hs _) rfl) fun σ H Q h => by
    rw [J.k]
    refine run_lm (fun xs vs st κ H k a ws ys W σ Q s e hk ha r rx q => ?_) h
    unfold mAppend at q
    split at q
    · rename_i v
      obtain ⟨y, rfl, r1⟩ := rxs1 rx
      by_cases c : (isTree v && Nat.blt xs.length 16777216) = true
      · rw [if_pos c] at q
        rw [Bool.and_eq_true] at c
        have x := cell_upd tb s e hk (r.append (RepVs.one (r1.tree c.1)))
        exact ⟨a, ws, y, rfl, rfl, ha, by rw [← r.length]; exact Nat.lt_of_succ_le (Nat.le_of_ble_eq_true c.2), q _ _ _ x rfl⟩
      · rw [if_neg c] at q
        exact q.elim
    · exact q.elim

/-! ### l.index(x) -/
def findD (d : PyData) : List PyData → Nat → Option Nat
  | [], _ => none
  | z :: zs, k => if PyData.eqv z d then some k else findD d zs (k + 1)
theorem findD_ok {d : PyData} : ∀ {ds : List PyData} {k j : Nat}, findD d ds k = some j → ∃ m, j = k + m ∧ ∃ z, ds[m]? = some z ∧ PyData.eqv z d = true ∧ ∀ (i : Nat) (z' : PyData), i < m → ds[i]? = some z' → PyData.eqv z' d = false
  | [], _, _, e => by cases e
  | z :: zs, k, j, e => by
    unfold findD at e
    by_cases c : PyData.eqv z d = true
    · rw [if_pos c] at e
      cases e
      exact ⟨0, rfl, z, rfl, c, fun i z' hi => by omega⟩
    · rw [if_neg c] at e
      obtain ⟨m, rfl, z1, h1, h2, h3⟩ := findD_ok e
      refine ⟨m + 1, by omega, z1, h1, h2, fun i z' hi hz => ?_⟩
      cases i with
      | zero => cases hz; simpa using c
      | succ i => exact h3 i z' (by omega) hz
/-- list.index of a list as it stands -/
def dIndex (dO d : Den) : Den := fun ρ st => (dO ρ st).bind fun o st => match toX o st with
  | some (.list _) => (d ρ st).bind fun v st => match toX o st, toX v st with
    | some (.list ds), some e => if SeqAt.shaped (.list ds) && SeqAt.shaped e then (match findD e ds 0 with
      | some j => .ok (.int (j : Nat)) st
      | none => .stuck 96) else .stuck 97
    | _, _ => .stuck 98
  | _ => .stuck 99
theorem dp_list {H : Hp} {x : V} {ds : List PyData} (h : Dp g.K H x (.list ds)) : ∃ a xs, x = .ref a ∧ SqL g.K H a xs := by
  cases h with
  | lst h1 h2 => exact ⟨_, _, rfl, h1⟩
theorem ed_index {o e : Expr} {apos cpos : Pos} {dO d : Den} (B : BmE o "index" [e] cpos apos) (ho : ED g l dO o) (he : ED g l d e) (hs : ∀ env, starEach [e] env = (false, eval e env) :: starEach [] env) : ED g l (dIndex dO d) (.Call (.Attribute o "index" apos) [e] [] cpos) := fun X W J tk =>
  PE.imp (pe_bm PySem.F.plainAttrs_list PySem.F.slot_list_index PySem.F.type_list_index (mt_indexD (room65 J.room)) (ho X W J tk) (pa_cons (he X W J tk) pa_nil (hs _)) (B.base _) (B.few _) B.line (hs _) rfl) fun σ H Q ⟨ρ, st, κ, L, h⟩ => ⟨ρ, st, κ, L, (Run.bind h).mono fun x H1 ⟨o', st1, κ1, e1, r1, h1⟩ => by
    rw [J.k]
    cases q : toX o' st1 with
    | none => rw [q] at h1; exact h1.elim
    | some dd =>
      rw [q] at h1
      cases dd with
      | list ds0 =>
        obtain ⟨a, xs, rfl, hq⟩ := dp_list (toX_dp e1.sr q r1)
        refine ⟨.inl ⟨rfl, xs, hq⟩, ρ, st1, κ1, L.xt e1, (Run.bind (R := RX g) h1).mono fun y H2 ⟨v, st2, κ2, e2, r2, h2⟩ => ?_⟩
        cases q1 : toX o' st2 with
        | none => rw [q1] at h2; exact h2.elim
        | some d1 =>
          cases d1 with
          | list ds =>
            cases q2 : toX v st2 with
            | none => rw [q1, q2] at h2; exact h2.elim
            | some d2 =>
              rw [q1, q2] at h2
              dsimp only at h2
              by_cases c : (SeqAt.shaped (.list ds) && SeqAt.shaped d2) = true
              · rw [if_pos c] at h2
                rw [Bool.and_eq_true] at c
                cases q3 : findD d2 ds 0 with
                | none => rw [q3] at h2; exact h2.elim
                | some j =>
                  rw [q3] at h2
                  obtain ⟨m, hm, z, h3, h4, h5⟩ := findD_ok q3
                  have : j = m := by omega
                  subst this
                  exact ⟨a, y, d2, ds, j, z, rfl, rfl, toX_dp e2.sr q1 (r1.mono e2.pre e2.same), toX_dp e2.sr q2 r2, c.1, c.2, h3, h4, h5, Run.ret e2.sr h2 rfl⟩
              · rw [if_neg c] at h2
                exact h2.elim
          | none => rw [q1] at h2; exact h2.elim
          | bool _ => rw [q1] at h2; exact h2.elim
          | int _ => rw [q1] at h2; exact h2.elim
          | str _ => rw [q1] at h2; exact h2.elim
          | tuple _ => rw [q1] at h2; exact h2.elim
          | dict _ => rw [q1] at h2; exact h2.elim
      | none => exact h1.elim
      | bool _ => exact h1.elim
      | int _ => exact h1.elim
      | str _ => exact h1.elim
      | tuple _ => exact h1.elim
      | dict _ => exact h1.elim⟩

/-! ### isinstance with a built-in type -/
def tyP (v : PV) (st : Store) : Option String := match v with
  | .non => some "NoneType"
  | .bl _ => some "bool"
  | .int _ => some "int"
  | .str _ => some "str"
  | .tup _ => some "tuple"
  | .lst _ => some "list"
  | .ref k => match st[k]? with
    | some (.lst _) => some "list"
    | some (.frz _) => some "list"
    | _ => none
  | .obj _ _ => none
theorem tyx_L {H : Hp} {a : Addr} {xs : List V} (h : SqL g.K H a xs) : TyX g.K H (.ref a) (.type "list") := by
  rcases h with (h | ⟨o, h⟩) | ⟨o, its, n, h1, h2, _⟩
  · exact .base (.lst h)
  · exact .base (.frz h)
  · exact .kList h1 h2
theorem tyx_T {H : Hp} {a : Addr} {xs : List V} (h : SqT g.K H a xs) : TyX g.K H (.ref a) (.type "tuple") := by
  rcases h with (h | ⟨o, h⟩) | ⟨o, its, n, h1, h2, _⟩
  · exact .base (.tup h)
  · exact .fTuple h
  · exact .kTuple h1 h2
theorem tyP_ok {v : PV} {st : Store} {κ : List Addr} {H : Hp} {x : V} {t : String} (s : StR g.K g.T g.Tb st κ H) (r : RepX g.K g.T κ (Fz st κ H) v x) (e : tyP v st = some t) : TyX g.K H x (.type t) := by
  cases v with
  | non => cases e; cases (show x = .non from r); exact .base .non
  | bl b => cases e; cases (show x = .bl b from r); exact .base (.bl b)
  | int b => cases e; cases (show x = .int b from r); exact .base (.int b)
  | str b => cases e; cases (show x = .str b from r); exact .base (.str b)
  | tup b => cases e; obtain ⟨a, vs, rfl, q, _⟩ := r; exact tyx_T (SqT.of_fz q)
  | lst b => cases e; obtain ⟨a, vs, rfl, q, _⟩ := r; exact tyx_L (SqL.of_fz q)
  | ref k =>
    unfold tyP at e
    dsimp only at e
    cases q : st[k]? with
    | none => rw [q] at e; cases e
    | some c =>
      rw [q] at e
      cases c with
      | lst xs =>
        cases e
        obtain ⟨a, vs, rfl, q1, q2⟩ := seq_rep s r (show seqOf (.ref k) st = some (true, xs) by unfold seqOf; simp only [q])
        exact tyx_L q1
      | frz xs =>
        cases e
        obtain ⟨a, vs, rfl, q1, q2⟩ := seq_rep s r (show seqOf (.ref k) st = some (true, xs) by unfold seqOf; simp only [q])
        exact tyx_L q1
      | ins _ _ => cases e
  | obj _ _ => cases e
def dIsi (T : String) (d : Den) : Den := fun ρ st => (d ρ st).bind fun v st => match tyP v st with
  | some t => match kitB t T with
    | some b => .ok (.bl b) st
    | none => .stuck 100
  | none => .stuck 101
theorem ed_isi {e : Expr} {d : Den} {T : String} {t : Str} {p p2 pos : Pos} (b : Blt g l "isinstance" (.builtin "isinstance")) (bt : Blt g l t (.type T)) (he : ED g l d e) (hn : t ≠ "__name__") (hdb : (t == ("__debug__" : Str)) = false)
    (hs : ∀ env, starEach [e, .Name t p2] env = (false, eval e env) :: starEach [.Name t p2] env) (hs2 : ∀ env, starEach [.Name t p2] env = (false, eval (.Name t p2) env) :: starEach [] env) (hpl : ∀ env, (backTo pos (starEach [.Name t p2] env)).any (·.1) = false) : ED g l (dIsi T d) (.Call (.Name "isinstance" p) [e, .Name t p2] [] pos) := fun X W J tk =>
  PE.imp (pe_callB call_isi (gl_of J b.gl) (by rw [J.m]; exact b.mg) b.bt (pa_cons (he X W J tk) (pa_cons (pe_bltn (v := .ty T) (gl_of J bt.gl) (by rw [J.m]; exact bt.mg) bt.bt rfl hn hdb) pa_nil (hs2 _)) (hs _)) (by decide) (by decide) (hs _) (hpl _)) fun σ H Q ⟨ρ, st, κ, L, h⟩ => ⟨ρ, st, κ, L, (Run.bind h).mono fun x H1 ⟨v, st1, κ1, e1, r1, h1⟩ => by
    cases q : tyP v st1 with
    | none => rw [q] at h1; exact h1.elim
    | some t' =>
      rw [q] at h1
      dsimp only at h1
      cases q2 : kitB t' T with
      | none => rw [q2] at h1; exact h1.elim
      | some bb =>
        rw [q2] at h1
        refine ⟨x, .ty T, .type t', .type T, bb, rfl, .ty T, ?_, kit_ty q2, Run.ret e1.sr h1 rfl⟩
        rw [J.k]
        exact tyP_ok e1.sr r1 q⟩
end
end Wi

/-! Wi12: lists joined, slices of either kind, pairs stored, short words. -/
namespace Wi
open PySem L2
/-! ### list + list -/
def rCatL (K : PySem.W.Frag) : R2 := fun x y H Q => ∃ l b xs zs, x = .ref l ∧ y = .ref b ∧ SqL K H l xs ∧ SqL K H b zs ∧ xs.length + zs.length ≤ sizeLine ∧ ∀ p, H p = none → Q (.ref p) (upd H p (.lst (xs ++ zs)))
section
variable {X : Cx}
theorem op_catL : OpR X (binaryOp .Add) (rCatL X.K) := by
  intro pins s σ H x y v u Q I rx ry h
  obtain ⟨l, b, xs, zs, rfl, rfl, hH, hB, hz, q⟩ := h
  cases rx
  cases ry
  obtain ⟨its, r, p1, hl⟩ := I.list hH
  obtain ⟨its2, r2, p2, hl2⟩ := I.list hB
  obtain ⟨⟨cls, dd, data, sl⟩, n, ho, hc, hdn, hd⟩ := p1
  obtain ⟨⟨cls2, dd2, data2, sl2⟩, n2, ho2, hc2, hdn2, hd2⟩ := p2
  simp only at hc hdn hd hc2 hdn2 hd2
  subst hc hdn hd hc2 hdn2 hd2
  refine concat_meets ⟨_, ho, rfl⟩ ⟨_, ho2, rfl⟩ noFill_list_add seq_list_add PySem.F.slot_list_add PySem.F.entry_list_add (PySem.F.args_list_add_2 _ _) (PyProof.Rows.list_addW l b its.toArray its2.toArray n n2 none none sl sl2 (by rw [List.size_toArray, List.size_toArray, ← r.length, ← r2.length]; exact hz)) ⟨ho, ho2, ?_⟩
  have ea : its.toArray ++ its2.toArray = (its ++ its2).toArray := by simp
  rw [ea]
  exact ⟨.ref _, _, I.lnew (t' := s.toks) (its := its ++ its2) (r.append r2) (by rw [List.length_append]; omega), rfl, q _ I.fresh⟩
end
section
variable {g : Gm} {l : Lc}
theorem ld_cat (tb : TbOk g) {da db : Den} {a b : Expr} {pos : Pos} (ha : ED g l da a) (hb : ED g l db b) : LD g l (lCat da db) (.BinOp a .Add b pos) := fun X W J tk =>
  PE.imp (pe_op (r := rCatL g.K) (J.k ▸ op_catL) (ha X W J tk) (hb X W J tk)) fun σ H Q ⟨ρ, st, κ, L, h⟩ => ⟨ρ, st, κ, L, (RunL.bind h).mono fun x H1 ⟨v, st1, κ1, e1, r1, h1⟩ =>
    ⟨ρ, st1, κ1, L.xt e1, (RunL.bind2 e1 h1).mono fun y H2 ⟨w, st2, κ2, e2, r2, h2⟩ => by
      split at h2
      · rename_i xs ys q1 q2
        split at h2
        · rename_i c
          obtain ⟨p, vs, rfl, q3, q4⟩ := seq_rep e2.sr (r1.mono e2.pre e2.same) q1
          obtain ⟨p', ws, rfl, q5, q6⟩ := seq_rep e2.sr r2 q2
          exact ⟨p, p', vs, ws, rfl, rfl, q3, q5, by rw [← q4.length, ← q6.length]; exact lineB_ok c, fun q hq => h2 _ _ q _ (NewL.of_upd tb (e1.trans e2) hq (q4.append q6))⟩
        · exact h2.elim
      · exact h2.elim⟩⟩
/-! ### a slice of a list or tuple -/
def dCut (d : Den) (lo hi : DenO) : Den := fun ρ st => (d ρ st).bind fun v st => (lo ρ st).bind fun a st => (hi ρ st).bind fun b st => match v with
  | .tup xs => .ok (.tup (cutP xs a b)) st
  | v => match seqOf v st with
    | some (true, xs) => .ok (.lst (cutP xs a b)) st
    | _ => .stuck 110
theorem sl_any {X : Cx} : L2.SlR X (fun x lo hi H Q => rSlA X.K x lo hi H Q ∨ rSlL X.K x lo hi H Q) := L2.SlR.or sl_tupA sl_list
theorem ed_cut (tb : TbOk g) {a : Expr} {lo hi : Option Expr} {da : Den} {dl dh : DenO} {p2 pos : Pos} (ha : ED g l da a) (hl : PD g l dl lo) (hh : PD g l dh hi) : ED g l (dCut da dl dh) (.Subscript a (.Slice lo hi none p2) pos) := fun X W J tk =>
  PE.imp (pe_slice (r := fun x lo hi H Q => rSlA g.K x lo hi H Q ∨ rSlL g.K x lo hi H Q) (J.k ▸ sl_any) (ha X W J tk) (hl X W J tk) (hh X W J tk)) fun σ H Q ⟨ρ, st, κ, L, h⟩ => ⟨ρ, st, κ, L, (Run.bind h).mono fun x H1 ⟨v, st1, κ1, e1, r1, h1⟩ =>
    ⟨ρ, st1, κ1, L.xt e1, (Run.bind h1).mono fun o H2 ⟨o', st2, κ2, e2, r2, h2⟩ => ⟨ρ, st2, κ2, (L.xt e1).xt e2, (Run.bind h2).mono fun o3 H3 ⟨o3', st3, κ3, e3, r3, h3⟩ => by
      have r2 : o' = o := r2
      have r3 : o3' = o3 := r3
      subst r2 r3
      have rx := (r1.mono e2.pre e2.same).mono e3.pre e3.same
      have lk : (∀ xs, v ≠ .tup xs) → Run g (RX g) W (match seqOf v st3 with | some (true, xs) => .ok (.lst (cutP xs o' o3')) st3 | _ => .stuck 110) st3 κ3 σ H3 Q → rSlL g.K x o' o3' H3 Q := fun _ q => by
        split at q
        · rename_i xs e
          obtain ⟨p, vs, rfl, q1, q2⟩ := seq_rep e3.sr rx e
          refine ⟨p, vs, rfl, q1, fun q' hq => ?_⟩
          have n := NewL.of_upd tb (Ext.refl e3.sr) hq (cut_rep q2 o' o3')
          exact q _ _ _ n.xt n.frz
        · exact q.elim
      cases v with
      | tup xs =>
        obtain ⟨p, vs, rfl, q1, q2⟩ := rx
        refine .inl ⟨p, vs, rfl, SqT.of_fz q1, fun hw => ?_, fun hw q hq => ?_⟩
        · have hx : cutP xs o' o3' = xs := by unfold cutP; rw [← q2.length] at hw; exact cut_whole hw
          dsimp only at h3
          rw [hx] at h3
          exact Run.ret e3.sr h3 ⟨p, vs, rfl, q1, q2⟩
        · exact h3 _ _ _ (StR.upd_new tb e3.sr hq) (rep_tup_new tb e3.sr hq (cut_rep q2 _ _))
      | non => exact .inr (lk (fun _ z => nomatch z) h3)
      | bl _ => exact .inr (lk (fun _ z => nomatch z) h3)
      | int _ => exact .inr (lk (fun _ z => nomatch z) h3)
      | str _ => exact .inr (lk (fun _ z => nomatch z) h3)
      | lst _ => exact .inr (lk (fun _ z => nomatch z) h3)
      | ref _ => exact .inr (lk (fun _ z => nomatch z) h3)
      | obj _ _ => exact .inr (lk (fun _ z => nomatch z) h3)⟩⟩⟩
/-! ### a, b = x, y -/
theorem sd_par2 {i j : Nat} {x y : Str} {a b : Expr} {da : DenA} {px py pt pos : Pos} {kt k2 : Nat} {pt2 : Pos} (hi : l.N[i]? = some x) (hj : l.N[j]? = some y) (hij : i ≠ j) (hx : l.sc.names.lookup x = some .local) (hy : l.sc.names.lookup y = some .local) (ha : AD g l da [a, b])
    (hw : ∀ env, env.scope = l.sc → swappedStores [.Tuple [.Name x px, .Name y py] kt pt] (.Tuple [a, b] k2 pt2) env = pure (some [x, y])) (hs : ∀ env, swapsWithSole [.Tuple [.Name x px, .Name y py] kt pt] (.Tuple [a, b] k2 pt2) pos.line env = pure false) :
    SD g l (sPar i j da) (.Assign [.Tuple [.Name x px, .Name y py] kt pt] (.Tuple [a, b] k2 pt2) pos) := sd_par hi hj hij hx hy ha fun X W J tk =>
  ps_par J.calm (by rw [J.N]; exact J.nd) (by rw [J.N]; exact hi) (by rw [J.N]; exact hj) hij (by rw [J.sc]; exact hx) (by rw [J.sc]; exact hy) (ha X W J tk) (hw _ J.sc) (hs _)
def sPar3 (i j m : Nat) (da : DenA) : DenS := fun ρ st => Res.thenS (da ρ st) ρ fun vs st => match vs with
  | [v, w, u] => .nx (((ρ.set i (some v)).set j (some w)).set m (some u)) st
  | _ => .stuck 54
theorem rxs3 {κ : List Addr} {F : Hp} {v w u : PV} {xs : List V} (h : RXs g κ F [v, w, u] xs) : ∃ x y z, xs = [x, y, z] ∧ RepX g.K g.T κ F v x ∧ RepX g.K g.T κ F w y ∧ RepX g.K g.T κ F u z := by
  obtain ⟨x, r, q, h1, y, r', q', h2, z, r'', q'', h3, h4⟩ := h
  cases h4
  subst q'' q'
  exact ⟨x, y, z, q, h1, h2, h3⟩
theorem sd_par3 {i j m : Nat} {x y z : Str} {a b c : Expr} {da : DenA} {px py pz pt pos : Pos} {kt k2 : Nat} {pt2 : Pos} (hi : l.N[i]? = some x) (hj : l.N[j]? = some y) (hm : l.N[m]? = some z) (hij : i ≠ j) (him : i ≠ m) (hjm : j ≠ m) (hx : l.sc.names.lookup x = some .local) (hy : l.sc.names.lookup y = some .local) (hz : l.sc.names.lookup z = some .local) (ha : AD g l da [a, b, c])
    (hw : ∀ env, env.scope = l.sc → swappedStores [.Tuple [.Name x px, .Name y py, .Name z pz] kt pt] (.Tuple [a, b, c] k2 pt2) env = pure (some [x, y, z])) (hs : ∀ env, swapsWithSole [.Tuple [.Name x px, .Name y py, .Name z pz] kt pt] (.Tuple [a, b, c] k2 pt2) pos.line env = pure false) :
    SD g l (sPar3 i j m da) (.Assign [.Tuple [.Name x px, .Name y py, .Name z pz] kt pt] (.Tuple [a, b, c] k2 pt2) pos) := fun X W J tk =>
  PS.imp (ps_par3 J.calm (by rw [J.N]; exact J.nd) (by rw [J.N]; exact hi) (by rw [J.N]; exact hj) (by rw [J.N]; exact hm) hij him hjm (by rw [J.sc]; exact hx) (by rw [J.sc]; exact hy) (by rw [J.sc]; exact hz) (ha X W J tk) (hw _ J.sc) (hs _)) fun D σ H ⟨ρ, st, κ, L, h⟩ => ⟨ρ, st, κ, L, (RunS.of (R := RXs g) L h).mono fun xs H1 ⟨vs, st1, κ1, e1, r1, h1⟩ => by
    split at h1
    · rename_i v w u
      obtain ⟨x, y, z, rfl, q1, q2, q3⟩ := rxs3 r1
      exact ⟨x, y, z, rfl, h1 κ1 H1 _ (Ext.refl e1.sr) ((((L.xt e1).set (i := i) q1).set (i := j) q2).set (i := m) q3).sl⟩
    · exact h1.elim⟩

/-! ### short words -/
def eqS (o : Option Str) (x : Str) : Bool := match o with
  | some y => y == x
  | none => false
theorem eqS_ok {o : Option Str} {x : Str} (h : eqS o x = true) : o = some x := by
  unfold eqS at h
  split at h
  · rw [eq_of_beq h]
  · cases h
def varB (l : Lc) (i : Nat) (x : Str) : Bool := eqS (l.N[i]?) x && visB l.sc x && !(x == ("__debug__" : Str)) && !(x == ("__classdict__" : Str))
theorem ev (i : Nat) {x : Str} {pos : Pos} (h : varB l i x = true) : ED g l (dVar i) (.Name x pos) := by
  unfold varB at h
  simp only [Bool.and_eq_true, Bool.not_eq_true'] at h
  exact ed_var (eqS_ok h.1.1.1) h.1.1.2 h.1.2 h.2
def tgB (l : Lc) (i : Nat) (x : Str) : Bool := eqS (l.N[i]?) x && locB l x
theorem gv (i : Nat) {x : Str} {pos : Pos} (h : tgB l i x = true) : GD g l (gN i) (.Name x pos) := by
  unfold tgB at h
  rw [Bool.and_eq_true] at h
  exact gd_name (eqS_ok h.1) h.2
def glB (l : Lc) (x : Str) : Bool := match l.sc.names.lookup x with
  | some .globalImplicit => !(x == ("__debug__" : Str)) && !(x == ("__name__" : Str))
  | _ => false
theorem glB_ok {x : Str} (h : glB l x = true) : l.sc.names.lookup x = some .globalImplicit ∧ (x == ("__debug__" : Str)) = false ∧ x ≠ "__name__" := by
  unfold glB at h
  split at h
  · rename_i e
    simp only [Bool.and_eq_true, Bool.not_eq_true'] at h
    refine ⟨e, h.1, fun z => ?_⟩
    subst z
    simp at h
  · cases h
/-- the built-in names that the text leaves alone -/
structure Bl (g : Gm) : Prop where
  tb : TbOk g
  n : ∀ x : Str, (["len", "range", "int", "abs", "tuple", "list", "isinstance", "bool", "str", "any", "all", "zip", "enumerate", "sorted", "divmod", "min", "max", "sum", "reversed"] : List Str).contains x = true → g.mg x = none
theorem Bl.b (B : Bl g) {x : Str} {v : Value} (h : glB l x = true) (h2 : (["len", "range", "int", "abs", "tuple", "list", "isinstance", "bool", "str", "any", "all", "zip", "enumerate", "sorted", "divmod", "min", "max", "sum", "reversed"] : List Str).contains x = true) (h3 : bootBuiltins x = some v) : Blt g l x v := ⟨(glB_ok h).1, B.n x h2, h3⟩
theorem boot_range' : bootBuiltins "range" = some (.type "range") := by decide +kernel
theorem boot_abs' : bootBuiltins "abs" = some (.builtin "abs") := by decide +kernel
theorem boot_isinstance' : bootBuiltins "isinstance" = some (.builtin "isinstance") := by decide +kernel
theorem boot_str' : bootBuiltins "str" = some (.type "str") := by decide +kernel
theorem c_len {e : Expr} {d : Den} {p pos : Pos} (B : Bl g) (h : glB l "len" = true) (he : ED g l d e) (hs : ∀ env, starEach [e] env = (false, eval e env) :: starEach [] env) : ED g l (dFn cLen (aCons d aNil)) (.Call (.Name "len" p) [e] [] pos) :=
  ed_callB hc_len fn_len (B.b h (by decide +kernel) PySem.boot_len) (ad_cons he ad_nil hs) (by decide) (by decide) hs (fun _ => rfl)
theorem c_abs {e : Expr} {d : Den} {p pos : Pos} (B : Bl g) (h : glB l "abs" = true) (he : ED g l d e) (hs : ∀ env, starEach [e] env = (false, eval e env) :: starEach [] env) : ED g l (dFn cAbs (aCons d aNil)) (.Call (.Name "abs" p) [e] [] pos) :=
  ed_callB (fun _ _ => call_abs) fn_abs (B.b h (by decide +kernel) boot_abs') (ad_cons he ad_nil hs) (by decide) (by decide) hs (fun _ => rfl)
theorem c_int {e : Expr} {d : Den} {p pos : Pos} (B : Bl g) (h : glB l "int" = true) (he : ED g l d e) (hs : ∀ env, starEach [e] env = (false, eval e env) :: starEach [] env) : ED g l (dFn cInt (aCons d aNil)) (.Call (.Name "int" p) [e] [] pos) :=
  ed_callTy (fun _ _ => call_int1) fn_int (B.b h (by decide +kernel) (by decide +kernel)) (ad_cons he ad_nil hs) (by decide) (by decide) hs (fun _ => rfl)
theorem c_tup {e : Expr} {d : Den} {p pos : Pos} (B : Bl g) (h : glB l "tuple" = true) (he : ED g l d e) (hs : ∀ env, starEach [e] env = (false, eval e env) :: starEach [] env) : ED g l (dFn cTup (aCons d aNil)) (.Call (.Name "tuple" p) [e] [] pos) :=
  ed_callTy hc_tup (fn_tup B.tb) (B.b h (by decide +kernel) (by decide +kernel)) (ad_cons he ad_nil hs) (by decide) (by decide) hs (fun _ => rfl)
theorem c_list {e : Expr} {d : Den} {p pos : Pos} (B : Bl g) (h : glB l "list" = true) (he : ED g l d e) (hs : ∀ env, starEach [e] env = (false, eval e env) :: starEach [] env) : LD g l (lList d) (.Call (.Name "list" p) [e] [] pos) :=
  ld_list B.tb (B.b h (by decide +kernel) (by decide +kernel)) he (by decide) (by decide) hs
theorem i_rng {tg a : Expr} {d : Den} {p pos : Pos} (B : Bl g) (h : glB l "range" = true) (ha : ED g l d a) (hs : ∀ env, starEach [a] env = [(false, eval a env)]) : ID g l (iRng d) tg (.Call (.Name "range" p) [a] [] pos) :=
  id_range1 (B.b h (by decide +kernel) boot_range') ha hs
theorem i_rng2 {tg a b : Expr} {da db : Den} {p pos : Pos} (B : Bl g) (h : glB l "range" = true) (ha : ED g l da a) (hb : ED g l db b) (hs : ∀ env, starEach [a, b] env = [(false, eval a env), (false, eval b env)]) (hs2 : ∀ env, starEach [b] env = [(false, eval b env)]) : ID g l (Wi.iRng2 (aCons da (aCons db aNil))) tg (.Call (.Name "range" p) [a, b] [] pos) :=
  id_range2 (B.b h (by decide +kernel) boot_range') (ad_cons ha (ad_cons hb ad_nil hs2) fun env => by rw [hs env, hs2 env]) hs hs2
theorem c_isi {e : Expr} {d : Den} {T : String} {t : Str} {p p2 pos : Pos} (B : Bl g) (h : glB l "isinstance" = true) (ht : glB l t = true) (hc : (["len", "range", "int", "abs", "tuple", "list", "isinstance", "bool", "str", "any", "all", "zip", "enumerate", "sorted", "divmod", "min", "max", "sum", "reversed"] : List Str).contains t = true) (hv : bootBuiltins t = some (.type T)) (he : ED g l d e)
    (hs : ∀ env, starEach [e, .Name t p2] env = (false, eval e env) :: starEach [.Name t p2] env) : ED g l (dIsi T d) (.Call (.Name "isinstance" p) [e, .Name t p2] [] pos) :=
  ed_isi (B.b h (by decide +kernel) boot_isinstance') (B.b ht hc hv) he (glB_ok ht).2.2 (glB_ok ht).2.1 hs (fun _ => rfl) (fun _ => rfl)
theorem c_call {n np : Nat} {x : Str} {f : FnS} {da : DenA} {e : Expr} {es : List Expr} {p pos : Pos} (D : Df g n x np f) (hn : Nat.ble n l.n = true) (h : glB l x = true) (ha : AD g l da (e :: es)) (he : ∀ env, starEach (e :: es) env = (false, eval e env) :: starEach es env) (hpl : ∀ env, (backTo pos (starEach es env)).any (·.1) = false) : ED g l (dCall np f da) (.Call (.Name x p) (e :: es) [] pos) :=
  ed_call D (Nat.le_of_ble_eq_true hn) (glB_ok h).1 ha (glB_ok h).2.1 he hpl
theorem pt_n {i : Nat} {x : Str} {pos : Pos} (h : tgB l i x = true) : PtD g l (.n i) (.Name x pos) := fun X J => by
  unfold tgB at h
  rw [Bool.and_eq_true] at h
  exact pg_name (i := i) (by rw [J.N]; exact J.nd) (by rw [J.N]; exact eqS_ok h.1) (by rw [J.sc]; exact loc_of h.2) (fn_of' J h.2)
/-- the names of a tuple target -/
def PtsD (g : Gm) (l : Lc) (is : List Nat) (ts : List Expr) : Prop := ∀ X, Jx g l X → PGs X ts (gsP is)
theorem pts_nil' : PtsD g l [] [] := fun X J => pgs_nil
theorem pts_cons' {i : Nat} {is : List Nat} {x : Str} {pos : Pos} {ts : List Expr} (h : tgB l i x = true) (ht : PtsD g l is ts) (hs : ∀ env, (assignEach (.Name x pos :: ts) env).map (·.2) = assign (.Name x pos) env :: (assignEach ts env).map (·.2)) : PtsD g l (i :: is) (.Name x pos :: ts) := fun X J =>
  pgs_cons (show PG X (.Name x pos) (gName i) from pt_n h X J) (ht X J) (hs _)
theorem pt_t {is : List Nat} {ts : List Expr} {k : Nat} {pos : Pos} (h : PtsD g l is ts) (hn : ∀ env, (assignEach ts env).length = is.length) (hst : ∀ env, (assignEach ts env).findIdx? (·.1) = none) : PtD g l (.t is) (.Tuple ts k pos) := fun X J => by
  have := pg_tup (X := X) (k := k) (pos := pos) J.calm (h X J) (hn _) (hst _)
  rw [J.k] at this
  exact this
def setB (l : Lc) (i : Nat) (x : Str) : Bool := tgB l i x
theorem s_set (i : Nat) {x : Str} {e : Expr} {d : Den} {pos pos' : Pos} (h : tgB l i x = true) (he : ED g l d e) (hs : ∀ env, env.scope = l.sc → swapsWith e (some (.Name x pos')) pos.line env = pure false) : SD g l (sSet i d) (.Assign [.Name x pos'] e pos) := by
  unfold tgB at h
  rw [Bool.and_eq_true] at h
  exact sd_set (eqS_ok h.1) h.2 he hs
end
end Wi

/-! Wi13: from the text's top to the law. -/
namespace Wi
open PySem L2
/-- a def of the text stands in the written part -/
def Dd (K : PySem.W.Frag) (x : Str) (st : Stmt) : Prop :=
  ∃ (f : Addr) (oc : Value) (od : Option Addr) (kV doc pm : Value) (an : Option Addr) (cd ct : Value) (sl : Array (Option Value)), PySem.W.nsIn K mainGlobals x = some (some (.ref f)) ∧
    K.lookup f = some ⟨oc, od, .func (PySem.W.fnOf x x (defArgs st) (defBody st) (defScope st) .none kV doc pm an cd ct), sl⟩ ∧ PySem.W.codeIn K cd x = true ∧ PySem.W.keepIn K (.ref f) = true
theorem dd_mk {K : PySem.W.Frag} {x : Str} {st : Stmt} {f : Addr} {oc : Value} {od : Option Addr} {kV doc pm : Value} {an : Option Addr} {cd ct : Value} {sl : Array (Option Value)} (h1 : PySem.W.nsIn K mainGlobals x = some (some (.ref f)))
    (h2 : K.lookup f = some ⟨oc, od, .func (PySem.W.fnOf x x (defArgs st) (defBody st) (defScope st) .none kV doc pm an cd ct), sl⟩) (h3 : PySem.W.codeIn K cd x = true) (h4 : PySem.W.keepIn K (.ref f) = true) : Dd K x st := ⟨f, oc, od, kV, doc, pm, an, cd, ct, sl, h1, h2, h3, h4⟩
/-- all parameters are given by place -/
def BindA (x : Str) (st : Stmt) (ps : List Str) : Prop := ∀ (kV doc pm : Value) (an : Option Addr) (cdv ct : Value) (us : List Value), us.length = ps.length → bindArgs (PySem.W.fnOf x x (defArgs st) (defBody st) (defScope st) .none kV doc pm an cdv ct) ⟨us, []⟩ = pure (ps.zip us)
theorem df_of {g : Gm} {h : Heap} (KX : g.K.In h) (G : h.Ns mainGlobals g.mg) {x : Str} {st : Stmt} {N ps : List Str} {k : Nat} {b : DenS} (D : Dd g.K x st) (S : FnScope N ps (defScope st)) (bi : BindA x st ps) (sd : SsD g { N := N, sc := defScope st, n := k } b (defBody st)) :
    Df g (k + 1) x ps.length (mkFn N.length b) := by
  obtain ⟨f, oc, od, kV, doc, pm, an, cd, ct, sl, h1, h2, h3, h4⟩ := D
  have F := fun_mk (st := st) h2 h3 h4
  exact ⟨f, _, ps, rfl, PySem.W.mg_of KX G h1, h4, F.binds bi, ok_fn F S sd⟩
def spLaw (K : PySem.W.Frag) : Sp := fun vs H Q _ => ∃ (a : Addr) (ns : List Int), vs = [.ref a] ∧ SqL K H a (ns.map V.int) ∧ ns.length ≤ 63 ∧ ∀ H', Q (.bl true) H'
theorem SqL.to_fz {K : PySem.W.Frag} {H : Hp} {a : Addr} {vs : List V} (h : SqL K H a vs) : SqL K (fz [] H) a vs := by
  rcases h with h | h
  · rcases h with h | ⟨o, h⟩
    · exact .inl (.inl (fz_at (fun z => by cases z) h fun ps z => by cases z))
    · exact .inl (.inr ⟨o, fz_at (fun z => by cases z) h fun ps z => by cases z⟩)
  · exact .inr h
theorem rep_ints {K : PySem.W.Frag} {T : CT} {F : Hp} : ∀ ns : List Int, RepVs K T F (ns.map PV.int) (ns.map V.int)
  | [] => rfl
  | n :: ns => ⟨_, _, rfl, rfl, rep_ints ns⟩
/-- what the law's own def gives, by the plain evaluator -/
theorem law_end {P : Program} {w : World} {K : PySem.W.Frag} {mg : Str → Option Value} {h : Heap} {fa : Addr} {T : CT} {Tb : Hp → Prop} {st : Stmt} {N : List Str} {k : Nat} {b : DenS} (KX : K.In h) (G : h.Ns mainGlobals mg) (hm : mg "law" = some (.ref fa)) (D : Dd K "law" st)
    (S : FnScope N ["script"] (defScope st)) (bi : BindA "law" st ["script"]) (sd : ∀ base : Heap, K.In base → base.Ns mainGlobals mg → SsD ⟨P, w, K, mg, base, T, Tb⟩ { N := N, sc := defScope st, n := k } b (defBody st)) (hT : ∀ H, Tb H)
    (hf : ∀ ns : List Int, ns.length ≤ 63 → ∃ s', mkFn N.length b [.lst (ns.map PV.int)] [] = .ok (.bl true) s') :
    ∃ fd : FuncData, (∀ (s : Shared) (u : Value), BindsTo s fd ⟨[u], []⟩ [("script", u)]) ∧ ∀ base : Heap, K.In base → base.Ns mainGlobals mg → FnOk P w K mg base (L2.CX P w) (k + 1) fa fd ["script"] (spLaw K) := by
  obtain ⟨f, oc, od, kV, doc, pm, an, cd, ct, sl, h1, h2, h3, h4⟩ := D
  have F := fun_mk (st := st) h2 h3 h4
  have e := PySem.W.mg_of KX G h1
  rw [hm] at e
  cases e
  refine ⟨_, fun s u => .of_eq (bi kV doc pm an cd ct [u] rfl), fun base kb nb => (ok_fn (g := ⟨P, w, K, mg, base, T, Tb⟩) F S (sd base kb nb)).imp fun vs H Q E ⟨a, ns, e, hS, hl, k⟩ => ?_⟩
  subst e
  obtain ⟨st, e⟩ := hf ns hl
  refine ⟨rfl, [.lst (ns.map PV.int)], [], [], ⟨rfl, List.nodup_nil, (fun _ z => by cases z), hT H⟩, ⟨.ref a, [], rfl, ⟨a, _, rfl, SqL.to_fz hS, rep_ints ns⟩, rfl⟩, ?_⟩
  rw [e]
  intro κ' H' x xt r
  cases r
  exact k H'
/-- the law's row by its def -/
theorem walk {l : PySem.W.OpenLaw} {n : Nat} {q : Program} {loose : List Str} {XP : (Str → Option Value) → Heap → Prop} {YP : World → Heap → Prop} {d : DefRec} {K : Params → PySem.W.Frag} (hn : l.most = some 63) (hdf : d.params.defaults = []) (hr : Room n callerA)
    (hY : ∀ (w : World) (h : Heap), YP w h → (K w.params).In h)
    (F : ∀ (w : World) (mg : Str → Option Value) (fa : Addr) (h : Heap), (K w.params).In h → h.Ns mainGlobals mg → mg d.name = some (.ref fa) →
      ∃ fd : FuncData, (∀ (s : Shared) (u : Value), BindsTo s fd ⟨[u], []⟩ [("script", u)]) ∧ ∀ base : Heap, (K w.params).In base → base.Ns mainGlobals mg → FnOk l.prog w (K w.params) mg base (L2.CX l.prog w) n fa fd ["script"] (spLaw (K w.params))) :
    PySem.W.WalkO q loose XP YP l.row.toRowW d [] (fun f vs => PySem.call f vs) :=
  L2.walk_of (n := 63) (k := n) (x := "script") (CX := fun w => L2.CX l.prog w) (sp := fun w => spLaw (K w.params)) hn (by decide) hdf hr hY F (fun _ _ a ns hl _ hS => ⟨a, ns, rfl, hS, hl, fun _ => rfl⟩) fun w H s e s' h => by
    obtain ⟨_, _, _, _, _, _, _, _, _, _, _, _, z⟩ := h
    exact z
theorem bl_n {K : PySem.W.Frag} {mg : Str → Option Value} {h : Heap} (KX : K.In h) (G : h.Ns mainGlobals mg)
    (z : PySem.W.nsIn K mainGlobals "len" = some none ∧ PySem.W.nsIn K mainGlobals "range" = some none ∧ PySem.W.nsIn K mainGlobals "int" = some none ∧ PySem.W.nsIn K mainGlobals "abs" = some none ∧ PySem.W.nsIn K mainGlobals "tuple" = some none ∧ PySem.W.nsIn K mainGlobals "list" = some none ∧ PySem.W.nsIn K mainGlobals "isinstance" = some none ∧
      PySem.W.nsIn K mainGlobals "bool" = some none ∧ PySem.W.nsIn K mainGlobals "str" = some none ∧ PySem.W.nsIn K mainGlobals "any" = some none ∧ PySem.W.nsIn K mainGlobals "all" = some none ∧ PySem.W.nsIn K mainGlobals "zip" = some none ∧ PySem.W.nsIn K mainGlobals "enumerate" = some none ∧ PySem.W.nsIn K mainGlobals "sorted" = some none ∧
      PySem.W.nsIn K mainGlobals "divmod" = some none ∧ PySem.W.nsIn K mainGlobals "min" = some none ∧ PySem.W.nsIn K mainGlobals "max" = some none ∧ PySem.W.nsIn K mainGlobals "sum" = some none ∧ PySem.W.nsIn K mainGlobals "reversed" = some none) :
    ∀ x : Str, (["len", "range", "int", "abs", "tuple", "list", "isinstance", "bool", "str", "any", "all", "zip", "enumerate", "sorted", "divmod", "min", "max", "sum", "reversed"] : List Str).contains x = true → mg x = none := fun x hx => by
  obtain ⟨z0, z1, z2, z3, z4, z5, z6, z7, z8, z9, z10, z11, z12, z13, z14, z15, z16, z17, z18⟩ := z
  have hm := List.contains_iff_mem.mp hx
  simp only [List.mem_cons, List.not_mem_nil, or_false] at hm
  rcases hm with rfl | rfl | rfl | rfl | rfl | rfl | rfl | rfl | rfl | rfl | rfl | rfl | rfl | rfl | rfl | rfl | rfl | rfl | rfl <;> exact PySem.W.mg_none_of KX G (by assumption)
end Wi

namespace Wi
open PySem L2
/-! ### equations of plain worths -/
theorem for_nx {b : DenS} {i : Nat} {st : Store} (I : List PV → Sl → Prop) (step : ∀ x xs ρ, I (x :: xs) ρ → ∃ ρ', (b (ρ.set i (some x)) st = .nx ρ' st ∨ b (ρ.set i (some x)) st = .ct ρ' st) ∧ I xs ρ') :
    ∀ xs ρ, I xs ρ → ∃ ρ', forL (gN i) b xs ρ st = .nx ρ' st ∧ I [] ρ'
  | [], ρ, h => ⟨ρ, rfl, h⟩
  | x :: xs, ρ, h => by
    obtain ⟨ρ', e, h'⟩ := step x xs ρ h
    obtain ⟨ρ2, e2, h2⟩ := for_nx I step xs ρ' h'
    refine ⟨ρ2, ?_, h2⟩
    rw [← e2]
    cases e with
    | inl e => simp only [forL, gN, e]
    | inr e => simp only [forL, gN, e]
/-- with a store that changes too -/
theorem for_st {b : DenS} {i : Nat} (I : List PV → Sl → Store → Prop) (step : ∀ x xs ρ st, I (x :: xs) ρ st → ∃ ρ' st', (b (ρ.set i (some x)) st = .nx ρ' st' ∨ b (ρ.set i (some x)) st = .ct ρ' st') ∧ I xs ρ' st') :
    ∀ xs ρ st, I xs ρ st → ∃ ρ' st', forL (gN i) b xs ρ st = .nx ρ' st' ∧ I [] ρ' st'
  | [], ρ, st, h => ⟨ρ, st, rfl, h⟩
  | x :: xs, ρ, st, h => by
    obtain ⟨ρ', st', e, h'⟩ := step x xs ρ st h
    obtain ⟨ρ2, st2, e2, h2⟩ := for_st I step xs ρ' st' h'
    refine ⟨ρ2, st2, ?_, h2⟩
    rw [← e2]
    cases e with
    | inl e => simp only [forL, gN, e]
    | inr e => simp only [forL, gN, e]
theorem comp_go {n : Nat} {c : DenT} {e : Den} {own : List Nat} {ρ : Sl} {st : Store} (f : PV → Bool) (g : PV → PV) : ∀ (xs acc : List PV),
    (∀ x ∈ xs, ∀ st', c ((wipeP ρ own).set n (some x)) st' = .ok (f x) st') → (∀ x ∈ xs, f x = true → ∀ st', e ((wipeP ρ own).set n (some x)) st' = .ok (g x) st') → (∀ x ∈ xs, isTree (g x) = true) → acc.length + xs.length ≤ 16777216 →
    compL (.n n) c e own st.length xs ρ (st ++ [.lst acc]) = .ok (acc ++ (xs.filter f).map g) st
  | [], acc, _, _, _, _ => by simp [compL]
  | x :: xs, acc, hc, he, ht, hl => by
    have c1 := hc x List.mem_cons_self
    unfold compL
    simp only [bindPt, c1, noexc, Res.bind]
    cases q : f x with
    | false =>
      rw [if_neg (by simp), comp_go f g xs acc (fun y h => hc y (List.mem_cons_of_mem _ h)) (fun y h => he y (List.mem_cons_of_mem _ h)) (fun y h => ht y (List.mem_cons_of_mem _ h)) (by simp at hl; omega), List.filter_cons, q, if_neg (by simp)]
    | true =>
      have hb : Nat.blt acc.length 16777216 = true := by simp only [Nat.blt_eq]; simp at hl; omega
      have := comp_go (st := st) f g xs (acc ++ [g x]) (fun y h => hc y (List.mem_cons_of_mem _ h)) (fun y h => he y (List.mem_cons_of_mem _ h)) (fun y h => ht y (List.mem_cons_of_mem _ h)) (by simp at hl ⊢; omega)
      simp only [if_true, he x List.mem_cons_self q, noexc, Res.bind, List.getElem?_concat_length, ht x List.mem_cons_self, hb, Bool.and_self, List.set_append_right _ _ (Nat.le_refl _), Nat.sub_self, List.set_cons_zero]
      rw [this, List.filter_cons, q, if_pos rfl, List.map_cons, List.append_assoc]
      rfl
theorem comp_ok {i : DenI} {n : Nat} {c : DenT} {e : Den} {own : List Nat} {ρ : Sl} {st : Store} {xs : List PV} (f : PV → Bool) (g : PV → PV) (hi : i ρ st = .ok xs st)
    (hc : ∀ x ∈ xs, ∀ st', c ((wipeP ρ own).set n (some x)) st' = .ok (f x) st') (he : ∀ x ∈ xs, f x = true → ∀ st', e ((wipeP ρ own).set n (some x)) st' = .ok (g x) st') (ht : ∀ x ∈ xs, isTree (g x) = true) (hl : xs.length ≤ 16777216) :
    lComp i (.n n) c e own ρ st = .ok ((xs.filter f).map g) st := by
  unfold lComp
  rw [hi]
  show compL (.n n) c e own st.length xs ρ (st ++ [.lst []]) = _
  rw [comp_go f g xs [] hc he ht (by simpa using hl), List.nil_append]
theorem rgP_len (lo : Int) (n : Nat) : (rgP lo n).length = n := by simp [rgP]
theorem rgP_mem {lo : Int} {n : Nat} {x : PV} (h : x ∈ rgP lo n) : ∃ k : Nat, k < n ∧ x = .int (lo + k) := by
  unfold rgP at h
  obtain ⟨k, h1, rfl⟩ := List.mem_map.mp h
  exact ⟨k, by simpa using h1, rfl⟩
/-- what counts up from k -/
def ups (k n : Nat) : List PV := (List.range' k n).map fun i => .int (i : Nat)
theorem rgP_up (n : Nat) : rgP 0 n = ups 0 n := by
  unfold rgP ups
  rw [List.range_eq_range']
  exact List.map_congr_left fun a _ => by rw [Int.zero_add]
theorem ups_succ (k n : Nat) : ups k (n + 1) = .int (k : Nat) :: ups (k + 1) n := by
  unfold ups
  rw [List.range'_succ, List.map_cons]
theorem midB_nat {n : Nat} (h : n < 4611686018427387904) : midB (n : Int) = true := by
  unfold midB
  simp only [Bool.and_eq_true, decide_eq_true_eq]
  omega
theorem small_nat {n : Nat} (h : n < 18446744073709551616) : smallB (n : Int) = true := by
  unfold smallB
  simp only [Bool.and_eq_true, decide_eq_true_eq]
  omega
theorem small_of {n : Int} (h1 : -18446744073709551616 < n) (h2 : n < 18446744073709551616) : smallB n = true := by
  unfold smallB
  simp only [Bool.and_eq_true, decide_eq_true_eq]
  omega
theorem fMul_l {i : Int} (h : smallB i = true) (j : Int) : fMul i j = some (.int (i * j)) := by unfold fMul; rw [h, Bool.true_or, Bool.true_or, if_pos rfl]
theorem fMul_r {j : Int} (h : smallB j = true) (i : Int) : fMul i j = some (.int (i * j)) := by unfold fMul; rw [h, Bool.or_true, Bool.true_or, if_pos rfl]
theorem eq_int (i j : Int) (st : Store) : oEq (.int i) (.int j) st = .ok (.bl (decide (i = j))) st := by
  simp [oEq, eqX, toX, toD, SeqAt.shaped, PyData.eqv]
  try rfl
theorem ne_int (i j : Int) (st : Store) : oNe (.int i) (.int j) st = .ok (.bl (decide (i ≠ j))) st := by
  simp [oNe, eqX, toX, toD, SeqAt.shaped, PyData.eqv]
  try rfl
end Wi
namespace Wi
open PySem L2
theorem iRng_ok {d : Den} {ρ : Sl} {st st' : Store} {j : Int} (h : d ρ st = .ok (.int j) st') (m : midB j = true) : iRng d ρ st = .ok (rgP 0 j.toNat) st' := by
  unfold iRng
  rw [h]
  show (if midB j = true then _ else _) = _
  rw [if_pos m]
theorem iRng_nat {i : Nat} {ρ : Sl} {st : Store} {n : Nat} (h : ρ[i]? = some (some (.int (n : Nat)))) (m : n < 4611686018427387904) : iRng (dVar i) ρ st = .ok (ups 0 n) st := by
  rw [iRng_ok (j := n) (st' := st) (by unfold dVar; rw [h]; rfl) (midB_nat m), rgP_up]
  rfl
theorem iRng2_ok {da : DenA} {ρ : Sl} {st st' : Store} {i j : Int} (h : da ρ st = .ok [.int i, .int j] st') (m1 : midB i = true) (m2 : midB j = true) : Wi.iRng2 da ρ st = .ok (rgP i (j - i).toNat) st' := by
  unfold Wi.iRng2
  rw [h]
  show (if (midB i && midB j) = true then _ else _) = _
  rw [if_pos (by rw [m1, m2]; rfl)]
theorem sFor_ok {i : DenI} {t : DenG} {b : DenS} {ρ : Sl} {st st' : Store} {xs : List PV} (h : i ρ st = .ok xs st') : sFor i t b ρ st = forL t b xs ρ st' := by
  unfold sFor
  rw [h]
  rfl
theorem sSeq_nx {a b : DenS} {ρ ρ' : Sl} {st st' : Store} (h : a ρ st = .nx ρ' st') : sSeq a b ρ st = b ρ' st' := by unfold sSeq; rw [h]
theorem sSeq_rt {a b : DenS} {ρ : Sl} {v : PV} {st st' : Store} (h : a ρ st = .rt v st') : sSeq a b ρ st = .rt v st' := by unfold sSeq; rw [h]
theorem sSet_ok {i : Nat} {d : Den} {ρ : Sl} {v : PV} {st st' : Store} (h : d ρ st = .ok v st') : sSet i d ρ st = .nx (ρ.set i (some v)) st' := by unfold sSet; rw [h]; rfl
theorem sRet_ok {d : Den} {ρ : Sl} {v : PV} {st st' : Store} (h : d ρ st = .ok v st') : sRet d ρ st = .rt v st' := by unfold sRet; rw [h]; rfl
theorem sIf_ok {c : DenT} {a b : DenS} {ρ : Sl} {t : Bool} {st st' : Store} (h : c ρ st = .ok t st') : sIf c a b ρ st = if t then a ρ st' else b ρ st' := by unfold sIf; rw [h]; rfl
theorem mkFn_ok {n : Nat} {b : DenS} {args : List PV} {st : Store} {v : PV} {xs : Store} (h : b (startP n args) st = .rt v (st ++ xs)) (ht : isTree v = true) : mkFn n b args st = .ok v st := by
  unfold mkFn
  rw [h]
  show retV st.length v (st ++ xs) = _
  cases v <;> first | (cases ht; done) | (show Res.ok _ _ = _; rw [List.take_left'] ; rfl)
theorem mkFn_ok0 {n : Nat} {b : DenS} {args : List PV} {st : Store} {v : PV} (h : b (startP n args) st = .rt v st) (ht : isTree v = true) : mkFn n b args st = .ok v st := mkFn_ok (xs := []) (by rw [h, List.append_nil]) ht
theorem dCall_ok {np : Nat} {f : FnS} {da : DenA} {ρ : Sl} {vs : List PV} {st st' : Store} (h : da ρ st = .ok vs st') (hl : vs.length = np) : dCall np f da ρ st = f vs st' := by
  unfold dCall
  rw [h]
  show (if vs.length == np then _ else _) = _
  rw [if_pos (by simpa using hl)]
end Wi
namespace Wi
open PySem L2
theorem dOp2_ok {f : PV → PV → Store → Res PV} {da db : Den} {ρ : Sl} {st st1 st2 : Store} {v w : PV} {r : Res PV} (h1 : da ρ st = .ok v st1) (h2 : db ρ st1 = .ok w st2) (h3 : f v w st2 = r) : dOp2 f da db ρ st = r := by
  unfold dOp2
  rw [h1]
  show (db ρ st1).bind _ = _
  rw [h2]
  exact h3
theorem aCons_ok {d : Den} {da : DenA} {ρ : Sl} {st st1 st2 : Store} {v : PV} {vs : List PV} (h1 : d ρ st = .ok v st1) (h2 : da ρ st1 = .ok vs st2) : aCons d da ρ st = .ok (v :: vs) st2 := by
  unfold aCons
  rw [h1]
  show (da ρ st1).bind _ = _
  rw [h2]
  rfl
theorem dB_ok {d : Den} {ρ : Sl} {st st' : Store} {b : Bool} (h : d ρ st = .ok (.bl b) st') : dB d ρ st = .ok b st' := by unfold dB; rw [h]; rfl
end Wi
namespace Wi
open PySem L2
/-- whole numbers as a line of values -/
def pns (ns : List Nat) : List PV := ns.map fun (n : Nat) => PV.int (n : Nat)
theorem ups_eq (k n : Nat) : ups k n = pns (List.range' k n) := rfl
theorem toDs_pns (ns : List Nat) : toDs (pns ns) = some (ns.map fun (n : Nat) => PyData.int (n : Nat)) := by
  induction ns with
  | nil => rfl
  | cons n ns ih =>
    show toDs (PV.int (n : Nat) :: pns ns) = _
    unfold toDs
    rw [ih]
    rfl
theorem canLay_ints (ns : List Nat) : PyData.canLayAll0 (ns.map fun (n : Nat) => PyData.int (n : Nat)) = true := by
  induction ns with
  | nil => rfl
  | cons n ns ih =>
    rw [List.map_cons]
    unfold PyData.canLayAll0
    rw [ih]
    rfl
theorem depth_ints (ns : List Nat) : PyData.depthAll (ns.map fun (n : Nat) => PyData.int (n : Nat)) = 0 := by
  induction ns with
  | nil => rfl
  | cons n ns ih =>
    rw [List.map_cons]
    unfold PyData.depthAll
    rw [ih]
    rfl
theorem shaped_ints (ns : List Nat) : SeqAt.shaped (.list (ns.map fun (n : Nat) => PyData.int (n : Nat))) = true := by
  unfold SeqAt.shaped PyData.canLay0 PyData.depth
  rw [canLay_ints, depth_ints]
  rfl
theorem anyEq_ints (k : Nat) (ns : List Nat) : anyEq (.int (k : Nat)) (ns.map fun (n : Nat) => PyData.int (n : Nat)) = decide (k ∈ ns) := by
  induction ns with
  | nil => rfl
  | cons n ns ih =>
    unfold anyEq at ih ⊢
    rw [List.map_cons, List.any_cons, ih]
    have : PyData.eqv (.int (n : Nat)) (.int (k : Nat)) = decide (k = n) := by
      show ((n : Int) == (k : Int)) = _
      by_cases h : k = n
      · subst h; rw [decide_eq_true rfl]; exact beq_self_eq_true _
      · rw [decide_eq_false h]; exact beq_eq_false_iff_ne.mpr (by omega)
    rw [this]
    by_cases h : k = n <;> simp [h]
theorem in_ints (neg : Bool) (k : Nat) (ns : List Nat) (st : Store) : oIn neg (.int (k : Nat)) (.lst (pns ns)) st = .ok (.bl (if neg then !decide (k ∈ ns) else decide (k ∈ ns))) st := by
  have e : inX (.int (k : Nat)) (.lst (pns ns)) st = some (decide (k ∈ ns)) := by
    unfold inX
    rw [show toX (.int (k : Nat)) st = some (.int (k : Nat)) from rfl, show toX (.lst (pns ns)) st = (toDs (pns ns)).map .list from by unfold toX toD; rfl, toDs_pns]
    show (if _ then _ else _) = _
    rw [if_pos (by rw [shaped_ints]; rfl), anyEq_ints]
  unfold oIn
  rw [e]
theorem filter_pns (f : PV → Bool) (p : Nat → Bool) (ns : List Nat) (h : ∀ n ∈ ns, f (.int (n : Nat)) = p n) : (pns ns).filter f = pns (ns.filter p) := by
  induction ns with
  | nil => rfl
  | cons n ns ih =>
    have h1 := h n List.mem_cons_self
    have h2 := ih fun m hm => h m (List.mem_cons_of_mem _ hm)
    show (PV.int (n : Nat) :: pns ns).filter f = _
    rw [List.filter_cons, List.filter_cons, h1, h2]
    split <;> rfl
theorem map_id_pns (ns : List Nat) : (pns ns).map (fun x => x) = pns ns := List.map_id' _
theorem pns_len (ns : List Nat) : (pns ns).length = ns.length := by simp [pns]
theorem mem_pns {x : PV} {ns : List Nat} (h : x ∈ pns ns) : ∃ n ∈ ns, x = .int (n : Nat) := by
  obtain ⟨n, h1, rfl⟩ := List.mem_map.mp h
  exact ⟨n, h1, rfl⟩
end Wi
namespace Wi
open PySem L2
theorem a1_ok {d : Den} {ρ : Sl} {st st1 : Store} {v : PV} (h1 : d ρ st = .ok v st1) : aCons d aNil ρ st = .ok [v] st1 := aCons_ok h1 rfl
theorem a2_ok {d e : Den} {ρ : Sl} {st st1 st2 : Store} {v w : PV} (h1 : d ρ st = .ok v st1) (h2 : e ρ st1 = .ok w st2) : aCons d (aCons e aNil) ρ st = .ok [v, w] st2 := aCons_ok h1 (a1_ok h2)
theorem a3_ok {d e f : Den} {ρ : Sl} {st st1 st2 st3 : Store} {v w u : PV} (h1 : d ρ st = .ok v st1) (h2 : e ρ st1 = .ok w st2) (h3 : f ρ st2 = .ok u st3) : aCons d (aCons e (aCons f aNil)) ρ st = .ok [v, w, u] st3 := aCons_ok h1 (a2_ok h2 h3)
theorem dVar_ok {i : Nat} {ρ : Sl} {st : Store} {v : PV} (h : ρ[i]? = some (some v)) (ht : isTree v = true) : dVar i ρ st = .ok v st := by
  unfold dVar
  rw [h]
  cases v <;> first | (cases ht; done) | rfl
theorem dFn_ok {f : List PV → Store → Res PV} {da : DenA} {ρ : Sl} {st st' : Store} {vs : List PV} {r : Res PV} (h : da ρ st = .ok vs st') (h2 : f vs st' = r) : dFn f da ρ st = r := by
  unfold dFn
  rw [h]
  exact h2
theorem dFrz_ok {d : DenL} {ρ : Sl} {st st' : Store} {xs : List PV} (h : d ρ st = .ok xs st') : dFrz d ρ st = .ok (.lst xs) st' := by
  unfold dFrz
  rw [h]
  rfl
theorem len_lst (xs : List PV) (st : Store) : cLen [.lst xs] st = .ok (.int (xs.length : Nat)) st := rfl
theorem dC_ok (v : PV) (ρ : Sl) (st : Store) : dC v ρ st = .ok v st := rfl
theorem iSeq_ok {d : Den} {ρ : Sl} {st : Store} {xs : List PV} (h : d ρ st = .ok (.lst xs) st) : iSeq d ρ st = .ok xs st := by
  unfold iSeq dFreeze
  rw [h]
  rfl
theorem iSeq_tup {d : Den} {ρ : Sl} {st : Store} {xs : List PV} (h : d ρ st = .ok (.tup xs) st) : iSeq d ρ st = .ok xs st := by
  unfold iSeq dFreeze
  rw [h]
  rfl
end Wi
namespace Wi
open PySem L2
theorem for_one {i : Nat} {b : DenS} {x : PV} {xs : List PV} {ρ ρ' : Sl} {st st' : Store} (h : b (ρ.set i (some x)) st = .nx ρ' st') : forL (gN i) b (x :: xs) ρ st = forL (gN i) b xs ρ' st' := by
  simp only [forL, gN, h]
theorem map_id_pns_of {xs : List PV} {ns : List Nat} (h : xs = pns ns) : xs.map (fun x => x) = pns ns := by rw [h, map_id_pns]
end Wi
namespace Wi
open PySem L2
theorem while_go {c : DenT} {b : DenS} {n : Nat} {ρ ρ' : Sl} {st st' st2 : Store} (h : c ρ st = .ok true st') (h2 : b ρ st' = .nx ρ' st2) : whileL c b (n + 1) ρ st = whileL c b n ρ' st2 := by
  rw [whileL.eq_def]
  simp only [h, Res.thenS, if_true, h2]
theorem while_end {c : DenT} {b : DenS} {n : Nat} {ρ : Sl} {st st' : Store} (h : c ρ st = .ok false st') : whileL c b (n + 1) ρ st = .nx ρ st' := by
  rw [whileL.eq_def]
  simp only [h, Res.thenS]
  rfl
theorem sWhile_at {c : DenT} {b : DenS} {ρ : Sl} {st : Store} (k : Nat) (h : k ≤ 99999) : sWhile c b ρ st = whileL c b (k + (99999 - k) + 1) ρ st := by
  rw [show k + (99999 - k) + 1 = whileN from by unfold whileN; omega]
  rfl
theorem log_le {n m : Nat} (h : n ≤ 2 ^ m) : n.log2 ≤ m := by
  have := PySem.Flt.log2_lt_of (n := n) (k := m + 1) (by omega) (Nat.lt_of_le_of_lt h (by rw [Nat.pow_succ]; have := Nat.two_pow_pos m; omega))
  omega
theorem op_mul_w {i j : Int} {a b : Nat} (h1 : i.natAbs ≤ 2 ^ a) (h2 : j.natAbs ≤ 2 ^ b) (h : a + b < 1000000) (st : Store) : opInt fMul (.int i) (.int j) st = .ok (.int (i * j)) st := by
  have e : fMul i j = some (.int (i * j)) := by
    unfold fMul
    have := log_le h1
    have := log_le h2
    rw [if_pos (by rw [Bool.or_eq_true, decide_eq_true_eq]; exact .inr (by omega))]
  unfold opInt
  simp only [e]
end Wi
namespace Wi
open PySem L2
theorem sPar_ok {i j : Nat} {da : DenA} {ρ : Sl} {st st' : Store} {v w : PV} (h : da ρ st = .ok [v, w] st') : sPar i j da ρ st = .nx ((ρ.set i (some v)).set j (some w)) st' := by
  unfold sPar
  rw [h]
  rfl
end Wi

namespace Wi
open PySem L2
def b__law_state : DenS :=
 (sSeq (sSet 1 (dC (.int 0)))
 (sSeq (sSet 2 (dC (.int 1)))
 (sSeq (sFor (iSeq (dCut (dVar 0) oNo (oSome (dC (.int 63))))) (gN 3)
 (sSeq (sSet 1 (dOp2 oAdd (dOp2 (opInt fMul) (dVar 1) (dC (.int 1000003))) (dFn cAbs (aCons (dVar 3) aNil))))
 (sSet 2 (dOp2 (opInt fMod) (dFn cInt (aCons (dOp2 oAdd (dOp2 (opInt fMul) (dVar 2) (dC (.int 48271))) (dVar 3)) aNil)) (dC (.int 2147483647))))))
 (sRet (dNew (lDisp (aCons (dVar 1) (aCons (dVar 2) aNil))))))))
def f__law_state : FnS := mkFn 4 b__law_state
def b__law_take : DenS :=
 (sSeq (sIf (dB (dOp2 (opInt fGt) (dOp2 oIx (dVar 0) (dC (.int 0))) (dC (.int 0))))
 (sSeq (sSet 2 (dOp2 (opInt fMod) (dFn cInt (aCons (dOp2 oIx (dVar 0) (dC (.int 0))) aNil)) (dVar 1)))
 (sSeq (sAsg (dOp2 (opInt fDiv) (dOp2 oIx (dVar 0) (dC (.int 0))) (dVar 1)) (gSubD (dVar 0) (dC (.int 0))))
 (sRet (dVar 2))))
 sSkip)
 (sSeq (sAsg (dOp2 (opInt fMod) (dFn cInt (aCons (dOp2 oAdd (dOp2 (opInt fMul) (dOp2 oIx (dVar 0) (dC (.int 1))) (dC (.int 48271))) (dC (.int 11))) aNil)) (dC (.int 2147483647))) (gSubD (dVar 0) (dC (.int 1))))
 (sRet (dOp2 (opInt fMod) (dFn cInt (aCons (dOp2 (opInt fDiv) (dOp2 oIx (dVar 0) (dC (.int 1))) (dC (.int 7))) aNil)) (dVar 1)))))
def f__law_take : FnS := mkFn 3 b__law_take

theorem small_k {j : Int} (h : smallB j = true) (i : Int) : fMul i j = some (.int (i * j)) := by unfold fMul; rw [h, Bool.or_true, Bool.true_or, if_pos rfl]
theorem fMod_pos {j : Int} (h : 0 < j) (i : Int) : fMod i j = some (.int (i % j)) := by unfold fMod; rw [if_pos (by simpa using h)]
theorem log_small {j : Int} (h : 0 < j) (h2 : j < 1073741824) : j.natAbs.log2 < 9000 := by
  have h3 : (2 : Nat) ^ 30 = 1073741824 := by decide
  have := PySem.Flt.log2_lt_of (n := j.natAbs) (k := 30) (by decide) (by omega)
  omega
theorem fDiv_pos {j : Int} (h : 0 < j) (h2 : j < 1073741824) (i : Int) : fDiv i j = some (.int (i / j)) := by unfold fDiv; rw [if_pos (by simp [h, log_small h h2])]
theorem state_turn (a : Option PV) (ns : List Int) (st : Store) : ∀ (s t : Int) (c : Option PV), 0 ≤ s → 0 ≤ t → ∃ s' t' c', 0 ≤ s' ∧ 0 ≤ t' ∧
    forL (gN 3) (sSeq (sSet 1 (dOp2 oAdd (dOp2 (opInt fMul) (dVar 1) (dC (.int 1000003))) (dFn cAbs (aCons (dVar 3) aNil))))
 (sSet 2 (dOp2 (opInt fMod) (dFn cInt (aCons (dOp2 oAdd (dOp2 (opInt fMul) (dVar 2) (dC (.int 48271))) (dVar 3)) aNil)) (dC (.int 2147483647))))) (ns.map PV.int) [a, some (.int s), some (.int t), c] st = .nx [a, some (.int s'), some (.int t'), c'] st := by
  induction ns with
  | nil => intro s t c h1 h2; exact ⟨s, t, c, h1, h2, rfl⟩
  | cons n ns ih =>
    intro s t c h1 h2
    obtain ⟨s', t', c', q1, q2, q3⟩ := ih (s * 1000003 + (if n < 0 then -n else n)) ((t * 48271 + n) % 2147483647) (some (.int n)) (by split <;> omega) (by omega)
    refine ⟨s', t', c', q1, q2, ?_⟩
    rw [← q3]
    simp [forL, gN, sSeq, sSet, dOp2, dVar, dC, dFn, aCons, aNil, Res.bind, Res.thenS, norm, opInt, cAbs, cInt, oAdd, isI, fAdd, small_k (show smallB 1000003 = true by decide), small_k (show smallB 48271 = true by decide), fMod_pos (show (0 : Int) < 2147483647 by decide)]
theorem cut_63 (xs : List PV) (h : xs.length ≤ 63) : cutP xs none (some 63) = xs := by
  unfold cutP
  rw [HT.sIx_none]
  have : HT.sIx xs.length xs.length (some 63) = xs.length := by
    rw [show (63 : Int) = ((63 : Nat) : Int) from rfl, HT.sIx_nat]
    omega
  rw [this, List.drop_zero, Nat.sub_zero, List.take_length]
theorem law_state_ok (ns : List Int) (hl : ns.length ≤ 63) (st : Store) : ∃ s t : Int, 0 ≤ s ∧ 0 ≤ t ∧ f__law_state [.lst (ns.map PV.int)] st = .ok (.ref st.length) (st ++ [.lst [.int s, .int t]]) := by
  obtain ⟨s, t, c, h1, h2, h3⟩ := state_turn (some (.lst (ns.map PV.int))) ns st 0 1 none (by decide) (by decide)
  refine ⟨s, t, h1, h2, ?_⟩
  have hc := cut_63 (ns.map PV.int) (by simpa using hl)
  simp only [f__law_state, mkFn, b__law_state, startP]
  simp [sSeq, sSet, sFor, iSeq, dFreeze, frzV, dCut, oNo, oSome, seqOf, dVar, dC, Res.bind, Res.thenS, norm, hc, List.replicate] 
  rw [h3]
  simp [sRet, dNew, lDisp, aCons, aNil, dVar, norm, Res.bind, Res.thenS, isTree, lineB, retV]
/-- the state of the draws lies in the cell k -/
structure StAt (st : Store) (k : Nat) (s t : Int) : Prop where
  at_ : st[k]? = some (.lst [.int s, .int t])
  s0 : 0 ≤ s
  t0 : 0 ≤ t
theorem law_take_ok {st : Store} {k : Nat} {s t : Int} (h : StAt st k s t) {m : Int} (h1 : 0 < m) (h2 : m < 1073741824) :
    ∃ v s' t' : Int, 0 ≤ v ∧ v < m ∧ StAt (st.set k (.lst [.int s', .int t'])) k s' t' ∧ f__law_take [.ref k, .int m] st = .ok (.int v) (st.set k (.lst [.int s', .int t'])) := by
  obtain ⟨e, hs, ht⟩ := h
  have hk : k < st.length := (List.getElem?_eq_some_iff.mp e).1
  have at2 : ∀ c : Cell, (st.set k c)[k]? = some c := fun c => by rw [List.getElem?_set_self hk]
  have e0 : ∀ (u : Int), (st.set k (.lst [.int s, .int u]))[k]? = some (.lst [.int s, .int u]) := fun u => at2 _
  by_cases c : 0 < s
  · refine ⟨s % m, s / m, t, Int.emod_nonneg _ (by omega), Int.emod_lt_of_pos _ h1, ⟨at2 _, Int.ediv_nonneg hs (by omega), ht⟩, ?_⟩
    simp [f__law_take, mkFn, b__law_take, startP, sSeq, sIf, dB, dOp2, dVar, dC, Res.bind, Res.thenS, norm, oIx, seqOf, e, atI, ixN, opInt, fGt, c, sSet, dFn, cInt, aCons, aNil, fMod_pos h1, sAsg, fDiv_pos h1 h2, gSubD, isTree, sRet, retV, List.take_of_length_le]
  · have hs0 : s = 0 := by omega
    subst hs0
    refine ⟨(t * 48271 + 11) % 2147483647 / 7 % m, 0, (t * 48271 + 11) % 2147483647, Int.emod_nonneg _ (by omega), Int.emod_lt_of_pos _ h1, ⟨at2 _, by omega, by omega⟩, ?_⟩
    simp [f__law_take, mkFn, b__law_take, startP, sSeq, sIf, dB, dOp2, dVar, dC, Res.bind, Res.thenS, norm, oIx, seqOf, e, atI, ixN, opInt, fGt, sSkip, sSet, dFn, cInt, aCons, aNil, fMod_pos h1, sAsg, fDiv_pos (show (0 : Int) < 7 by decide) (by decide), fMod_pos (show (0 : Int) < 2147483647 by decide), small_k (show smallB 48271 = true by decide), oAdd, isI, fAdd, gSubD, isTree, sRet, retV, List.take_of_length_le, at2]
end Wi
namespace Wi
open PySem L2
theorem fDiv_mid {j : Int} (h : 0 < j) (h2 : j < 1073741824 * 1073741824) (i : Int) : fDiv i j = some (.int (i / j)) := by
  have h3 : (2 : Nat) ^ 60 = 1073741824 * 1073741824 := by decide
  have := PySem.Flt.log2_lt_of (n := j.natAbs) (k := 60) (by decide) (by omega)
  unfold fDiv
  rw [if_pos (by rw [Bool.and_eq_true, decide_eq_true_eq, decide_eq_true_eq]; omega)]
theorem op_div {i j : Int} (h : 0 < j) (h2 : j < 1073741824 * 1073741824) (st : Store) : opInt fDiv (.int i) (.int j) st = .ok (.int (i / j)) st := by unfold opInt; simp only [fDiv_mid h h2]
theorem op_mod {i j : Int} (h : 0 < j) (st : Store) : opInt fMod (.int i) (.int j) st = .ok (.int (i % j)) st := by unfold opInt; simp only [fMod_pos h]
theorem op_mul_l {i : Int} (h : smallB i = true) (j : Int) (st : Store) : opInt fMul (.int i) (.int j) st = .ok (.int (i * j)) st := by unfold opInt; simp only [fMul_l h]
theorem op_mul_r {j : Int} (h : smallB j = true) (i : Int) (st : Store) : opInt fMul (.int i) (.int j) st = .ok (.int (i * j)) st := by unfold opInt; simp only [fMul_r h]
theorem pow2_lt {i : Nat} (h : i < 60) : (2 : Int) ^ i < 1073741824 * 1073741824 := by
  have : (2 : Nat) ^ i ≤ 2 ^ 59 := Nat.pow_le_pow_right (by decide) (by omega)
  have h3 : ((2 ^ i : Nat) : Int) = (2 : Int) ^ i := by simp
  rw [← h3]
  have h4 : (2 : Nat) ^ 59 < 1073741824 * 1073741824 := by decide
  omega
end Wi

namespace Wi
open PySem L2
def b__law_power : DenS :=
 (sSeq (sSet 2 (dC (.int 1)))
 (sSeq (sFor (iRng (dVar 1)) (gN 3)
 (sSet 2 (dOp2 (opInt fMul) (dVar 2) (dVar 0))))
 (sRet (dVar 2))))
def f__law_power : FnS := mkFn 4 b__law_power
def b_power : DenS :=
 (sSeq (sSet 2 (dC (.int 1)))
 (sSeq (sWhile (dB (dOp2 (opInt fGt) (dVar 1) (dC (.int 0))))
 (sSeq (sIf (dB (dOp2 oEq (dOp2 (opInt fMod) (dVar 1) (dC (.int 2))) (dC (.int 1))))
 (sSet 2 (dOp2 (opInt fMul) (dVar 2) (dVar 0)))
 sSkip)
 (sSeq (sSet 0 (dOp2 (opInt fMul) (dVar 0) (dVar 0)))
 (sSet 1 (dOp2 (opInt fDiv) (dVar 1) (dC (.int 2)))))))
 (sRet (dVar 2))))
def f_power : FnS := mkFn 3 b_power
def b_is_integer : DenS :=
 (sRet (dAndV (dIsi "int" (dVar 0)) (dNotV (dIsi "bool" (dVar 0)))))
def f_is_integer : FnS := mkFn 1 b_is_integer
def b_gauss : DenS :=
 (sSeq (sIf (tOrD (dB (dOp2 (opInt fLt) (dVar 1) (dC (.int 0)))) (dB (dOp2 (opInt fGt) (dVar 1) (dVar 0))))
 (sRet (dC (.int 0)))
 sSkip)
 (sSeq (sSet 3 (dC (.int 1)))
 (sSeq (sFor (Wi.iRng2 (aCons (dC (.int 1)) (aCons (dOp2 oAdd (dVar 1) (dC (.int 1))) aNil))) (gN 4)
 (sSet 3 (dOp2 (opInt fDiv) (dOp2 (opInt fMul) (dVar 3) (dOp2 (opInt fSub) (dCall 2 f_power (aCons (dVar 2) (aCons (dOp2 oAdd (dOp2 (opInt fSub) (dVar 0) (dVar 4)) (dC (.int 1))) aNil))) (dC (.int 1)))) (dOp2 (opInt fSub) (dCall 2 f_power (aCons (dVar 2) (aCons (dVar 4) aNil))) (dC (.int 1))))))
 (sRet (dVar 3)))))
def f_gauss : FnS := mkFn 5 b_gauss
def b_invertible_count : DenS :=
 (sSeq (sSet 2 (dCall 2 f_power (aCons (dVar 1) (aCons (dVar 0) aNil))))
 (sSeq (sSet 3 (dC (.int 1)))
 (sSeq (sFor (iRng (dVar 0)) (gN 4)
 (sSet 3 (dOp2 (opInt fMul) (dVar 3) (dOp2 (opInt fSub) (dVar 2) (dCall 2 f_power (aCons (dVar 1) (aCons (dVar 4) aNil)))))))
 (sRet (dVar 3)))))
def f_invertible_count : FnS := mkFn 5 b_invertible_count
def b__law_prime : DenS :=
 (sRet (dOp2 oIx (dFrz (lDisp (aCons (dC (.int 2)) (aCons (dC (.int 3)) (aCons (dC (.int 2)) (aCons (dC (.int 5)) (aCons (dC (.int 7)) (aCons (dC (.int 3)) aNil)))))))) (dIndex (dFrz (lDisp (aCons (dC (.int 2)) (aCons (dC (.int 3)) (aCons (dC (.int 4)) (aCons (dC (.int 5)) (aCons (dC (.int 7)) (aCons (dC (.int 9)) aNil)))))))) (dVar 0))))
def f__law_prime : FnS := mkFn 1 b__law_prime
def b__law_joined : DenS :=
 (sSeq (sSet 3 (dCall 1 f__law_prime (aCons (dVar 0) aNil)))
 (sSeq (sIf (dB (dOp2 oEq (dVar 3) (dVar 0)))
 (sRet (dOp2 (opInt fMod) (dFn cInt (aCons (dVar 1) aNil)) (dVar 3)))
 sSkip)
 (sRet (dOp2 oAdd (dOp2 (opInt fMod) (dFn cInt (aCons (dVar 1) aNil)) (dVar 3)) (dOp2 (opInt fMul) (dVar 3) (dOp2 (opInt fMod) (dFn cInt (aCons (dVar 2) aNil)) (dVar 3)))))))
def f__law_joined : FnS := mkFn 4 b__law_joined
def b__law_field : DenS :=
 (sSeq (sSet 1 (dCall 1 f__law_prime (aCons (dVar 0) aNil)))
 (sSeq (sSet 2 (dNew (lDisp aNil)))
 (sSeq (sSet 3 (dNew (lDisp aNil)))
 (sSeq (sFor (iRng (dVar 0)) (gN 4)
 (sSeq (sSet 5 (dNew (lDisp aNil)))
 (sSeq (sSet 6 (dNew (lDisp aNil)))
 (sSeq (sFor (iRng (dVar 0)) (gN 7)
 (sSeq (sAsg (dTup (aCons (dOp2 (opInt fMod) (dFn cInt (aCons (dVar 4) aNil)) (dVar 1)) (aCons (dOp2 (opInt fDiv) (dVar 4) (dVar 1)) (aCons (dOp2 (opInt fMod) (dFn cInt (aCons (dVar 7) aNil)) (dVar 1)) (aCons (dOp2 (opInt fDiv) (dVar 7) (dVar 1)) aNil))))) (gTupD 4 (gsCons (gN 9) (gsCons (gN 10) (gsCons (gN 11) (gsCons (gN 12) gsNil))))))
 (sSeq (sExpr (dLm mAppend (dVar 5) (aCons (dCall 3 f__law_joined (aCons (dVar 0) (aCons (dOp2 oAdd (dVar 9) (dVar 11)) (aCons (dOp2 oAdd (dVar 10) (dVar 12)) aNil)))) aNil)))
 (sSeq (sSet 8 (dOp2 oAdd (dOp2 (opInt fMul) (dVar 9) (dVar 12)) (dOp2 (opInt fMul) (dVar 10) (dVar 11))))
 (sIf (dB (dOp2 oEq (dVar 0) (dC (.int 4))))
 (sExpr (dLm mAppend (dVar 6) (aCons (dCall 3 f__law_joined (aCons (dVar 0) (aCons (dOp2 oAdd (dOp2 (opInt fMul) (dVar 9) (dVar 11)) (dOp2 (opInt fMul) (dVar 10) (dVar 12))) (aCons (dOp2 oAdd (dVar 8) (dOp2 (opInt fMul) (dVar 10) (dVar 12))) aNil)))) aNil)))
 (sIf (dB (dOp2 oEq (dVar 0) (dC (.int 9))))
 (sExpr (dLm mAppend (dVar 6) (aCons (dCall 3 f__law_joined (aCons (dVar 0) (aCons (dOp2 oAdd (dOp2 (opInt fMul) (dVar 9) (dVar 11)) (dOp2 (opInt fMul) (dOp2 (opInt fMul) (dC (.int 2)) (dVar 10)) (dVar 12))) (aCons (dVar 8) aNil)))) aNil)))
 (sExpr (dLm mAppend (dVar 6) (aCons (dOp2 (opInt fMod) (dFn cInt (aCons (dOp2 (opInt fMul) (dVar 4) (dVar 7)) aNil)) (dVar 0)) aNil)))))))))
 (sSeq (sExpr (dLm mAppend (dVar 2) (aCons (dFreeze (dVar 5)) aNil)))
 (sExpr (dLm mAppend (dVar 3) (aCons (dFreeze (dVar 6)) aNil))))))))
 (sRet (dTup (aCons (dVar 0) (aCons (dFreeze (dVar 2)) (aCons (dFreeze (dVar 3)) aNil)))))))))
def f__law_field : FnS := mkFn 13 b__law_field
def b__law_sum : DenS :=
 (sRet (dFn cTup (aCons (dFrz (lComp (iRng (dFn cLen (aCons (dVar 1) aNil))) (.n 3) tYesD (dOp2 oIx (dOp2 oIx (dOp2 oIx (dVar 0) (dC (.int 1))) (dOp2 oIx (dVar 1) (dVar 3))) (dOp2 oIx (dVar 2) (dVar 3))) [3])) aNil)))
def f__law_sum : FnS := mkFn 4 b__law_sum
def b__law_times : DenS :=
 (sRet (dFn cTup (aCons (dFrz (lComp (iSeq (dVar 1)) (.n 3) tYesD (dOp2 oIx (dOp2 oIx (dOp2 oIx (dVar 0) (dC (.int 2))) (dVar 3)) (dVar 2)) [3])) aNil)))
def f__law_times : FnS := mkFn 4 b__law_times
def b__law_rows : DenS :=
 (sSeq (sSet 2 (dFrz (lDisp (aCons (dTup aNil) aNil))))
 (sSeq (sFor (iRng (dVar 1)) (gN 3)
 (sSeq (sSet 4 (dFrz (lDisp aNil)))
 (sSeq (sFor (iSeq (dVar 2)) (gN 5)
 (sSet 4 (dFrz (lCat (dVar 4) (dFrz (lComp (iRng (dOp2 oIx (dVar 0) (dC (.int 0)))) (.n 6) tYesD (dOp2 oAdd (dVar 5) (dTup (aCons (dVar 6) aNil))) [6]))))))
 (sSet 2 (dFrz (lList (dVar 4)))))))
 (sRet (dVar 2))))
def f__law_rows : FnS := mkFn 7 b__law_rows
def b__law_spanned : DenS :=
 (sSeq (sSet 3 (dFrz (lDisp (aCons (dFn cTup (aCons (dFrz (lComp (iRng (dVar 2)) (.n 7) tYesD (dC (.int 0)) [7])) aNil)) aNil))))
 (sSeq (sFor (iSeq (dVar 1)) (gN 4)
 (sIf (dB (dOp2 (oIn true) (dVar 4) (dVar 3)))
 (sSeq (sSet 5 (dFrz (lDisp aNil)))
 (sSeq (sFor (iSeq (dVar 3)) (gN 6)
 (sSet 5 (dFrz (lCat (dVar 5) (dFrz (lComp (iRng (dOp2 oIx (dVar 0) (dC (.int 0)))) (.n 8) tYesD (dCall 3 f__law_sum (aCons (dVar 0) (aCons (dVar 6) (aCons (dCall 3 f__law_times (aCons (dVar 0) (aCons (dVar 4) (aCons (dVar 8) aNil)))) aNil)))) [8]))))))
 (sSet 3 (dFrz (lList (dVar 5))))))
 sSkip))
 (sRet (dVar 3))))
def f__law_spanned : FnS := mkFn 9 b__law_spanned
def b__law_is_free : DenS :=
 (sSeq (sSet 3 (dC (.int 1)))
 (sSeq (sFor (iSeq (dVar 1)) (gN 4)
 (sSet 3 (dOp2 (opInt fMul) (dVar 3) (dOp2 oIx (dVar 0) (dC (.int 0))))))
 (sRet (dOp2 oEq (dFn cLen (aCons (dCall 3 f__law_spanned (aCons (dVar 0) (aCons (dVar 1) (aCons (dVar 2) aNil)))) aNil)) (dVar 3)))))
def f__law_is_free : FnS := mkFn 5 b__law_is_free
def b__law_tables : DenS :=
 (sSeq (sSet 3 (dC (.int 0)))
 (sSeq (sFor (iRng (dCall 2 f__law_power (aCons (dC (.int 2)) (aCons (dVar 0) aNil)))) (gN 4)
 (sSeq (sSet 5 (dFrz (lComp (iRng (dVar 0)) (.n 8) (dB (dOp2 oEq (dOp2 (opInt fMod) (dOp2 (opInt fDiv) (dVar 4) (dCall 2 f__law_power (aCons (dC (.int 2)) (aCons (dVar 8) aNil)))) (dC (.int 2))) (dC (.int 1)))) (dVar 8) [8])))
 (sIf (dB (dOp2 oEq (dFn cLen (aCons (dVar 5) aNil)) (dVar 1)))
 (sSeq (sSet 6 (dC (.int 0)))
 (sSeq (sFor (iSeq (dVar 5)) (gN 7)
 (sSet 6 (dOp2 oAdd (dVar 6) (dFn cLen (aCons (dFrz (lComp (Wi.iRng2 (aCons (dVar 7) (aCons (dVar 0) aNil))) (.n 8) (dB (dOp2 (oIn true) (dVar 8) (dVar 5))) (dVar 8) [8])) aNil)))))
 (sSet 3 (dOp2 oAdd (dVar 3) (dCall 2 f__law_power (aCons (dVar 2) (aCons (dVar 6) aNil)))))))
 sSkip)))
 (sRet (dVar 3))))
def f__law_tables : FnS := mkFn 9 b__law_tables
def b__law_walked : DenS :=
 (sSeq (sSet 2 (dCall 1 f__law_field (aCons (dVar 0) aNil)))
 (sSeq (sSet 3 (dFrz (lDisp (aCons (dTup aNil) aNil))))
 (sSeq (sSet 4 (dCall 2 f__law_rows (aCons (dVar 2) (aCons (dVar 1) aNil))))
 (sSeq (sFor (iRng (dVar 1)) (gN 5)
 (sSeq (sSet 6 (dFrz (lDisp aNil)))
 (sSeq (sFor (iSeq (dVar 3)) (gN 7)
 (sSet 6 (dFrz (lCat (dVar 6) (dFrz (lComp (iSeq (dVar 4)) (.n 9) tYesD (dOp2 oAdd (dVar 7) (dTup (aCons (dVar 9) aNil))) [9]))))))
 (sSet 3 (dFrz (lList (dVar 6)))))))
 (sRet (dFn cLen (aCons (dFrz (lComp (iSeq (dVar 3)) (.n 8) (dTru (dCall 3 f__law_is_free (aCons (dVar 2) (aCons (dVar 8) (aCons (dVar 1) aNil))))) (dVar 8) [8])) aNil)))))))
def f__law_walked : FnS := mkFn 10 b__law_walked
end Wi

namespace Wi
open PySem L2
theorem lp1 (a : Int) (ha : smallB a = true) (k : Nat) (st : Store) : ∃ ρ', forL (gN 3) (sSet 2 (dOp2 (opInt fMul) (dVar 2) (dVar 0))) (ups 0 k) [some (.int a), some (.int (k : Nat)), some (.int 1), none] st = .nx ρ' st ∧ ∃ c, ρ' = [some (.int a), some (.int (k : Nat)), some (.int (a ^ k)), c] := by
  have := for_nx (b := sSet 2 (dOp2 (opInt fMul) (dVar 2) (dVar 0))) (i := 3) (st := st) (fun xs ρ => ∃ c t, ρ = [some (.int a), some (.int (k : Nat)), some (.int t), c] ∧ t * a ^ xs.length = a ^ k) (by
    rintro x xs ρ ⟨c, t, rfl, e⟩
    refine ⟨_, .inl ?_, some x, t * a, rfl, by rw [← e, List.length_cons, Int.pow_succ']; grind⟩
    simp [sSet, dOp2, dVar, Res.bind, Res.thenS, norm, opInt, fMul_r ha]) (ups 0 k) [some (.int a), some (.int (k : Nat)), some (.int 1), none] ⟨none, 1, rfl, by simp [ups]⟩
  obtain ⟨ρ', e, c, t, rfl, e2⟩ := this
  simp only [List.length_nil, Int.pow_zero, Int.mul_one] at e2
  subst e2
  exact ⟨_, e, c, rfl⟩
theorem law_power_ok (a : Int) (ha : smallB a = true) (k : Nat) (hk : k < 4611686018427387904) (st : Store) : f__law_power [.int a, .int (k : Nat)] st = .ok (.int (a ^ k)) st := by
  obtain ⟨ρ', e, c, rfl⟩ := lp1 a ha k st
  refine mkFn_ok0 ?_ rfl
  refine (sSeq_nx (sSet_ok rfl)).trans ((sSeq_nx ((sFor_ok (iRng_nat (n := k) rfl hk)).trans e)).trans (sRet_ok rfl))
/-! ### the tables, plainly -/
def piv (n b : Nat) : List Nat := (List.range' 0 n).filter fun i => b / 2 ^ i % 2 == 1
def fre (n : Nat) (p : List Nat) (i : Nat) : Nat := ((List.range' i (n - i)).filter fun j => !decide (j ∈ p)).length
def frees (n : Nat) (p : List Nat) (s : Nat) (ats : List Nat) : Nat := ats.foldl (fun s i => s + fre n p i) s
def tabs (n : Nat) (k q : Int) (t : Int) (bs : List Nat) : Int := bs.foldl (fun t b => if ((piv n b).length : Int) = k then t + q ^ frees n (piv n b) 0 (piv n b) else t) t
theorem pivots_ok {n b : Nat} (hn : n < 60) {ρ : Sl} {st : Store} (h0 : (wipeP ρ [8])[0]? = some (some (.int (n : Nat)))) (h4 : (wipeP ρ [8])[4]? = some (some (.int (b : Nat)))) (hl : ρ.length = 9) :
    (dFrz (lComp (iRng (dVar 0)) (.n 8) (dB (dOp2 oEq (dOp2 (opInt fMod) (dOp2 (opInt fDiv) (dVar 4) (dCall 2 f__law_power (aCons (dC (.int 2)) (aCons (dVar 8) aNil)))) (dC (.int 2))) (dC (.int 1)))) (dVar 8) [8])) ρ st = .ok (.lst (pns (piv n b))) st := by
  have hw : (wipeP ρ [8]).length = 9 := by simpa [wipeP] using hl
  have h0' : ρ[0]? = some (some (.int (n : Nat))) := by
    simp only [wipeP] at h0
    rw [List.getElem?_set_ne (by decide)] at h0
    exact h0
  unfold dFrz
  rw [comp_ok (xs := pns (List.range' 0 n)) (fun x => match x with | .int i => (b : Int) / 2 ^ i.toNat % 2 == 1 | _ => false) (fun x => x) ((iRng_nat h0' (by omega)).trans rfl) ?_ ?_ ?_ ?_]
  · rw [filter_pns (p := fun i => b / 2 ^ i % 2 == 1), map_id_pns]
    · rfl
    · intro i _
      show ((b : Int) / 2 ^ i % 2 == 1) = _
      rw [show (b : Int) / 2 ^ i % 2 = ((b / 2 ^ i % 2 : Nat) : Int) from by simp]
      by_cases h : b / 2 ^ i % 2 = 1
      · rw [h]; rfl
      · rw [beq_eq_false_iff_ne.mpr h, beq_eq_false_iff_ne.mpr (by omega)]
  · intro x hx st'
    obtain ⟨i, hi, rfl⟩ := mem_pns hx
    have hi2 : i < n := by simpa using hi
    have e4 : ((wipeP ρ [8]).set 8 (some (.int (i : Nat))))[4]? = some (some (.int (b : Nat))) := by rw [List.getElem?_set_ne (by decide)]; exact h4
    have e8 : ((wipeP ρ [8]).set 8 (some (.int (i : Nat))))[8]? = some (some (.int (i : Nat))) := List.getElem?_set_self (by omega)
    have d4 : dVar 4 ((wipeP ρ [8]).set 8 (some (.int (i : Nat)))) st' = .ok (.int (b : Nat)) st' := by unfold dVar; rw [e4]; rfl
    have d8 : dVar 8 ((wipeP ρ [8]).set 8 (some (.int (i : Nat)))) st' = .ok (.int (i : Nat)) st' := by unfold dVar; rw [e8]; rfl
    have hp0 : (0 : Int) < 2 ^ i := Int.pow_pos (by decide)
    have f1 := (dCall_ok (np := 2) (f := f__law_power) (a2_ok (dC_ok (.int 2) _ _) d8) rfl).trans (law_power_ok 2 (by decide) i (by omega) st')
    have f2 := dOp2_ok d4 f1 (op_div (i := (b : Nat)) hp0 (pow2_lt (by omega)) st')
    have f3 := dOp2_ok f2 (dC_ok (.int 2) _ _) (op_mod (by decide) st')
    exact dB_ok (dOp2_ok f3 (dC_ok (.int 1) _ _) ((eq_int _ _ _).trans rfl))
  · intro x hx _ st'
    unfold dVar
    rw [List.getElem?_set_self (by omega)]
    obtain ⟨i, hi, rfl⟩ := mem_pns hx
    rfl
  · intro x hx
    obtain ⟨i, hi, rfl⟩ := mem_pns hx
    rfl
  · rw [pns_len]; simp; omega
theorem rgP_nat (i m : Nat) : rgP (i : Nat) m = pns (List.range' i m) := by
  unfold rgP pns
  rw [List.range'_eq_map_range, List.map_map]
  exact List.map_congr_left fun a _ => by show PV.int _ = PV.int _; simp
theorem fre_ok {n i : Nat} {p : List Nat} (hn : n < 60) (hi : i ≤ n) {a b c d : Option PV} {f : Int} {x : Option PV} {st : Store} :
    sSet 6 (dOp2 oAdd (dVar 6) (dFn cLen (aCons (dFrz (lComp (Wi.iRng2 (aCons (dVar 7) (aCons (dVar 0) aNil))) (.n 8) (dB (dOp2 (oIn true) (dVar 8) (dVar 5))) (dVar 8) [8])) aNil)))
      [some (.int (n : Nat)), a, b, c, d, some (.lst (pns p)), some (.int f), some (.int (i : Nat)), x] st = .nx [some (.int (n : Nat)), a, b, c, d, some (.lst (pns p)), some (.int (f + (fre n p i : Nat))), some (.int (i : Nat)), x] st := by
  have e1 := comp_ok (i := Wi.iRng2 (aCons (dVar 7) (aCons (dVar 0) aNil))) (n := 8) (c := dB (dOp2 (oIn true) (dVar 8) (dVar 5))) (e := dVar 8) (own := [8]) (st := st)
    (ρ := [some (.int (n : Nat)), a, b, c, d, some (.lst (pns p)), some (.int f), some (.int (i : Nat)), x]) (xs := pns (List.range' i (n - i)))
    (fun x => match x with | .int j => !decide (j.toNat ∈ p) | _ => false) (fun x => x)
    ((iRng2_ok (a2_ok (dVar_ok rfl rfl) (dVar_ok rfl rfl)) (midB_nat (by omega)) (midB_nat (by omega))).trans (by rw [show ((n : Int) - (i : Int)).toNat = n - i from by omega, rgP_nat]))
    (fun x hx st' => by
      obtain ⟨j, hj, rfl⟩ := mem_pns hx
      exact dB_ok (dOp2_ok (dVar_ok rfl rfl) (dVar_ok rfl rfl) (in_ints true j p st')))
    (fun x hx _ st' => by
      obtain ⟨j, hj, rfl⟩ := mem_pns hx
      exact dVar_ok rfl rfl)
    (fun x hx => by
      obtain ⟨j, hj, rfl⟩ := mem_pns hx
      rfl) (by rw [pns_len]; simp; omega)
  rw [map_id_pns_of (filter_pns _ (fun j => !decide (j ∈ p)) _ fun j _ => rfl)] at e1
  refine (sSet_ok (dOp2_ok (dVar_ok rfl rfl) (dFn_ok (a1_ok (dFrz_ok e1)) (len_lst _ st)) rfl)).trans ?_
  rw [pns_len]
  rfl
theorem fres_ok {n : Nat} {p : List Nat} (hn : n < 60) {a b c d : Option PV} {x : Option PV} {st : Store} : ∀ (ats : List Nat) (f : Nat) (y : Option PV), (∀ i ∈ ats, i ≤ n) →
    ∃ y', forL (gN 7) (sSet 6 (dOp2 oAdd (dVar 6) (dFn cLen (aCons (dFrz (lComp (Wi.iRng2 (aCons (dVar 7) (aCons (dVar 0) aNil))) (.n 8) (dB (dOp2 (oIn true) (dVar 8) (dVar 5))) (dVar 8) [8])) aNil))))
      (pns ats) [some (.int (n : Nat)), a, b, c, d, some (.lst (pns p)), some (.int (f : Nat)), y, x] st = .nx [some (.int (n : Nat)), a, b, c, d, some (.lst (pns p)), some (.int (frees n p f ats : Nat)), y', x] st
  | [], f, y, _ => ⟨y, rfl⟩
  | i :: ats, f, y, h => by
    obtain ⟨y', e⟩ := fres_ok hn (a := a) (b := b) (c := c) (d := d) (x := x) (p := p) (st := st) ats (f + fre n p i) (some (.int (i : Nat))) (fun j hj => h j (List.mem_cons_of_mem _ hj))
    refine ⟨y', ?_⟩
    have e1 := fre_ok (p := p) (a := a) (b := b) (c := c) (d := d) (f := f) (x := x) (st := st) hn (h i List.mem_cons_self)
    rw [show ((f : Int) + (fre n p i : Nat)) = ((f + fre n p i : Nat) : Int) from by simp] at e1
    show forL (gN 7) _ (PV.int (i : Nat) :: pns ats) [some (.int (n : Nat)), a, b, c, d, some (.lst (pns p)), some (.int (f : Nat)), y, x] st = _
    rw [for_one (i := 7) (ρ := [some (.int (n : Nat)), a, b, c, d, some (.lst (pns p)), some (.int (f : Nat)), y, x]) (x := .int (i : Nat)) e1]
    exact e
theorem fre_le (n : Nat) (p : List Nat) (i : Nat) : fre n p i ≤ n := by
  unfold fre
  refine Nat.le_trans (List.length_filter_le _ _) ?_
  simp
theorem frees_le (n : Nat) (p : List Nat) : ∀ (ats : List Nat) (s : Nat), frees n p s ats ≤ s + n * ats.length
  | [], s => by simp [frees]
  | i :: ats, s => by
    have h1 := frees_le n p ats (s + fre n p i)
    have h2 := fre_le n p i
    show frees n p (s + fre n p i) ats ≤ _
    rw [List.length_cons, Nat.mul_succ]
    omega
theorem frees_lt {n : Nat} (hn : n < 60) (b : Nat) : frees n (piv n b) 0 (piv n b) < 4611686018427387904 := by
  have h1 := frees_le n (piv n b) (piv n b) 0
  have h2 : (piv n b).length ≤ n := Nat.le_trans (List.length_filter_le _ _) (by simp)
  have h3 : n * (piv n b).length ≤ 60 * 60 := Nat.mul_le_mul (by omega) (by omega)
  omega
theorem tabs_ok {n : Nat} {k q : Int} (hn : n < 60) (hq : smallB q = true) {st : Store} : ∀ (bs : List Nat) (t : Int) (x4 x5 x6 x7 x8 : Option PV),
    ∃ y4 y5 y6 y7 y8, forL (gN 4) (sSeq (sSet 5 (dFrz (lComp (iRng (dVar 0)) (.n 8) (dB (dOp2 oEq (dOp2 (opInt fMod) (dOp2 (opInt fDiv) (dVar 4) (dCall 2 f__law_power (aCons (dC (.int 2)) (aCons (dVar 8) aNil)))) (dC (.int 2))) (dC (.int 1)))) (dVar 8) [8])))
 (sIf (dB (dOp2 oEq (dFn cLen (aCons (dVar 5) aNil)) (dVar 1)))
 (sSeq (sSet 6 (dC (.int 0)))
 (sSeq (sFor (iSeq (dVar 5)) (gN 7)
 (sSet 6 (dOp2 oAdd (dVar 6) (dFn cLen (aCons (dFrz (lComp (Wi.iRng2 (aCons (dVar 7) (aCons (dVar 0) aNil))) (.n 8) (dB (dOp2 (oIn true) (dVar 8) (dVar 5))) (dVar 8) [8])) aNil)))))
 (sSet 3 (dOp2 oAdd (dVar 3) (dCall 2 f__law_power (aCons (dVar 2) (aCons (dVar 6) aNil)))))))
 sSkip)) (pns bs) [some (.int (n : Nat)), some (.int k), some (.int q), some (.int t), x4, x5, x6, x7, x8] st = .nx [some (.int (n : Nat)), some (.int k), some (.int q), some (.int (tabs n k q t bs)), y4, y5, y6, y7, y8] st
  | [], t, x4, x5, x6, x7, x8 => ⟨x4, x5, x6, x7, x8, rfl⟩
  | b :: bs, t, x4, x5, x6, x7, x8 => by
    have e1 := sSeq_nx (b := (sIf (dB (dOp2 oEq (dFn cLen (aCons (dVar 5) aNil)) (dVar 1)))
 (sSeq (sSet 6 (dC (.int 0)))
 (sSeq (sFor (iSeq (dVar 5)) (gN 7)
 (sSet 6 (dOp2 oAdd (dVar 6) (dFn cLen (aCons (dFrz (lComp (Wi.iRng2 (aCons (dVar 7) (aCons (dVar 0) aNil))) (.n 8) (dB (dOp2 (oIn true) (dVar 8) (dVar 5))) (dVar 8) [8])) aNil)))))
 (sSet 3 (dOp2 oAdd (dVar 3) (dCall 2 f__law_power (aCons (dVar 2) (aCons (dVar 6) aNil)))))))
 sSkip)) (sSet_ok (i := 5) (pivots_ok (n := n) (b := b) (st := st) (ρ := [some (.int (n : Nat)), some (.int k), some (.int q), some (.int t), some (.int (b : Nat)), x5, x6, x7, x8]) hn rfl rfl rfl))
    have c1 : dB (dOp2 oEq (dFn cLen (aCons (dVar 5) aNil)) (dVar 1)) [some (.int (n : Nat)), some (.int k), some (.int q), some (.int t), some (.int (b : Nat)), some (.lst (pns (piv n b))), x6, x7, x8] st = .ok (decide (((piv n b).length : Int) = k)) st :=
      dB_ok (dOp2_ok (dFn_ok (a1_ok (dVar_ok rfl rfl)) (len_lst _ st)) (dVar_ok rfl rfl) ((eq_int _ _ _).trans (by rw [pns_len])))
    by_cases hc : ((piv n b).length : Int) = k
    · obtain ⟨y7, e2⟩ := fres_ok hn (a := some (.int k)) (b := some (.int q)) (c := some (.int t)) (d := some (.int (b : Nat))) (x := x8) (p := piv n b) (st := st) (piv n b) 0 x7 (fun i hi => by have := (List.mem_filter.mp hi).1; simp at this; omega)
      have hf : frees n (piv n b) 0 (piv n b) < 4611686018427387904 := frees_lt hn _
      have e3 : sSet 3 (dOp2 oAdd (dVar 3) (dCall 2 f__law_power (aCons (dVar 2) (aCons (dVar 6) aNil)))) [some (.int (n : Nat)), some (.int k), some (.int q), some (.int t), some (.int (b : Nat)), some (.lst (pns (piv n b))), some (.int (frees n (piv n b) 0 (piv n b) : Nat)), y7, x8] st = .nx _ st :=
        sSet_ok (dOp2_ok (dVar_ok rfl rfl) ((dCall_ok (np := 2) (f := f__law_power) (a2_ok (dVar_ok rfl rfl) (dVar_ok rfl rfl)) rfl).trans (law_power_ok q hq _ hf st)) (show oAdd _ _ st = .ok (.int _) st from rfl))
      obtain ⟨y4, y5, y6, y7', y8, e4⟩ := tabs_ok hn hq (k := k) (st := st) bs (t + q ^ frees n (piv n b) 0 (piv n b)) (some (.int (b : Nat))) (some (.lst (pns (piv n b)))) (some (.int (frees n (piv n b) 0 (piv n b) : Nat))) y7 x8
      refine ⟨y4, y5, y6, y7', y8, ?_⟩
      show forL (gN 4) _ (PV.int (b : Nat) :: pns bs) _ st = _
      rw [for_one (i := 4) (ρ := [some (.int (n : Nat)), some (.int k), some (.int q), some (.int t), x4, x5, x6, x7, x8]) (x := .int (b : Nat)) (e1.trans ((sIf_ok c1).trans ((if_pos (decide_eq_true hc)).trans
        ((sSeq_nx (sSet_ok (dC_ok _ _ _))).trans ((sSeq_nx ((sFor_ok (iSeq_ok (dVar_ok rfl rfl))).trans e2)).trans e3)))))]
      rw [show tabs n k q t (b :: bs) = tabs n k q (t + q ^ frees n (piv n b) 0 (piv n b)) bs from by unfold tabs; rw [List.foldl_cons, if_pos hc]]
      exact e4
    · obtain ⟨y4, y5, y6, y7', y8, e4⟩ := tabs_ok hn hq (k := k) (st := st) bs t (some (.int (b : Nat))) (some (.lst (pns (piv n b)))) x6 x7 x8
      refine ⟨y4, y5, y6, y7', y8, ?_⟩
      show forL (gN 4) _ (PV.int (b : Nat) :: pns bs) _ st = _
      rw [for_one (i := 4) (ρ := [some (.int (n : Nat)), some (.int k), some (.int q), some (.int t), x4, x5, x6, x7, x8]) (x := .int (b : Nat)) (e1.trans ((sIf_ok c1).trans ((if_neg (by rw [decide_eq_false hc]; decide)).trans rfl)))]
      rw [show tabs n k q t (b :: bs) = tabs n k q t bs from by unfold tabs; rw [List.foldl_cons, if_neg hc]]
      exact e4
theorem law_tables_ok {n : Nat} {k q : Int} (hn : n < 60) (hq : smallB q = true) (st : Store) : f__law_tables [.int (n : Nat), .int k, .int q] st = .ok (.int (tabs n k q 0 (List.range' 0 (2 ^ n)))) st := by
  obtain ⟨y4, y5, y6, y7, y8, e⟩ := tabs_ok (k := k) (st := st) hn hq (List.range' 0 (2 ^ n)) 0 none none none none none
  refine mkFn_ok0 ?_ rfl
  have hp : ((2 ^ n : Nat) : Int) = (2 : Int) ^ n := by simp
  have hlt := pow2_lt hn
  have e1 : iRng (dCall 2 f__law_power (aCons (dC (.int 2)) (aCons (dVar 0) aNil))) [some (.int (n : Nat)), some (.int k), some (.int q), some (.int 0), none, none, none, none, none] st = .ok (pns (List.range' 0 (2 ^ n))) st := by
    refine (iRng_ok ((dCall_ok (np := 2) (f := f__law_power) (a2_ok (dC_ok _ _ _) (dVar_ok rfl rfl)) rfl).trans (law_power_ok 2 (by decide) n (by omega) st)) ?_).trans ?_
    · rw [← hp]; exact midB_nat (by omega)
    · rw [← hp, Int.toNat_natCast, rgP_up]; rfl
  refine (sSeq_nx (sSet_ok (dC_ok _ _ _))).trans ((sSeq_nx ((sFor_ok e1).trans e)).trans (sRet_ok (dVar_ok rfl rfl)))
end Wi

namespace Wi
open PySem L2
abbrev cPow : DenT := dB (dOp2 (opInt fGt) (dVar 1) (dC (.int 0)))
abbrev bPow : DenS :=
 (sSeq (sIf (dB (dOp2 oEq (dOp2 (opInt fMod) (dVar 1) (dC (.int 2))) (dC (.int 1))))
 (sSet 2 (dOp2 (opInt fMul) (dVar 2) (dVar 0)))
 sSkip)
 (sSeq (sSet 0 (dOp2 (opInt fMul) (dVar 0) (dVar 0)))
 (sSet 1 (dOp2 (opInt fDiv) (dVar 1) (dC (.int 2))))))
theorem pow_half (a : Int) (k : Nat) : (a * a) ^ (k / 2) = a ^ (2 * (k / 2)) := by
  generalize k / 2 = n
  induction n with
  | zero => simp
  | succ n ih => rw [Int.pow_succ, ih, Nat.mul_succ, Int.pow_add]; congr 1; rw [Int.pow_succ, Int.pow_succ, Int.pow_zero, Int.one_mul]
theorem power_turn {st : Store} (F C : Nat) (hC : C < 400000) : ∀ (N : Nat) (k : Nat) (r a : Int) (R m : Nat), k < 2 ^ N → r.natAbs ≤ 2 ^ R → a.natAbs ≤ 2 ^ m → R + m * k ≤ C →
    ∃ a', whileL cPow bPow (N + F + 1) [some (.int a), some (.int (k : Nat)), some (.int r)] st = .nx [some (.int a'), some (.int 0), some (.int (r * a ^ k))] st := by
  have stop : ∀ (M : Nat) (r a : Int), ∃ a', whileL cPow bPow (M + 1) [some (.int a), some (.int ((0 : Nat) : Int)), some (.int r)] st = .nx [some (.int a'), some (.int 0), some (.int (r * a ^ 0))] st := fun M r a =>
    ⟨a, (while_end (dB_ok rfl)).trans (by rw [Int.pow_zero, Int.mul_one]; rfl)⟩
  intro N
  induction N with
  | zero =>
    intro k r a R m hk _ _ _
    obtain rfl : k = 0 := by simpa using hk
    exact stop _ r a
  | succ N ih =>
    intro k r a R m hk hr ha hc
    by_cases k0 : k = 0
    · subst k0
      exact stop _ r a
    · have hk2 : k / 2 < 2 ^ N := by rw [Nat.pow_succ] at hk; omega
      have hm : m ≤ m * k := Nat.le_mul_of_pos_right _ (by omega)
      have haa : (a * a).natAbs ≤ 2 ^ (m + m) := by rw [Int.natAbs_mul, Nat.pow_add]; exact Nat.mul_le_mul ha ha
      have hdm : k = 2 * (k / 2) + k % 2 := by omega
      have c0 : dB (dOp2 (opInt fGt) (dVar 1) (dC (.int 0))) [some (.int a), some (.int (k : Nat)), some (.int r)] st = .ok true st :=
        dB_ok (dOp2_ok (dVar_ok rfl rfl) (dC_ok _ _ _) (by show Res.ok (PV.bl (decide ((k : Int) > 0))) st = _; rw [decide_eq_true (by omega)]))
      have s2 : ∀ r' : Int, sSeq (sSet 0 (dOp2 (opInt fMul) (dVar 0) (dVar 0))) (sSet 1 (dOp2 (opInt fDiv) (dVar 1) (dC (.int 2)))) [some (.int a), some (.int (k : Nat)), some (.int r')] st = .nx [some (.int (a * a)), some (.int ((k / 2 : Nat) : Int)), some (.int r')] st := fun r' =>
        (sSeq_nx (sSet_ok (dOp2_ok (dVar_ok rfl rfl) (dVar_ok rfl rfl) (op_mul_w ha ha (by omega) st)))).trans (sSet_ok (dOp2_ok (dVar_ok rfl rfl) (dC_ok _ _ _) (op_div (by decide) (by decide) st)))
      have c1 : dB (dOp2 oEq (dOp2 (opInt fMod) (dVar 1) (dC (.int 2))) (dC (.int 1))) [some (.int a), some (.int (k : Nat)), some (.int r)] st = .ok (decide ((k : Int) % 2 = 1)) st :=
        dB_ok (dOp2_ok (dOp2_ok (dVar_ok rfl rfl) (dC_ok _ _ _) (op_mod (by decide) st)) (dC_ok _ _ _) (eq_int _ _ _))
      have h2 : m * k = (m + m) * (k / 2) + m * (k % 2) := by
        rw [Nat.add_mul, ← Nat.mul_add, ← Nat.mul_add]
        congr 1
        omega
      by_cases od : (k : Int) % 2 = 1
      · have od' : k % 2 = 1 := by omega
        have hra : (r * a).natAbs ≤ 2 ^ (R + m) := by rw [Int.natAbs_mul, Nat.pow_add]; exact Nat.mul_le_mul hr ha
        rw [od'] at h2
        obtain ⟨a', e⟩ := ih (k / 2) (r * a) (a * a) (R + m) (m + m) hk2 hra haa (by omega)
        refine ⟨a', ?_⟩
        rw [show N + 1 + F + 1 = (N + F + 1) + 1 from by omega, while_go (c := cPow) (b := bPow) c0 ((sSeq_nx ((sIf_ok c1).trans ((if_pos (decide_eq_true od)).trans (sSet_ok (dOp2_ok (dVar_ok rfl rfl) (dVar_ok rfl rfl) (op_mul_w hr ha (by omega) st)))))).trans (s2 (r * a)))]
        rw [e, pow_half, Int.mul_assoc, ← Int.pow_succ', show 2 * (k / 2) + 1 = k from by omega]
      · have od' : k % 2 = 0 := by omega
        rw [od'] at h2
        obtain ⟨a', e⟩ := ih (k / 2) r (a * a) R (m + m) hk2 hr haa (by omega)
        refine ⟨a', ?_⟩
        rw [show N + 1 + F + 1 = (N + F + 1) + 1 from by omega, while_go (c := cPow) (b := bPow) c0 ((sSeq_nx ((sIf_ok c1).trans ((if_neg (by rw [decide_eq_false od]; decide)).trans rfl))).trans (s2 r))]
        rw [e, pow_half, show 2 * (k / 2) = k from by omega]
theorem power_ok {a : Int} {k : Nat} (m : Nat) (ha : a.natAbs ≤ 2 ^ m) (hk : m * k < 400000) (hk2 : k < 1024) (st : Store) : f_power [.int a, .int (k : Nat)] st = .ok (.int (a ^ k)) st := by
  obtain ⟨a', e⟩ := power_turn (st := st) (99999 - 10) (m * k) hk 10 k 1 a 0 m hk2 (by decide) ha (by omega)
  refine mkFn_ok0 ?_ rfl
  rw [← sWhile_at 10 (by decide)] at e
  rw [Int.one_mul] at e
  exact (sSeq_nx (sSet_ok (dC_ok _ _ _))).trans ((sSeq_nx e).trans (sRet_ok (dVar_ok rfl rfl)))
/-! ### gauss, plainly -/
theorem ipow1 (q : Int) : q ^ 1 = q := by rw [Int.pow_succ, Int.pow_zero, Int.one_mul]
theorem pw_pos {q : Int} (h : 2 ≤ q) (n : Nat) : 0 < q ^ n := Int.pow_pos (by omega)
theorem pw_le {q : Int} (h : 2 ≤ q) {i n : Nat} (hi : i ≤ n) : q ^ i ≤ q ^ n := by
  obtain ⟨d, rfl⟩ := Nat.exists_eq_add_of_le hi
  rw [Int.pow_add]
  have := Int.mul_le_mul_of_nonneg_left (show 1 ≤ q ^ d from pw_pos h d) (Int.le_of_lt (pw_pos h i))
  rwa [Int.mul_one] at this
theorem pw_two {q : Int} (h : 2 ≤ q) : ∀ n : Nat, (n : Int) < q ^ n
  | 0 => by simp
  | n + 1 => by
    have := pw_two h n
    rw [Int.pow_succ]
    have := Int.mul_le_mul_of_nonneg_left h (Int.le_of_lt (pw_pos h n))
    have := pw_pos h n
    omega
theorem pw_one {q : Int} (h : 2 ≤ q) {n : Nat} (hn : 0 < n) : 1 < q ^ n := by
  have := pw_two h n
  have := pw_le h (show 1 ≤ n from hn)
  rw [ipow1] at this
  omega
structure Qn (q : Int) (n : Nat) : Prop where
  two : 2 ≤ q
  lim : q ^ n < 1073741824 * 1073741824
  n60 : n < 60
theorem Qn.qlt {q : Int} {n : Nat} (h : Qn q n) (hn : 0 < n) : q < 1073741824 * 1073741824 := by
  have := pw_le h.two (show 1 ≤ n from hn)
  rw [ipow1] at this
  have := h.lim
  omega
theorem Qn.power {q : Int} {n i : Nat} (h : Qn q n) (hi : i ≤ n) (st : Store) : f_power [.int q, .int (i : Nat)] st = .ok (.int (q ^ i)) st := by
  by_cases h0 : n = 0
  · subst h0
    obtain rfl : i = 0 := by omega
    refine power_ok (q.natAbs) (Nat.le_of_lt Nat.lt_two_pow_self) (by rw [Nat.mul_zero]; decide) (by decide) st
  · have := h.qlt (by omega)
    have := h.two
    have := h.n60
    have e : (2 : Nat) ^ 60 = 1073741824 * 1073741824 := by decide
    exact power_ok 60 (by rw [e]; omega) (by omega) (by omega) st
theorem Qn.lp {q : Int} {n i : Nat} (h : Qn q n) (hi : i ≤ n) (hq : smallB q = true) (st : Store) : f__law_power [.int q, .int (i : Nat)] st = .ok (.int (q ^ i)) st :=
  law_power_ok q hq i (by have := h.n60; omega) st
def gaus (n : Nat) (q r : Int) (is : List Nat) : Int := is.foldl (fun r i => r * (q ^ (n - i + 1) - 1) / (q ^ i - 1)) r
def gau (n : Nat) (k q : Int) : Int := if k < 0 ∨ (n : Int) < k then 0 else gaus n q 1 (List.range' 1 k.toNat)
theorem gaus_ok {n : Nat} {k q : Int} (h : Qn q n) {st : Store} : ∀ (is : List Nat) (r : Int) (x : Option PV), (∀ i ∈ is, 1 ≤ i ∧ i ≤ n) →
    ∃ x', forL (gN 4) (sSet 3 (dOp2 (opInt fDiv) (dOp2 (opInt fMul) (dVar 3) (dOp2 (opInt fSub) (dCall 2 f_power (aCons (dVar 2) (aCons (dOp2 oAdd (dOp2 (opInt fSub) (dVar 0) (dVar 4)) (dC (.int 1))) aNil))) (dC (.int 1)))) (dOp2 (opInt fSub) (dCall 2 f_power (aCons (dVar 2) (aCons (dVar 4) aNil))) (dC (.int 1)))))
      (pns is) [some (.int (n : Nat)), some (.int k), some (.int q), some (.int r), x] st = .nx [some (.int (n : Nat)), some (.int k), some (.int q), some (.int (gaus n q r is)), x'] st
  | [], r, x, _ => ⟨x, rfl⟩
  | i :: is, r, x, hi => by
    obtain ⟨h1, h2⟩ := hi i List.mem_cons_self
    obtain ⟨x', e⟩ := gaus_ok h (k := k) (st := st) is (r * (q ^ (n - i + 1) - 1) / (q ^ i - 1)) (some (.int (i : Nat))) (fun j hj => hi j (List.mem_cons_of_mem _ hj))
    refine ⟨x', ?_⟩
    have q1 := pw_one h.two (show 0 < i from h1)
    have q2 := pw_le h.two h2
    have q3 := pw_le h.two (show n - i + 1 ≤ n from by omega)
    have q4 := pw_one h.two (show 0 < n - i + 1 from by omega)
    have q5 := h.lim
    have ev : oAdd (.int ((n : Int) - (i : Int))) (.int 1) st = .ok (.int ((n - i + 1 : Nat) : Int)) st := by
      show Res.ok (PV.int ((n : Int) - (i : Int) + 1)) st = _
      rw [show ((n - i + 1 : Nat) : Int) = (n : Int) - (i : Int) + 1 from by omega]
    have p1 := (dCall_ok (np := 2) (f := f_power) (a2_ok (dVar_ok (i := 2) (ρ := [some (.int (n : Nat)), some (.int k), some (.int q), some (.int r), some (.int (i : Nat))]) (st := st) rfl rfl) (dOp2_ok (dOp2_ok (dVar_ok (i := 0) rfl rfl) (dVar_ok (i := 4) rfl rfl) (show opInt fSub (.int (n : Nat)) (.int (i : Nat)) st = _ from rfl)) (dC_ok (.int 1) _ _) ev)) rfl).trans (h.power (show n - i + 1 ≤ n from by omega) st)
    have p2 := (dCall_ok (np := 2) (f := f_power) (a2_ok (dVar_ok (i := 2) (ρ := [some (.int (n : Nat)), some (.int k), some (.int q), some (.int r), some (.int (i : Nat))]) (st := st) rfl rfl) (dVar_ok (i := 4) rfl rfl)) rfl).trans (h.power h2 st)
    have p3 := dOp2_ok (dOp2_ok (dVar_ok (i := 3) rfl rfl) (dOp2_ok p1 (dC_ok (.int 1) _ _) (show opInt fSub (.int _) (.int 1) st = _ from rfl)) (op_mul_r (small_of (by omega) (by omega)) r st)) (dOp2_ok p2 (dC_ok (.int 1) _ _) (show opInt fSub (.int _) (.int 1) st = _ from rfl)) (op_div (by omega) (by omega) st)
    show forL (gN 4) _ (PV.int (i : Nat) :: pns is) [some (.int (n : Nat)), some (.int k), some (.int q), some (.int r), x] st = _
    rw [for_one (i := 4) (ρ := [some (.int (n : Nat)), some (.int k), some (.int q), some (.int r), x]) (x := .int (i : Nat)) (sSet_ok (i := 3) p3)]
    exact e
theorem gauss_ok {n : Nat} {k q : Int} (h : Qn q n) (st : Store) : f_gauss [.int (n : Nat), .int k, .int q] st = .ok (.int (gau n k q)) st := by
  refine mkFn_ok0 ?_ rfl
  have c0 : tOrD (dB (dOp2 (opInt fLt) (dVar 1) (dC (.int 0)))) (dB (dOp2 (opInt fGt) (dVar 1) (dVar 0))) [some (.int (n : Nat)), some (.int k), some (.int q), none, none] st = .ok (decide (k < 0) || decide ((n : Int) < k)) st := by
    show (if decide (k < 0) = true then _ else _) = _
    by_cases c : k < 0
    · rw [if_pos (decide_eq_true c), decide_eq_true c]; rfl
    · rw [if_neg (by rw [decide_eq_false c]; decide), decide_eq_false c]; rfl
  by_cases c : k < 0 ∨ (n : Int) < k
  · rw [show gau n k q = 0 from if_pos c]
    exact sSeq_rt ((sIf_ok c0).trans ((if_pos (by simpa using c)).trans (sRet_ok (dC_ok _ _ _))))
  · have hk : 0 ≤ k ∧ k ≤ n := by omega
    rw [show gau n k q = gaus n q 1 (List.range' 1 k.toNat) from if_neg c]
    obtain ⟨x', e⟩ := gaus_ok h (k := k) (st := st) (List.range' 1 k.toNat) 1 none (fun i hi => by simp at hi; omega)
    have q5 := h.n60
    have i0 : Wi.iRng2 (aCons (dC (.int 1)) (aCons (dOp2 oAdd (dVar 1) (dC (.int 1))) aNil)) [some (.int (n : Nat)), some (.int k), some (.int q), some (.int 1), none] st = .ok (pns (List.range' 1 k.toNat)) st := by
      refine (iRng2_ok (i := 1) (j := k + 1) (a2_ok (dC_ok _ _ _) (dOp2_ok (dVar_ok rfl rfl) (dC_ok _ _ _) rfl)) (by decide) (by rw [show k + 1 = ((k.toNat + 1 : Nat) : Int) from by omega]; exact midB_nat (by omega))).trans ?_
      rw [show (k + 1 - 1).toNat = k.toNat from by omega]
      exact congrArg (fun z => Res.ok z st) (rgP_nat 1 k.toNat)
    exact (sSeq_nx ((sIf_ok c0).trans ((if_neg (by simpa using c)).trans rfl))).trans ((sSeq_nx (sSet_ok (dC_ok _ _ _))).trans ((sSeq_nx ((sFor_ok i0).trans e)).trans (sRet_ok (dVar_ok rfl rfl))))
def invs (n : Nat) (q r : Int) (is : List Nat) : Int := is.foldl (fun r i => r * (q ^ n - q ^ i)) r
theorem invs_ok {n : Nat} {q : Int} (h : Qn q n) {st : Store} : ∀ (is : List Nat) (r : Int) (x : Option PV), (∀ i ∈ is, i < n) →
    ∃ x', forL (gN 4) (sSet 3 (dOp2 (opInt fMul) (dVar 3) (dOp2 (opInt fSub) (dVar 2) (dCall 2 f_power (aCons (dVar 1) (aCons (dVar 4) aNil))))))
      (pns is) [some (.int (n : Nat)), some (.int q), some (.int (q ^ n)), some (.int r), x] st = .nx [some (.int (n : Nat)), some (.int q), some (.int (q ^ n)), some (.int (invs n q r is)), x'] st
  | [], r, x, _ => ⟨x, rfl⟩
  | i :: is, r, x, hi => by
    have h2 := hi i List.mem_cons_self
    obtain ⟨x', e⟩ := invs_ok h (st := st) is (r * (q ^ n - q ^ i)) (some (.int (i : Nat))) (fun j hj => hi j (List.mem_cons_of_mem _ hj))
    refine ⟨x', ?_⟩
    have q2 := pw_le h.two (Nat.le_of_lt h2)
    have q3 := pw_pos h.two i
    have q5 := h.lim
    have p2 := (dCall_ok (np := 2) (f := f_power) (a2_ok (dVar_ok (i := 1) (ρ := [some (.int (n : Nat)), some (.int q), some (.int (q ^ n)), some (.int r), some (.int (i : Nat))]) (st := st) rfl rfl) (dVar_ok (i := 4) rfl rfl)) rfl).trans (h.power (Nat.le_of_lt h2) st)
    have p3 := dOp2_ok (dVar_ok (i := 3) rfl rfl) (dOp2_ok (dVar_ok (i := 2) rfl rfl) p2 (show opInt fSub (.int _) (.int _) st = _ from rfl)) (op_mul_r (small_of (by omega) (by omega)) r st)
    show forL (gN 4) _ (PV.int (i : Nat) :: pns is) [some (.int (n : Nat)), some (.int q), some (.int (q ^ n)), some (.int r), x] st = _
    rw [for_one (i := 4) (ρ := [some (.int (n : Nat)), some (.int q), some (.int (q ^ n)), some (.int r), x]) (x := .int (i : Nat)) (sSet_ok (i := 3) p3)]
    exact e
theorem invertible_ok {n : Nat} {q : Int} (h : Qn q n) (st : Store) : f_invertible_count [.int (n : Nat), .int q] st = .ok (.int (invs n q 1 (List.range' 0 n))) st := by
  obtain ⟨x', e⟩ := invs_ok h (st := st) (List.range' 0 n) 1 none (fun i hi => by simpa using hi)
  refine mkFn_ok0 ?_ rfl
  have p2 := (dCall_ok (np := 2) (f := f_power) (a2_ok (dVar_ok (i := 1) (ρ := [some (.int (n : Nat)), some (.int q), none, none, none]) (st := st) rfl rfl) (dVar_ok (i := 0) rfl rfl)) rfl).trans (h.power (Nat.le_refl n) st)
  exact (sSeq_nx (sSet_ok p2)).trans ((sSeq_nx (sSet_ok (dC_ok _ _ _))).trans ((sSeq_nx ((sFor_ok (iRng_nat (n := n) rfl (by have := h.n60; omega))).trans e)).trans (sRet_ok (dVar_ok rfl rfl))))
end Wi

namespace K05
open PySem L2 Wi
def topS (i : Nat) : Stmt := PySem.Challenge.pw_wittspaces_k05_numbers_of_spaces.main.body.getD i (.Pass ⟨0, 0, 0, 0⟩)
abbrev s_is_integer : Stmt := topS 1
def N_is_integer : List Str := ["value"]
theorem sc_is_integer : FnScope N_is_integer ["value"] (defScope s_is_integer) := ⟨rfl, rfl, rfl, by decide +kernel, rfl, by decide +kernel, by decide +kernel⟩
theorem sd_is_integer {g : Gm} (B : Bl g) : SsD g { N := N_is_integer, sc := defScope s_is_integer, n := 0 } b_is_integer (defBody s_is_integer) :=
 (ssd_one (sd_ret (ed_and (c_isi B (by decide +kernel) (by decide +kernel) (by decide +kernel) (by decide +kernel) (ev 0 (by decide +kernel)) (fun _ => rfl)) (ed_one (ed_not (c_isi B (by decide +kernel) (by decide +kernel) (by decide +kernel) (by decide +kernel) (ev 0 (by decide +kernel)) (fun _ => rfl)))))))
abbrev s_power : Stmt := topS 2
def N_power : List Str := ["a", "k", "result"]
theorem sc_power : FnScope N_power ["a", "k"] (defScope s_power) := ⟨rfl, rfl, rfl, by decide +kernel, rfl, by decide +kernel, by decide +kernel⟩
theorem sd_power {g : Gm} (B : Bl g) : SsD g { N := N_power, sc := defScope s_power, n := 0 } b_power (defBody s_power) :=
 (ssd_cons (s_set 2 (by decide +kernel) ed_int (fun _ _ => rfl))
 (ssd_cons (sd_while (td_cmp ho_gt op2_gt rfl (ev 1 (by decide +kernel)) ed_int)
 (ssd_cons (sd_if (td_cmp ho_eq op2_eq rfl (ed_mod (ev 1 (by decide +kernel)) ed_int) ed_int)
 (ssd_one (s_set 2 (by decide +kernel) (ed_mul (ev 2 (by decide +kernel)) (ev 0 (by decide +kernel))) (fun _ _ => rfl)))
 ssd_nil)
 (ssd_cons (s_set 0 (by decide +kernel) (ed_mul (ev 0 (by decide +kernel)) (ev 0 (by decide +kernel))) (fun _ _ => rfl))
 (ssd_one (s_set 1 (by decide +kernel) (ed_div (ev 1 (by decide +kernel)) ed_int) (fun _ _ => rfl))))))
 (ssd_one (sd_ret (ev 2 (by decide +kernel))))))
abbrev s_gauss : Stmt := topS 3
def N_gauss : List Str := ["n", "k", "q", "result", "i"]
theorem sc_gauss : FnScope N_gauss ["n", "k", "q"] (defScope s_gauss) := ⟨rfl, rfl, rfl, by decide +kernel, rfl, by decide +kernel, by decide +kernel⟩
theorem sd_gauss {g : Gm} (B : Bl g) (D_power : Df g 1 "power" 2 f_power) : SsD g { N := N_gauss, sc := defScope s_gauss, n := 1 } b_gauss (defBody s_gauss) :=
 (ssd_cons (sd_if (td_bool (wd_or (td_cmp ho_lt op2_lt rfl (ev 1 (by decide +kernel)) ed_int) (wd_or1 (td_cmp ho_gt op2_gt rfl (ev 1 (by decide +kernel)) (ev 0 (by decide +kernel))))))
 (ssd_one (sd_ret ed_int))
 ssd_nil)
 (ssd_cons (s_set 3 (by decide +kernel) ed_int (fun _ _ => rfl))
 (ssd_cons (sd_for (i_rng2 B (by decide +kernel) ed_int (ed_add B.tb (ev 1 (by decide +kernel)) ed_int) (fun _ => rfl) (fun _ => rfl)) (gv 4 (by decide +kernel)) go_name
 (ssd_one (s_set 3 (by decide +kernel) (ed_div (ed_mul (ev 3 (by decide +kernel)) (ed_sub (c_call D_power (by decide +kernel) (by decide +kernel) (ad_cons (ev 2 (by decide +kernel)) (ad_cons (ed_add B.tb (ed_sub (ev 0 (by decide +kernel)) (ev 4 (by decide +kernel))) ed_int) ad_nil (fun _ => rfl)) (fun _ => rfl)) (fun _ => rfl) (fun _ => rfl)) ed_int)) (ed_sub (c_call D_power (by decide +kernel) (by decide +kernel) (ad_cons (ev 2 (by decide +kernel)) (ad_cons (ev 4 (by decide +kernel)) ad_nil (fun _ => rfl)) (fun _ => rfl)) (fun _ => rfl) (fun _ => rfl)) ed_int)) (fun _ _ => rfl))) (fun _ _ => rfl))
 (ssd_one (sd_ret (ev 3 (by decide +kernel)))))))
abbrev s_invertible_count : Stmt := topS 4
def N_invertible_count : List Str := ["n", "q", "whole", "result", "i"]
theorem sc_invertible_count : FnScope N_invertible_count ["n", "q"] (defScope s_invertible_count) := ⟨rfl, rfl, rfl, by decide +kernel, rfl, by decide +kernel, by decide +kernel⟩
theorem sd_invertible_count {g : Gm} (B : Bl g) (D_power : Df g 1 "power" 2 f_power) : SsD g { N := N_invertible_count, sc := defScope s_invertible_count, n := 1 } b_invertible_count (defBody s_invertible_count) :=
 (ssd_cons (s_set 2 (by decide +kernel) (c_call D_power (by decide +kernel) (by decide +kernel) (ad_cons (ev 1 (by decide +kernel)) (ad_cons (ev 0 (by decide +kernel)) ad_nil (fun _ => rfl)) (fun _ => rfl)) (fun _ => rfl) (fun _ => rfl)) (fun _ _ => rfl))
 (ssd_cons (s_set 3 (by decide +kernel) ed_int (fun _ _ => rfl))
 (ssd_cons (sd_for (i_rng B (by decide +kernel) (ev 0 (by decide +kernel)) (fun _ => rfl)) (gv 4 (by decide +kernel)) go_name
 (ssd_one (s_set 3 (by decide +kernel) (ed_mul (ev 3 (by decide +kernel)) (ed_sub (ev 2 (by decide +kernel)) (c_call D_power (by decide +kernel) (by decide +kernel) (ad_cons (ev 1 (by decide +kernel)) (ad_cons (ev 4 (by decide +kernel)) ad_nil (fun _ => rfl)) (fun _ => rfl)) (fun _ => rfl) (fun _ => rfl)))) (fun _ _ => rfl))) (fun _ _ => rfl))
 (ssd_one (sd_ret (ev 3 (by decide +kernel)))))))
abbrev s__law_state : Stmt := topS 6
def N__law_state : List Str := ["script", "seed", "total", "cell"]
theorem sc__law_state : FnScope N__law_state ["script"] (defScope s__law_state) := ⟨rfl, rfl, rfl, by decide +kernel, rfl, by decide +kernel, by decide +kernel⟩
theorem sd__law_state {g : Gm} (B : Bl g) : SsD g { N := N__law_state, sc := defScope s__law_state, n := 0 } b__law_state (defBody s__law_state) :=
 (ssd_cons (s_set 1 (by decide +kernel) ed_int (fun _ _ => rfl))
 (ssd_cons (s_set 2 (by decide +kernel) ed_int (fun _ _ => rfl))
 (ssd_cons (sd_for (id_seq (ed_cut B.tb (ev 0 (by decide +kernel)) pd_no (pd_some ed_int))) (gv 3 (by decide +kernel)) go_name
 (ssd_cons (s_set 1 (by decide +kernel) (ed_add B.tb (ed_mul (ev 1 (by decide +kernel)) ed_int) (c_abs B (by decide +kernel) (ev 3 (by decide +kernel)) (fun _ => rfl))) (fun _ _ => rfl))
 (ssd_one (s_set 2 (by decide +kernel) (ed_mod (c_int B (by decide +kernel) (ed_add B.tb (ed_mul (ev 2 (by decide +kernel)) ed_int) (ev 3 (by decide +kernel))) (fun _ => rfl)) ed_int) (fun _ _ => rfl)))) (fun _ _ => rfl))
 (ssd_one (sd_ret (ed_new (ld_disp B.tb (ad_cons (ev 1 (by decide +kernel)) (ad_cons (ev 2 (by decide +kernel)) ad_nil (fun _ => rfl)) (fun _ => rfl)))))))))
abbrev s__law_take : Stmt := topS 7
def N__law_take : List Str := ["state", "m", "value"]
theorem sc__law_take : FnScope N__law_take ["state", "m"] (defScope s__law_take) := ⟨rfl, rfl, rfl, by decide +kernel, rfl, by decide +kernel, by decide +kernel⟩
theorem sd__law_take {g : Gm} (B : Bl g) : SsD g { N := N__law_take, sc := defScope s__law_take, n := 0 } b__law_take (defBody s__law_take) :=
 (ssd_cons (sd_if (td_cmp ho_gt op2_gt rfl (ed_ix (fun _ _ => rfl) (ev 0 (by decide +kernel)) ed_int) ed_int)
 (ssd_cons (s_set 2 (by decide +kernel) (ed_mod (c_int B (by decide +kernel) (ed_ix (fun _ _ => rfl) (ev 0 (by decide +kernel)) ed_int) (fun _ => rfl)) (ev 1 (by decide +kernel))) (fun _ _ => rfl))
 (ssd_cons (sd_asg (ed_div (ed_ix (fun _ _ => rfl) (ev 0 (by decide +kernel)) ed_int) (ev 1 (by decide +kernel))) (gd_sub B.tb (ev 0 (by decide +kernel)) ed_int (fun _ _ => rfl)) go_sub (fun _ => rfl) (fun env h => by cases env; cases h; rfl) (fun _ => rfl))
 (ssd_one (sd_ret (ev 2 (by decide +kernel))))))
 ssd_nil)
 (ssd_cons (sd_asg (ed_mod (c_int B (by decide +kernel) (ed_add B.tb (ed_mul (ed_ix (fun _ _ => rfl) (ev 0 (by decide +kernel)) ed_int) ed_int) ed_int) (fun _ => rfl)) ed_int) (gd_sub B.tb (ev 0 (by decide +kernel)) ed_int (fun _ _ => rfl)) go_sub (fun _ => rfl) (fun env h => by cases env; cases h; rfl) (fun _ => rfl))
 (ssd_one (sd_ret (ed_mod (c_int B (by decide +kernel) (ed_div (ed_ix (fun _ _ => rfl) (ev 0 (by decide +kernel)) ed_int) ed_int) (fun _ => rfl)) (ev 1 (by decide +kernel)))))))
abbrev s__law_prime : Stmt := topS 8
def N__law_prime : List Str := ["q"]
theorem sc__law_prime : FnScope N__law_prime ["q"] (defScope s__law_prime) := ⟨rfl, rfl, rfl, by decide +kernel, rfl, by decide +kernel, by decide +kernel⟩
theorem sd__law_prime {g : Gm} (B : Bl g) : SsD g { N := N__law_prime, sc := defScope s__law_prime, n := 0 } b__law_prime (defBody s__law_prime) :=
 (ssd_one (sd_ret (ed_ix (fun _ _ => rfl) (ed_frz (ld_disp B.tb (ad_cons ed_int (ad_cons ed_int (ad_cons ed_int (ad_cons ed_int (ad_cons ed_int (ad_cons ed_int ad_nil (fun _ => rfl)) (fun _ => rfl)) (fun _ => rfl)) (fun _ => rfl)) (fun _ => rfl)) (fun _ => rfl)))) (ed_index ⟨fun _ => rfl, fun _ => rfl, rfl⟩ (ed_frz (ld_disp B.tb (ad_cons ed_int (ad_cons ed_int (ad_cons ed_int (ad_cons ed_int (ad_cons ed_int (ad_cons ed_int ad_nil (fun _ => rfl)) (fun _ => rfl)) (fun _ => rfl)) (fun _ => rfl)) (fun _ => rfl)) (fun _ => rfl)))) (ev 0 (by decide +kernel)) (fun _ => rfl)))))
abbrev s__law_joined : Stmt := topS 9
def N__law_joined : List Str := ["q", "low", "high", "p"]
theorem sc__law_joined : FnScope N__law_joined ["q", "low", "high"] (defScope s__law_joined) := ⟨rfl, rfl, rfl, by decide +kernel, rfl, by decide +kernel, by decide +kernel⟩
theorem sd__law_joined {g : Gm} (B : Bl g) (D__law_prime : Df g 1 "_law_prime" 1 f__law_prime) : SsD g { N := N__law_joined, sc := defScope s__law_joined, n := 1 } b__law_joined (defBody s__law_joined) :=
 (ssd_cons (s_set 3 (by decide +kernel) (c_call D__law_prime (by decide +kernel) (by decide +kernel) (ad_cons (ev 0 (by decide +kernel)) ad_nil (fun _ => rfl)) (fun _ => rfl) (fun _ => rfl)) (fun _ _ => rfl))
 (ssd_cons (sd_if (td_cmp ho_eq op2_eq rfl (ev 3 (by decide +kernel)) (ev 0 (by decide +kernel)))
 (ssd_one (sd_ret (ed_mod (c_int B (by decide +kernel) (ev 1 (by decide +kernel)) (fun _ => rfl)) (ev 3 (by decide +kernel)))))
 ssd_nil)
 (ssd_one (sd_ret (ed_add B.tb (ed_mod (c_int B (by decide +kernel) (ev 1 (by decide +kernel)) (fun _ => rfl)) (ev 3 (by decide +kernel))) (ed_mul (ev 3 (by decide +kernel)) (ed_mod (c_int B (by decide +kernel) (ev 2 (by decide +kernel)) (fun _ => rfl)) (ev 3 (by decide +kernel)))))))))
abbrev s__law_field : Stmt := topS 10
def N__law_field : List Str := ["q", "p", "sums", "products", "a", "line", "own", "b", "mixed", "low", "high", "one", "two"]
theorem sc__law_field : FnScope N__law_field ["q"] (defScope s__law_field) := ⟨rfl, rfl, rfl, by decide +kernel, rfl, by decide +kernel, by decide +kernel⟩
theorem sd__law_field {g : Gm} (B : Bl g) (D__law_prime : Df g 1 "_law_prime" 1 f__law_prime) (D__law_joined : Df g 2 "_law_joined" 3 f__law_joined) : SsD g { N := N__law_field, sc := defScope s__law_field, n := 2 } b__law_field (defBody s__law_field) :=
 (ssd_cons (s_set 1 (by decide +kernel) (c_call D__law_prime (by decide +kernel) (by decide +kernel) (ad_cons (ev 0 (by decide +kernel)) ad_nil (fun _ => rfl)) (fun _ => rfl) (fun _ => rfl)) (fun _ _ => rfl))
 (ssd_cons (s_set 2 (by decide +kernel) (ed_new (ld_disp B.tb ad_nil)) (fun _ _ => rfl))
 (ssd_cons (s_set 3 (by decide +kernel) (ed_new (ld_disp B.tb ad_nil)) (fun _ _ => rfl))
 (ssd_cons (sd_for (i_rng B (by decide +kernel) (ev 0 (by decide +kernel)) (fun _ => rfl)) (gv 4 (by decide +kernel)) go_name
 (ssd_cons (s_set 5 (by decide +kernel) (ed_new (ld_disp B.tb ad_nil)) (fun _ _ => rfl))
 (ssd_cons (s_set 6 (by decide +kernel) (ed_new (ld_disp B.tb ad_nil)) (fun _ _ => rfl))
 (ssd_cons (sd_for (i_rng B (by decide +kernel) (ev 0 (by decide +kernel)) (fun _ => rfl)) (gv 7 (by decide +kernel)) go_name
 (ssd_cons (sd_asg (ed_tup B.tb (ad_cons (ed_mod (c_int B (by decide +kernel) (ev 4 (by decide +kernel)) (fun _ => rfl)) (ev 1 (by decide +kernel))) (ad_cons (ed_div (ev 4 (by decide +kernel)) (ev 1 (by decide +kernel))) (ad_cons (ed_mod (c_int B (by decide +kernel) (ev 7 (by decide +kernel)) (fun _ => rfl)) (ev 1 (by decide +kernel))) (ad_cons (ed_div (ev 7 (by decide +kernel)) (ev 1 (by decide +kernel))) ad_nil (fun _ => rfl)) (fun _ => rfl)) (fun _ => rfl)) (fun _ => rfl))) (gd_tup (gsd_cons (gv 9 (by decide +kernel)) (gsd_cons (gv 10 (by decide +kernel)) (gsd_cons (gv 11 (by decide +kernel)) (gsd_cons (gv 12 (by decide +kernel)) gsd_nil (fun _ => rfl)) (fun _ => rfl)) (fun _ => rfl)) (fun _ => rfl)) (fun _ => rfl) (fun _ => rfl)) (go_tup (gos_cons go_name (gos_cons go_name (gos_cons go_name (gos_cons go_name gos_nil))))) (fun _ => rfl) (fun env h => by cases env; cases h; rfl) (fun _ => rfl))
 (ssd_cons (sd_expr (ed_append B.tb ⟨fun _ => rfl, fun _ => rfl, rfl⟩ (ev 5 (by decide +kernel)) (c_call D__law_joined (by decide +kernel) (by decide +kernel) (ad_cons (ev 0 (by decide +kernel)) (ad_cons (ed_add B.tb (ev 9 (by decide +kernel)) (ev 11 (by decide +kernel))) (ad_cons (ed_add B.tb (ev 10 (by decide +kernel)) (ev 12 (by decide +kernel))) ad_nil (fun _ => rfl)) (fun _ => rfl)) (fun _ => rfl)) (fun _ => rfl) (fun _ => rfl)) (fun _ => rfl)) (fun _ => rfl))
 (ssd_cons (s_set 8 (by decide +kernel) (ed_add B.tb (ed_mul (ev 9 (by decide +kernel)) (ev 12 (by decide +kernel))) (ed_mul (ev 10 (by decide +kernel)) (ev 11 (by decide +kernel)))) (fun _ _ => rfl))
 (ssd_one (sd_if (td_cmp ho_eq op2_eq rfl (ev 0 (by decide +kernel)) ed_int)
 (ssd_one (sd_expr (ed_append B.tb ⟨fun _ => rfl, fun _ => rfl, rfl⟩ (ev 6 (by decide +kernel)) (c_call D__law_joined (by decide +kernel) (by decide +kernel) (ad_cons (ev 0 (by decide +kernel)) (ad_cons (ed_add B.tb (ed_mul (ev 9 (by decide +kernel)) (ev 11 (by decide +kernel))) (ed_mul (ev 10 (by decide +kernel)) (ev 12 (by decide +kernel)))) (ad_cons (ed_add B.tb (ev 8 (by decide +kernel)) (ed_mul (ev 10 (by decide +kernel)) (ev 12 (by decide +kernel)))) ad_nil (fun _ => rfl)) (fun _ => rfl)) (fun _ => rfl)) (fun _ => rfl) (fun _ => rfl)) (fun _ => rfl)) (fun _ => rfl)))
 (ssd_one (sd_if (td_cmp ho_eq op2_eq rfl (ev 0 (by decide +kernel)) ed_int)
 (ssd_one (sd_expr (ed_append B.tb ⟨fun _ => rfl, fun _ => rfl, rfl⟩ (ev 6 (by decide +kernel)) (c_call D__law_joined (by decide +kernel) (by decide +kernel) (ad_cons (ev 0 (by decide +kernel)) (ad_cons (ed_add B.tb (ed_mul (ev 9 (by decide +kernel)) (ev 11 (by decide +kernel))) (ed_mul (ed_mul ed_int (ev 10 (by decide +kernel))) (ev 12 (by decide +kernel)))) (ad_cons (ev 8 (by decide +kernel)) ad_nil (fun _ => rfl)) (fun _ => rfl)) (fun _ => rfl)) (fun _ => rfl) (fun _ => rfl)) (fun _ => rfl)) (fun _ => rfl)))
 (ssd_one (sd_expr (ed_append B.tb ⟨fun _ => rfl, fun _ => rfl, rfl⟩ (ev 6 (by decide +kernel)) (ed_mod (c_int B (by decide +kernel) (ed_mul (ev 4 (by decide +kernel)) (ev 7 (by decide +kernel))) (fun _ => rfl)) (ev 0 (by decide +kernel))) (fun _ => rfl)) (fun _ => rfl)))))))))) (fun _ _ => rfl))
 (ssd_cons (sd_expr (ed_append B.tb ⟨fun _ => rfl, fun _ => rfl, rfl⟩ (ev 2 (by decide +kernel)) (ed_freeze (ev 5 (by decide +kernel))) (fun _ => rfl)) (fun _ => rfl))
 (ssd_one (sd_expr (ed_append B.tb ⟨fun _ => rfl, fun _ => rfl, rfl⟩ (ev 3 (by decide +kernel)) (ed_freeze (ev 6 (by decide +kernel))) (fun _ => rfl)) (fun _ => rfl))))))) (fun _ _ => rfl))
 (ssd_one (sd_ret (ed_tup B.tb (ad_cons (ev 0 (by decide +kernel)) (ad_cons (ed_freeze (ev 2 (by decide +kernel))) (ad_cons (ed_freeze (ev 3 (by decide +kernel))) ad_nil (fun _ => rfl)) (fun _ => rfl)) (fun _ => rfl)))))))))
abbrev s__law_sum : Stmt := topS 11
def N__law_sum : List Str := ["f", "v", "w", "k"]
theorem sc__law_sum : FnScope N__law_sum ["f", "v", "w"] (defScope s__law_sum) := ⟨rfl, rfl, rfl, by decide +kernel, rfl, by decide +kernel, by decide +kernel⟩
theorem sd__law_sum {g : Gm} (B : Bl g) : SsD g { N := N__law_sum, sc := defScope s__law_sum, n := 0 } b__law_sum (defBody s__law_sum) :=
 (ssd_one (sd_ret (c_tup B (by decide +kernel) (ed_frz (ld_comp (own := [("k", 3)]) B.tb (i_rng B (by decide +kernel) (c_len B (by decide +kernel) (ev 1 (by decide +kernel)) (fun _ => rfl)) (fun _ => rfl)) (by decide +kernel) rfl (pt_n (by decide +kernel)) tsd_nil (ed_ix (fun _ _ => rfl) (ed_ix (fun _ _ => rfl) (ed_ix (fun _ _ => rfl) (ev 0 (by decide +kernel)) ed_int) (ed_ix (fun _ _ => rfl) (ev 1 (by decide +kernel)) (ev 3 (by decide +kernel)))) (ed_ix (fun _ _ => rfl) (ev 2 (by decide +kernel)) (ev 3 (by decide +kernel)))) (by decide +kernel) (fun _ _ => rfl))) (fun _ => rfl))))
abbrev s__law_times : Stmt := topS 12
def N__law_times : List Str := ["f", "v", "c", "x"]
theorem sc__law_times : FnScope N__law_times ["f", "v", "c"] (defScope s__law_times) := ⟨rfl, rfl, rfl, by decide +kernel, rfl, by decide +kernel, by decide +kernel⟩
theorem sd__law_times {g : Gm} (B : Bl g) : SsD g { N := N__law_times, sc := defScope s__law_times, n := 0 } b__law_times (defBody s__law_times) :=
 (ssd_one (sd_ret (c_tup B (by decide +kernel) (ed_frz (ld_comp (own := [("x", 3)]) B.tb (id_seq (ev 1 (by decide +kernel))) (by decide +kernel) rfl (pt_n (by decide +kernel)) tsd_nil (ed_ix (fun _ _ => rfl) (ed_ix (fun _ _ => rfl) (ed_ix (fun _ _ => rfl) (ev 0 (by decide +kernel)) ed_int) (ev 3 (by decide +kernel))) (ev 2 (by decide +kernel))) (by decide +kernel) (fun _ _ => rfl))) (fun _ => rfl))))
abbrev s__law_rows : Stmt := topS 13
def N__law_rows : List Str := ["f", "n", "found", "k", "longer", "head", "c"]
theorem sc__law_rows : FnScope N__law_rows ["f", "n"] (defScope s__law_rows) := ⟨rfl, rfl, rfl, by decide +kernel, rfl, by decide +kernel, by decide +kernel⟩
theorem sd__law_rows {g : Gm} (B : Bl g) : SsD g { N := N__law_rows, sc := defScope s__law_rows, n := 0 } b__law_rows (defBody s__law_rows) :=
 (ssd_cons (s_set 2 (by decide +kernel) (ed_frz (ld_disp B.tb (ad_cons (ed_tup B.tb ad_nil) ad_nil (fun _ => rfl)))) (fun _ _ => rfl))
 (ssd_cons (sd_for (i_rng B (by decide +kernel) (ev 1 (by decide +kernel)) (fun _ => rfl)) (gv 3 (by decide +kernel)) go_name
 (ssd_cons (s_set 4 (by decide +kernel) (ed_frz (ld_disp B.tb ad_nil)) (fun _ _ => rfl))
 (ssd_cons (sd_for (id_seq (ev 2 (by decide +kernel))) (gv 5 (by decide +kernel)) go_name
 (ssd_one (s_set 4 (by decide +kernel) (ed_frz (ld_cat B.tb (ev 4 (by decide +kernel)) (ed_frz (ld_comp (own := [("c", 6)]) B.tb (i_rng B (by decide +kernel) (ed_ix (fun _ _ => rfl) (ev 0 (by decide +kernel)) ed_int) (fun _ => rfl)) (by decide +kernel) rfl (pt_n (by decide +kernel)) tsd_nil (ed_add B.tb (ev 5 (by decide +kernel)) (ed_tup B.tb (ad_cons (ev 6 (by decide +kernel)) ad_nil (fun _ => rfl)))) (by decide +kernel) (fun _ _ => rfl))))) (fun _ _ => rfl))) (fun _ _ => rfl))
 (ssd_one (s_set 2 (by decide +kernel) (ed_frz (c_list B (by decide +kernel) (ev 4 (by decide +kernel)) (fun _ => rfl))) (fun _ _ => rfl))))) (fun _ _ => rfl))
 (ssd_one (sd_ret (ev 2 (by decide +kernel))))))
abbrev s__law_spanned : Stmt := topS 14
def N__law_spanned : List Str := ["f", "rows", "n", "found", "row", "longer", "x", "k", "c"]
theorem sc__law_spanned : FnScope N__law_spanned ["f", "rows", "n"] (defScope s__law_spanned) := ⟨rfl, rfl, rfl, by decide +kernel, rfl, by decide +kernel, by decide +kernel⟩
theorem sd__law_spanned {g : Gm} (B : Bl g) (D__law_sum : Df g 1 "_law_sum" 3 f__law_sum) (D__law_times : Df g 1 "_law_times" 3 f__law_times) : SsD g { N := N__law_spanned, sc := defScope s__law_spanned, n := 1 } b__law_spanned (defBody s__law_spanned) :=
 (ssd_cons (s_set 3 (by decide +kernel) (ed_frz (ld_disp B.tb (ad_cons (c_tup B (by decide +kernel) (ed_frz (ld_comp (own := [("k", 7)]) B.tb (i_rng B (by decide +kernel) (ev 2 (by decide +kernel)) (fun _ => rfl)) (by decide +kernel) rfl (pt_n (by decide +kernel)) tsd_nil ed_int (by decide +kernel) (fun _ _ => rfl))) (fun _ => rfl)) ad_nil (fun _ => rfl)))) (fun _ _ => rfl))
 (ssd_cons (sd_for (id_seq (ev 1 (by decide +kernel))) (gv 4 (by decide +kernel)) go_name
 (ssd_one (sd_if (td_cmp ho_notin (op2_in true) rfl (ev 4 (by decide +kernel)) (ev 3 (by decide +kernel)))
 (ssd_cons (s_set 5 (by decide +kernel) (ed_frz (ld_disp B.tb ad_nil)) (fun _ _ => rfl))
 (ssd_cons (sd_for (id_seq (ev 3 (by decide +kernel))) (gv 6 (by decide +kernel)) go_name
 (ssd_one (s_set 5 (by decide +kernel) (ed_frz (ld_cat B.tb (ev 5 (by decide +kernel)) (ed_frz (ld_comp (own := [("c", 8)]) B.tb (i_rng B (by decide +kernel) (ed_ix (fun _ _ => rfl) (ev 0 (by decide +kernel)) ed_int) (fun _ => rfl)) (by decide +kernel) rfl (pt_n (by decide +kernel)) tsd_nil (c_call D__law_sum (by decide +kernel) (by decide +kernel) (ad_cons (ev 0 (by decide +kernel)) (ad_cons (ev 6 (by decide +kernel)) (ad_cons (c_call D__law_times (by decide +kernel) (by decide +kernel) (ad_cons (ev 0 (by decide +kernel)) (ad_cons (ev 4 (by decide +kernel)) (ad_cons (ev 8 (by decide +kernel)) ad_nil (fun _ => rfl)) (fun _ => rfl)) (fun _ => rfl)) (fun _ => rfl) (fun _ => rfl)) ad_nil (fun _ => rfl)) (fun _ => rfl)) (fun _ => rfl)) (fun _ => rfl) (fun _ => rfl)) (by decide +kernel) (fun _ _ => rfl))))) (fun _ _ => rfl))) (fun _ _ => rfl))
 (ssd_one (s_set 3 (by decide +kernel) (ed_frz (c_list B (by decide +kernel) (ev 5 (by decide +kernel)) (fun _ => rfl))) (fun _ _ => rfl)))))
 ssd_nil)) (fun _ _ => rfl))
 (ssd_one (sd_ret (ev 3 (by decide +kernel))))))
abbrev s__law_is_free : Stmt := topS 15
def N__law_is_free : List Str := ["f", "rows", "n", "size", "row"]
theorem sc__law_is_free : FnScope N__law_is_free ["f", "rows", "n"] (defScope s__law_is_free) := ⟨rfl, rfl, rfl, by decide +kernel, rfl, by decide +kernel, by decide +kernel⟩
theorem sd__law_is_free {g : Gm} (B : Bl g) (D__law_spanned : Df g 2 "_law_spanned" 3 f__law_spanned) : SsD g { N := N__law_is_free, sc := defScope s__law_is_free, n := 2 } b__law_is_free (defBody s__law_is_free) :=
 (ssd_cons (s_set 3 (by decide +kernel) ed_int (fun _ _ => rfl))
 (ssd_cons (sd_for (id_seq (ev 1 (by decide +kernel))) (gv 4 (by decide +kernel)) go_name
 (ssd_one (s_set 3 (by decide +kernel) (ed_mul (ev 3 (by decide +kernel)) (ed_ix (fun _ _ => rfl) (ev 0 (by decide +kernel)) ed_int)) (fun _ _ => rfl))) (fun _ _ => rfl))
 (ssd_one (sd_ret (ed_cmp ho_eq op2_eq rfl (c_len B (by decide +kernel) (c_call D__law_spanned (by decide +kernel) (by decide +kernel) (ad_cons (ev 0 (by decide +kernel)) (ad_cons (ev 1 (by decide +kernel)) (ad_cons (ev 2 (by decide +kernel)) ad_nil (fun _ => rfl)) (fun _ => rfl)) (fun _ => rfl)) (fun _ => rfl) (fun _ => rfl)) (fun _ => rfl)) (ev 3 (by decide +kernel)))))))
abbrev s__law_power : Stmt := topS 16
def N__law_power : List Str := ["a", "k", "total", "turn"]
theorem sc__law_power : FnScope N__law_power ["a", "k"] (defScope s__law_power) := ⟨rfl, rfl, rfl, by decide +kernel, rfl, by decide +kernel, by decide +kernel⟩
theorem sd__law_power {g : Gm} (B : Bl g) : SsD g { N := N__law_power, sc := defScope s__law_power, n := 0 } b__law_power (defBody s__law_power) :=
 (ssd_cons (s_set 2 (by decide +kernel) ed_int (fun _ _ => rfl))
 (ssd_cons (sd_for (i_rng B (by decide +kernel) (ev 1 (by decide +kernel)) (fun _ => rfl)) (gv 3 (by decide +kernel)) go_name
 (ssd_one (s_set 2 (by decide +kernel) (ed_mul (ev 2 (by decide +kernel)) (ev 0 (by decide +kernel))) (fun _ _ => rfl))) (fun _ _ => rfl))
 (ssd_one (sd_ret (ev 2 (by decide +kernel))))))
abbrev s__law_tables : Stmt := topS 17
def N__law_tables : List Str := ["n", "k", "q", "total", "bits", "pivots", "free", "at", "i"]
theorem sc__law_tables : FnScope N__law_tables ["n", "k", "q"] (defScope s__law_tables) := ⟨rfl, rfl, rfl, by decide +kernel, rfl, by decide +kernel, by decide +kernel⟩
theorem sd__law_tables {g : Gm} (B : Bl g) (D__law_power : Df g 1 "_law_power" 2 f__law_power) : SsD g { N := N__law_tables, sc := defScope s__law_tables, n := 1 } b__law_tables (defBody s__law_tables) :=
 (ssd_cons (s_set 3 (by decide +kernel) ed_int (fun _ _ => rfl))
 (ssd_cons (sd_for (i_rng B (by decide +kernel) (c_call D__law_power (by decide +kernel) (by decide +kernel) (ad_cons ed_int (ad_cons (ev 0 (by decide +kernel)) ad_nil (fun _ => rfl)) (fun _ => rfl)) (fun _ => rfl) (fun _ => rfl)) (fun _ => rfl)) (gv 4 (by decide +kernel)) go_name
 (ssd_cons (s_set 5 (by decide +kernel) (ed_frz (ld_comp (own := [("i", 8)]) B.tb (i_rng B (by decide +kernel) (ev 0 (by decide +kernel)) (fun _ => rfl)) (by decide +kernel) rfl (pt_n (by decide +kernel)) (tsd_one (td_cmp ho_eq op2_eq rfl (ed_mod (ed_div (ev 4 (by decide +kernel)) (c_call D__law_power (by decide +kernel) (by decide +kernel) (ad_cons ed_int (ad_cons (ev 8 (by decide +kernel)) ad_nil (fun _ => rfl)) (fun _ => rfl)) (fun _ => rfl) (fun _ => rfl))) ed_int) ed_int)) (ev 8 (by decide +kernel)) (by decide +kernel) (fun _ _ => rfl))) (fun env h => by cases env; cases h; rfl))
 (ssd_one (sd_if (td_cmp ho_eq op2_eq rfl (c_len B (by decide +kernel) (ev 5 (by decide +kernel)) (fun _ => rfl)) (ev 1 (by decide +kernel)))
 (ssd_cons (s_set 6 (by decide +kernel) ed_int (fun _ _ => rfl))
 (ssd_cons (sd_for (id_seq (ev 5 (by decide +kernel))) (gv 7 (by decide +kernel)) go_name
 (ssd_one (s_set 6 (by decide +kernel) (ed_add B.tb (ev 6 (by decide +kernel)) (c_len B (by decide +kernel) (ed_frz (ld_comp (own := [("i", 8)]) B.tb (i_rng2 B (by decide +kernel) (ev 7 (by decide +kernel)) (ev 0 (by decide +kernel)) (fun _ => rfl) (fun _ => rfl)) (by decide +kernel) rfl (pt_n (by decide +kernel)) (tsd_one (td_cmp ho_notin (op2_in true) rfl (ev 8 (by decide +kernel)) (ev 5 (by decide +kernel)))) (ev 8 (by decide +kernel)) (by decide +kernel) (fun _ _ => rfl))) (fun _ => rfl))) (fun _ _ => rfl))) (fun _ _ => rfl))
 (ssd_one (s_set 3 (by decide +kernel) (ed_add B.tb (ev 3 (by decide +kernel)) (c_call D__law_power (by decide +kernel) (by decide +kernel) (ad_cons (ev 2 (by decide +kernel)) (ad_cons (ev 6 (by decide +kernel)) ad_nil (fun _ => rfl)) (fun _ => rfl)) (fun _ => rfl) (fun _ => rfl))) (fun _ _ => rfl)))))
 ssd_nil))) (fun _ _ => rfl))
 (ssd_one (sd_ret (ev 3 (by decide +kernel))))))
abbrev s__law_walked : Stmt := topS 18
def N__law_walked : List Str := ["q", "n", "f", "found", "rows", "k", "longer", "head", "matrix", "row"]
theorem sc__law_walked : FnScope N__law_walked ["q", "n"] (defScope s__law_walked) := ⟨rfl, rfl, rfl, by decide +kernel, rfl, by decide +kernel, by decide +kernel⟩
theorem sd__law_walked {g : Gm} (B : Bl g) (D__law_field : Df g 3 "_law_field" 1 f__law_field) (D__law_rows : Df g 1 "_law_rows" 2 f__law_rows) (D__law_is_free : Df g 3 "_law_is_free" 3 f__law_is_free) : SsD g { N := N__law_walked, sc := defScope s__law_walked, n := 3 } b__law_walked (defBody s__law_walked) :=
 (ssd_cons (s_set 2 (by decide +kernel) (c_call D__law_field (by decide +kernel) (by decide +kernel) (ad_cons (ev 0 (by decide +kernel)) ad_nil (fun _ => rfl)) (fun _ => rfl) (fun _ => rfl)) (fun _ _ => rfl))
 (ssd_cons (s_set 3 (by decide +kernel) (ed_frz (ld_disp B.tb (ad_cons (ed_tup B.tb ad_nil) ad_nil (fun _ => rfl)))) (fun _ _ => rfl))
 (ssd_cons (s_set 4 (by decide +kernel) (c_call D__law_rows (by decide +kernel) (by decide +kernel) (ad_cons (ev 2 (by decide +kernel)) (ad_cons (ev 1 (by decide +kernel)) ad_nil (fun _ => rfl)) (fun _ => rfl)) (fun _ => rfl) (fun _ => rfl)) (fun _ _ => rfl))
 (ssd_cons (sd_for (i_rng B (by decide +kernel) (ev 1 (by decide +kernel)) (fun _ => rfl)) (gv 5 (by decide +kernel)) go_name
 (ssd_cons (s_set 6 (by decide +kernel) (ed_frz (ld_disp B.tb ad_nil)) (fun _ _ => rfl))
 (ssd_cons (sd_for (id_seq (ev 3 (by decide +kernel))) (gv 7 (by decide +kernel)) go_name
 (ssd_one (s_set 6 (by decide +kernel) (ed_frz (ld_cat B.tb (ev 6 (by decide +kernel)) (ed_frz (ld_comp (own := [("row", 9)]) B.tb (id_seq (ev 4 (by decide +kernel))) (by decide +kernel) rfl (pt_n (by decide +kernel)) tsd_nil (ed_add B.tb (ev 7 (by decide +kernel)) (ed_tup B.tb (ad_cons (ev 9 (by decide +kernel)) ad_nil (fun _ => rfl)))) (by decide +kernel) (fun _ _ => rfl))))) (fun _ _ => rfl))) (fun _ _ => rfl))
 (ssd_one (s_set 3 (by decide +kernel) (ed_frz (c_list B (by decide +kernel) (ev 6 (by decide +kernel)) (fun _ => rfl))) (fun _ _ => rfl))))) (fun _ _ => rfl))
 (ssd_one (sd_ret (c_len B (by decide +kernel) (ed_frz (ld_comp (own := [("matrix", 8)]) B.tb (id_seq (ev 3 (by decide +kernel))) (by decide +kernel) rfl (pt_n (by decide +kernel)) (tsd_one (td_tru (c_call D__law_is_free (by decide +kernel) (by decide +kernel) (ad_cons (ev 2 (by decide +kernel)) (ad_cons (ev 8 (by decide +kernel)) (ad_cons (ev 1 (by decide +kernel)) ad_nil (fun _ => rfl)) (fun _ => rfl)) (fun _ => rfl)) (fun _ => rfl) (fun _ => rfl)) (fun _ _ => rfl))) (ev 8 (by decide +kernel)) (by decide +kernel) (fun _ _ => rfl))) (fun _ => rfl))))))))
abbrev s_law : Stmt := topS 19
def N_law : List Str := ["script", "state", "q", "due", "i", "value", "n", "k", "a", "e"]
def b_law : DenS :=
 (sSeq (sSet 1 (dCall 1 f__law_state (aCons (dVar 0) aNil)))
 (sSeq (sSet 2 (dOp2 oIx (dFrz (lDisp (aCons (dC (.int 2)) (aCons (dC (.int 3)) (aCons (dC (.int 4)) (aCons (dC (.int 5)) (aCons (dC (.int 7)) (aCons (dC (.int 9)) aNil)))))))) (dCall 2 f__law_take (aCons (dVar 1) (aCons (dC (.int 6)) aNil)))))
 (sSeq (sPar 6 7 (aCons (dCall 2 f__law_take (aCons (dVar 1) (aCons (dC (.int 7)) aNil))) (aCons (dOp2 (opInt fSub) (dCall 2 f__law_take (aCons (dVar 1) (aCons (dC (.int 9)) aNil))) (dC (.int 1))) aNil)))
 (sSeq (sIf (dB (dOp2 oNe (dCall 3 f_gauss (aCons (dVar 6) (aCons (dVar 7) (aCons (dVar 2) aNil)))) (dCall 3 f__law_tables (aCons (dVar 6) (aCons (dVar 7) (aCons (dVar 2) aNil))))))
 (sRet (dC (.bl false)))
 sSkip)
 (sSeq (sSet 3 (dC (.int 1)))
 (sSeq (sFor (iRng (dVar 6)) (gN 4)
 (sSet 3 (dOp2 (opInt fMul) (dVar 3) (dOp2 (opInt fSub) (dCall 2 f__law_power (aCons (dVar 2) (aCons (dVar 6) aNil))) (dCall 2 f__law_power (aCons (dVar 2) (aCons (dVar 4) aNil)))))))
 (sSeq (sIf (dB (dOp2 oNe (dCall 2 f_invertible_count (aCons (dVar 6) (aCons (dVar 2) aNil))) (dVar 3)))
 (sRet (dC (.bl false)))
 sSkip)
 (sSeq (sIf (tAndD (dB (dOp2 (opInt fLe) (dCall 2 f__law_power (aCons (dVar 2) (aCons (dOp2 (opInt fMul) (dVar 6) (dVar 6)) aNil))) (dC (.int 81)))) (dB (dOp2 oNe (dCall 2 f_invertible_count (aCons (dVar 6) (aCons (dVar 2) aNil))) (dCall 2 f__law_walked (aCons (dVar 2) (aCons (dVar 6) aNil))))))
 (sRet (dC (.bl false)))
 sSkip)
 (sSeq (sPar 8 9 (aCons (dOp2 (opInt fSub) (dCall 2 f__law_take (aCons (dVar 1) (aCons (dC (.int 21)) aNil))) (dC (.int 10))) (aCons (dCall 2 f__law_take (aCons (dVar 1) (aCons (dC (.int 40)) aNil))) aNil)))
 (sSeq (sIf (dB (dOp2 oNe (dCall 2 f_power (aCons (dVar 8) (aCons (dVar 9) aNil))) (dCall 2 f__law_power (aCons (dVar 8) (aCons (dVar 9) aNil)))))
 (sRet (dC (.bl false)))
 sSkip)
 (sSeq (sFor (iSeq (dTup (aCons (dC (.bl true)) (aCons (dC (.bl false)) (aCons (dC .non) (aCons (dC (.str "1")) (aCons (dTup (aCons (dC (.int 1)) aNil)) (aCons (dFrz (lDisp (aCons (dC (.int 2)) aNil))) aNil)))))))) (gN 5)
 (sIf (dB (dOp2 (oIs true) (dCall 1 f_is_integer (aCons (dVar 5) aNil)) (dC (.bl false))))
 (sRet (dC (.bl false)))
 sSkip))
 (sRet (dOp2 (oIs false) (dCall 1 f_is_integer (aCons (dVar 8) aNil)) (dC (.bl true)))))))))))))))
def f_law : FnS := mkFn 10 b_law
theorem sc_law : FnScope N_law ["script"] (defScope s_law) := ⟨rfl, rfl, rfl, by decide +kernel, rfl, by decide +kernel, by decide +kernel⟩
theorem sd_law {g : Gm} (B : Bl g) (D_is_integer : Df g 1 "is_integer" 1 f_is_integer) (D_power : Df g 1 "power" 2 f_power) (D_gauss : Df g 2 "gauss" 3 f_gauss) (D_invertible_count : Df g 2 "invertible_count" 2 f_invertible_count) (D__law_state : Df g 1 "_law_state" 1 f__law_state) (D__law_take : Df g 1 "_law_take" 2 f__law_take) (D__law_power : Df g 1 "_law_power" 2 f__law_power) (D__law_tables : Df g 2 "_law_tables" 3 f__law_tables) (D__law_walked : Df g 4 "_law_walked" 2 f__law_walked) : SsD g { N := N_law, sc := defScope s_law, n := 4 } b_law (defBody s_law) :=
 (ssd_cons (s_set 1 (by decide +kernel) (c_call D__law_state (by decide +kernel) (by decide +kernel) (ad_cons (ev 0 (by decide +kernel)) ad_nil (fun _ => rfl)) (fun _ => rfl) (fun _ => rfl)) (fun _ _ => rfl))
 (ssd_cons (s_set 2 (by decide +kernel) (ed_ix (fun _ _ => rfl) (ed_frz (ld_disp B.tb (ad_cons ed_int (ad_cons ed_int (ad_cons ed_int (ad_cons ed_int (ad_cons ed_int (ad_cons ed_int ad_nil (fun _ => rfl)) (fun _ => rfl)) (fun _ => rfl)) (fun _ => rfl)) (fun _ => rfl)) (fun _ => rfl)))) (c_call D__law_take (by decide +kernel) (by decide +kernel) (ad_cons (ev 1 (by decide +kernel)) (ad_cons ed_int ad_nil (fun _ => rfl)) (fun _ => rfl)) (fun _ => rfl) (fun _ => rfl))) (fun _ _ => rfl))
 (ssd_cons (sd_par2 (i := 6) (j := 7) rfl rfl (by decide) rfl rfl (ad_cons (c_call D__law_take (by decide +kernel) (by decide +kernel) (ad_cons (ev 1 (by decide +kernel)) (ad_cons ed_int ad_nil (fun _ => rfl)) (fun _ => rfl)) (fun _ => rfl) (fun _ => rfl)) (ad_cons (ed_sub (c_call D__law_take (by decide +kernel) (by decide +kernel) (ad_cons (ev 1 (by decide +kernel)) (ad_cons ed_int ad_nil (fun _ => rfl)) (fun _ => rfl)) (fun _ => rfl) (fun _ => rfl)) ed_int) ad_nil (fun _ => rfl)) (fun _ => rfl)) (fun env h => by cases env; cases h; rfl) (fun _ => rfl))
 (ssd_cons (sd_if (td_cmp ho_ne op2_ne rfl (c_call D_gauss (by decide +kernel) (by decide +kernel) (ad_cons (ev 6 (by decide +kernel)) (ad_cons (ev 7 (by decide +kernel)) (ad_cons (ev 2 (by decide +kernel)) ad_nil (fun _ => rfl)) (fun _ => rfl)) (fun _ => rfl)) (fun _ => rfl) (fun _ => rfl)) (c_call D__law_tables (by decide +kernel) (by decide +kernel) (ad_cons (ev 6 (by decide +kernel)) (ad_cons (ev 7 (by decide +kernel)) (ad_cons (ev 2 (by decide +kernel)) ad_nil (fun _ => rfl)) (fun _ => rfl)) (fun _ => rfl)) (fun _ => rfl) (fun _ => rfl)))
 (ssd_one (sd_ret ed_bl))
 ssd_nil)
 (ssd_cons (s_set 3 (by decide +kernel) ed_int (fun _ _ => rfl))
 (ssd_cons (sd_for (i_rng B (by decide +kernel) (ev 6 (by decide +kernel)) (fun _ => rfl)) (gv 4 (by decide +kernel)) go_name
 (ssd_one (s_set 3 (by decide +kernel) (ed_mul (ev 3 (by decide +kernel)) (ed_sub (c_call D__law_power (by decide +kernel) (by decide +kernel) (ad_cons (ev 2 (by decide +kernel)) (ad_cons (ev 6 (by decide +kernel)) ad_nil (fun _ => rfl)) (fun _ => rfl)) (fun _ => rfl) (fun _ => rfl)) (c_call D__law_power (by decide +kernel) (by decide +kernel) (ad_cons (ev 2 (by decide +kernel)) (ad_cons (ev 4 (by decide +kernel)) ad_nil (fun _ => rfl)) (fun _ => rfl)) (fun _ => rfl) (fun _ => rfl)))) (fun _ _ => rfl))) (fun _ _ => rfl))
 (ssd_cons (sd_if (td_cmp ho_ne op2_ne rfl (c_call D_invertible_count (by decide +kernel) (by decide +kernel) (ad_cons (ev 6 (by decide +kernel)) (ad_cons (ev 2 (by decide +kernel)) ad_nil (fun _ => rfl)) (fun _ => rfl)) (fun _ => rfl) (fun _ => rfl)) (ev 3 (by decide +kernel)))
 (ssd_one (sd_ret ed_bl))
 ssd_nil)
 (ssd_cons (sd_if (td_bool (wd_and (td_cmp ho_le op2_le rfl (c_call D__law_power (by decide +kernel) (by decide +kernel) (ad_cons (ev 2 (by decide +kernel)) (ad_cons (ed_mul (ev 6 (by decide +kernel)) (ev 6 (by decide +kernel))) ad_nil (fun _ => rfl)) (fun _ => rfl)) (fun _ => rfl) (fun _ => rfl)) ed_int) (wd_and1 (td_cmp ho_ne op2_ne rfl (c_call D_invertible_count (by decide +kernel) (by decide +kernel) (ad_cons (ev 6 (by decide +kernel)) (ad_cons (ev 2 (by decide +kernel)) ad_nil (fun _ => rfl)) (fun _ => rfl)) (fun _ => rfl) (fun _ => rfl)) (c_call D__law_walked (by decide +kernel) (by decide +kernel) (ad_cons (ev 2 (by decide +kernel)) (ad_cons (ev 6 (by decide +kernel)) ad_nil (fun _ => rfl)) (fun _ => rfl)) (fun _ => rfl) (fun _ => rfl))))))
 (ssd_one (sd_ret ed_bl))
 ssd_nil)
 (ssd_cons (sd_par2 (i := 8) (j := 9) rfl rfl (by decide) rfl rfl (ad_cons (ed_sub (c_call D__law_take (by decide +kernel) (by decide +kernel) (ad_cons (ev 1 (by decide +kernel)) (ad_cons ed_int ad_nil (fun _ => rfl)) (fun _ => rfl)) (fun _ => rfl) (fun _ => rfl)) ed_int) (ad_cons (c_call D__law_take (by decide +kernel) (by decide +kernel) (ad_cons (ev 1 (by decide +kernel)) (ad_cons ed_int ad_nil (fun _ => rfl)) (fun _ => rfl)) (fun _ => rfl) (fun _ => rfl)) ad_nil (fun _ => rfl)) (fun _ => rfl)) (fun env h => by cases env; cases h; rfl) (fun _ => rfl))
 (ssd_cons (sd_if (td_cmp ho_ne op2_ne rfl (c_call D_power (by decide +kernel) (by decide +kernel) (ad_cons (ev 8 (by decide +kernel)) (ad_cons (ev 9 (by decide +kernel)) ad_nil (fun _ => rfl)) (fun _ => rfl)) (fun _ => rfl) (fun _ => rfl)) (c_call D__law_power (by decide +kernel) (by decide +kernel) (ad_cons (ev 8 (by decide +kernel)) (ad_cons (ev 9 (by decide +kernel)) ad_nil (fun _ => rfl)) (fun _ => rfl)) (fun _ => rfl) (fun _ => rfl)))
 (ssd_one (sd_ret ed_bl))
 ssd_nil)
 (ssd_cons (sd_for (id_seq (ed_tup B.tb (ad_cons ed_bl (ad_cons ed_bl (ad_cons ed_non (ad_cons ed_str (ad_cons (ed_tup B.tb (ad_cons ed_int ad_nil (fun _ => rfl))) (ad_cons (ed_frz (ld_disp B.tb (ad_cons ed_int ad_nil (fun _ => rfl)))) ad_nil (fun _ => rfl)) (fun _ => rfl)) (fun _ => rfl)) (fun _ => rfl)) (fun _ => rfl)) (fun _ => rfl)))) (gv 5 (by decide +kernel)) go_name
 (ssd_one (sd_if (td_cmp ho_isnot (op2_is true) rfl (c_call D_is_integer (by decide +kernel) (by decide +kernel) (ad_cons (ev 5 (by decide +kernel)) ad_nil (fun _ => rfl)) (fun _ => rfl) (fun _ => rfl)) ed_bl)
 (ssd_one (sd_ret ed_bl))
 ssd_nil)) (fun _ _ => rfl))
 (ssd_one (sd_ret (ed_cmp ho_is (op2_is false) rfl (c_call D_is_integer (by decide +kernel) (by decide +kernel) (ad_cons (ev 8 (by decide +kernel)) ad_nil (fun _ => rfl)) (fun _ => rfl) (fun _ => rfl)) ed_bl))))))))))))))
theorem bi__law_state : BindA "_law_state" s__law_state ["script"] := fun _ _ _ _ _ _ us hl => match us, hl with | [_], _ => rfl
theorem bi__law_take : BindA "_law_take" s__law_take ["state", "m"] := fun _ _ _ _ _ _ us hl => match us, hl with | [_, _], _ => rfl
theorem bi_power : BindA "power" s_power ["a", "k"] := fun _ _ _ _ _ _ us hl => match us, hl with | [_, _], _ => rfl
theorem bi_gauss : BindA "gauss" s_gauss ["n", "k", "q"] := fun _ _ _ _ _ _ us hl => match us, hl with | [_, _, _], _ => rfl
theorem bi__law_power : BindA "_law_power" s__law_power ["a", "k"] := fun _ _ _ _ _ _ us hl => match us, hl with | [_, _], _ => rfl
theorem bi__law_tables : BindA "_law_tables" s__law_tables ["n", "k", "q"] := fun _ _ _ _ _ _ us hl => match us, hl with | [_, _, _], _ => rfl
theorem bi_invertible_count : BindA "invertible_count" s_invertible_count ["n", "q"] := fun _ _ _ _ _ _ us hl => match us, hl with | [_, _], _ => rfl
theorem bi_is_integer : BindA "is_integer" s_is_integer ["value"] := fun _ _ _ _ _ _ us hl => match us, hl with | [_], _ => rfl
theorem bi__law_prime : BindA "_law_prime" s__law_prime ["q"] := fun _ _ _ _ _ _ us hl => match us, hl with | [_], _ => rfl
theorem bi__law_joined : BindA "_law_joined" s__law_joined ["q", "low", "high"] := fun _ _ _ _ _ _ us hl => match us, hl with | [_, _, _], _ => rfl
theorem bi__law_field : BindA "_law_field" s__law_field ["q"] := fun _ _ _ _ _ _ us hl => match us, hl with | [_], _ => rfl
theorem bi__law_rows : BindA "_law_rows" s__law_rows ["f", "n"] := fun _ _ _ _ _ _ us hl => match us, hl with | [_, _], _ => rfl
theorem bi__law_sum : BindA "_law_sum" s__law_sum ["f", "v", "w"] := fun _ _ _ _ _ _ us hl => match us, hl with | [_, _, _], _ => rfl
theorem bi__law_times : BindA "_law_times" s__law_times ["f", "v", "c"] := fun _ _ _ _ _ _ us hl => match us, hl with | [_, _, _], _ => rfl
theorem bi__law_spanned : BindA "_law_spanned" s__law_spanned ["f", "rows", "n"] := fun _ _ _ _ _ _ us hl => match us, hl with | [_, _, _], _ => rfl
theorem bi__law_is_free : BindA "_law_is_free" s__law_is_free ["f", "rows", "n"] := fun _ _ _ _ _ _ us hl => match us, hl with | [_, _, _], _ => rfl
theorem bi__law_walked : BindA "_law_walked" s__law_walked ["q", "n"] := fun _ _ _ _ _ _ us hl => match us, hl with | [_, _], _ => rfl
theorem bi_law : BindA "law" s_law ["script"] := fun _ _ _ _ _ _ us hl => match us, hl with | [_], _ => rfl
theorem all {P : Program} {w : World} {K : PySem.W.Frag} {mg : Str → Option Value} {h : Heap} {fa : Addr} (KX : K.In h) (G : h.Ns mainGlobals mg) (hm : mg "law" = some (.ref fa)) (z0 : PySem.W.nsIn K mainGlobals "len" = some none) (z1 : PySem.W.nsIn K mainGlobals "range" = some none) (z2 : PySem.W.nsIn K mainGlobals "int" = some none) (z3 : PySem.W.nsIn K mainGlobals "abs" = some none) (z4 : PySem.W.nsIn K mainGlobals "tuple" = some none) (z5 : PySem.W.nsIn K mainGlobals "list" = some none) (z6 : PySem.W.nsIn K mainGlobals "isinstance" = some none) (z7 : PySem.W.nsIn K mainGlobals "bool" = some none) (z8 : PySem.W.nsIn K mainGlobals "str" = some none) (z9 : PySem.W.nsIn K mainGlobals "any" = some none) (z10 : PySem.W.nsIn K mainGlobals "all" = some none) (z11 : PySem.W.nsIn K mainGlobals "zip" = some none) (z12 : PySem.W.nsIn K mainGlobals "enumerate" = some none) (z13 : PySem.W.nsIn K mainGlobals "sorted" = some none) (z14 : PySem.W.nsIn K mainGlobals "divmod" = some none) (z15 : PySem.W.nsIn K mainGlobals "min" = some none) (z16 : PySem.W.nsIn K mainGlobals "max" = some none) (z17 : PySem.W.nsIn K mainGlobals "sum" = some none) (z18 : PySem.W.nsIn K mainGlobals "reversed" = some none) (d__law_state : Dd K "_law_state" s__law_state) (d__law_take : Dd K "_law_take" s__law_take) (d_power : Dd K "power" s_power) (d_gauss : Dd K "gauss" s_gauss) (d__law_power : Dd K "_law_power" s__law_power) (d__law_tables : Dd K "_law_tables" s__law_tables) (d_invertible_count : Dd K "invertible_count" s_invertible_count) (d_is_integer : Dd K "is_integer" s_is_integer) (d__law_prime : Dd K "_law_prime" s__law_prime) (d__law_joined : Dd K "_law_joined" s__law_joined) (d__law_field : Dd K "_law_field" s__law_field) (d__law_rows : Dd K "_law_rows" s__law_rows) (d__law_sum : Dd K "_law_sum" s__law_sum) (d__law_times : Dd K "_law_times" s__law_times) (d__law_spanned : Dd K "_law_spanned" s__law_spanned) (d__law_is_free : Dd K "_law_is_free" s__law_is_free) (d__law_walked : Dd K "_law_walked" s__law_walked) (d_law : Dd K "law" s_law)
  (hf : ∀ ns : List Int, ns.length ≤ 63 → ∃ s', f_law [.lst (ns.map PV.int)] [] = .ok (.bl true) s') :
  ∃ fd : FuncData, (∀ (s : Shared) (u : Value), BindsTo s fd ⟨[u], []⟩ [("script", u)]) ∧ ∀ base : Heap, K.In base → base.Ns mainGlobals mg → FnOk P w K mg base (L2.CX P w) 5 fa fd ["script"] (spLaw K) :=
  law_end (T := ⟨fun _ => 0, fun _ => []⟩) (Tb := fun _ => True) KX G hm d_law sc_law bi_law (fun base kb nb => by
    have B : Bl ⟨P, w, K, mg, base, ⟨fun _ => 0, fun _ => []⟩, fun _ => True⟩ := ⟨fun _ _ _ _ => trivial, bl_n KX G ⟨z0, z1, z2, z3, z4, z5, z6, z7, z8, z9, z10, z11, z12, z13, z14, z15, z16, z17, z18⟩⟩
    have D__law_state := df_of (g := ⟨P, w, K, mg, base, ⟨fun _ => 0, fun _ => []⟩, fun _ => True⟩) kb nb d__law_state sc__law_state bi__law_state (sd__law_state B)
    have D__law_take := df_of (g := ⟨P, w, K, mg, base, ⟨fun _ => 0, fun _ => []⟩, fun _ => True⟩) kb nb d__law_take sc__law_take bi__law_take (sd__law_take B)
    have D_power := df_of (g := ⟨P, w, K, mg, base, ⟨fun _ => 0, fun _ => []⟩, fun _ => True⟩) kb nb d_power sc_power bi_power (sd_power B)
    have D_gauss := df_of (g := ⟨P, w, K, mg, base, ⟨fun _ => 0, fun _ => []⟩, fun _ => True⟩) kb nb d_gauss sc_gauss bi_gauss (sd_gauss B D_power)
    have D__law_power := df_of (g := ⟨P, w, K, mg, base, ⟨fun _ => 0, fun _ => []⟩, fun _ => True⟩) kb nb d__law_power sc__law_power bi__law_power (sd__law_power B)
    have D__law_tables := df_of (g := ⟨P, w, K, mg, base, ⟨fun _ => 0, fun _ => []⟩, fun _ => True⟩) kb nb d__law_tables sc__law_tables bi__law_tables (sd__law_tables B D__law_power)
    have D_invertible_count := df_of (g := ⟨P, w, K, mg, base, ⟨fun _ => 0, fun _ => []⟩, fun _ => True⟩) kb nb d_invertible_count sc_invertible_count bi_invertible_count (sd_invertible_count B D_power)
    have D_is_integer := df_of (g := ⟨P, w, K, mg, base, ⟨fun _ => 0, fun _ => []⟩, fun _ => True⟩) kb nb d_is_integer sc_is_integer bi_is_integer (sd_is_integer B)
    have D__law_prime := df_of (g := ⟨P, w, K, mg, base, ⟨fun _ => 0, fun _ => []⟩, fun _ => True⟩) kb nb d__law_prime sc__law_prime bi__law_prime (sd__law_prime B)
    have D__law_joined := df_of (g := ⟨P, w, K, mg, base, ⟨fun _ => 0, fun _ => []⟩, fun _ => True⟩) kb nb d__law_joined sc__law_joined bi__law_joined (sd__law_joined B D__law_prime)
    have D__law_field := df_of (g := ⟨P, w, K, mg, base, ⟨fun _ => 0, fun _ => []⟩, fun _ => True⟩) kb nb d__law_field sc__law_field bi__law_field (sd__law_field B D__law_prime D__law_joined)
    have D__law_rows := df_of (g := ⟨P, w, K, mg, base, ⟨fun _ => 0, fun _ => []⟩, fun _ => True⟩) kb nb d__law_rows sc__law_rows bi__law_rows (sd__law_rows B)
    have D__law_sum := df_of (g := ⟨P, w, K, mg, base, ⟨fun _ => 0, fun _ => []⟩, fun _ => True⟩) kb nb d__law_sum sc__law_sum bi__law_sum (sd__law_sum B)
    have D__law_times := df_of (g := ⟨P, w, K, mg, base, ⟨fun _ => 0, fun _ => []⟩, fun _ => True⟩) kb nb d__law_times sc__law_times bi__law_times (sd__law_times B)
    have D__law_spanned := df_of (g := ⟨P, w, K, mg, base, ⟨fun _ => 0, fun _ => []⟩, fun _ => True⟩) kb nb d__law_spanned sc__law_spanned bi__law_spanned (sd__law_spanned B D__law_sum D__law_times)
    have D__law_is_free := df_of (g := ⟨P, w, K, mg, base, ⟨fun _ => 0, fun _ => []⟩, fun _ => True⟩) kb nb d__law_is_free sc__law_is_free bi__law_is_free (sd__law_is_free B D__law_spanned)
    have D__law_walked := df_of (g := ⟨P, w, K, mg, base, ⟨fun _ => 0, fun _ => []⟩, fun _ => True⟩) kb nb d__law_walked sc__law_walked bi__law_walked (sd__law_walked B D__law_field D__law_rows D__law_is_free)
    exact sd_law B D_is_integer D_power D_gauss D_invertible_count D__law_state D__law_take D__law_power D__law_tables D__law_walked) (fun _ => trivial) hf
end K05

namespace K05
open PySem L2 Wi
theorem facts : ∀ q ∈ ([2, 3, 4, 5, 7, 9] : List Int), ∀ n < 7, (q ^ n < 1073741824 * 1073741824) ∧ ∀ k < 9, gau n ((k : Nat) - 1) q = tabs n ((k : Nat) - 1) q 0 (List.range' 0 (2 ^ n)) := by decide +kernel
def prs : List (Int × Nat) := [(2, 0), (3, 0), (4, 0), (5, 0), (7, 0), (9, 0), (2, 1), (3, 1), (4, 1), (5, 1), (7, 1), (9, 1), (2, 2), (3, 2)]
theorem wal (c : Cell) : prs.map (fun p => f__law_walked [.int p.1, .int (p.2 : Nat)] [c]) = prs.map (fun p => .ok (.int (invs p.2 p.1 1 (List.range' 0 p.2))) [c]) := by kernel_rfl
theorem walked {q : Int} {n : Nat} (h : (q, n) ∈ prs) (c : Cell) : f__law_walked [.int q, .int (n : Nat)] [c] = .ok (.int (invs n q 1 (List.range' 0 n))) [c] :=
  List.map_inj_left.mp (wal c) (q, n) h
theorem prs_all : ∀ q ∈ ([2, 3, 4, 5, 7, 9] : List Int), ∀ n < 7, q ^ (n * n) ≤ 81 → (q, n) ∈ prs := by decide +kernel
theorem dues_ok {n : Nat} {q : Int} (h : Qn q n) (hq : smallB q = true) {a b c d f g : Option PV} {st : Store} : ∀ (is : List Nat) (r : Int) (x : Option PV), (∀ i ∈ is, i < n) →
    ∃ x', forL (gN 4) (sSet 3 (dOp2 (opInt fMul) (dVar 3) (dOp2 (opInt fSub) (dCall 2 f__law_power (aCons (dVar 2) (aCons (dVar 6) aNil))) (dCall 2 f__law_power (aCons (dVar 2) (aCons (dVar 4) aNil))))))
      (pns is) [a, b, some (.int q), some (.int r), x, c, some (.int (n : Nat)), d, f, g] st = .nx [a, b, some (.int q), some (.int (invs n q r is)), x', c, some (.int (n : Nat)), d, f, g] st
  | [], r, x, _ => ⟨x, rfl⟩
  | i :: is, r, x, hi => by
    have h2 := hi i List.mem_cons_self
    obtain ⟨x', e⟩ := dues_ok h hq (a := a) (b := b) (c := c) (d := d) (f := f) (g := g) (st := st) is (r * (q ^ n - q ^ i)) (some (.int (i : Nat))) (fun j hj => hi j (List.mem_cons_of_mem _ hj))
    refine ⟨x', ?_⟩
    have q2 := pw_le h.two (Nat.le_of_lt h2)
    have q3 := pw_pos h.two i
    have q5 := h.lim
    have p1 := (dCall_ok (np := 2) (f := f__law_power) (a2_ok (dVar_ok (i := 2) (ρ := [a, b, some (.int q), some (.int r), some (.int (i : Nat)), c, some (.int (n : Nat)), d, f, g]) (st := st) rfl rfl) (dVar_ok (i := 6) rfl rfl)) rfl).trans (h.lp (Nat.le_refl n) hq st)
    have p2 := (dCall_ok (np := 2) (f := f__law_power) (a2_ok (dVar_ok (i := 2) (ρ := [a, b, some (.int q), some (.int r), some (.int (i : Nat)), c, some (.int (n : Nat)), d, f, g]) (st := st) rfl rfl) (dVar_ok (i := 4) rfl rfl)) rfl).trans (h.lp (Nat.le_of_lt h2) hq st)
    have p3 := dOp2_ok (dVar_ok (i := 3) rfl rfl) (dOp2_ok p1 p2 (show opInt fSub (.int _) (.int _) st = _ from rfl)) (op_mul_r (small_of (by omega) (by omega)) r st)
    show forL (gN 4) _ (PV.int (i : Nat) :: pns is) [a, b, some (.int q), some (.int r), x, c, some (.int (n : Nat)), d, f, g] st = _
    rw [for_one (i := 4) (ρ := [a, b, some (.int q), some (.int r), x, c, some (.int (n : Nat)), d, f, g]) (x := .int (i : Nat)) (sSet_ok (i := 3) p3)]
    exact e
theorem pick {v : Int} (h0 : 0 ≤ v) (h1 : v < 6) (st : Store) : ∃ q ∈ ([2, 3, 4, 5, 7, 9] : List Int), oIx (.lst [.int 2, .int 3, .int 4, .int 5, .int 7, .int 9]) (.int v) st = .ok (.int q) st := by
  rcases (show v = 0 ∨ v = 1 ∨ v = 2 ∨ v = 3 ∨ v = 4 ∨ v = 5 by omega) with rfl | rfl | rfl | rfl | rfl | rfl
  · exact ⟨2, by decide, rfl⟩
  · exact ⟨3, by decide, rfl⟩
  · exact ⟨4, by decide, rfl⟩
  · exact ⟨5, by decide, rfl⟩
  · exact ⟨7, by decide, rfl⟩
  · exact ⟨9, by decide, rfl⟩
theorem small6 : ∀ q ∈ ([2, 3, 4, 5, 7, 9] : List Int), 2 ≤ q ∧ smallB q = true := by decide +kernel
theorem if_same {e d : Den} {ρ : Sl} {st st1 st2 : Store} {i : Int} {a b : DenS} (h1 : e ρ st = .ok (.int i) st1) (h2 : d ρ st1 = .ok (.int i) st2) : sIf (dB (dOp2 oNe e d)) a b ρ st = b ρ st2 := by
  rw [sIf_ok (dB_ok (dOp2_ok h1 h2 ((ne_int i i st2).trans (by rw [decide_eq_false (by simp)]))))]
  rfl
end K05

namespace K05
open PySem L2 Wi
theorem take_at {ρ : Sl} {s t m : Int} (i : Nat) (hr : ρ[i]? = some (some (.ref 0))) (hs : 0 ≤ s) (ht : 0 ≤ t) (h1 : 0 < m) (h2 : m < 1073741824) :
    ∃ v s' t' : Int, 0 ≤ v ∧ v < m ∧ 0 ≤ s' ∧ 0 ≤ t' ∧ dCall 2 f__law_take (aCons (dVar i) (aCons (dC (.int m)) aNil)) ρ [.lst [.int s, .int t]] = .ok (.int v) [.lst [.int s', .int t']] := by
  obtain ⟨v, s', t', a, b, c, e⟩ := law_take_ok (st := [.lst [.int s, .int t]]) (k := 0) ⟨rfl, hs, ht⟩ h1 h2
  refine ⟨v, s', t', a, b, c.s0, c.t0, ?_⟩
  exact (dCall_ok (a2_ok (by unfold dVar; rw [hr]; rfl) (dC_ok _ _ _)) rfl).trans e
theorem claim : ∀ ns : List Int, ns.length ≤ 63 → ∃ s', f_law [.lst (ns.map PV.int)] [] = .ok (.bl true) s' := by
  intro ns hl
  obtain ⟨s0, t0, hs0, ht0, e0⟩ := law_state_ok ns hl []
  obtain ⟨v1, s1, t1, a1, b1, hs1, ht1, e1⟩ := take_at (ρ := [some (.lst (ns.map PV.int)), some (.ref 0), none, none, none, none, none, none, none, none]) 1 rfl hs0 ht0 (m := 6) (by decide) (by decide)
  obtain ⟨q, hq, eq⟩ := pick a1 b1 [.lst [.int s1, .int t1]]
  obtain ⟨hq2, hqs⟩ := small6 q hq
  obtain ⟨v2, s2, t2, a2, b2, hs2, ht2, e2⟩ := take_at (ρ := [some (.lst (ns.map PV.int)), some (.ref 0), some (.int q), none, none, none, none, none, none, none]) 1 rfl hs1 ht1 (m := 7) (by decide) (by decide)
  obtain ⟨n, rfl⟩ : ∃ n : Nat, v2 = n := ⟨v2.toNat, by omega⟩
  obtain ⟨v3, s3, t3, a3, b3, hs3, ht3, e3⟩ := take_at (ρ := [some (.lst (ns.map PV.int)), some (.ref 0), some (.int q), none, none, none, none, none, none, none]) 1 rfl hs2 ht2 (m := 9) (by decide) (by decide)
  obtain ⟨k, rfl⟩ : ∃ k : Nat, v3 = k := ⟨v3.toNat, by omega⟩
  obtain ⟨f1, f2⟩ := facts q hq n (by omega)
  have Q : Qn q n := ⟨hq2, f1, by omega⟩
  have f3 := f2 k (by omega)
  obtain ⟨x4, ed⟩ := dues_ok Q hqs (a := some (.lst (ns.map PV.int))) (b := some (.ref 0)) (c := none) (d := some (.int ((k : Nat) - 1))) (f := none) (g := none) (st := [.lst [.int s3, .int t3]]) (List.range' 0 n) 1 none (fun i hi => by simpa using hi)
  obtain ⟨v4, s4, t4, a4, b4, hs4, ht4, e4⟩ := take_at (ρ := [some (.lst (ns.map PV.int)), some (.ref 0), some (.int q), some (.int (invs n q 1 (List.range' 0 n))), x4, none, some (.int (n : Nat)), some (.int ((k : Nat) - 1)), none, none]) 1 rfl hs3 ht3 (m := 21) (by decide) (by decide)
  obtain ⟨v5, s5, t5, a5, b5, hs5, ht5, e5⟩ := take_at (ρ := [some (.lst (ns.map PV.int)), some (.ref 0), some (.int q), some (.int (invs n q 1 (List.range' 0 n))), x4, none, some (.int (n : Nat)), some (.int ((k : Nat) - 1)), none, none]) 1 rfl hs4 ht4 (m := 40) (by decide) (by decide)
  obtain ⟨e, rfl⟩ : ∃ e : Nat, v5 = e := ⟨v5.toNat, by omega⟩
  refine ⟨[], ?_⟩
  refine mkFn_ok (xs := [.lst [.int s5, .int t5]]) ?_ rfl
  refine (sSeq_nx (sSet_ok ((dCall_ok (np := 1) (f := f__law_state) (a1_ok (dVar_ok rfl rfl)) rfl).trans e0))).trans ?_
  refine (sSeq_nx (sSet_ok (dOp2_ok (show dFrz _ _ _ = .ok (.lst [.int 2, .int 3, .int 4, .int 5, .int 7, .int 9]) _ from rfl) e1 eq))).trans ?_
  refine (sSeq_nx (sPar_ok (a2_ok e2 (dOp2_ok e3 (dC_ok _ _ _) (show opInt fSub (.int (k : Nat)) (.int 1) _ = _ from rfl))))).trans ?_
  have g1 := (dCall_ok (np := 3) (f := f_gauss) (a3_ok (dVar_ok (i := 6) (ρ := [some (.lst (ns.map PV.int)), some (.ref 0), some (.int q), none, none, none, some (.int (n : Nat)), some (.int ((k : Nat) - 1)), none, none]) (st := [.lst [.int s3, .int t3]]) rfl rfl) (dVar_ok (i := 7) rfl rfl) (dVar_ok (i := 2) rfl rfl)) rfl).trans (gauss_ok Q _)
  have g2 := (dCall_ok (np := 3) (f := f__law_tables) (a3_ok (dVar_ok (i := 6) (ρ := [some (.lst (ns.map PV.int)), some (.ref 0), some (.int q), none, none, none, some (.int (n : Nat)), some (.int ((k : Nat) - 1)), none, none]) (st := [.lst [.int s3, .int t3]]) rfl rfl) (dVar_ok (i := 7) rfl rfl) (dVar_ok (i := 2) rfl rfl)) rfl).trans (law_tables_ok (by omega) hqs _)
  rw [f3] at g1
  refine (sSeq_nx ((if_same g1 g2).trans rfl)).trans ?_
  refine (sSeq_nx (sSet_ok (dC_ok _ _ _))).trans ?_
  refine (sSeq_nx ((sFor_ok (iRng_nat (n := n) rfl (by omega))).trans ed)).trans ?_
  have g3 := (dCall_ok (np := 2) (f := f_invertible_count) (a2_ok (dVar_ok (i := 6) (ρ := [some (.lst (ns.map PV.int)), some (.ref 0), some (.int q), some (.int (invs n q 1 (List.range' 0 n))), x4, none, some (.int (n : Nat)), some (.int ((k : Nat) - 1)), none, none]) (st := [.lst [.int s3, .int t3]]) rfl rfl) (dVar_ok (i := 2) rfl rfl)) rfl).trans (invertible_ok Q _)
  refine (sSeq_nx ((if_same g3 (dVar_ok rfl rfl)).trans rfl)).trans ?_
  have hnn : n * n < 4611686018427387904 := by
    have h6 : n ≤ 6 := by omega
    have := Nat.mul_le_mul h6 h6
    omega
  have g4 := (dCall_ok (np := 2) (f := f__law_power) (a2_ok (dVar_ok (i := 2) (ρ := [some (.lst (ns.map PV.int)), some (.ref 0), some (.int q), some (.int (invs n q 1 (List.range' 0 n))), x4, none, some (.int (n : Nat)), some (.int ((k : Nat) - 1)), none, none]) (st := [.lst [.int s3, .int t3]]) rfl rfl) (dOp2_ok (dVar_ok (i := 6) rfl rfl) (dVar_ok (i := 6) rfl rfl) ((op_mul_r (small_nat (by omega)) _ _).trans (show _ = Res.ok (PV.int ((n * n : Nat) : Int)) _ by rw [Int.natCast_mul])))) rfl).trans (law_power_ok q hqs (n * n) hnn _)
  have g5 : tAndD (dB (dOp2 (opInt fLe) (dCall 2 f__law_power (aCons (dVar 2) (aCons (dOp2 (opInt fMul) (dVar 6) (dVar 6)) aNil))) (dC (.int 81)))) (dB (dOp2 oNe (dCall 2 f_invertible_count (aCons (dVar 6) (aCons (dVar 2) aNil))) (dCall 2 f__law_walked (aCons (dVar 2) (aCons (dVar 6) aNil))))) [some (.lst (ns.map PV.int)), some (.ref 0), some (.int q), some (.int (invs n q 1 (List.range' 0 n))), x4, none, some (.int (n : Nat)), some (.int ((k : Nat) - 1)), none, none] [.lst [.int s3, .int t3]] = .ok false [.lst [.int s3, .int t3]] := by
    have h1 : dB (dOp2 (opInt fLe) (dCall 2 f__law_power (aCons (dVar 2) (aCons (dOp2 (opInt fMul) (dVar 6) (dVar 6)) aNil))) (dC (.int 81))) [some (.lst (ns.map PV.int)), some (.ref 0), some (.int q), some (.int (invs n q 1 (List.range' 0 n))), x4, none, some (.int (n : Nat)), some (.int ((k : Nat) - 1)), none, none] [.lst [.int s3, .int t3]] = .ok (decide (q ^ (n * n) ≤ 81)) [.lst [.int s3, .int t3]] :=
      dB_ok (dOp2_ok g4 (dC_ok _ _ _) rfl)
    unfold tAndD
    rw [h1]
    by_cases hc : q ^ (n * n) ≤ 81
    · rw [decide_eq_true hc]
      have g6 := (dCall_ok (np := 2) (f := f__law_walked) (a2_ok (dVar_ok (i := 2) (ρ := [some (.lst (ns.map PV.int)), some (.ref 0), some (.int q), some (.int (invs n q 1 (List.range' 0 n))), x4, none, some (.int (n : Nat)), some (.int ((k : Nat) - 1)), none, none]) (st := [.lst [.int s3, .int t3]]) rfl rfl) (dVar_ok (i := 6) rfl rfl)) rfl).trans (walked (prs_all q hq n (by omega) hc) _)
      exact dB_ok (dOp2_ok g3 g6 ((ne_int _ _ _).trans (by rw [decide_eq_false (by simp)])))
    · rw [decide_eq_false hc]
      rfl
  refine (sSeq_nx ((sIf_ok g5).trans rfl)).trans ?_
  refine (sSeq_nx (sPar_ok (a2_ok (dOp2_ok e4 (dC_ok _ _ _) (show opInt fSub (.int v4) (.int 10) _ = _ from rfl)) e5))).trans ?_
  have g7 := (dCall_ok (np := 2) (f := f_power) (a2_ok (dVar_ok (i := 8) (ρ := [some (.lst (ns.map PV.int)), some (.ref 0), some (.int q), some (.int (invs n q 1 (List.range' 0 n))), x4, none, some (.int (n : Nat)), some (.int ((k : Nat) - 1)), some (.int (v4 - 10)), some (.int (e : Nat))]) (st := [.lst [.int s5, .int t5]]) rfl rfl) (dVar_ok (i := 9) rfl rfl)) rfl).trans (power_ok 4 (by omega) (by omega) (by omega) _)
  have g8 := (dCall_ok (np := 2) (f := f__law_power) (a2_ok (dVar_ok (i := 8) (ρ := [some (.lst (ns.map PV.int)), some (.ref 0), some (.int q), some (.int (invs n q 1 (List.range' 0 n))), x4, none, some (.int (n : Nat)), some (.int ((k : Nat) - 1)), some (.int (v4 - 10)), some (.int (e : Nat))]) (st := [.lst [.int s5, .int t5]]) rfl rfl) (dVar_ok (i := 9) rfl rfl)) rfl).trans (law_power_ok (v4 - 10) (small_of (by omega) (by omega)) e (by omega) _)
  refine (sSeq_nx ((if_same g7 g8).trans rfl)).trans ?_
  refine (sSeq_nx (ρ' := [some (.lst (ns.map PV.int)), some (.ref 0), some (.int q), some (.int (invs n q 1 (List.range' 0 n))), x4, some (.lst [.int 2]), some (.int (n : Nat)), some (.int ((k : Nat) - 1)), some (.int (v4 - 10)), some (.int (e : Nat))]) (st' := [.lst [.int s5, .int t5]]) ?l).trans ?r
  case l => rfl
  case r => rfl
end K05

open PySem PySem.W PyProof.Rows Wi in
set_option maxRecDepth 100000 in
set_option maxHeartbeats 0 in
theorem PySem.Challenge.cw_wittspaces_k05_numbers_of_spaces_holds : PySem.Challenge.rw_wittspaces_k05_numbers_of_spaces.Holds := by
  w_on; o_law; k_head; (case hw => w_witness2)
  k_fill
  refine Wi.walk (n := 5) (l := PySem.Challenge.rw_wittspaces_k05_numbers_of_spaces) rfl rfl ⟨rfl, by decide, by decide⟩ (fun w h Y => PySem.W.kIn_of Y) ?F
  case F =>
    intro w mg fa h KX G hmg
    refine' K05.all KX G hmg ?z0 ?z1 ?z2 ?z3 ?z4 ?z5 ?z6 ?z7 ?z8 ?z9 ?z10 ?z11 ?z12 ?z13 ?z14 ?z15 ?z16 ?z17 ?z18 ?d__law_state ?d__law_take ?d_power ?d_gauss ?d__law_power ?d__law_tables ?d_invertible_count ?d_is_integer ?d__law_prime ?d__law_joined ?d__law_field ?d__law_rows ?d__law_sum ?d__law_times ?d__law_spanned ?d__law_is_free ?d__law_walked ?d_law K05.claim
    (case z0 => k_is)
    (case z1 => k_is)
    (case z2 => k_is)
    (case z3 => k_is)
    (case z4 => k_is)
    (case z5 => k_is)
    (case z6 => k_is)
    (case z7 => k_is)
    (case z8 => k_is)
    (case z9 => k_is)
    (case z10 => k_is)
    (case z11 => k_is)
    (case z12 => k_is)
    (case z13 => k_is)
    (case z14 => k_is)
    (case z15 => k_is)
    (case z16 => k_is)
    (case z17 => k_is)
    (case z18 => k_is)
    (case d__law_state => refine' dd_mk ?a__law_state ?l__law_state ?c__law_state ?k__law_state; (case a__law_state => k_is); (case l__law_state => k_is); (case c__law_state => k_is); (case k__law_state => k_is))
    (case d__law_take => refine' dd_mk ?a__law_take ?l__law_take ?c__law_take ?k__law_take; (case a__law_take => k_is); (case l__law_take => k_is); (case c__law_take => k_is); (case k__law_take => k_is))
    (case d_power => refine' dd_mk ?a_power ?l_power ?c_power ?k_power; (case a_power => k_is); (case l_power => k_is); (case c_power => k_is); (case k_power => k_is))
    (case d_gauss => refine' dd_mk ?a_gauss ?l_gauss ?c_gauss ?k_gauss; (case a_gauss => k_is); (case l_gauss => k_is); (case c_gauss => k_is); (case k_gauss => k_is))
    (case d__law_power => refine' dd_mk ?a__law_power ?l__law_power ?c__law_power ?k__law_power; (case a__law_power => k_is); (case l__law_power => k_is); (case c__law_power => k_is); (case k__law_power => k_is))
    (case d__law_tables => refine' dd_mk ?a__law_tables ?l__law_tables ?c__law_tables ?k__law_tables; (case a__law_tables => k_is); (case l__law_tables => k_is); (case c__law_tables => k_is); (case k__law_tables => k_is))
    (case d_invertible_count => refine' dd_mk ?a_invertible_count ?l_invertible_count ?c_invertible_count ?k_invertible_count; (case a_invertible_count => k_is); (case l_invertible_count => k_is); (case c_invertible_count => k_is); (case k_invertible_count => k_is))
    (case d_is_integer => refine' dd_mk ?a_is_integer ?l_is_integer ?c_is_integer ?k_is_integer; (case a_is_integer => k_is); (case l_is_integer => k_is); (case c_is_integer => k_is); (case k_is_integer => k_is))
    (case d__law_prime => refine' dd_mk ?a__law_prime ?l__law_prime ?c__law_prime ?k__law_prime; (case a__law_prime => k_is); (case l__law_prime => k_is); (case c__law_prime => k_is); (case k__law_prime => k_is))
    (case d__law_joined => refine' dd_mk ?a__law_joined ?l__law_joined ?c__law_joined ?k__law_joined; (case a__law_joined => k_is); (case l__law_joined => k_is); (case c__law_joined => k_is); (case k__law_joined => k_is))
    (case d__law_field => refine' dd_mk ?a__law_field ?l__law_field ?c__law_field ?k__law_field; (case a__law_field => k_is); (case l__law_field => k_is); (case c__law_field => k_is); (case k__law_field => k_is))
    (case d__law_rows => refine' dd_mk ?a__law_rows ?l__law_rows ?c__law_rows ?k__law_rows; (case a__law_rows => k_is); (case l__law_rows => k_is); (case c__law_rows => k_is); (case k__law_rows => k_is))
    (case d__law_sum => refine' dd_mk ?a__law_sum ?l__law_sum ?c__law_sum ?k__law_sum; (case a__law_sum => k_is); (case l__law_sum => k_is); (case c__law_sum => k_is); (case k__law_sum => k_is))
    (case d__law_times => refine' dd_mk ?a__law_times ?l__law_times ?c__law_times ?k__law_times; (case a__law_times => k_is); (case l__law_times => k_is); (case c__law_times => k_is); (case k__law_times => k_is))
    (case d__law_spanned => refine' dd_mk ?a__law_spanned ?l__law_spanned ?c__law_spanned ?k__law_spanned; (case a__law_spanned => k_is); (case l__law_spanned => k_is); (case c__law_spanned => k_is); (case k__law_spanned => k_is))
    (case d__law_is_free => refine' dd_mk ?a__law_is_free ?l__law_is_free ?c__law_is_free ?k__law_is_free; (case a__law_is_free => k_is); (case l__law_is_free => k_is); (case c__law_is_free => k_is); (case k__law_is_free => k_is))
    (case d__law_walked => refine' dd_mk ?a__law_walked ?l__law_walked ?c__law_walked ?k__law_walked; (case a__law_walked => k_is); (case l__law_walked => k_is); (case c__law_walked => k_is); (case k__law_walked => k_is))
    (case d_law => refine' dd_mk ?a_law ?l_law ?c_law ?k_law; (case a_law => k_is); (case l_law => k_is); (case c_law => k_is); (case k_law => k_is))
