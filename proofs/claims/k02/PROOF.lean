import PyProof.Rows.All
import HandS.ForMost
import HandS.TupAny
import HandS.Conv
import HandS.ForExc
import HandS.Wide
import KE.KNest
import HandS.Style
import HandS.Deep
import HandS.DeepEq
import HandS.Zip
import HandS.WordsExc
import HandS.CallSlots
import HandS.IsInst
import HandS.GenList
import HandS.AnyAll
import PyProof.TupleOfGen
import PyProof.WalksS
import PyProof.ConsumeS
import HandS.EndTab
import KE.KNestM
import HandS.OwnEq
import HandS.ExcInit
import HandS.ExcField
import HandS.ExcIs
import HandS.TryOnly
import HandS.Strs
import KE.KExcIs
import KE.GoesRaise
import PyProof.TableCode
import Wide.All
import OpenK.AllK
import Wide.FinOn
import PySem.Challenge.RW_wittspaces_k02_reduced_tables
set_option Elab.async false
set_option linter.all false
set_option maxRecDepth 100000
/-! Wi0: new tuples whose whole object is known. -/
namespace L2
open PySem PySem.Spec PyProof.Rows HT
/-- a tuple's object -/
abbrev tobj (us : List Value) : Obj := { cls := .type "tuple", data := .seq us.toArray }
/-- a tuple whose object has no dict -/
def TupR (K : PySem.W.Frag) (F : Hp) (a : Addr) (vs : List V) : Prop := (∃ ob, F a = some (.frz ob (.tup vs)) ∧ ob.dict = none) ∨
  ∃ (o : Obj) (its : Array Value) (n : Nat), K.lookup a = some o ∧ o.cls = .type "tuple" ∧ o.data = .seq its n ∧ its.size ≤ sizeLine ∧ Vals vs its.toList ∧ o.dict = none
theorem TupR.sq {K : PySem.W.Frag} {F : Hp} {a : Addr} {vs : List V} (h : TupR K F a vs) : SqT K F a vs := by
  rcases h with ⟨ob, h, _⟩ | ⟨o, its, n, h1, h2, h3, h4, h5, _⟩
  · exact .inl (.inr ⟨ob, h⟩)
  · exact .inr ⟨o, its, n, h1, h2, h3, h4, h5⟩
theorem TupR.mono {K : PySem.W.Frag} {F F' : Hp} (e : ∀ b o, F b = some o → F' b = some o) {a : Addr} {vs : List V} (h : TupR K F a vs) : TupR K F' a vs := by
  rcases h with ⟨ob, h, d⟩ | h
  · exact .inl ⟨ob, e _ _ h, d⟩
  · exact .inr h
section
variable {X : Cx} {pins : List (Addr × Obj)} {σ : St} {H : Hp} {s : Shared}
/-- laid with its object -/
theorem Inv.layT {t' : Nat} {xs : List V} {us : List Value} (I : Inv X pins σ H s) (r : Vals xs us) (z : xs.length ≤ sizeLine) : Inv X pins σ (upd H s.heap.objs.size (.frz (tobj us) (.tup xs))) { s with heap := s.heap.push (tobj us), toks := t' } :=
  I.laid (t' := t') (fun b ob q => Heap.get?_push_of_some _ q) (Nat.le_refl _) ⟨Heap.get?_push_size _ rfl, z, us, r, IsTup.new _ _⟩
def tTupX (t : TA) : TE := fun σ H Q => t σ H fun xs H1 => xs.length ≤ sizeLine ∧ ∀ p ob, ob.dict = none → H1 p = none → Q (.ref p) (upd H1 p (.frz ob (.tup xs)))
theorem pe_tupX {es : List Expr} {t : TA} {pos : Pos} {x1} (h : PA X es t) : PE X (.Tuple es x1 pos) (tTupX t) := by
  refine ⟨fun pins s σ H Q I hq => ?_⟩
  refine wpAny_Tuple_spliced (thn (h.run pos pins s σ H _ I hq) fun us s1 ⟨xs, H1, I1, r, z, q⟩ => ⟨by rw [← r.length]; exact z, ?_⟩)
  exact ⟨.ref s1.heap.objs.size, _, I1.layT (t' := s1.toks) r z, rfl, q _ _ rfl (I1.hok.fresh (Nat.le_refl _))⟩
def rCatX (K : PySem.W.Frag) : R2 := fun x y H Q => ∃ a b xs ys, x = .ref a ∧ y = .ref b ∧ SqT K H a xs ∧ SqT K H b ys ∧ xs.length + ys.length ≤ sizeLine ∧
  (xs = [] → Q (.ref b) H) ∧ (xs ≠ [] → ys = [] → Q (.ref a) H) ∧ (xs ≠ [] → ys ≠ [] → ∀ p ob, ob.dict = none → H p = none → Q (.ref p) (upd H p (.frz ob (.tup (xs ++ ys)))))
theorem op_catX : OpR X (binaryOp .Add) (rCatX X.K) := by
  intro pins s σ H x y v u Q I rx ry h
  obtain ⟨a, b, xs, ys, rfl, rfl, ha, hb, hz, q0, q1, q2⟩ := h
  cases rx
  cases ry
  obtain ⟨its, r1, p1, _⟩ := I.tuple ha
  obtain ⟨its2, r2, p2, _⟩ := I.tuple hb
  by_cases hx : xs = []
  · subst hx
    cases r1
    exact cat_tup0 p1 p2 ⟨.ref b, H, I, rfl, q0 rfl⟩
  · refine HT.cat_tup p1 p2 (fun z => hx (r1.nil_iff.mp z)) (fun z => ⟨.ref a, H, I, rfl, q1 hx (r2.nil_iff.mp z)⟩) (fun z => ?_) (by rw [← r1.length, ← r2.length]; exact hz)
    exact ⟨.ref s.heap.objs.size, _, I.layT (t' := s.toks) (r1.append r2) (by rw [List.length_append]; exact hz), rfl, q2 hx (fun w => z (r2.nil_iff.mpr w)) _ _ rfl (I.hok.fresh (Nat.le_refl _))⟩
def rSlX (K : PySem.W.Frag) : V → Option Int → Option Int → Hp → VK → Prop := fun x lo hi H Q => ∃ a xs, x = .ref a ∧ SqT K H a xs ∧
  (HT.sIx xs.length 0 lo = 0 ∧ HT.sIx xs.length xs.length hi = xs.length → Q (.ref a) H) ∧ (¬ (HT.sIx xs.length 0 lo = 0 ∧ HT.sIx xs.length xs.length hi = xs.length) → ∀ p ob, ob.dict = none → H p = none → Q (.ref p) (upd H p (.frz ob (.tup (cutV xs lo hi)))))
theorem sl_tupX : SlR X (rSlX X.K) := by
  intro pins s σ H x v vl vu lo hi sl Q I rx hs pl pu h
  obtain ⟨a, xs, rfl, hx, q1, q2⟩ := h
  cases rx
  obtain ⟨its, r, ht, hz⟩ := I.tuple hx
  have hlen : its.toArray.size = xs.length := by rw [List.size_toArray]; exact r.length.symm
  by_cases hw : HT.sIx xs.length 0 lo = 0 ∧ HT.sIx xs.length xs.length hi = xs.length
  · refine ⟨"tuple", _, PyProof.Rows.slot_tuple_getitem.lookup, ht.typeIs, ?_⟩
    exact getItem_tuple_whole ht hs pl pu (by rw [hlen]; exact hw) ⟨.ref a, H, I, rfl, q1 hw⟩
  · refine ⟨"tuple", _, PyProof.Rows.slot_tuple_getitem.lookup, ht.typeIs, ?_⟩
    refine HT.getItem_tuple_cut ht hs pl pu (by rw [hlen]; exact hw) ?_ (by rw [hlen]; exact hz)
    rw [hlen]
    exact ⟨.ref s.heap.objs.size, _, I.layT (t' := s.toks) ((r.drop (HT.sIx xs.length 0 lo)).take (HT.sIx xs.length xs.length hi - HT.sIx xs.length 0 lo)) (Nat.le_trans (cutV_length xs lo hi) hz), rfl, q2 hw _ _ rfl (I.hok.fresh (Nat.le_refl _))⟩
theorem call_tuple_ofX : CallR X (.type "tuple") (fun xs H Q => ∃ p ys, xs = [.ref p] ∧ ((SqL X.K H p ys ∧ ∀ l ob, ob.dict = none → H l = none → Q (.ref l) (upd H l (.frz ob (.tup ys)))) ∨ (SqT X.K H p ys ∧ Q (.ref p) H))) := by
  intro pins s σ H xs us Q I r h
  obtain ⟨p, ys, rfl, h⟩ := h
  obtain ⟨u, rfl, rx⟩ := vals1 r
  cases rx
  rcases h with ⟨hq, q⟩ | ⟨hq, q⟩
  · obtain ⟨its, r', pl, hz⟩ := I.list hq
    have hlen := r'.length
    refine call_tuple_list pl.isList (fun h' kp => ?_) (by simp only [List.size_toArray] <;> omega)
    have I1 : Inv X pins σ H { s with heap := h' } := I.kept (t' := s.toks) kp
    exact ⟨.ref h'.objs.size, _, I1.layT (t' := s.toks) r' hz, rfl, q _ _ rfl (I1.hok.fresh (Nat.le_refl _))⟩
  · obtain ⟨its, r', pl, hz⟩ := I.tuple hq
    exact call_tuple_same pl ⟨.ref p, H, I, rfl, q⟩
def tTupRgX (te : St → Hp → (Int → Int → Hp → Prop) → Prop) : TE := fun σ H Q => te σ H fun a b H1 => RgOk a b ∧ ∀ q ob, ob.dict = none → H1 q = none → Q (.ref q) (upd H1 q (.frz ob (.tup (rgV a b))))
theorem pe_tupRgX {e : Expr} {te : St → Hp → (Int → Int → Hp → Prop) → Prop} {p pos : Pos} (hc : X.calm = true) (hg : Gl X "tuple") (hm : X.mg "tuple" = none) (he : PRg X e te) (na : starEach [e] X.env = (false, eval e X.env) :: starEach [] X.env := by rfl) : PE X (.Call (.Name "tuple" p) [e] [] pos) (tTupRgX te) := by
  refine ⟨fun pins s σ H Q I h => ?_⟩
  refine Call_ (ld_blt I hg hm boot_tuple (PyProof.Rows.callWith_type1 (args_cons (thn (he pins s σ H _ I h) fun x s1 ⟨r, a, b, t, u, v, H1, ex, hr, I1, ok, q⟩ => args_nil ?_) na) na))
  subst ex
  obtain ⟨b1, b2, b3, b4, b5⟩ := ok
  refine call_tuple_range (n := (b - a).toNat) (I1.ok.hd hc) hr (small_one b1 b2 b3 b4) (rangeSize_nat a b) b5 fun h' tk acc hk hi => ?_
  have I2 : Inv X pins σ H1 { s1 with heap := h', toks := tk } := I1.kept hk
  have hv := vals_rg hi
  have e : (acc.toList).toArray = acc := Array.toArray_toList
  refine ⟨.ref h'.objs.size, _, ?_, rfl, q _ (tobj acc.toList) rfl (I2.hok.fresh (Nat.le_refl _))⟩
  have J := I2.layT (t' := tk) hv (by rw [rgV_length, sizeLine_eq]; omega)
  unfold tobj at J ⊢
  rw [e] at J ⊢
  exact J
end
end L2

/-! Wi1: a plain evaluator's values, its store, and how both lie in the machine's heap. -/
namespace Wi
open PySem L2

/-- a value as a tree; a list that may still change, or an object that is being made, is a cell of the store -/
inductive PV where
  | non | bl (b : Bool) | int (i : Int) | str (s : Str)
  | tup (xs : List PV) | lst (xs : List PV) | ref (k : Nat) | obj (c : Nat) (xs : List PV)
instance : Inhabited PV := ⟨.non⟩

inductive Cell where
  | lst (xs : List PV) | frz (xs : List PV) | ins (c : Nat) (xs : List PV)
abbrev Store := List Cell
abbrev Sl := List (Option PV)

inductive Res (α : Type) where
  | ok (a : α) (st : Store) | exc (c : Nat) (l : List PV) (st : Store) | stuck (w : Nat)
def Res.bind {α β : Type} (r : Res α) (f : α → Store → Res β) : Res β := match r with
  | .ok a st => f a st
  | .exc c l st => .exc c l st
  | .stuck w => .stuck w
abbrev Den := Sl → Store → Res PV
abbrev DenA := Sl → Store → Res (List PV)
abbrev DenT := Sl → Store → Res Bool
/-- what a statement leaves -/
inductive RS where
  | nx (ρ : Sl) (st : Store) | rt (v : PV) (st : Store) | bk (ρ : Sl) (st : Store) | ct (ρ : Sl) (st : Store)
  | exc (c : Nat) (l : List PV) (ρ : Sl) (st : Store) | stuck (w : Nat)
abbrev DenS := Sl → Store → RS

/-! ### how they lie in the heap -/
/-- the classes of the text: where they stand, their fields' names in order -/
structure CT where
  ca : Nat → Addr
  lay : Nat → List Str

variable (K : PySem.W.Frag) (T : CT)
mutual
def RepV (F : Hp) : PV → V → Prop
  | .non, x => x = .non
  | .bl b, x => x = .bl b
  | .int i, x => x = .int i
  | .str s, x => x = .str s
  | .tup xs, x => ∃ a vs, x = .ref a ∧ TupR K F a vs ∧ RepVs F xs vs
  | .lst xs, x => ∃ a vs, x = .ref a ∧ SqL K F a vs ∧ RepVs F xs vs
  | .ref _, _ => False
  | .obj c xs, x => ∃ a dx vs, x = .ref a ∧ F a = some (.ins (T.ca c) dx ((T.lay c).zip vs)) ∧ xs.length = (T.lay c).length ∧ RepVs F xs vs
def RepVs (F : Hp) : List PV → List V → Prop
  | [], ys => ys = []
  | x :: xs, ys => ∃ y r, ys = y :: r ∧ RepV F x y ∧ RepVs F xs r
end

variable {K T}
theorem Same.seqT {H H' : Hp} {a : Addr} {xs : List V} (e : Same H H') (h : SqT K H a xs) : SqT K H' a xs := by
  rcases h with h | h
  · rcases h with h | ⟨o, h⟩
    · exact .inl (.inl (e _ _ h))
    · exact .inl (.inr ⟨o, e _ _ h⟩)
  · exact .inr h
mutual
theorem RepV.mono {F F' : Hp} (e : Same F F') : ∀ {v : PV} {x : V}, RepV K T F v x → RepV K T F' v x
  | .non, _, h => h
  | .bl _, _, h => h
  | .int _, _, h => h
  | .str _, _, h => h
  | .tup _, _, ⟨a, vs, r, q, s⟩ => ⟨a, vs, r, q.mono e, RepVs.mono e s⟩
  | .lst _, _, ⟨a, vs, r, q, s⟩ => ⟨a, vs, r, e.seq q, RepVs.mono e s⟩
  | .ref _, _, h => h
  | .obj _ _, _, ⟨a, dx, vs, r, q, l, s⟩ => ⟨a, dx, vs, r, e _ _ q, l, RepVs.mono e s⟩
theorem RepVs.mono {F F' : Hp} (e : Same F F') : ∀ {v : List PV} {x : List V}, RepVs K T F v x → RepVs K T F' v x
  | [], _, h => h
  | _ :: _, _, ⟨y, r, q, h, t⟩ => ⟨y, r, q, RepV.mono e h, RepVs.mono e t⟩
end
theorem RepVs.length {F : Hp} : ∀ {v : List PV} {x : List V}, RepVs K T F v x → v.length = x.length
  | [], _, h => by subst h; rfl
  | _ :: _, _, ⟨y, r, q, _, t⟩ => by subst q; simp [RepVs.length t]
theorem RepVs.append {F : Hp} : ∀ {v w : List PV} {x y : List V}, RepVs K T F v x → RepVs K T F w y → RepVs K T F (v ++ w) (x ++ y)
  | [], _, _, _, h, h' => by subst h; exact h'
  | _ :: _, _, _, _, ⟨y, r, q, h, t⟩, h' => by subst q; exact ⟨y, r ++ _, rfl, h, RepVs.append t h'⟩
theorem RepVs.get {F : Hp} : ∀ {v : List PV} {x : List V} {i : Nat} {a : PV}, RepVs K T F v x → v[i]? = some a → ∃ b, x[i]? = some b ∧ RepV K T F a b
  | [], _, _, _, _, e => by simp at e
  | _ :: _, _, 0, _, ⟨y, r, q, h, t⟩, e => by subst q; simp at e; subst e; exact ⟨y, rfl, h⟩
  | _ :: _, _, i + 1, _, ⟨y, r, q, h, t⟩, e => by subst q; simpa using RepVs.get (i := i) t (by simpa using e)
theorem RepVs.get' {F : Hp} : ∀ {v : List PV} {x : List V} {i : Nat} {b : V}, RepVs K T F v x → x[i]? = some b → ∃ a, v[i]? = some a ∧ RepV K T F a b
  | [], _, _, _, h, e => by subst h; simp at e
  | _ :: _, _, 0, _, ⟨y, r, q, h, t⟩, e => by subst q; simp at e; subst e; exact ⟨_, rfl, h⟩
  | _ :: _, _, i + 1, _, ⟨y, r, q, h, t⟩, e => by subst q; simpa using RepVs.get' (i := i) t (by simpa using e)
theorem RepVs.set {F : Hp} {a : PV} {b : V} (r0 : RepV K T F a b) : ∀ {v : List PV} {x : List V} (i : Nat), RepVs K T F v x → RepVs K T F (v.set i a) (x.set i b)
  | [], _, _, h => by subst h; rfl
  | _ :: _, _, 0, ⟨y, r, q, h, t⟩ => by subst q; exact ⟨b, r, rfl, r0, t⟩
  | _ :: _, _, i + 1, ⟨y, r, q, h, t⟩ => by subst q; exact ⟨y, _, rfl, h, RepVs.set r0 i t⟩
theorem RepVs.take {F : Hp} : ∀ {v : List PV} {x : List V} (n : Nat), RepVs K T F v x → RepVs K T F (v.take n) (x.take n)
  | _, _, 0, _ => by simp [RepVs]
  | [], _, _ + 1, h => by subst h; simp [RepVs]
  | _ :: _, _, n + 1, ⟨y, r, q, h, t⟩ => by subst q; exact ⟨y, r.take n, rfl, h, RepVs.take n t⟩
theorem RepVs.drop {F : Hp} : ∀ {v : List PV} {x : List V} (n : Nat), RepVs K T F v x → RepVs K T F (v.drop n) (x.drop n)
  | _, _, 0, h => h
  | [], _, _ + 1, h => by subst h; simp [RepVs]
  | _ :: _, _, n + 1, ⟨y, r, q, h, t⟩ => by subst q; exact RepVs.drop n t
theorem RepVs.one {F : Hp} {a : PV} {b : V} (r : RepV K T F a b) : RepVs K T F [a] [b] := ⟨b, [], rfl, r, rfl⟩

/-- the addresses of the cells that may change -/
def Cell.live : Cell → Bool
  | .frz _ => false
  | _ => true
def live : Store → List Addr → List Addr
  | c :: st, a :: κ => if c.live then a :: live st κ else live st κ
  | _, _ => []
/-- the heap without what may change -/
def fz (L : List Addr) (H : Hp) : Hp := fun b => if b ∈ L then none else match H b with
  | some (.tbl _) => none
  | o => o
theorem fz_some {L : List Addr} {H : Hp} {b : Addr} {o : HO} : fz L H b = some o → H b = some o := by
  unfold fz
  split
  · intro h; cases h
  · split
    · intro h; cases h
    · exact id
theorem fz_same {L L' : List Addr} {H H' : Hp} (h : ∀ b o, b ∉ L → (∀ ps, o ≠ .tbl ps) → H b = some o → b ∉ L' ∧ H' b = some o) : Same (fz L H) (fz L' H') := fun b o e => by
  have e1 := fz_some e
  have hL : b ∉ L := fun z => by unfold fz at e; rw [if_pos z] at e; cases e
  have ht : ∀ ps, o ≠ .tbl ps := fun ps z => by
    subst z
    unfold fz at e
    rw [if_neg hL, e1] at e
    cases e
  obtain ⟨q1, q2⟩ := h b o hL ht e1
  unfold fz
  rw [if_neg q1, q2]
  split
  · rename_i ps z; cases z; exact absurd rfl (ht ps)
  · rfl

def CellR (K : PySem.W.Frag) (T : CT) (F H : Hp) (a : Addr) : Cell → Prop
  | .lst xs => ∃ vs, H a = some (.lst vs) ∧ RepVs K T F xs vs
  | .frz xs => ∃ vs, SqL K F a vs ∧ RepVs K T F xs vs
  | .ins c xs => ∃ dx vs, H a = some (.ins (T.ca c) dx ((T.lay c).zip vs)) ∧ xs.length ≤ (T.lay c).length ∧ RepVs K T F xs vs
def CellsR (K : PySem.W.Frag) (T : CT) (F H : Hp) : Store → List Addr → Prop
  | [], κ => κ = []
  | c :: st, κ => ∃ a r, κ = a :: r ∧ CellR K T F H a c ∧ CellsR K T F H st r
/-- a value that may be a cell -/
def RepX (K : PySem.W.Frag) (T : CT) (κ : List Addr) (F : Hp) : PV → V → Prop
  | .ref k, x => ∃ a, κ[k]? = some a ∧ x = .ref a
  | v, x => RepV K T F v x
/-- the store lies in the heap; Tb: what the text's tables must be -/
structure StR (K : PySem.W.Frag) (T : CT) (Tb : Hp → Prop) (st : Store) (κ : List Addr) (H : Hp) : Prop where
  cells : CellsR K T (fz (live st κ) H) H st κ
  nd : κ.Nodup
  there : ∀ a ∈ κ, H a ≠ none
  tabs : Tb H
abbrev Fz (st : Store) (κ : List Addr) (H : Hp) : Hp := fz (live st κ) H
/-- later -/
structure Ext (K : PySem.W.Frag) (T : CT) (Tb : Hp → Prop) (st : Store) (κ : List Addr) (H : Hp) (st' : Store) (κ' : List Addr) (H' : Hp) : Prop where
  sr : StR K T Tb st' κ' H'
  pre : κ <+: κ'
  same : Same (Fz st κ H) (Fz st' κ' H')
def SlR (K : PySem.W.Frag) (T : CT) (κ : List Addr) (F : Hp) : Sl → L2.St → Prop
  | [], σ => σ = []
  | o :: ρ, σ => ∃ x r, σ = x :: r ∧ (∀ v, o = some v → ∃ y, x = some y ∧ RepX K T κ F v y) ∧ SlR K T κ F ρ r

theorem RepX.mono {κ κ' : List Addr} {F F' : Hp} (p : κ <+: κ') (e : Same F F') {v : PV} {x : V} (h : RepX K T κ F v x) : RepX K T κ' F' v x := by
  cases v with
  | ref k =>
    obtain ⟨a, q, r⟩ := h
    obtain ⟨t, rfl⟩ := p
    exact ⟨a, by rw [List.getElem?_append_left (by have := (List.getElem?_eq_some_iff.mp q).1; exact this)]; exact q, r⟩
  | non => exact RepV.mono (K := K) (T := T) (v := .non) e h
  | bl b => exact RepV.mono (K := K) (T := T) (v := .bl b) e h
  | int i => exact RepV.mono (K := K) (T := T) (v := .int i) e h
  | str s => exact RepV.mono (K := K) (T := T) (v := .str s) e h
  | tup s => exact RepV.mono (K := K) (T := T) (v := .tup s) e h
  | lst s => exact RepV.mono (K := K) (T := T) (v := .lst s) e h
  | obj c s => exact RepV.mono (K := K) (T := T) (v := .obj c s) e h
theorem RepX.ofV {κ : List Addr} {F : Hp} {v : PV} {x : V} (h : RepV K T F v x) : RepX K T κ F v x := by
  cases v <;> first | exact h | exact h.elim
theorem SlR.mono {κ κ' : List Addr} {F F' : Hp} (p : κ <+: κ') (e : Same F F') : ∀ {ρ : Sl} {σ : L2.St}, SlR K T κ F ρ σ → SlR K T κ' F' ρ σ
  | [], _, h => h
  | _ :: _, _, ⟨x, r, q, h, t⟩ => ⟨x, r, q, fun v hv => let ⟨y, a, b⟩ := h v hv; ⟨y, a, b.mono p e⟩, SlR.mono p e t⟩
theorem SlR.length {κ : List Addr} {F : Hp} : ∀ {ρ : Sl} {σ : L2.St}, SlR K T κ F ρ σ → ρ.length = σ.length
  | [], _, h => by subst h; rfl
  | _ :: _, _, ⟨x, r, q, _, t⟩ => by subst q; simp [SlR.length t]
theorem SlR.get {κ : List Addr} {F : Hp} : ∀ {ρ : Sl} {σ : L2.St} {i : Nat} {v : PV}, SlR K T κ F ρ σ → ρ[i]? = some (some v) → ∃ y, σ[i]? = some (some y) ∧ RepX K T κ F v y
  | [], _, _, _, _, e => by simp at e
  | o :: _, _, 0, v, ⟨x, r, q, h, t⟩, e => by
    subst q; simp at e
    obtain ⟨y, a, b⟩ := h v e
    exact ⟨y, by simp [a], b⟩
  | _ :: _, _, i + 1, _, ⟨x, r, q, h, t⟩, e => by subst q; simpa using SlR.get (i := i) t (by simpa using e)
theorem SlR.set {κ : List Addr} {F : Hp} {v : PV} {y : V} (r0 : RepX K T κ F v y) : ∀ {ρ : Sl} {σ : L2.St} (i : Nat), SlR K T κ F ρ σ → SlR K T κ F (ρ.set i (some v)) (σ.set i (some y))
  | [], _, _, h => by subst h; rfl
  | _ :: _, _, 0, ⟨x, r, q, h, t⟩ => by subst q; exact ⟨some y, r, rfl, fun w hw => ⟨y, rfl, by cases hw; exact r0⟩, t⟩
  | _ :: _, _, i + 1, ⟨x, r, q, h, t⟩ => by subst q; exact ⟨x, _, rfl, h, SlR.set r0 i t⟩
theorem Ext.refl {Tb : Hp → Prop} {st : Store} {κ : List Addr} {H : Hp} (h : StR K T Tb st κ H) : Ext K T Tb st κ H st κ H := ⟨h, List.prefix_refl _, Same.refl _⟩
theorem Ext.trans {Tb : Hp → Prop} {st st1 st2 : Store} {κ κ1 κ2 : List Addr} {H H1 H2 : Hp} (a : Ext K T Tb st κ H st1 κ1 H1) (b : Ext K T Tb st1 κ1 H1 st2 κ2 H2) : Ext K T Tb st κ H st2 κ2 H2 :=
  ⟨b.sr, a.pre.trans b.pre, a.same.trans b.same⟩
end Wi

/-! Wi2: what an expression, a statement is worth in the machine, by the plain evaluator. -/
namespace Wi
open PySem L2

/-- what stays the same through the whole law -/
structure Gm where
  P : Program
  w : World
  K : PySem.W.Frag
  mg : Str → Option Value
  base : Heap
  T : CT
  Tb : Hp → Prop
/-! ### code objects and their tables -/
/-- o is the record of a code object at c, its table at P -/
def CodeO (o : Obj) (c P : Addr) : Prop := ∀ h : Heap, h.get? c = some o → PySem.W.CodeHd h c P
theorem CodeO.of {h : Heap} {o : Obj} {c P : Addr} (e : h.get? c = some o) (x : PySem.W.CodeHd h c P) : CodeO o c P := by
  obtain ⟨o2, vs, fl, tf, fg, tg, nf, tx, tt, e1, r⟩ := x
  rw [e] at e1
  cases e1
  exact fun h2 e2 => ⟨o, vs, fl, tf, fg, tg, nf, tx, tt, e2, r⟩
/-- the tables from P on, n deep -/
def TabD (H : Hp) : Nat → Addr → Prop
  | 0, _ => True
  | n + 1, P => ∃ ps : Array Value, H P = some (.tbl ps) ∧ TriplesOk ps.toList ∧ ∀ q cv, codeAmong q ps.toList = some cv → ∃ c' P' o u, cv = .ref c' ∧ H c' = some (.frz o u) ∧ CodeO o c' P' ∧ TabD H n P'
theorem TabD.mono {H H' : Hp} (ht : ∀ b ps, H b = some (.tbl ps) → H' b = some (.tbl ps)) (hf : ∀ b o u, H b = some (.frz o u) → H' b = some (.frz o u)) : ∀ {n : Nat} {P : Addr}, TabD H n P → TabD H' n P
  | 0, _, _ => trivial
  | n + 1, P, ⟨ps, e, t, f⟩ => ⟨ps, ht _ _ e, t, fun q cv hq => let ⟨c', P', o, u, e1, e2, e3, e4⟩ := f q cv hq; ⟨c', P', o, u, e1, hf _ _ _ e2, e3, TabD.mono ht hf e4⟩⟩
theorem TabD.less {H : Hp} : ∀ {n : Nat} {P : Addr}, TabD H (n + 1) P → TabD H n P
  | 0, _, _ => trivial
  | n + 1, P, ⟨ps, e, t, f⟩ => ⟨ps, e, t, fun q cv hq => let ⟨c', P', o, u, e1, e2, e3, e4⟩ := f q cv hq; ⟨c', P', o, u, e1, e2, e3, TabD.less e4⟩⟩
/-- a table grows by a code object whose own table is empty -/
theorem TabD.grow {H H' : Hp} {Q : Addr} {ps ps' : Array Value} (hQ : H Q = some (.tbl ps)) (hQ' : H' Q = some (.tbl ps')) (tr : TriplesOk ps'.toList)
    (ht : ∀ b qs, b ≠ Q → H b = some (.tbl qs) → H' b = some (.tbl qs)) (hf : ∀ b o u, H b = some (.frz o u) → H' b = some (.frz o u))
    (hn : ∀ q cv, codeAmong q ps'.toList = some cv → codeAmong q ps.toList = some cv ∨ ∃ c' P' o u, cv = .ref c' ∧ H' c' = some (.frz o u) ∧ CodeO o c' P' ∧ H' P' = some (.tbl #[])) : ∀ {n : Nat} {P : Addr}, TabD H n P → TabD H' n P
  | 0, _, _ => trivial
  | n + 1, P, ⟨qs, e, t, f⟩ => by
    have keep : ∀ q cv, codeAmong q qs.toList = some cv → ∃ c' P' o u, cv = .ref c' ∧ H' c' = some (.frz o u) ∧ CodeO o c' P' ∧ TabD H' n P' := fun q cv hq => by
      obtain ⟨c', P', o, u, e1, e2, e3, e4⟩ := f q cv hq
      exact ⟨c', P', o, u, e1, hf _ _ _ e2, e3, TabD.grow hQ hQ' tr ht hf hn e4⟩
    by_cases z : P = Q
    · subst z
      rw [hQ] at e
      cases e
      refine ⟨ps', hQ', tr, fun q cv hq => ?_⟩
      rcases hn q cv hq with h | ⟨c', P', o, u, e1, e2, e3, e4⟩
      · exact keep q cv h
      · refine ⟨c', P', o, u, e1, e2, e3, ?_⟩
        cases n with
        | zero => trivial
        | succ n => exact ⟨#[], e4, trivial, fun q cv hq => by simp [codeAmong] at hq⟩
    · exact ⟨qs, ht _ _ z e, t, keep⟩
theorem among_more {q : Pos} {cv : Value} : ∀ {L M : List Value}, TriplesOk L → codeAmong q L = some cv → codeAmong q (L ++ M) = some cv := fun {L M} t h => by
  fun_induction TriplesOk L with
  | case1 => simp [codeAmong] at h
  | case2 a t1 b u x rest ih =>
    simp only [List.cons_append, codeAmong] at h ⊢
    split at h
    · rename_i z; rw [if_pos z]; exact h
    · rename_i z; rw [if_neg z]; exact ih t h
  | case3 => exact t.elim
theorem among_last {q p : Pos} {v cv : Value} : ∀ {L : List Value}, TriplesOk L → codeAmong q (L ++ [rawInt p.line, rawInt p.col, v]) = some cv → codeAmong q L = some cv ∨ cv = v := fun {L} t h => by
  fun_induction TriplesOk L with
  | case1 =>
    simp only [List.nil_append, codeAmong, rawInt] at h
    split at h
    · exact .inr (Option.some.inj h).symm
    · cases h
  | case2 a t1 b u x rest ih =>
    simp only [List.cons_append, codeAmong] at h ⊢
    split at h
    · rename_i z; rw [if_pos z]; exact .inl h
    · rename_i z; rw [if_neg z]; exact ih t h
  | case3 => exact t.elim
/-- where the code stands: the names by place, the scope, the room; how deep its tables are known -/
structure Lc where
  N : List Str
  sc : Scope
  n : Nat
  fn : Str → Bool := fun _ => true
  tab : Nat := 0
  top : Bool := true
/-- the code object that runs, and its table -/
structure CodeFor (g : Gm) (X : Cx) (n : Nat) : Prop where
  ex : ∃ c P, X.env.code = .ref c ∧ ∀ (H : Hp) (h : Heap), HOk g.P g.w H h → (∀ b o, X.base.get? b = some o → h.get? b = some o) → (∀ b o u, X.H_0 b = some (.frz o u) → H b = some (.frz o u)) → (∀ b ps, X.H_0 b = some (.tbl ps) → ∃ more, H b = some (.tbl (ps ++ more))) →
    g.Tb H → PySem.W.CodeHd h c P ∧ TabD H n P
  bm : ∃ (b : Addr) (o : Obj), X.mg "__builtins__" = some (.ref b) ∧ b ≠ builtinsNs ∧ X.base.get? b = some o ∧ o.cls = .type "module" ∧ o.dict = some builtinsNs ∧ o.data = .plain
structure Jx (g : Gm) (l : Lc) (X : Cx) : Prop where
  p : X.prog = g.P
  w : X.w = g.w
  k : X.K = g.K
  m : X.mg = g.mg
  b : X.base = g.base
  N : X.N = l.N
  sc : X.env.scope = l.sc
  nd : l.N.Nodup
  calm : X.calm = true
  room : Room l.n X.A
  own : PassesOwn (model X.prog X.w) X.A X.env X.xe
  kind : l.sc.kind = .function
  fn : ∀ x, l.fn x = true → X.fn x = true
  code : 0 < l.tab → CodeFor g X l.tab
  stk : l.top = true → X.stack = X.env :: X.outer ∧ X.env.frame = some X.env.locals

abbrev RX (g : Gm) : List Addr → Hp → PV → V → Prop := fun κ F v x => RepX g.K g.T κ F v x
def RXs (g : Gm) (κ : List Addr) (F : Hp) : List PV → List V → Prop
  | [], ys => ys = []
  | x :: xs, ys => ∃ y r, ys = y :: r ∧ RepX g.K g.T κ F x y ∧ RXs g κ F xs r
abbrev RB : List Addr → Hp → Bool → Bool → Prop := fun _ _ a b => a = b
theorem RXs.mono {g : Gm} {κ κ' : List Addr} {F F' : Hp} (p : κ <+: κ') (e : Same F F') : ∀ {v : List PV} {x : List V}, RXs g κ F v x → RXs g κ' F' v x
  | [], _, h => h
  | _ :: _, _, ⟨y, r, q, h, t⟩ => ⟨y, r, q, h.mono p e, RXs.mono p e t⟩
theorem RXs.length {g : Gm} {κ : List Addr} {F : Hp} : ∀ {v : List PV} {x : List V}, RXs g κ F v x → v.length = x.length
  | [], _, h => by subst h; rfl
  | _ :: _, _, ⟨y, r, q, _, t⟩ => by subst q; simp [RXs.length t]

/-- an exception's own dict -/
def ExcR (g : Gm) (F H : Hp) (c : Nat) (l : List PV) (d : Option Addr) : Prop :=
  match g.T.lay c with
  | [] => d = none
  | fs => ∃ dx vs, d = some dx ∧ H dx = some (.xd (fs.zip vs)) ∧ RepVs g.K g.T F l vs
abbrev Xt (g : Gm) := Ext g.K g.T g.Tb
/-- what is wanted holds of what comes out -/
def Run (g : Gm) {α β : Type} (R : List Addr → Hp → α → β → Prop) (W : WX) (r : Res α) (st : Store) (κ : List Addr) (σ : L2.St) (H : Hp) (Q : β → Hp → Prop) : Prop := match r with
  | .ok v st' => ∀ κ' H' x, Xt g st κ H st' κ' H' → R κ' (Fz st' κ' H') v x → Q x H'
  | .exc c l st' => ∀ κ' H' d, Xt g st κ H st' κ' H' → ExcR g (Fz st' κ' H') H' c l d → W (.ref (g.T.ca c)) d σ H'
  | .stuck _ => False
/-- the state lies so -/
structure Lies (g : Gm) (ρ : Sl) (st : Store) (κ : List Addr) (σ : L2.St) (H : Hp) : Prop where
  sr : StR g.K g.T g.Tb st κ H
  sl : SlR g.K g.T κ (Fz st κ H) ρ σ
theorem Lies.xt {g : Gm} {ρ : Sl} {st st' : Store} {κ κ' : List Addr} {σ : L2.St} {H H' : Hp} (L : Lies g ρ st κ σ H) (e : Xt g st κ H st' κ' H') : Lies g ρ st' κ' σ H' := ⟨e.sr, L.sl.mono e.pre e.same⟩
def tR (g : Gm) {α β : Type} (R : List Addr → Hp → α → β → Prop) (W : WX) (d : Sl → Store → Res α) : L2.St → Hp → (β → Hp → Prop) → Prop := fun σ H Q =>
  ∃ ρ st κ, Lies g ρ st κ σ H ∧ Run g R W (d ρ st) st κ σ H Q
abbrev tD (g : Gm) (W : WX) (d : Den) : TE := tR g (RX g) W d
abbrev tA (g : Gm) (W : WX) (d : DenA) : TA := tR g (RXs g) W d
abbrev tT (g : Gm) (W : WX) (d : DenT) : TT := tR g RB W d
def RunS (g : Gm) (W : WX) (r : RS) (st : Store) (κ : List Addr) (H : Hp) (D : Ends) : Prop := match r with
  | .nx ρ' st' => ∀ κ' H' σ', Xt g st κ H st' κ' H' → SlR g.K g.T κ' (Fz st' κ' H') ρ' σ' → D.nx σ' H'
  | .bk ρ' st' => ∀ κ' H' σ', Xt g st κ H st' κ' H' → SlR g.K g.T κ' (Fz st' κ' H') ρ' σ' → D.bk σ' H'
  | .ct ρ' st' => ∀ κ' H' σ', Xt g st κ H st' κ' H' → SlR g.K g.T κ' (Fz st' κ' H') ρ' σ' → D.ct σ' H'
  | .rt v st' => ∀ κ' H' x, Xt g st κ H st' κ' H' → RepX g.K g.T κ' (Fz st' κ' H') v x → D.rt x H'
  | .exc c l ρ' st' => ∀ κ' H' σ' d, Xt g st κ H st' κ' H' → SlR g.K g.T κ' (Fz st' κ' H') ρ' σ' → ExcR g (Fz st' κ' H') H' c l d → W (.ref (g.T.ca c)) d σ' H'
  | .stuck _ => False
def tS (g : Gm) (W : WX) (d : DenS) : TS := fun D σ H => ∃ ρ st κ, Lies g ρ st κ σ H ∧ RunS g W (d ρ st) st κ H D

/-- an expression is worth d -/
def ED (g : Gm) (l : Lc) (d : Den) (e : Expr) : Prop := ∀ X W, Jx g l X → Takes X W → PE X e (tD g W d)
def AD (g : Gm) (l : Lc) (d : DenA) (es : List Expr) : Prop := ∀ X W, Jx g l X → Takes X W → PA X es (tA g W d)
def TD (g : Gm) (l : Lc) (d : DenT) (e : Expr) : Prop := ∀ X W, Jx g l X → Takes X W → PT X e (tT g W d)
def WD (g : Gm) (l : Lc) (d : DenT) (e : Expr) : Prop := ∀ X W, Jx g l X → Takes X W → PW X e (tT g W d)
def SD (g : Gm) (l : Lc) (d : DenS) (s : Stmt) : Prop := ∀ X W, Jx g l X → Takes X W → PS X s (tS g W d)
def SsD (g : Gm) (l : Lc) (d : DenS) (s : List Stmt) : Prop := ∀ X W, Jx g l X → Takes X W → PSs X s (tS g W d)

section
variable {g : Gm} {l : Lc} {X : Cx} {W : WX} {α β α' β' : Type} {R : List Addr → Hp → α → β → Prop} {R' : List Addr → Hp → α' → β' → Prop}
theorem PE.imp {e : Expr} {t u : TE} (h : PE X e t) (i : ∀ σ H Q, u σ H Q → t σ H Q) : PE X e u := ⟨fun pins s σ H Q I hu => h.run pins s σ H Q I (i σ H Q hu)⟩
theorem PT.imp {e : Expr} {t u : TT} (h : PT X e t) (i : ∀ σ H Q, u σ H Q → t σ H Q) : PT X e u := ⟨fun pins s σ H Q I hu => h.run pins s σ H Q I (i σ H Q hu)⟩
theorem PW.imp {e : Expr} {t u : TT} (h : PW X e t) (i : ∀ σ H Q, u σ H Q → t σ H Q) : PW X e u := ⟨fun wh pins s σ H Q I hu => h.run wh pins s σ H Q I (i σ H Q hu)⟩
theorem PA.imp {es : List Expr} {t u : TA} (h : PA X es t) (i : ∀ σ H Q, u σ H Q → t σ H Q) : PA X es u := ⟨fun pos pins s σ H Q I hu => h.run pos pins s σ H Q I (i σ H Q hu)⟩
theorem PS.imp {e : Stmt} {t u : TS} (h : PS X e t) (i : ∀ D σ H, u D σ H → t D σ H) : PS X e u := ⟨fun pins s σ H D I hu => h.run pins s σ H D I (i D σ H hu)⟩
theorem PSs.imp {e : List Stmt} {t u : TS} (h : PSs X e t) (i : ∀ D σ H, u D σ H → t D σ H) : PSs X e u := ⟨fun pins s σ H D I hu => h.run pins s σ H D I (i D σ H hu)⟩

theorem Run.mono {r : Res α} {st : Store} {κ : List Addr} {σ : L2.St} {H : Hp} {Q Q' : β → Hp → Prop} (h : Run g R W r st κ σ H Q) (i : ∀ x H', Q x H' → Q' x H') : Run g R W r st κ σ H Q' := by
  cases r with
  | ok v st' => exact fun κ' H' x e r => i _ _ (h κ' H' x e r)
  | exc c l st' => exact h
  | stuck w => exact h
/-- later on it's the same -/
theorem Run.xt {r : Res α} {st st1 : Store} {κ κ1 : List Addr} {σ : L2.St} {H H1 : Hp} {Q : β → Hp → Prop} (e : Xt g st κ H st1 κ1 H1) (h : Run g R W r st κ σ H Q) : Run g R W r st1 κ1 σ H1 Q := by
  cases r with
  | ok v st' => exact fun κ' H' x e' r => h κ' H' x (e.trans e') r
  | exc c l st' => exact fun κ' H' d e' r => h κ' H' d (e.trans e') r
  | stuck w => exact h
/-- one behind the other -/
theorem Run.bind {r : Res α} {f : α → Store → Res α'} {st : Store} {κ : List Addr} {σ : L2.St} {H : Hp} {Q : β' → Hp → Prop} (h : Run g R' W (r.bind f) st κ σ H Q) :
    Run g R W r st κ σ H fun x H1 => ∃ v st1 κ1, Xt g st κ H st1 κ1 H1 ∧ R κ1 (Fz st1 κ1 H1) v x ∧ Run g R' W (f v st1) st1 κ1 σ H1 Q := by
  cases r with
  | ok v st' => exact fun κ' H' x e r => ⟨v, st', κ', e, r, h.xt e⟩
  | exc c l st' => exact h
  | stuck w => exact h
theorem Run.ret {v : α} {st : Store} {κ : List Addr} {σ : L2.St} {H : Hp} {Q : β → Hp → Prop} {x : β} (s : StR g.K g.T g.Tb st κ H) (h : Run g R W (.ok v st) st κ σ H Q) (r : R κ (Fz st κ H) v x) : Q x H := h κ H x (Ext.refl s) r
theorem RunS.xt {r : RS} {st st1 : Store} {κ κ1 : List Addr} {H H1 : Hp} {D : Ends} (e : Xt g st κ H st1 κ1 H1) (h : RunS g W r st κ H D) : RunS g W r st1 κ1 H1 D := by
  cases r with
  | nx a b => exact fun κ' H' x e' r => h κ' H' x (e.trans e') r
  | bk a b => exact fun κ' H' x e' r => h κ' H' x (e.trans e') r
  | ct a b => exact fun κ' H' x e' r => h κ' H' x (e.trans e') r
  | rt a b => exact fun κ' H' x e' r => h κ' H' x (e.trans e') r
  | exc c l a b => exact fun κ' H' x d e' r q => h κ' H' x d (e.trans e') r q
  | stuck w => exact h
end

/-! ### names and constants -/
/-- a cell that is frozen by now is a list -/
def norm (v : PV) (st : Store) : PV := match v with
  | .ref k => match st[k]? with
    | some (.frz xs) => .lst xs
    | _ => .ref k
  | v => v
def dVar (i : Nat) : Den := fun ρ st => match ρ[i]? with
  | some (some v) => .ok (norm v st) st
  | _ => .stuck i
def dC (v : PV) : Den := fun _ st => .ok v st
theorem cell_at {K : PySem.W.Frag} {T : CT} {F H : Hp} : ∀ {st : Store} {κ : List Addr} {k : Nat} {c : Cell}, CellsR K T F H st κ → st[k]? = some c → ∃ a, κ[k]? = some a ∧ CellR K T F H a c
  | [], _, _, _, _, e => by simp at e
  | _ :: _, _, 0, _, ⟨a, r, q, h, t⟩, e => by subst q; simp at e; subst e; exact ⟨a, rfl, h⟩
  | _ :: _, _, k + 1, _, ⟨a, r, q, h, t⟩, e => by subst q; simpa using cell_at (k := k) t (by simpa using e)
theorem norm_rep {g : Gm} {st : Store} {κ : List Addr} {H : Hp} {v : PV} {x : V} (s : StR g.K g.T g.Tb st κ H) (r : RepX g.K g.T κ (Fz st κ H) v x) : RepX g.K g.T κ (Fz st κ H) (norm v st) x := by
  cases v with
  | ref k =>
    unfold norm
    cases e : st[k]? with
    | none => simp only [e]; exact r
    | some c =>
      cases c with
      | frz xs =>
        simp only [e]
        obtain ⟨a, h1, vs, h2, h3⟩ := cell_at s.cells e
        obtain ⟨b, q1, q2⟩ := r
        rw [h1] at q1
        cases q1
        exact RepX.ofV (v := .lst xs) ⟨a, vs, q2, h2, h3⟩
      | lst xs => simp only [e]; exact r
      | ins c xs => simp only [e]; exact r
  | non => exact r
  | bl b => exact r
  | int i => exact r
  | str s => exact r
  | tup s => exact r
  | lst s => exact r
  | obj c s => exact r
def visB (sc : Scope) (x : Str) : Bool := match sc.names.lookup x with
  | some .local => true
  | some .cell => true
  | some .free => true
  | _ => false
theorem vis_of {sc : Scope} {x : Str} (h : visB sc x = true) : Vis sc x := by
  unfold visB at h
  unfold Vis
  cases e : sc.names.lookup x with
  | none => rw [e] at h; cases h
  | some k => rw [e] at h; cases k <;> first | (cases h; done) | simp
theorem ed_var {g : Gm} {l : Lc} {i : Nat} {x : Str} {pos : Pos} (hi : l.N[i]? = some x) (hv : visB l.sc x = true) (h1 : (x == ("__debug__" : Str)) = false) (h2 : (x == ("__classdict__" : Str)) = false) : ED g l (dVar i) (.Name x pos) := by
  intro X W J tk
  refine PE.imp (pe_var (i := i) (by rw [J.N]; exact hi) (by rw [J.sc]; exact vis_of hv) h1 h2) fun σ H Q ⟨ρ, st, κ, L, h⟩ => ?_
  unfold dVar at h
  split at h
  · rename_i v e
    obtain ⟨y, q1, q2⟩ := L.sl.get e
    exact ⟨y, q1, Run.ret L.sr h (norm_rep L.sr q2)⟩
  · exact h.elim
theorem ed_int {g : Gm} {l : Lc} {i : Int} {j pos} : ED g l (dC (.int i)) (.Constant (.int i) j pos) := fun X W J tk =>
  PE.imp pe_int fun σ H Q ⟨ρ, st, κ, L, h⟩ => Run.ret L.sr h rfl
theorem ed_bl {g : Gm} {l : Lc} {b : Bool} {j pos} : ED g l (dC (.bl b)) (.Constant (.bool b) j pos) := fun X W J tk =>
  PE.imp pe_bl fun σ H Q ⟨ρ, st, κ, L, h⟩ => Run.ret L.sr h rfl
theorem ed_non {g : Gm} {l : Lc} {j pos} : ED g l (dC .non) (.Constant .none j pos) := fun X W J tk =>
  PE.imp pe_non fun σ H Q ⟨ρ, st, κ, L, h⟩ => Run.ret L.sr h rfl
theorem ed_str {g : Gm} {l : Lc} {s : Str} {j pos} : ED g l (dC (.str s)) (.Constant (.str s) j pos) := fun X W J tk =>
  PE.imp pe_str fun σ H Q ⟨ρ, st, κ, L, h⟩ => Run.ret L.sr h rfl

/-! ### operators -/
def dOp2 (f : PV → PV → Store → Res PV) (da db : Den) : Den := fun ρ st => (da ρ st).bind fun v st => (db ρ st).bind fun w st => f v w st
/-- two values in a row, then what is wanted of them -/
theorem run2 {g : Gm} {W : WX} {da db : Den} {f : PV → PV → Store → Res PV} {σ : L2.St} {H : Hp} {Q : VK} (h : tD g W (dOp2 f da db) σ H Q) :
    tD g W da σ H fun x H1 => tD g W db σ H1 fun y H2 => ∃ v w ρ st2 κ2, Lies g ρ st2 κ2 σ H2 ∧ RepX g.K g.T κ2 (Fz st2 κ2 H2) v x ∧ RepX g.K g.T κ2 (Fz st2 κ2 H2) w y ∧ Run g (RX g) W (f v w st2) st2 κ2 σ H2 Q := by
  obtain ⟨ρ, st, κ, L, h⟩ := h
  refine ⟨ρ, st, κ, L, (Run.bind h).mono fun x H1 ⟨v, st1, κ1, e1, r1, h1⟩ => ⟨ρ, st1, κ1, L.xt e1, (Run.bind h1).mono fun y H2 ⟨w, st2, κ2, e2, r2, h2⟩ => ?_⟩⟩
  exact ⟨v, w, ρ, st2, κ2, (L.xt e1).xt e2, r1.mono e2.pre e2.same, r2, h2⟩
theorem ed_op {g : Gm} {l : Lc} {op : Operator} {r : R2} {f : PV → PV → Store → Res PV} {da db : Den} {a b : Expr} {pos : Pos} (ho : ∀ X, X.K = g.K → OpR X (binaryOp op) r) (ha : ED g l da a) (hb : ED g l db b)
    (hf : ∀ v w st κ H x y W σ Q, StR g.K g.T g.Tb st κ H → RepX g.K g.T κ (Fz st κ H) v x → RepX g.K g.T κ (Fz st κ H) w y → Run g (RX g) W (f v w st) st κ σ H Q → r x y H Q) : ED g l (dOp2 f da db) (.BinOp a op b pos) := fun X W J tk =>
  PE.imp (pe_op (ho X J.k) (ha X W J tk) (hb X W J tk)) fun σ H Q h => by
    obtain ⟨ρ, st, κ, L, q⟩ := run2 h
    refine ⟨ρ, st, κ, L, q.mono fun x H1 q1 => ?_⟩
    obtain ⟨ρ, st, κ, L, q⟩ := q1
    exact ⟨ρ, st, κ, L, q.mono fun y H2 ⟨v, w, ρ, st2, κ2, L2, r1, r2, h2⟩ => hf v w st2 κ2 H2 x y W σ Q L2.sr r1 r2 h2⟩
def opInt (f : Int → Int → Option PV) : PV → PV → Store → Res PV := fun v w st => match v, w with
  | .int i, .int j => match f i j with
    | some u => .ok u st
    | none => .stuck 2
  | _, _ => .stuck 1
theorem repX_int {g : Gm} {κ : List Addr} {F : Hp} {i : Int} {x : V} (h : RepX g.K g.T κ F (.int i) x) : x = .int i := h
/-- the operator on ints, by its rule -/
theorem opInt_ok {g : Gm} {f : Int → Int → Option PV} {C : Int → Int → Prop} {o : Int → Int → V} (hf : ∀ i j u, f i j = some u → C i j ∧ ∀ F, RepV g.K g.T F u (o i j)) {v w : PV} {st : Store} {κ : List Addr} {H : Hp} {x y : V} {W : WX} {σ : L2.St} {Q : VK}
    (s : StR g.K g.T g.Tb st κ H) (r1 : RepX g.K g.T κ (Fz st κ H) v x) (r2 : RepX g.K g.T κ (Fz st κ H) w y) (h : Run g (RX g) W (opInt f v w st) st κ σ H Q) : rI C o x y H Q := by
  unfold opInt at h
  split at h
  · rename_i i j
    cases repX_int r1
    cases repX_int r2
    split at h
    · rename_i u e
      obtain ⟨h1, h2⟩ := hf i j u e
      exact ⟨i, j, rfl, rfl, h1, Run.ret s h (RepX.ofV (h2 _))⟩
    · exact h.elim
  · exact h.elim
theorem OpR.imp {X : Cx} {f : Value → Value → Sem Value} {r r' : R2} (h : OpR X f r) (i : ∀ x y H Q, r' x y H Q → r x y H Q) : OpR X f r' := fun pins s σ H x y v u Q I rx ry q => h pins s σ H x y v u Q I rx ry (i _ _ _ _ q)
theorem rI_of0 {o : Int → Int → V} : ∀ x y H Q, rI (fun _ _ => True) o x y H Q → rI0 o x y H Q := fun _ _ _ _ ⟨i, j, a, b, _, q⟩ => ⟨i, j, a, b, q⟩
def smallB (i : Int) : Bool := decide (-(2 ^ 64) < i) && decide (i < 2 ^ 64)
theorem smallB_ok {i : Int} (h : smallB i = true) : -(2 ^ 64) < i ∧ i < 2 ^ 64 := by
  unfold smallB at h
  rw [Bool.and_eq_true, decide_eq_true_eq, decide_eq_true_eq] at h
  exact h
def fAdd : Int → Int → Option PV := fun i j => some (.int (i + j))
def fSub : Int → Int → Option PV := fun i j => some (.int (i - j))
def fMul : Int → Int → Option PV := fun i j => if smallB i || smallB j || decide (i.natAbs.log2 + j.natAbs.log2 < 1000000) then some (.int (i * j)) else none
def fDiv : Int → Int → Option PV := fun i j => if decide (0 < j) && decide (j.natAbs.log2 < 9000) then some (.int (i / j)) else none
def fMod : Int → Int → Option PV := fun i j => if decide (0 < j) then some (.int (i % j)) else none
theorem ed_sub {g : Gm} {l : Lc} {da db : Den} {a b : Expr} {pos : Pos} (ha : ED g l da a) (hb : ED g l db b) : ED g l (dOp2 (opInt fSub) da db) (.BinOp a .Sub b pos) :=
  ed_op (r := rI (fun _ _ => True) fun i j => .int (i - j)) (fun X _ => OpR.imp op_sub rI_of0) ha hb fun v w st κ H x y W σ Q s r1 r2 h => opInt_ok (fun i j u e => by cases e; exact ⟨trivial, fun _ => rfl⟩) s r1 r2 h
theorem ed_mul {g : Gm} {l : Lc} {da db : Den} {a b : Expr} {pos : Pos} (ha : ED g l da a) (hb : ED g l db b) : ED g l (dOp2 (opInt fMul) da db) (.BinOp a .Mult b pos) :=
  ed_op (r := rI (fun i j => CMul i j ∨ CMulW i j) fun i j => .int (i * j)) (fun X _ => OpR.imp (OpR.or op_mul op_mulW) fun x y H Q ⟨i, j, a, b, c, q⟩ => c.elim (fun c => .inl ⟨i, j, a, b, c, q⟩) fun c => .inr ⟨i, j, a, b, c, q⟩) ha hb fun v w st κ H x y W σ Q s r1 r2 h => opInt_ok (fun i j u e => by
    unfold fMul at e
    split at e
    · rename_i c
      cases e
      rw [Bool.or_eq_true, Bool.or_eq_true, decide_eq_true_eq] at c
      refine ⟨?_, fun _ => rfl⟩
      rcases c with (c | c) | c
      · exact .inl (.inl (smallB_ok c))
      · exact .inl (.inr (smallB_ok c))
      · exact .inr c
    · cases e) s r1 r2 h
theorem ed_div {g : Gm} {l : Lc} {da db : Den} {a b : Expr} {pos : Pos} (ha : ED g l da a) (hb : ED g l db b) : ED g l (dOp2 (opInt fDiv) da db) (.BinOp a .FloorDiv b pos) :=
  ed_op (r := rI CDivW fun i j => .int (i / j)) (fun X _ => op_fdivW) ha hb fun v w st κ H x y W σ Q s r1 r2 h => opInt_ok (fun i j u e => by
    unfold fDiv at e
    split at e
    · rename_i c
      cases e
      rw [Bool.and_eq_true, decide_eq_true_eq, decide_eq_true_eq] at c
      exact ⟨c, fun _ => rfl⟩
    · cases e) s r1 r2 h
theorem ed_mod {g : Gm} {l : Lc} {da db : Den} {a b : Expr} {pos : Pos} (ha : ED g l da a) (hb : ED g l db b) : ED g l (dOp2 (opInt fMod) da db) (.BinOp a .Mod b pos) :=
  ed_op (r := rI (fun _ j => 0 < j) fun i j => .int (i % j)) (fun X _ => op_mod) ha hb fun v w st κ H x y W σ Q s r1 r2 h => opInt_ok (fun i j u e => by
    unfold fMod at e
    split at e
    · rename_i c
      cases e
      exact ⟨of_decide_eq_true c, fun _ => rfl⟩
    · cases e) s r1 r2 h
end Wi

/-! Wi3: sequences, displays, items, slices, tests. -/
namespace Wi
open PySem L2

/-! ### the contents of a sequence -/
def seqOf (v : PV) (st : Store) : Option (Bool × List PV) := match v with
  | .tup xs => some (false, xs)
  | .lst xs => some (true, xs)
  | .ref k => match st[k]? with
    | some (.lst xs) => some (true, xs)
    | some (.frz xs) => some (true, xs)
    | _ => none
  | _ => none
theorem SqL.of_fz {K : PySem.W.Frag} {L : List Addr} {H : Hp} {a : Addr} {vs : List V} (h : SqL K (fz L H) a vs) : SqL K H a vs := by
  rcases h with h | h
  · rcases h with h | ⟨o, h⟩
    · exact .inl (.inl (fz_some h))
    · exact .inl (.inr ⟨o, fz_some h⟩)
  · exact .inr h
theorem SqT.of_fz {K : PySem.W.Frag} {L : List Addr} {H : Hp} {a : Addr} {vs : List V} (h : SqT K (fz L H) a vs) : SqT K H a vs := by
  rcases h with h | h
  · rcases h with h | ⟨o, h⟩
    · exact .inl (.inl (fz_some h))
    · exact .inl (.inr ⟨o, fz_some h⟩)
  · exact .inr h
theorem TupR.of_fz {K : PySem.W.Frag} {L : List Addr} {H : Hp} {a : Addr} {vs : List V} (h : TupR K (fz L H) a vs) : SqT K H a vs := SqT.of_fz h.sq
theorem seq_rep {g : Gm} {st : Store} {κ : List Addr} {H : Hp} {v : PV} {x : V} {b : Bool} {xs : List PV} (s : StR g.K g.T g.Tb st κ H) (r : RepX g.K g.T κ (Fz st κ H) v x) (e : seqOf v st = some (b, xs)) :
    ∃ a vs, x = .ref a ∧ (if b = true then SqL g.K H a vs else SqT g.K H a vs) ∧ RepVs g.K g.T (Fz st κ H) xs vs := by
  cases v with
  | tup ys =>
    cases e
    obtain ⟨a, vs, h1, h2, h3⟩ := r
    exact ⟨a, vs, h1, TupR.of_fz h2, h3⟩
  | lst ys =>
    cases e
    obtain ⟨a, vs, h1, h2, h3⟩ := r
    exact ⟨a, vs, h1, SqL.of_fz h2, h3⟩
  | ref k =>
    unfold seqOf at e
    cases q : st[k]? with
    | none => simp only [q] at e; cases e
    | some c =>
      obtain ⟨a, h1, h2⟩ := cell_at s.cells q
      obtain ⟨b', q1, q2⟩ := r
      rw [h1] at q1
      cases q1
      cases c with
      | lst ys =>
        simp only [q] at e
        cases e
        obtain ⟨vs, h3, h4⟩ := h2
        exact ⟨a, vs, q2, SqL.of h3, h4⟩
      | frz ys =>
        simp only [q] at e
        cases e
        obtain ⟨vs, h3, h4⟩ := h2
        exact ⟨a, vs, q2, SqL.of_fz h3, h4⟩
      | ins c ys => simp only [q] at e; cases e
  | non => cases e
  | bl _ => cases e
  | int _ => cases e
  | str _ => cases e
  | obj _ _ => cases e

/-! ### new things in the heap -/
theorem live_sub : ∀ {st : Store} {κ : List Addr} {b : Addr}, b ∈ live st κ → b ∈ κ
  | [], _, _, h => by cases h
  | _ :: _, [], _, h => by cases h
  | c :: st, a :: κ, b, h => by
    unfold live at h
    split at h
    · rcases List.mem_cons.mp h with h | h
      · exact h ▸ List.mem_cons_self
      · exact List.mem_cons_of_mem _ (live_sub h)
    · exact List.mem_cons_of_mem _ (live_sub h)
theorem fz_upd_out {L : List Addr} {H : Hp} {p : Addr} {o : HO} (hp : H p = none) : Same (fz L H) (fz L (upd H p o)) :=
  fz_same fun b u hb _ e => ⟨hb, by rw [upd_ne (ne_of_none e hp)]; exact e⟩
theorem CellR.mono {K : PySem.W.Frag} {T : CT} {F F' H H' : Hp} {a : Addr} {c : Cell} (e : Same F F') (h : H' a = H a) (q : CellR K T F H a c) : CellR K T F' H' a c := by
  cases c with
  | lst xs => obtain ⟨vs, h1, h2⟩ := q; exact ⟨vs, by rw [h]; exact h1, h2.mono e⟩
  | frz xs => obtain ⟨vs, h1, h2⟩ := q; exact ⟨vs, e.seq h1, h2.mono e⟩
  | ins c xs => obtain ⟨dx, vs, h1, h0, h2⟩ := q; exact ⟨dx, vs, by rw [h]; exact h1, h0, h2.mono e⟩
theorem CellsR.mono {K : PySem.W.Frag} {T : CT} {F F' H H' : Hp} (e : Same F F') : ∀ {st : Store} {κ : List Addr}, (∀ a ∈ κ, H' a = H a) → CellsR K T F H st κ → CellsR K T F' H' st κ
  | [], _, _, q => q
  | _ :: _, _, h, ⟨a, r, q, h1, h2⟩ => by subst q; exact ⟨a, r, rfl, h1.mono e (h a List.mem_cons_self), CellsR.mono e (fun b hb => h b (List.mem_cons_of_mem _ hb)) h2⟩
/-- the text's tables stay, whatever else comes -/
def TbOk (g : Gm) : Prop := ∀ H H' : Hp, (∀ b ps, H b = some (.tbl ps) → H' b = some (.tbl ps)) → (∀ b o u, H b = some (.frz o u) → H' b = some (.frz o u)) → g.Tb H → g.Tb H'
theorem StR.upd_new {g : Gm} (tb : TbOk g) {st : Store} {κ : List Addr} {H : Hp} {p : Addr} {o : HO} (s : StR g.K g.T g.Tb st κ H) (hp : H p = none) : Xt g st κ H st κ (upd H p o) := by
  have sm : Same (Fz st κ H) (Fz st κ (upd H p o)) := fz_upd_out hp
  have at_ : ∀ a ∈ κ, upd H p o a = H a := fun a ha => upd_ne fun z => s.there a ha (z ▸ hp)
  exact ⟨⟨s.cells.mono sm at_, s.nd, fun a ha => by rw [at_ a ha]; exact s.there a ha, tb _ _ (fun b ps e => by rw [upd_ne (ne_of_none e hp)]; exact e) (fun b o u e => by rw [upd_ne (ne_of_none e hp)]; exact e) s.tabs⟩, List.prefix_refl _, sm⟩
theorem StR.not_mem {g : Gm} {st : Store} {κ : List Addr} {H : Hp} {p : Addr} (s : StR g.K g.T g.Tb st κ H) (hp : H p = none) : p ∉ κ := fun h => s.there p h hp
theorem fz_at {L : List Addr} {H : Hp} {p : Addr} {o : HO} (hp : p ∉ L) (e : H p = some o) (ht : ∀ ps, o ≠ .tbl ps) : fz L H p = some o := by
  unfold fz
  rw [if_neg hp, e]
  split
  · rename_i ps z
    cases z
    exact absurd rfl (ht ps)
  · rfl

/-! ### argument lists, displays -/
def aNil : DenA := fun _ st => .ok [] st
def aCons (d : Den) (da : DenA) : DenA := fun ρ st => (d ρ st).bind fun v st => (da ρ st).bind fun vs st => .ok (v :: vs) st
theorem ad_nil {g : Gm} {l : Lc} : AD g l aNil [] := fun X W J tk => PA.imp pa_nil fun σ H Q ⟨ρ, st, κ, L, h⟩ => Run.ret L.sr h rfl
theorem ad_cons {g : Gm} {l : Lc} {d : Den} {da : DenA} {e : Expr} {es : List Expr} (he : ED g l d e) (ha : AD g l da es) (hs : ∀ env, starEach (e :: es) env = (false, eval e env) :: starEach es env) : AD g l (aCons d da) (e :: es) := fun X W J tk =>
  PA.imp (pa_cons (he X W J tk) (ha X W J tk) (hs _)) fun σ H Q ⟨ρ, st, κ, L, h⟩ =>
    ⟨ρ, st, κ, L, (Run.bind h).mono fun x H1 ⟨v, st1, κ1, e1, r1, h1⟩ => ⟨ρ, st1, κ1, L.xt e1, (Run.bind h1).mono fun xs H2 ⟨vs, st2, κ2, e2, r2, h2⟩ =>
      Run.ret e2.sr h2 ⟨x, xs, rfl, r1.mono e2.pre e2.same, r2⟩⟩⟩
/-- the values of a tree: none of them a cell -/
def isTree : PV → Bool
  | .ref _ => false
  | _ => true
theorem RepX.tree {K : PySem.W.Frag} {T : CT} {κ : List Addr} {F : Hp} {v : PV} {x : V} (h : RepX K T κ F v x) (t : isTree v = true) : RepV K T F v x := by
  cases v <;> first | exact h | (cases t; done)
theorem RXs.trees {g : Gm} {κ : List Addr} {F : Hp} : ∀ {v : List PV} {x : List V}, RXs g κ F v x → v.all isTree = true → RepVs g.K g.T F v x
  | [], _, h, _ => h
  | _ :: _, _, ⟨y, r, q, h, t⟩, e => by
    rw [List.all_cons, Bool.and_eq_true] at e
    exact ⟨y, r, q, h.tree e.1, t.trees e.2⟩
def lineB (n : Nat) : Bool := Nat.ble n 16777216
theorem lineB_ok {n : Nat} (h : lineB n = true) : n ≤ sizeLine := Nat.le_of_ble_eq_true h
def dTup (da : DenA) : Den := fun ρ st => (da ρ st).bind fun vs st => if vs.all isTree && lineB vs.length then .ok (.tup vs) st else .stuck 3
theorem ed_tup {g : Gm} {l : Lc} (tb : TbOk g) {da : DenA} {es : List Expr} {n : Nat} {pos : Pos} (ha : AD g l da es) : ED g l (dTup da) (.Tuple es n pos) := fun X W J tk =>
  PE.imp (pe_tupX (ha X W J tk)) fun σ H Q ⟨ρ, st, κ, L, h⟩ => ⟨ρ, st, κ, L, (Run.bind h).mono fun xs H1 ⟨vs, st1, κ1, e1, r1, h1⟩ => by
    split at h1
    · rename_i c
      rw [Bool.and_eq_true] at c
      refine ⟨by rw [← r1.length]; exact lineB_ok c.2, fun p ob hd hp => ?_⟩
      have e2 := StR.upd_new tb (o := .frz ob (.tup xs)) e1.sr hp
      exact h1 _ _ _ e2 ⟨p, xs, rfl, .inl ⟨ob, fz_at (fun z => e1.sr.not_mem hp (live_sub z)) upd_same (fun ps z => by cases z), hd⟩, (r1.trees c.1).mono e2.same⟩
    · exact h1.elim⟩

/-! ### fresh lists -/
abbrev DenL := Sl → Store → Res (List PV)
theorem fz_more {L : List Addr} {H : Hp} {a : Addr} : Same (fz (a :: L) H) (fz L H) := fz_same fun b o hb _ e => ⟨fun z => hb (List.mem_cons_of_mem _ z), e⟩
/-- a new list at a, that nothing else speaks of -/
structure NewL (g : Gm) (st : Store) (κ : List Addr) (H : Hp) (st' : Store) (κ' : List Addr) (H' : Hp) (a : Addr) (vs : List V) (xs : List PV) : Prop where
  cells : CellsR g.K g.T (fz (a :: live st' κ') H') H' st' κ'
  nd : κ'.Nodup
  there : ∀ b ∈ κ', H' b ≠ none
  tabs : g.Tb H'
  pre : κ <+: κ'
  na : a ∉ κ'
  at_ : H' a = some (.lst vs)
  rep : RepVs g.K g.T (fz (a :: live st' κ') H') xs vs
  same : Same (Fz st κ H) (fz (a :: live st' κ') H')
theorem NewL.of_upd {g : Gm} (tb : TbOk g) {st st1 : Store} {κ κ1 : List Addr} {H H1 : Hp} {p : Addr} {vs : List V} {xs : List PV} (e : Xt g st κ H st1 κ1 H1) (hp : H1 p = none) (r : RepVs g.K g.T (Fz st1 κ1 H1) xs vs) :
    NewL g st κ H st1 κ1 (upd H1 p (.lst vs)) p vs xs := by
  have np := e.sr.not_mem hp
  have sm : Same (Fz st1 κ1 H1) (fz (p :: live st1 κ1) (upd H1 p (.lst vs))) := fz_same fun b u hb _ q => by
    have hne : b ≠ p := ne_of_none q hp
    exact ⟨fun z => (List.mem_cons.mp z).elim hne hb, by rw [upd_ne hne]; exact q⟩
  have e2 := StR.upd_new tb (o := .lst vs) e.sr hp
  exact ⟨e.sr.cells.mono sm fun a ha => upd_ne fun z => np (z ▸ ha), e2.sr.nd, e2.sr.there, e2.sr.tabs, e.pre, np, upd_same, r.mono sm, e.same.trans sm⟩
theorem NewL.sr {g : Gm} {st st' : Store} {κ κ' : List Addr} {H H' : Hp} {a : Addr} {vs : List V} {xs : List PV} (n : NewL g st κ H st' κ' H' a vs xs) : StR g.K g.T g.Tb st' κ' H' := ⟨n.cells.mono fz_more fun _ _ => rfl, n.nd, n.there, n.tabs⟩
theorem NewL.xt {g : Gm} {st st' : Store} {κ κ' : List Addr} {H H' : Hp} {a : Addr} {vs : List V} {xs : List PV} (n : NewL g st κ H st' κ' H' a vs xs) : Xt g st κ H st' κ' H' := ⟨n.sr, n.pre, n.same.trans fz_more⟩
def RunL (g : Gm) (W : WX) (r : Res (List PV)) (st : Store) (κ : List Addr) (σ : L2.St) (H : Hp) (Q : VK) : Prop := match r with
  | .ok xs st' => ∀ κ' H' a vs, NewL g st κ H st' κ' H' a vs xs → Q (.ref a) H'
  | .exc c l st' => ∀ κ' H' d, Xt g st κ H st' κ' H' → ExcR g (Fz st' κ' H') H' c l d → W (.ref (g.T.ca c)) d σ H'
  | .stuck _ => False
def tL (g : Gm) (W : WX) (d : DenL) : TE := fun σ H Q => ∃ ρ st κ, Lies g ρ st κ σ H ∧ RunL g W (d ρ st) st κ σ H Q
def LD (g : Gm) (l : Lc) (d : DenL) (e : Expr) : Prop := ∀ X W, Jx g l X → Takes X W → PE X e (tL g W d)
/-- a list that will never change -/
def dFrz (d : DenL) : Den := fun ρ st => (d ρ st).bind fun xs st => .ok (.lst xs) st
theorem NewL.frz {g : Gm} {st st' : Store} {κ κ' : List Addr} {H H' : Hp} {a : Addr} {vs : List V} {xs : List PV} (n : NewL g st κ H st' κ' H' a vs xs) : RepX g.K g.T κ' (Fz st' κ' H') (.lst xs) (.ref a) :=
  ⟨a, vs, rfl, SqL.of (fz_at (fun z => n.na (live_sub z)) n.at_ fun ps z => by cases z), n.rep.mono fz_more⟩
theorem ed_frz {g : Gm} {l : Lc} {d : DenL} {e : Expr} (h : LD g l d e) : ED g l (dFrz d) e := fun X W J tk =>
  PE.imp (h X W J tk) fun σ H Q ⟨ρ, st, κ, L, h⟩ => ⟨ρ, st, κ, L, by
    unfold dFrz at h
    cases q : d ρ st with
    | ok xs st' =>
      rw [q] at h
      exact fun κ' H' a vs n => h κ' H' (.ref a) n.xt n.frz
    | exc c l st' => rw [q] at h; exact h
    | stuck w => rw [q] at h; exact h⟩
/-- a list that may change: a new cell -/
def dNew (d : DenL) : Den := fun ρ st => (d ρ st).bind fun xs st => .ok (.ref st.length) (st ++ [.lst xs])
theorem live_app : ∀ {st : Store} {κ : List Addr} {c : Cell} {a : Addr}, st.length = κ.length → live (st ++ [c]) (κ ++ [a]) = live st κ ++ (if c.live then [a] else [])
  | [], [], c, a, _ => by show live [c] [a] = _; unfold live; simp [live]
  | [], _ :: _, _, _, h => by simp at h
  | _ :: _, [], _, _, h => by simp at h
  | b :: st, x :: κ, c, a, h => by
    show live (b :: (st ++ [c])) (x :: (κ ++ [a])) = _
    unfold live
    rw [live_app (by simpa using h)]
    split <;> simp
theorem CellsR.length {K : PySem.W.Frag} {T : CT} {F H : Hp} : ∀ {st : Store} {κ : List Addr}, CellsR K T F H st κ → st.length = κ.length
  | [], _, h => by subst h; rfl
  | _ :: _, _, ⟨a, r, q, _, h⟩ => by subst q; simp [CellsR.length h]
theorem CellsR.app {K : PySem.W.Frag} {T : CT} {F H : Hp} {c : Cell} {a : Addr} (hc : CellR K T F H a c) : ∀ {st : Store} {κ : List Addr}, CellsR K T F H st κ → CellsR K T F H (st ++ [c]) (κ ++ [a])
  | [], _, h => by subst h; exact ⟨a, [], rfl, hc, rfl⟩
  | _ :: _, _, ⟨b, r, q, h1, h⟩ => by subst q; exact ⟨b, r ++ [a], rfl, h1, CellsR.app hc h⟩
theorem fz_perm {L L' : List Addr} {H : Hp} (h : ∀ b, b ∈ L' → b ∈ L) : Same (fz L H) (fz L' H) := fz_same fun b o hb _ e => ⟨fun z => hb (h b z), e⟩
theorem nodup_snoc {κ : List Addr} {a : Addr} (h : κ.Nodup) (n : a ∉ κ) : (κ ++ [a]).Nodup :=
  List.nodup_append.mpr ⟨h, by simp, fun x hx y hy => by rw [List.mem_singleton.mp hy]; exact fun z => n (z ▸ hx)⟩
theorem NewL.cell {g : Gm} {st st' : Store} {κ κ' : List Addr} {H H' : Hp} {a : Addr} {vs : List V} {xs : List PV} (n : NewL g st κ H st' κ' H' a vs xs) : Xt g st κ H (st' ++ [.lst xs]) (κ' ++ [a]) H' := by
  have e : live (st' ++ [.lst xs]) (κ' ++ [a]) = live st' κ' ++ [a] := by rw [live_app n.cells.length]; rfl
  have h1 : Same (fz (a :: live st' κ') H') (Fz (st' ++ [.lst xs]) (κ' ++ [a]) H') := fz_perm fun b hb => by
    rw [e] at hb
    rcases List.mem_append.mp hb with hb | hb
    · exact List.mem_cons_of_mem _ hb
    · rw [List.mem_singleton.mp hb]; exact List.mem_cons_self
  refine ⟨⟨CellsR.app (c := .lst xs) ⟨vs, n.at_, n.rep.mono h1⟩ (n.cells.mono h1 fun _ _ => rfl), nodup_snoc n.nd n.na, fun b hb => ?_, n.tabs⟩, n.pre.trans (List.prefix_append _ _), n.same.trans h1⟩
  rcases List.mem_append.mp hb with hb | hb
  · exact n.there b hb
  · rw [List.mem_singleton.mp hb, n.at_]; exact fun z => by cases z
theorem ed_new {g : Gm} {l : Lc} {d : DenL} {e : Expr} (h : LD g l d e) : ED g l (dNew d) e := fun X W J tk =>
  PE.imp (h X W J tk) fun σ H Q ⟨ρ, st, κ, L, h⟩ => ⟨ρ, st, κ, L, by
    unfold dNew at h
    cases q : d ρ st with
    | ok xs st' =>
      rw [q] at h
      refine fun κ' H' a vs n => h _ H' (.ref a) n.cell ⟨a, ?_, rfl⟩
      rw [n.cells.length, List.getElem?_append_right (Nat.le_refl _)]
      simp
    | exc c l st' => rw [q] at h; exact h
    | stuck w => rw [q] at h; exact h⟩
/-- a display -/
def lDisp (da : DenA) : DenL := fun ρ st => (da ρ st).bind fun vs st => if vs.all isTree && lineB vs.length then .ok vs st else .stuck 4
theorem ld_disp {g : Gm} {l : Lc} (tb : TbOk g) {da : DenA} {es : List Expr} {pos : Pos} (ha : AD g l da es) : LD g l (lDisp da) (.List es pos) := fun X W J tk =>
  PE.imp (pe_lst (ha X W J tk)) fun σ H Q ⟨ρ, st, κ, L, h⟩ => ⟨ρ, st, κ, L, by
    unfold lDisp at h
    cases q : da ρ st with
    | exc c l st' => rw [q] at h; exact h
    | stuck w => rw [q] at h; exact h
    | ok vs st1 =>
      rw [q] at h
      intro κ1 H1 xs e1 r1
      by_cases c : (vs.all isTree && lineB vs.length) = true
      · have h' : RunL g W (.ok vs st1) st κ σ H Q := by
          have : (Res.ok vs st1).bind (fun vs st => if vs.all isTree && lineB vs.length then Res.ok vs st else Res.stuck 4) = .ok vs st1 := if_pos c
          rw [this] at h
          exact h
        rw [Bool.and_eq_true] at c
        refine ⟨by rw [← r1.length]; exact lineB_ok c.2, fun p hp => ?_⟩
        exact h' _ _ p xs (NewL.of_upd tb e1 hp (r1.trees c.1))
      · have : (Res.ok vs st1).bind (fun vs st => if vs.all isTree && lineB vs.length then Res.ok vs st else Res.stuck 4) = .stuck 4 := if_neg c
        rw [this] at h
        exact h.elim⟩
/-- behind what comes first, a fresh list -/
theorem RunL.bind {g : Gm} {W : WX} {α β : Type} {R : List Addr → Hp → α → β → Prop} {r : Res α} {f : α → Store → Res (List PV)} {st : Store} {κ : List Addr} {σ : L2.St} {H : Hp} {Q : VK} (h : RunL g W (r.bind f) st κ σ H Q) :
    Run g R W r st κ σ H fun x H1 => ∃ v st1 κ1, Xt g st κ H st1 κ1 H1 ∧ R κ1 (Fz st1 κ1 H1) v x ∧ RunL g W (f v st1) st κ σ H Q := by
  cases r with
  | ok v st' => exact fun κ' H' x e r => ⟨v, st', κ', e, r, h⟩
  | exc c l st' => exact h
  | stuck w => exact h
theorem NewL.xl {g : Gm} {st st1 st' : Store} {κ κ1 κ' : List Addr} {H H1 H' : Hp} {a : Addr} {vs : List V} {xs : List PV} (e : Xt g st κ H st1 κ1 H1) (n : NewL g st1 κ1 H1 st' κ' H' a vs xs) : NewL g st κ H st' κ' H' a vs xs :=
  ⟨n.cells, n.nd, n.there, n.tabs, e.pre.trans n.pre, n.na, n.at_, n.rep, e.same.trans n.same⟩
theorem RunL.xt {g : Gm} {W : WX} {r : Res (List PV)} {st st1 : Store} {κ κ1 : List Addr} {σ : L2.St} {H H1 : Hp} {Q : VK} (e : Xt g st κ H st1 κ1 H1) (h : RunL g W r st κ σ H Q) : RunL g W r st1 κ1 σ H1 Q := by
  cases r with
  | ok v st' => exact fun κ' H' a vs n => h κ' H' a vs (n.xl e)
  | exc c l st' => exact fun κ' H' d e' r => h κ' H' d (e.trans e') r
  | stuck w => exact h
end Wi

/-! Wi4: operators on sequences, comparisons, tests, built-in calls. -/
namespace Wi
open PySem L2

section
variable {g : Gm} {l : Lc}
/-! ### operators, generally -/
/-- what a rule of two values asks is met by the plain operator -/
def Op2 (g : Gm) (r : R2) (f : PV → PV → Store → Res PV) : Prop := ∀ v w st κ H x y W σ Q, StR g.K g.T g.Tb st κ H → RepX g.K g.T κ (Fz st κ H) v x → RepX g.K g.T κ (Fz st κ H) w y → Run g (RX g) W (f v w st) st κ σ H Q → r x y H Q
theorem run2' {da db : Den} {f : PV → PV → Store → Res PV} {r : R2} (hf : Op2 g r f) {W : WX} {σ : L2.St} {H : Hp} {Q : VK} (h : tD g W (dOp2 f da db) σ H Q) : tOp r (tD g W da) (tD g W db) σ H Q := by
  obtain ⟨ρ, st, κ, L, q⟩ := run2 h
  refine ⟨ρ, st, κ, L, q.mono fun x H1 q1 => ?_⟩
  obtain ⟨ρ, st, κ, L, q⟩ := q1
  exact ⟨ρ, st, κ, L, q.mono fun y H2 ⟨v, w, ρ, st2, κ2, L2, r1, r2, h2⟩ => hf v w st2 κ2 H2 x y W σ Q L2.sr r1 r2 h2⟩
theorem ed_op' {op : Operator} {r : R2} {f : PV → PV → Store → Res PV} {da db : Den} {a b : Expr} {pos : Pos} (ho : ∀ X, Jx g l X → OpR X (binaryOp op) r) (hf : Op2 g r f) (ha : ED g l da a) (hb : ED g l db b) : ED g l (dOp2 f da db) (.BinOp a op b pos) := fun X W J tk =>
  PE.imp (pe_op (ho X J) (ha X W J tk) (hb X W J tk)) fun σ H Q h => run2' hf h
theorem ed_cmp {op : CmpOp} {r : R2} {f : PV → PV → Store → Res PV} {da db : Den} {a b : Expr} {pos : Pos} (ho : ∀ X, Jx g l X → OpR X (compareOp op) r) (hf : Op2 g r f) (hm : behindInMarks op b = false) (ha : ED g l da a) (hb : ED g l db b) : ED g l (dOp2 f da db) (.Compare a [op] [b] pos) := fun X W J tk =>
  PE.imp (pe_cmpR (ho X J) (ha X W J tk) (hb X W J tk) hm) fun σ H Q h => run2' hf h
/-- a bool as a test -/
def dB (d : Den) : DenT := fun ρ st => (d ρ st).bind fun v st => match v with
  | .bl b => .ok b st
  | _ => .stuck 5
theorem runB {d : Den} {W : WX} {σ : L2.St} {H : Hp} {Q : Bool → Hp → Prop} (h : tT g W (dB d) σ H Q) : tD g W d σ H fun x H' => ∃ k, x = .bl k ∧ Q k H' := by
  obtain ⟨ρ, st, κ, L, h⟩ := h
  refine ⟨ρ, st, κ, L, (Run.bind h).mono fun x H1 ⟨v, st1, κ1, e1, r1, h1⟩ => ?_⟩
  cases v with
  | bl b => exact ⟨b, r1, Run.ret e1.sr h1 rfl⟩
  | non => exact h1.elim
  | int _ => exact h1.elim
  | str _ => exact h1.elim
  | tup _ => exact h1.elim
  | lst _ => exact h1.elim
  | ref _ => exact h1.elim
  | obj _ _ => exact h1.elim
theorem td_cmp {op : CmpOp} {r : R2} {f : PV → PV → Store → Res PV} {da db : Den} {a b : Expr} {pos : Pos} (ho : ∀ X, Jx g l X → OpR X (compareOp op) r) (hf : Op2 g r f) (hm : behindInMarks op b = false) (ha : ED g l da a) (hb : ED g l db b) : TD g l (dB (dOp2 f da db)) (.Compare a [op] [b] pos) := fun X W J tk =>
  PT.imp (pt_cmpR (ho X J) (ha X W J tk) (hb X W J tk) hm) fun σ H Q h => run2' hf (runB h)
/-- two rules side by side -/
theorem Op2.or {r r' : R2} {f f' : PV → PV → Store → Res PV} (c : PV → PV → Bool) (h : Op2 g r f) (h' : Op2 g r' f') : Op2 g (fun x y H Q => r x y H Q ∨ r' x y H Q) (fun v w st => if c v w then f v w st else f' v w st) := fun v w st κ H x y W σ Q s r1 r2 q => by
  dsimp only at q
  split at q
  · exact .inl (h v w st κ H x y W σ Q s r1 r2 q)
  · exact .inr (h' v w st κ H x y W σ Q s r1 r2 q)
theorem opInt2 {f : Int → Int → Option PV} {C : Int → Int → Prop} {o : Int → Int → V} (hf : ∀ i j u, f i j = some u → C i j ∧ ∀ F, RepV g.K g.T F u (o i j)) : Op2 g (rI C o) (opInt f) := fun v w st κ H x y W σ Q s r1 r2 h => opInt_ok hf s r1 r2 h

/-! ### + -/
def isI : PV → Bool
  | .int _ => true
  | _ => false
def isS : PV → Bool
  | .str _ => true
  | _ => false
def oStr : PV → PV → Store → Res PV := fun v w st => match v, w with
  | .str i, .str j => if lineB (i.length + j.length) then .ok (.str (i ++ j)) st else .stuck 6
  | _, _ => .stuck 7
theorem op2_str : Op2 g (fun x y H Q => ∃ i j, x = .str i ∧ y = .str j ∧ i.length + j.length ≤ sizeLine ∧ Q (.str (i ++ j)) H) oStr := fun v w st κ H x y W σ Q s r1 r2 h => by
  unfold oStr at h
  split at h
  · rename_i i j
    split at h
    · rename_i c
      exact ⟨i, j, r1, r2, lineB_ok c, Run.ret s h rfl⟩
    · exact h.elim
  · exact h.elim
def oTup : PV → PV → Store → Res PV := fun v w st => match v, w with
  | .tup xs, .tup ys => if lineB (xs.length + ys.length) then .ok (.tup (xs ++ ys)) st else .stuck 8
  | _, _ => .stuck 9
theorem RepVs.nil_iff {K : PySem.W.Frag} {T : CT} {F : Hp} {xs : List PV} {vs : List V} (r : RepVs K T F xs vs) : vs = [] ↔ xs = [] := by
  have := r.length
  constructor
  · intro h; subst h; exact List.length_eq_zero_iff.mp this
  · intro h; subst h; exact List.length_eq_zero_iff.mp this.symm
theorem rep_tup_new {st : Store} {κ : List Addr} {H : Hp} {p : Addr} {vs : List V} {xs : List PV} (tb : TbOk g) (s : StR g.K g.T g.Tb st κ H) {ob : Obj} (hd : ob.dict = none) (hp : H p = none) (r : RepVs g.K g.T (Fz st κ H) xs vs) : RepX g.K g.T κ (Fz st κ (upd H p (.frz ob (.tup vs)))) (.tup xs) (.ref p) :=
  ⟨p, vs, rfl, .inl ⟨ob, fz_at (fun z => s.not_mem hp (live_sub z)) upd_same (fun ps z => by cases z), hd⟩, r.mono (StR.upd_new tb (o := .frz ob (.tup vs)) s hp).same⟩
theorem op2_tup (tb : TbOk g) : Op2 g (rCatX g.K) oTup := fun v w st κ H x y W σ Q s r1 r2 h => by
  unfold oTup at h
  split at h
  · rename_i xs ys
    split at h
    · rename_i c
      obtain ⟨a, vs, rfl, q1, q2⟩ := id r1
      obtain ⟨b, ws, rfl, q3, q4⟩ := id r2
      refine ⟨a, b, vs, ws, rfl, rfl, TupR.of_fz q1, TupR.of_fz q3, by rw [← q2.length, ← q4.length]; exact lineB_ok c, fun e => ?_, fun e e' => ?_, fun e e' p ob hd hp => ?_⟩
      · have := q2.nil_iff.mp e
        subst this
        exact Run.ret s h r2
      · have := q4.nil_iff.mp e'
        subst this
        rw [List.append_nil] at h
        exact Run.ret s h r1
      · exact h _ _ _ (StR.upd_new tb s hp) (rep_tup_new tb s hd hp (q2.append q4))
    · exact h.elim
  · exact h.elim
def oAdd : PV → PV → Store → Res PV := fun v w st => if isI v then opInt fAdd v w st else if isS v then oStr v w st else oTup v w st
theorem ed_add (tb : TbOk g) {da db : Den} {a b : Expr} {pos : Pos} (ha : ED g l da a) (hb : ED g l db b) : ED g l (dOp2 oAdd da db) (.BinOp a .Add b pos) :=
  ed_op' (r := fun x y H Q => rI (fun _ _ => True) (fun i j => .int (i + j)) x y H Q ∨ ((∃ i j, x = .str i ∧ y = .str j ∧ i.length + j.length ≤ sizeLine ∧ Q (.str (i ++ j)) H) ∨ rCatX g.K x y H Q))
    (fun X J => OpR.or (OpR.imp op_add rI_of0) (OpR.or op_add_str (J.k ▸ op_catX)))
    (Op2.or (fun v _ => isI v) (opInt2 fun i j u e => by cases e; exact ⟨trivial, fun _ => rfl⟩) (Op2.or (fun v _ => isS v) op2_str (op2_tup tb))) ha hb
/-- lists -/
def lCat (da db : Den) : DenL := fun ρ st => (da ρ st).bind fun v st => (db ρ st).bind fun w st => match seqOf v st, seqOf w st with
  | some (true, xs), some (true, ys) => if lineB (xs.length + ys.length) then .ok (xs ++ ys) st else .stuck 10
  | _, _ => .stuck 11
/-! ### == and != -/
mutual
def toD : PV → Option PyData
  | .non => some .none
  | .bl b => some (.bool b)
  | .int i => some (.int i)
  | .str s => some (.str s)
  | .tup xs => (toDs xs).map .tuple
  | .lst xs => (toDs xs).map .list
  | _ => none
def toDs : List PV → Option (List PyData)
  | [] => some []
  | x :: xs => match toD x, toDs xs with
    | some d, some ds => some (d :: ds)
    | _, _ => none
end
mutual
theorem toD_dp {L : List Addr} {H : Hp} : ∀ {v : PV} {d : PyData} {x : V}, toD v = some d → RepV g.K g.T (fz L H) v x → Dp g.K H x d
  | .non, _, _, e, r => by cases e; cases r; exact .non
  | .bl b, _, _, e, r => by cases e; cases r; exact .bl b
  | .int i, _, _, e, r => by cases e; cases r; exact .int i
  | .str s, _, _, e, r => by cases e; cases r; exact .str s
  | .tup xs, _, _, e, r => by
    unfold toD at e
    cases q : toDs xs with
    | none => rw [q] at e; cases e
    | some ds =>
      rw [q] at e
      cases e
      obtain ⟨a, vs, rfl, h1, h2⟩ := r
      exact .tup (TupR.of_fz h1) (toDs_dp q h2)
  | .lst xs, _, _, e, r => by
    unfold toD at e
    cases q : toDs xs with
    | none => rw [q] at e; cases e
    | some ds =>
      rw [q] at e
      cases e
      obtain ⟨a, vs, rfl, h1, h2⟩ := r
      exact .lst (SqL.of_fz h1) (toDs_dp q h2)
  | .ref _, _, _, e, _ => by cases e
  | .obj _ _, _, _, e, _ => by cases e
theorem toDs_dp {L : List Addr} {H : Hp} : ∀ {v : List PV} {d : List PyData} {x : List V}, toDs v = some d → RepVs g.K g.T (fz L H) v x → DpAll g.K H x d
  | [], _, _, e, r => by cases e; cases r; exact .nil
  | a :: v, _, _, e, ⟨y, r, q, h, t⟩ => by
    unfold toDs at e
    cases q1 : toD a with
    | none => simp only [q1] at e; cases e
    | some d =>
      cases q2 : toDs v with
      | none => simp only [q1, q2] at e; cases e
      | some ds =>
        simp only [q1, q2] at e
        cases e
        subst q
        exact .cons (toD_dp q1 h) (toDs_dp q2 t)
end
/-- a value's data, a cell's too -/
def toX (v : PV) (st : Store) : Option PyData := match v with
  | .ref k => match st[k]? with
    | some (.lst xs) => (toDs xs).map .list
    | some (.frz xs) => (toDs xs).map .list
    | _ => none
  | v => toD v
theorem toX_dp {st : Store} {κ : List Addr} {H : Hp} {v : PV} {x : V} {d : PyData} (s : StR g.K g.T g.Tb st κ H) (e : toX v st = some d) (r : RepX g.K g.T κ (Fz st κ H) v x) : Dp g.K H x d := by
  cases v with
  | ref k =>
    unfold toX at e
    have key : ∀ xs, seqOf (.ref k) st = some (true, xs) → (toDs xs).map PyData.list = some d → Dp g.K H x d := fun xs h1 h2 => by
      obtain ⟨a, vs, rfl, q1, q2⟩ := seq_rep s r h1
      rw [if_pos rfl] at q1
      cases q : toDs xs with
      | none => rw [q] at h2; cases h2
      | some ds =>
        rw [q] at h2
        cases h2
        exact .lst q1 (toDs_dp q q2)
    cases q : st[k]? with
    | none => simp only [q] at e; cases e
    | some c =>
      cases c with
      | lst xs => simp only [q] at e; exact key xs (by unfold seqOf; simp only [q]) e
      | frz xs => simp only [q] at e; exact key xs (by unfold seqOf; simp only [q]) e
      | ins _ _ => simp only [q] at e; cases e
  | non => exact toD_dp (L := live st κ) e r
  | bl _ => exact toD_dp (L := live st κ) e r
  | int _ => exact toD_dp (L := live st κ) e r
  | str _ => exact toD_dp (L := live st κ) e r
  | tup _ => exact toD_dp (L := live st κ) e r
  | lst _ => exact toD_dp (L := live st κ) e r
  | obj _ _ => cases e
/-- == of two values as data -/
def eqX (v w : PV) (st : Store) : Option Bool := match toX v st, toX w st with
  | some d, some e => if SeqAt.shaped d && SeqAt.shaped e then some (PyData.eqv d e) else none
  | _, _ => none
def oEq : PV → PV → Store → Res PV := fun v w st => match eqX v w st with
  | some b => .ok (.bl b) st
  | none => .stuck 12
def oNe : PV → PV → Store → Res PV := fun v w st => match eqX v w st with
  | some b => .ok (.bl (!b)) st
  | none => .stuck 13
theorem eqX_ok {v w : PV} {st : Store} {b : Bool} (e : eqX v w st = some b) : ∃ d f, toX v st = some d ∧ toX w st = some f ∧ SeqAt.shaped d = true ∧ SeqAt.shaped f = true ∧ PyData.eqv d f = b := by
  unfold eqX at e
  cases q1 : toX v st with
  | none => simp only [q1] at e; cases e
  | some d =>
    cases q2 : toX w st with
    | none => simp only [q1, q2] at e; cases e
    | some f =>
      simp only [q1, q2] at e
      split at e
      · rename_i c
        rw [Bool.and_eq_true] at c
        cases e
        exact ⟨d, f, rfl, rfl, c.1, c.2, rfl⟩
      · cases e
theorem op2_eq : Op2 g (rEqD g.K) oEq := fun v w st κ H x y W σ Q s r1 r2 h => by
  unfold oEq at h
  split at h
  · rename_i b e
    obtain ⟨d, f, q1, q2, q3, q4, q5⟩ := eqX_ok e
    exact ⟨d, f, toX_dp s q1 r1, toX_dp s q2 r2, q3, q4, by rw [q5]; exact Run.ret s h rfl⟩
  · exact h.elim
theorem op2_ne : Op2 g (rNeD g.K) oNe := fun v w st κ H x y W σ Q s r1 r2 h => by
  unfold oNe at h
  split at h
  · rename_i b e
    obtain ⟨d, f, q1, q2, q3, q4, q5⟩ := eqX_ok e
    exact ⟨d, f, toX_dp s q1 r1, toX_dp s q2 r2, q3, q4, by rw [q5]; exact Run.ret s h rfl⟩
  · exact h.elim
theorem ho_eq : ∀ X, Jx g l X → OpR X (compareOp .Eq) (rEqD g.K) := fun X J => J.k ▸ op_eqD J.room.units
theorem ho_ne : ∀ X, Jx g l X → OpR X (compareOp .NotEq) (rNeD g.K) := fun X J => J.k ▸ op_neD J.room.units

/-! ### order of ints -/
def fLt : Int → Int → Option PV := fun i j => some (.bl (decide (i < j)))
def fLe : Int → Int → Option PV := fun i j => some (.bl (decide (i ≤ j)))
def fGt : Int → Int → Option PV := fun i j => some (.bl (decide (j < i)))
def fGe : Int → Int → Option PV := fun i j => some (.bl (decide (j ≤ i)))
theorem op2_lt : Op2 g (rI (fun _ _ => True) fun i j => .bl (decide (i < j))) (opInt fLt) := opInt2 fun i j u e => by cases e; exact ⟨trivial, fun _ => rfl⟩
theorem op2_le : Op2 g (rI (fun _ _ => True) fun i j => .bl (decide (i ≤ j))) (opInt fLe) := opInt2 fun i j u e => by cases e; exact ⟨trivial, fun _ => rfl⟩
theorem op2_gt : Op2 g (rI (fun _ _ => True) fun i j => .bl (decide (j < i))) (opInt fGt) := opInt2 fun i j u e => by cases e; exact ⟨trivial, fun _ => rfl⟩
theorem op2_ge : Op2 g (rI (fun _ _ => True) fun i j => .bl (decide (j ≤ i))) (opInt fGe) := opInt2 fun i j u e => by cases e; exact ⟨trivial, fun _ => rfl⟩
theorem ho_lt : ∀ X, Jx g l X → OpR X (compareOp .Lt) (rI (fun _ _ => True) fun i j => .bl (decide (i < j))) := fun X _ => OpR.imp op_lt rI_of0
theorem ho_le : ∀ X, Jx g l X → OpR X (compareOp .LtE) (rI (fun _ _ => True) fun i j => .bl (decide (i ≤ j))) := fun X _ => OpR.imp op_le rI_of0
theorem ho_gt : ∀ X, Jx g l X → OpR X (compareOp .Gt) (rI (fun _ _ => True) fun i j => .bl (decide (j < i))) := fun X _ => OpR.imp op_gt rI_of0
theorem ho_ge : ∀ X, Jx g l X → OpR X (compareOp .GtE) (rI (fun _ _ => True) fun i j => .bl (decide (j ≤ i))) := fun X _ => OpR.imp op_ge rI_of0
/-! ### is -/
def oIs (neg : Bool) : PV → PV → Store → Res PV := fun v w st => match w with
  | .non => match v with
    | .non => .ok (.bl (!neg)) st
    | .ref _ => .stuck 14
    | _ => .ok (.bl neg) st
  | .bl b => match v with
    | .bl a => .ok (.bl (if neg then !decide (a = b) else decide (a = b))) st
    | _ => .stuck 15
  | _ => .stuck 16
def rIs (neg : Bool) : R2 := fun x y H Q => (y = .non ∧ Q (.bl (if neg then !decide (x = .non) else decide (x = .non))) H) ∨ ∃ a b : Bool, x = .bl a ∧ y = .bl b ∧ Q (.bl (if neg then !decide (a = b) else decide (a = b))) H
theorem non_iff {κ : List Addr} {F : Hp} {v : PV} {x : V} (r : RepX g.K g.T κ F v x) (t : isTree v = true) : x = .non ↔ v = .non := by
  cases v with
  | non => exact ⟨fun _ => rfl, fun _ => r⟩
  | bl b => cases (show x = .bl b from r); exact ⟨fun h => (nomatch h), fun h => (nomatch h)⟩
  | int i => cases (show x = .int i from r); exact ⟨fun h => (nomatch h), fun h => (nomatch h)⟩
  | str s => cases (show x = .str s from r); exact ⟨fun h => (nomatch h), fun h => (nomatch h)⟩
  | tup s => obtain ⟨a, vs, rfl, _⟩ := r; exact ⟨fun h => (nomatch h), fun h => (nomatch h)⟩
  | lst s => obtain ⟨a, vs, rfl, _⟩ := r; exact ⟨fun h => (nomatch h), fun h => (nomatch h)⟩
  | obj c s => obtain ⟨a, dx, vs, rfl, _⟩ := r; exact ⟨fun h => (nomatch h), fun h => (nomatch h)⟩
  | ref k => cases t
theorem op2_is (neg : Bool) : Op2 g (rIs neg) (oIs neg) := fun v w st κ H x y W σ Q s r1 r2 h => by
  unfold oIs at h
  cases w with
  | non =>
    refine .inl ⟨r2, ?_⟩
    have go : ∀ v', v = v' → isTree v' = true → v' ≠ .non → Run g (RX g) W (.ok (.bl neg) st) st κ σ H Q → Q (.bl (if neg then !decide (x = .non) else decide (x = .non))) H := fun v' e t hn q => by
      subst e
      rw [decide_eq_false fun z => hn ((non_iff r1 t).mp z)]
      have := Run.ret (g := g) (R := RX g) (x := V.bl neg) s q rfl
      cases neg <;> exact this
    cases v with
    | non =>
      cases (show x = .non from r1)
      have := Run.ret (g := g) (R := RX g) (x := V.bl (!neg)) s h rfl
      cases neg <;> exact this
    | ref k => exact h.elim
    | bl _ => exact go _ rfl rfl (fun z => nomatch z) h
    | int _ => exact go _ rfl rfl (fun z => nomatch z) h
    | str _ => exact go _ rfl rfl (fun z => nomatch z) h
    | tup _ => exact go _ rfl rfl (fun z => nomatch z) h
    | lst _ => exact go _ rfl rfl (fun z => nomatch z) h
    | obj _ _ => exact go _ rfl rfl (fun z => nomatch z) h
  | bl b =>
    cases v with
    | bl a => exact .inr ⟨a, b, r1, r2, Run.ret (g := g) (R := RX g) s h rfl⟩
    | non => exact h.elim
    | int _ => exact h.elim
    | str _ => exact h.elim
    | tup _ => exact h.elim
    | lst _ => exact h.elim
    | ref _ => exact h.elim
    | obj _ _ => exact h.elim
  | int _ => exact h.elim
  | str _ => exact h.elim
  | tup _ => exact h.elim
  | lst _ => exact h.elim
  | ref _ => exact h.elim
  | obj _ _ => exact h.elim
theorem ho_is : ∀ X, Jx g l X → OpR X (compareOp .Is) (rIs false) := fun X _ => OpR.imp (OpR.or op_isN op_isBl) fun _ _ _ _ q => q
theorem ho_isnot : ∀ X, Jx g l X → OpR X (compareOp .IsNot) (rIs true) := fun X _ => OpR.imp (OpR.or op_notN op_notBl) fun _ _ _ _ q => q
end
end Wi

/-! Wi5: tests, items, slices, built-in calls and methods. -/
namespace Wi
open PySem L2

section
variable {g : Gm} {l : Lc}
/-! ### tests -/
def dTru (d : Den) : DenT := fun ρ st => (d ρ st).bind fun v st => match v with
  | .bl b => .ok b st
  | .non => .ok false st
  | .int i => .ok (i != 0) st
  | v => match seqOf v st with
    | some (_, xs) => .ok (!xs.isEmpty) st
    | none => .stuck 20
theorem RepVs.isEmpty {K : PySem.W.Frag} {T : CT} {F : Hp} {xs : List PV} {vs : List V} (r : RepVs K T F xs vs) : xs.isEmpty = vs.isEmpty := by
  have := r.length
  cases xs <;> cases vs <;> first | rfl | (simp at this)
theorem td_tru {d : Den} {e : Expr} (h : ED g l d e) (he : ∀ (env : Env) (whole : Sem Value), isTrue e env whole = (do let v ← whole; standAt e.pos; holding [v] (truthy v))) : TD g l (dTru d) e := fun X W J tk =>
  PT.imp (pt_truth (h X W J tk) (he X.env)) fun σ H Q ⟨ρ, st, κ, L, h⟩ => ⟨ρ, st, κ, L, (Run.bind h).mono fun x H1 ⟨v, st1, κ1, e1, r1, h1⟩ => by
    have key : ∀ b xs, seqOf v st1 = some (b, xs) → Run g RB W (.ok (!xs.isEmpty) st1) st1 κ1 σ H1 Q → ∃ k, TruV X.K x H1 k ∧ Q k H1 := fun b xs e q => by
      obtain ⟨a, vs, rfl, q1, q2⟩ := seq_rep e1.sr r1 e
      refine ⟨!xs.isEmpty, ?_, Run.ret e1.sr q rfl⟩
      rw [RepVs.isEmpty q2, J.k]
      cases b with
      | true => exact .inl ⟨vs, q1, rfl⟩
      | false => exact .inr (.inl ⟨vs, q1, rfl⟩)
    have key2 : Run g RB W (match seqOf v st1 with | some (_, xs) => .ok (!xs.isEmpty) st1 | none => .stuck 20) st1 κ1 σ H1 Q → ∃ k, TruV X.K x H1 k ∧ Q k H1 := fun q => by
      split at q
      · rename_i b xs e
        exact key b xs e q
      · exact q.elim
    cases v with
    | bl b => cases (show x = .bl b from r1); exact ⟨b, rfl, Run.ret e1.sr h1 rfl⟩
    | non => cases (show x = .non from r1); exact ⟨false, rfl, Run.ret e1.sr h1 rfl⟩
    | int i => cases (show x = .int i from r1); exact ⟨i != 0, rfl, Run.ret e1.sr h1 rfl⟩
    | str _ => exact key2 h1
    | tup _ => exact key2 h1
    | lst _ => exact key2 h1
    | ref _ => exact key2 h1
    | obj _ _ => exact key2 h1⟩
/-- a call, a name and the like: its value's truth, no more -/
theorem td_val {d : Den} {e : Expr} (h : ED g l d e) (he : ∀ (env : Env) (whole : Sem Value), isTrue e env whole = (do let v ← whole; standAt e.pos; holding [v] (truthy v))) : TD g l (dTru d) e := td_tru h he
def tAndD (a b : DenT) : DenT := fun ρ st => (a ρ st).bind fun c st => if c then b ρ st else .ok false st
def tOrD (a b : DenT) : DenT := fun ρ st => (a ρ st).bind fun c st => if c then .ok true st else b ρ st
def tNotD (a : DenT) : DenT := fun ρ st => (a ρ st).bind fun c st => .ok (!c) st
theorem wd_and1 {a : Expr} {d : DenT} {pos : Pos} (h : TD g l d a) : WD g l d (.BoolOp .And [a] pos) := fun X W J tk => pw_and1 (h X W J tk)
theorem wd_or1 {a : Expr} {d : DenT} {pos : Pos} (h : TD g l d a) : WD g l d (.BoolOp .Or [a] pos) := fun X W J tk => pw_or1 (h X W J tk)
theorem wd_and {a b : Expr} {r : List Expr} {da db : DenT} {pos : Pos} (ha : TD g l da a) (hb : WD g l db (.BoolOp .And (b :: r) pos)) : WD g l (tAndD da db) (.BoolOp .And (a :: b :: r) pos) := fun X W J tk =>
  PW.imp (pw_and (ha X W J tk) (hb X W J tk)) fun σ H Q ⟨ρ, st, κ, L, h⟩ => ⟨ρ, st, κ, L, (Run.bind h).mono fun c H1 ⟨c', st1, κ1, e1, r1, h1⟩ => by
    have r1 : c' = c := r1
    subst r1
    cases c' with
    | true => exact ⟨ρ, st1, κ1, L.xt e1, h1⟩
    | false => exact Run.ret e1.sr h1 rfl⟩
theorem wd_or {a b : Expr} {r : List Expr} {da db : DenT} {pos : Pos} (ha : TD g l da a) (hb : WD g l db (.BoolOp .Or (b :: r) pos)) : WD g l (tOrD da db) (.BoolOp .Or (a :: b :: r) pos) := fun X W J tk =>
  PW.imp (pw_or (ha X W J tk) (hb X W J tk)) fun σ H Q ⟨ρ, st, κ, L, h⟩ => ⟨ρ, st, κ, L, (Run.bind h).mono fun c H1 ⟨c', st1, κ1, e1, r1, h1⟩ => by
    have r1 : c' = c := r1
    subst r1
    cases c' with
    | true => exact Run.ret e1.sr h1 rfl
    | false => exact ⟨ρ, st1, κ1, L.xt e1, h1⟩⟩
theorem td_bool {op : BoolOp} {es : List Expr} {d : DenT} {pos : Pos} (h : WD g l d (.BoolOp op es pos)) : TD g l d (.BoolOp op es pos) := fun X W J tk => (h X W J tk).pt
theorem td_not {a : Expr} {d : DenT} {pos : Pos} (h : TD g l d a) : TD g l (tNotD d) (.UnaryOp .Not a pos) := fun X W J tk =>
  PT.imp (pt_not (h X W J tk)) fun σ H Q ⟨ρ, st, κ, L, h⟩ => ⟨ρ, st, κ, L, (Run.bind h).mono fun c H1 ⟨c', st1, κ1, e1, r1, h1⟩ => by
    have r1 : c' = c := r1
    subst r1
    exact Run.ret e1.sr h1 rfl⟩
/-- bools as values -/
def dAndV (a b : Den) : Den := fun ρ st => (a ρ st).bind fun c st => match c with
  | .bl true => b ρ st
  | .bl false => .ok (.bl false) st
  | _ => .stuck 21
def dOrV (a b : Den) : Den := fun ρ st => (a ρ st).bind fun c st => match c with
  | .bl true => .ok (.bl true) st
  | .bl false => b ρ st
  | _ => .stuck 22
def dNotV (a : Den) : Den := fun ρ st => (a ρ st).bind fun c st => match c with
  | .bl b => .ok (.bl (!b)) st
  | _ => .stuck 23
theorem ed_one {op : BoolOp} {a : Expr} {d : Den} {pos : Pos} (h : ED g l d a) : ED g l d (.BoolOp op [a] pos) := fun X W J tk => pe_one (h X W J tk)
theorem ed_and {a b : Expr} {r : List Expr} {da db : Den} {pos : Pos} (ha : ED g l da a) (hb : ED g l db (.BoolOp .And (b :: r) pos)) : ED g l (dAndV da db) (.BoolOp .And (a :: b :: r) pos) := fun X W J tk =>
  PE.imp (pe_and (ha X W J tk) (hb X W J tk)) fun σ H Q ⟨ρ, st, κ, L, h⟩ => ⟨ρ, st, κ, L, (Run.bind h).mono fun x H1 ⟨v, st1, κ1, e1, r1, h1⟩ => by
    split at h1
    · exact ⟨true, r1, ρ, st1, κ1, L.xt e1, h1⟩
    · exact ⟨false, r1, Run.ret e1.sr h1 rfl⟩
    · exact h1.elim⟩
theorem ed_or {a b : Expr} {r : List Expr} {da db : Den} {pos : Pos} (ha : ED g l da a) (hb : ED g l db (.BoolOp .Or (b :: r) pos)) : ED g l (dOrV da db) (.BoolOp .Or (a :: b :: r) pos) := fun X W J tk =>
  PE.imp (pe_or (ha X W J tk) (hb X W J tk)) fun σ H Q ⟨ρ, st, κ, L, h⟩ => ⟨ρ, st, κ, L, (Run.bind h).mono fun x H1 ⟨v, st1, κ1, e1, r1, h1⟩ => by
    split at h1
    · exact ⟨true, r1, Run.ret e1.sr h1 rfl⟩
    · exact ⟨false, r1, ρ, st1, κ1, L.xt e1, h1⟩
    · exact h1.elim⟩
theorem ed_not {a : Expr} {da : Den} {pos : Pos} (ha : ED g l da a) : ED g l (dNotV da) (.UnaryOp .Not a pos) := fun X W J tk =>
  PE.imp (pe_not (ha X W J tk)) fun σ H Q ⟨ρ, st, κ, L, h⟩ => ⟨ρ, st, κ, L, (Run.bind h).mono fun x H1 ⟨v, st1, κ1, e1, r1, h1⟩ => by
    split at h1
    · rename_i b
      exact ⟨b, r1, Run.ret e1.sr h1 rfl⟩
    · exact h1.elim⟩
def dIf (c : DenT) (a b : Den) : Den := fun ρ st => (c ρ st).bind fun t st => if t then a ρ st else b ρ st
theorem ed_if {c a b : Expr} {dc : DenT} {da db : Den} {pos : Pos} (hc : TD g l dc c) (ha : ED g l da a) (hb : ED g l db b) : ED g l (dIf dc da db) (.IfExp c a b pos) := fun X W J tk =>
  PE.imp (pe_ifExp (hc X W J tk) (ha X W J tk) (hb X W J tk)) fun σ H Q ⟨ρ, st, κ, L, h⟩ => ⟨ρ, st, κ, L, (Run.bind h).mono fun c H1 ⟨c', st1, κ1, e1, r1, h1⟩ => by
    have r1 : c' = c := r1
    subst r1
    cases c' with
    | true => exact ⟨ρ, st1, κ1, L.xt e1, h1⟩
    | false => exact ⟨ρ, st1, κ1, L.xt e1, h1⟩⟩
def dNeg (d : Den) : Den := fun ρ st => (d ρ st).bind fun v st => match v with
  | .int i => .ok (.int (-i)) st
  | _ => .stuck 24
theorem ed_neg {a : Expr} {da : Den} {pos : Pos} (ha : ED g l da a) : ED g l (dNeg da) (.UnaryOp .USub a pos) := fun X W J tk =>
  PE.imp (pe_un un_neg (ha X W J tk)) fun σ H Q ⟨ρ, st, κ, L, h⟩ => ⟨ρ, st, κ, L, (Run.bind h).mono fun x H1 ⟨v, st1, κ1, e1, r1, h1⟩ => by
    split at h1
    · rename_i i
      exact ⟨i, r1, Run.ret e1.sr h1 rfl⟩
    · exact h1.elim⟩

/-! ### items and slices -/
def oIx : PV → PV → Store → Res PV := fun v w st => match w with
  | .int i => match seqOf v st with
    | some (_, xs) => match atI xs i with
      | some u => .ok u st
      | none => .stuck 25
    | none => match v with
      | .str z => if lineB z.length then (match atI z.cps.toList i with
        | some c => .ok (.str ⟨#[c]⟩) st
        | none => .stuck 26) else .stuck 26
      | _ => .stuck 26
  | _ => .stuck 27
theorem atI_rep {F : Hp} {xs : List PV} {vs : List V} {i : Int} {u : PV} (r : RepVs g.K g.T F xs vs) (e : atI xs i = some u) : ∃ y, atI vs i = some y ∧ RepV g.K g.T F u y := by
  unfold atI at e ⊢
  rw [← r.length]
  cases q : ixN xs.length i with
  | none => rw [q] at e; cases e
  | some j =>
    rw [q] at e
    exact r.get e
theorem op2_ix : Op2 g (rIx g.K) oIx := fun v w st κ H x y W σ Q s r1 r2 h => by
  unfold oIx at h
  split at h
  · rename_i i
    cases hs : seqOf v st with
    | some p =>
      obtain ⟨b, xs⟩ := p
      rw [hs] at h
      dsimp only at h
      split at h
      · rename_i u e
        obtain ⟨a, vs, rfl, q1, q2⟩ := seq_rep s r1 hs
        obtain ⟨z, q3, q4⟩ := atI_rep q2 e
        have := Run.ret s h (RepX.ofV q4)
        cases b with
        | true => exact .inl ⟨a, vs, i, z, rfl, r2, q1, q3, this⟩
        | false => exact .inr (.inl ⟨a, vs, i, z, rfl, r2, q1, q3, this⟩)
      · exact h.elim
    | none =>
      rw [hs] at h
      dsimp only at h
      split at h
      · rename_i z
        split at h
        · rename_i c
          split at h
          · rename_i u e
            exact .inr (.inr ⟨z, i, u, r1, r2, lineB_ok c, e, Run.ret s h rfl⟩)
          · exact h.elim
        · exact h.elim
      · exact h.elim
  · exact h.elim
theorem ed_ix {a b : Expr} {da db : Den} {pos : Pos} (hp : PlainIx b) (ha : ED g l da a) (hb : ED g l db b) : ED g l (dOp2 oIx da db) (.Subscript a b pos) := fun X W J tk =>
  PE.imp (pe_ix (r := rIx g.K) (J.k ▸ ix_seq) (ha X W J tk) (hb X W J tk) hp) fun σ H Q h => run2' op2_ix h

/-- a slice's end -/
abbrev DenO := Sl → Store → Res (Option Int)
def PD (g : Gm) (l : Lc) (d : DenO) (e : Option Expr) : Prop := ∀ X W, Jx g l X → Takes X W → PO X e (tR g (fun _ _ a b => a = b) W d)
def oNo : DenO := fun _ st => .ok none st
def oSome (d : Den) : DenO := fun ρ st => (d ρ st).bind fun v st => match v with
  | .int i => .ok (some i) st
  | _ => .stuck 28
theorem PO.imp {X : Cx} {e : Option Expr} {t u : TO} (h : PO X e t) (i : ∀ σ H Q, u σ H Q → t σ H Q) : PO X e u := ⟨fun pins s σ H Q I hu => h.run pins s σ H Q I (i σ H Q hu)⟩
theorem pd_no : PD g l oNo none := fun X W J tk => PO.imp po_none fun σ H Q ⟨ρ, st, κ, L, h⟩ => Run.ret L.sr h rfl
theorem pd_some {d : Den} {e : Expr} (h : ED g l d e) : PD g l (oSome d) (some e) := fun X W J tk =>
  PO.imp (po_some (h X W J tk)) fun σ H Q ⟨ρ, st, κ, L, h⟩ => ⟨ρ, st, κ, L, (Run.bind h).mono fun x H1 ⟨v, st1, κ1, e1, r1, h1⟩ => by
    split at h1
    · rename_i i
      exact ⟨i, r1, Run.ret e1.sr h1 rfl⟩
    · exact h1.elim⟩
def cutP (xs : List PV) (lo hi : Option Int) : List PV := (xs.drop (HT.sIx xs.length 0 lo)).take (HT.sIx xs.length xs.length hi - HT.sIx xs.length 0 lo)
theorem cut_rep {F : Hp} {xs : List PV} {vs : List V} (r : RepVs g.K g.T F xs vs) (lo hi : Option Int) : RepVs g.K g.T F (cutP xs lo hi) (cutV vs lo hi) := by
  unfold cutP cutV
  rw [r.length]
  exact (r.drop _).take _
/-- a slice of a tuple -/
def dCutT (d : Den) (lo hi : DenO) : Den := fun ρ st => (d ρ st).bind fun v st => (lo ρ st).bind fun a st => (hi ρ st).bind fun b st => match v with
  | .tup xs => .ok (.tup (cutP xs a b)) st
  | _ => .stuck 29
theorem cut_whole {α : Type} {xs : List α} {lo hi : Option Int} (h : HT.sIx xs.length 0 lo = 0 ∧ HT.sIx xs.length xs.length hi = xs.length) : (xs.drop (HT.sIx xs.length 0 lo)).take (HT.sIx xs.length xs.length hi - HT.sIx xs.length 0 lo) = xs := by
  rw [h.1, h.2, List.drop_zero, Nat.sub_zero, List.take_length]
theorem ed_cutT (tb : TbOk g) {a : Expr} {lo hi : Option Expr} {da : Den} {dl dh : DenO} {p2 pos : Pos} (ha : ED g l da a) (hl : PD g l dl lo) (hh : PD g l dh hi) : ED g l (dCutT da dl dh) (.Subscript a (.Slice lo hi none p2) pos) := fun X W J tk =>
  PE.imp (pe_slice (r := rSlX g.K) (J.k ▸ sl_tupX) (ha X W J tk) (hl X W J tk) (hh X W J tk)) fun σ H Q ⟨ρ, st, κ, L, h⟩ => ⟨ρ, st, κ, L, (Run.bind h).mono fun x H1 ⟨v, st1, κ1, e1, r1, h1⟩ =>
    ⟨ρ, st1, κ1, L.xt e1, (Run.bind h1).mono fun o H2 ⟨o', st2, κ2, e2, r2, h2⟩ => ⟨ρ, st2, κ2, (L.xt e1).xt e2, (Run.bind h2).mono fun o3 H3 ⟨o3', st3, κ3, e3, r3, h3⟩ => by
      have r2 : o' = o := r2
      have r3 : o3' = o3 := r3
      subst r2 r3
      cases v with
      | tup xs =>
        obtain ⟨p, vs, rfl, q1, q2⟩ := (r1.mono e2.pre e2.same).mono e3.pre e3.same
        refine ⟨p, vs, rfl, TupR.of_fz q1, fun hw => ?_, fun hw q ob hd hq => ?_⟩
        · have hx : cutP xs o' o3' = xs := by unfold cutP; rw [← q2.length] at hw; exact cut_whole hw
          dsimp only at h3
          rw [hx] at h3
          exact Run.ret e3.sr h3 ⟨p, vs, rfl, q1, q2⟩
        · exact h3 _ _ _ (StR.upd_new tb e3.sr hq) (rep_tup_new tb e3.sr hd hq (cut_rep q2 _ _))
      | non => exact h3.elim
      | bl _ => exact h3.elim
      | int _ => exact h3.elim
      | str _ => exact h3.elim
      | lst _ => exact h3.elim
      | ref _ => exact h3.elim
      | obj _ _ => exact h3.elim⟩⟩⟩
/-- a slice of a list: a new one -/
def lCut (d : Den) (lo hi : DenO) : DenL := fun ρ st => (d ρ st).bind fun v st => (lo ρ st).bind fun a st => (hi ρ st).bind fun b st => match seqOf v st with
  | some (true, xs) => .ok (cutP xs a b) st
  | _ => .stuck 30
theorem ld_cut (tb : TbOk g) {a : Expr} {lo hi : Option Expr} {da : Den} {dl dh : DenO} {p2 pos : Pos} (ha : ED g l da a) (hl : PD g l dl lo) (hh : PD g l dh hi) : LD g l (lCut da dl dh) (.Subscript a (.Slice lo hi none p2) pos) := fun X W J tk =>
  PE.imp (pe_slice (r := rSlL g.K) (J.k ▸ sl_list) (ha X W J tk) (hl X W J tk) (hh X W J tk)) fun σ H Q ⟨ρ, st, κ, L, h⟩ => ⟨ρ, st, κ, L, (RunL.bind h).mono fun x H1 ⟨v, st1, κ1, e1, r1, h1⟩ =>
    ⟨ρ, st1, κ1, L.xt e1, (RunL.bind (h1.xt e1)).mono fun o H2 ⟨o', st2, κ2, e2, r2, h2⟩ => ⟨ρ, st2, κ2, (L.xt e1).xt e2, (RunL.bind (h2.xt e2)).mono fun o3 H3 ⟨o3', st3, κ3, e3, r3, h3⟩ => by
      have r2 : o' = o := r2
      have r3 : o3' = o3 := r3
      subst r2 r3
      split at h3
      · rename_i xs e
        obtain ⟨p, vs, rfl, q1, q2⟩ := seq_rep e3.sr ((r1.mono e2.pre e2.same).mono e3.pre e3.same) e
        exact ⟨p, vs, rfl, q1, fun q hq => h3 _ _ q _ (NewL.of_upd tb e3 hq (cut_rep q2 _ _))⟩
      · exact h3.elim⟩⟩⟩

/-! ### calls of what is built in -/
def Fn (g : Gm) (r : List V → Hp → VK → Prop) (f : List PV → Store → Res PV) : Prop := ∀ vs st κ H xs W σ Q, StR g.K g.T g.Tb st κ H → RXs g κ (Fz st κ H) vs xs → Run g (RX g) W (f vs st) st κ σ H Q → r xs H Q
def dFn (f : List PV → Store → Res PV) (da : DenA) : Den := fun ρ st => (da ρ st).bind f
theorem run_fn' {f : List PV → Store → Res PV} {r : List V → Hp → VK → Prop} (hf : Fn g r f) {da : DenA} {W : WX} {σ : L2.St} {H : Hp} {Q : VK} (h : tD g W (dFn f da) σ H Q) : tCB r (tA g W da) σ H Q := by
  obtain ⟨ρ, st, κ, L, h⟩ := h
  exact ⟨ρ, st, κ, L, (Run.bind h).mono fun xs H1 ⟨vs, st1, κ1, e1, r1, h1⟩ => hf vs st1 κ1 H1 xs W σ Q e1.sr r1 h1⟩
/-- x is no name of the text's: the built-in one -/
structure Blt (g : Gm) (l : Lc) (x : Str) (v : Value) : Prop where
  gl : l.sc.names.lookup x = some .globalImplicit
  mg : g.mg x = none
  bt : bootBuiltins x = some v
theorem gl_of {X : Cx} (J : Jx g l X) {x : Str} (h : l.sc.names.lookup x = some .globalImplicit) : Gl X x := by
  show X.env.scope.names.lookup x = _
  rw [J.sc]
  exact h
theorem ed_callB {id : String} {x : Str} {r : List V → Hp → VK → Prop} {f : List PV → Store → Res PV} {da : DenA} {e : Expr} {es : List Expr} {p pos : Pos} (hc : ∀ X, Jx g l X → CallR X (.builtin id) r) (hf : Fn g r f) (b : Blt g l x (.builtin id)) (ha : AD g l da (e :: es))
    (hn : x ≠ "__name__") (hdb : (x == ("__debug__" : Str)) = false) (he : ∀ env, starEach (e :: es) env = (false, eval e env) :: starEach es env) (hpl : ∀ env, (backTo pos (starEach es env)).any (·.1) = false) : ED g l (dFn f da) (.Call (.Name x p) (e :: es) [] pos) := fun X W J tk =>
  PE.imp (pe_callB (hc X J) (gl_of J b.gl) (by rw [J.m]; exact b.mg) b.bt (ha X W J tk) hn hdb (he _) (hpl _)) fun σ H Q h => run_fn' hf h
theorem ed_callTy {id : String} {x : Str} {r : List V → Hp → VK → Prop} {f : List PV → Store → Res PV} {da : DenA} {e : Expr} {es : List Expr} {p pos : Pos} (hc : ∀ X, Jx g l X → CallR X (.type id) r) (hf : Fn g r f) (b : Blt g l x (.type id)) (ha : AD g l da (e :: es))
    (hn : x ≠ "__name__") (hdb : (x == ("__debug__" : Str)) = false) (he : ∀ env, starEach (e :: es) env = (false, eval e env) :: starEach es env) (hpl : ∀ env, (backTo pos (starEach es env)).any (·.1) = false) : ED g l (dFn f da) (.Call (.Name x p) (e :: es) [] pos) := fun X W J tk =>
  PE.imp (pe_callTy (hc X J) (gl_of J b.gl) (by rw [J.m]; exact b.mg) b.bt (ha X W J tk) hn hdb (he _) (hpl _)) fun σ H Q h => run_fn' hf h
theorem rxs1 {κ : List Addr} {F : Hp} {v : PV} {xs : List V} (h : RXs g κ F [v] xs) : ∃ x, xs = [x] ∧ RepX g.K g.T κ F v x := by
  obtain ⟨y, r, q, h1, h2⟩ := h
  cases h2
  exact ⟨y, q, h1⟩
theorem rxs2 {κ : List Addr} {F : Hp} {v w : PV} {xs : List V} (h : RXs g κ F [v, w] xs) : ∃ x y, xs = [x, y] ∧ RepX g.K g.T κ F v x ∧ RepX g.K g.T κ F w y := by
  obtain ⟨x, r, q, h1, y, r', q', h2, h3⟩ := h
  cases h3
  subst q'
  exact ⟨x, y, q, h1, h2⟩
def cLen : List PV → Store → Res PV := fun vs st => match vs with
  | [.str z] => if lineB z.length then .ok (.int z.length) st else .stuck 31
  | [v] => match seqOf v st with
    | some (_, xs) => .ok (.int xs.length) st
    | none => .stuck 31
  | _ => .stuck 31
theorem fn_len : Fn g (fun xs H Q => ∃ x n, xs = [x] ∧ LenV g.K x H n ∧ Q (.int n) H) cLen := fun vs st κ H xs W σ Q s r h => by
  unfold cLen at h
  split at h
  · rename_i z
    obtain ⟨x, rfl, r1⟩ := rxs1 r
    cases (show x = .str z from r1)
    split at h
    · rename_i c
      exact ⟨_, z.length, rfl, ⟨lineB_ok c, rfl⟩, Run.ret s h rfl⟩
    · exact h.elim
  · rename_i v hv
    obtain ⟨x, rfl, r1⟩ := rxs1 r
    split at h
    · rename_i b ys e
      obtain ⟨a, ws, rfl, q1, q2⟩ := seq_rep s r1 e
      refine ⟨_, ws.length, rfl, ?_, Run.ret s h (by rw [q2.length]; rfl)⟩
      cases b with
      | true => exact .inl ⟨ws, q1, rfl⟩
      | false => exact .inr ⟨ws, q1, rfl⟩
    · exact h.elim
  · exact h.elim
theorem hc_len : ∀ X, Jx g l X → CallR X (.builtin "len") (fun xs H Q => ∃ x n, xs = [x] ∧ LenV g.K x H n ∧ Q (.int n) H) := fun X J => J.k ▸ call_len
def cAbs : List PV → Store → Res PV := fun vs st => match vs with
  | [.int i] => .ok (.int (if i < 0 then -i else i)) st
  | _ => .stuck 32
theorem fn_abs : Fn g (fun xs H Q => ∃ i, xs = [.int i] ∧ Q (.int (if i < 0 then -i else i)) H) cAbs := fun vs st κ H xs W σ Q s r h => by
  unfold cAbs at h
  split at h
  · rename_i i
    obtain ⟨x, rfl, r1⟩ := rxs1 r
    cases (show x = .int i from r1)
    exact ⟨i, rfl, Run.ret s h rfl⟩
  · exact h.elim
def cInt : List PV → Store → Res PV := fun vs st => match vs with
  | [.int i] => .ok (.int i) st
  | [.bl b] => .ok (.int (if b then 1 else 0)) st
  | _ => .stuck 33
theorem fn_int : Fn g (fun xs H Q => (∃ i, xs = [.int i] ∧ Q (.int i) H) ∨ ∃ k, xs = [.bl k] ∧ Q (.int (if k then 1 else 0)) H) cInt := fun vs st κ H xs W σ Q s r h => by
  unfold cInt at h
  split at h
  · rename_i i
    obtain ⟨x, rfl, r1⟩ := rxs1 r
    cases (show x = .int i from r1)
    exact .inl ⟨i, rfl, Run.ret s h rfl⟩
  · rename_i i
    obtain ⟨x, rfl, r1⟩ := rxs1 r
    cases (show x = .bl i from r1)
    exact .inr ⟨i, rfl, Run.ret s h rfl⟩
  · exact h.elim
/-- tuple(x) of a list or tuple -/
def cTup : List PV → Store → Res PV := fun vs st => match vs with
  | [v] => match seqOf v st with
    | some (_, xs) => .ok (.tup xs) st
    | none => .stuck 34
  | _ => .stuck 34
theorem fn_tup (tb : TbOk g) : Fn g (fun xs H Q => ∃ p ys, xs = [.ref p] ∧ ((SqL g.K H p ys ∧ ∀ l ob, ob.dict = none → H l = none → Q (.ref l) (upd H l (.frz ob (.tup ys)))) ∨ (SqT g.K H p ys ∧ Q (.ref p) H))) cTup := fun vs st κ H xs W σ Q s r h => by
  unfold cTup at h
  split at h
  · rename_i v
    obtain ⟨x, rfl, r1⟩ := rxs1 r
    cases v with
    | tup ys =>
      obtain ⟨p, ws, rfl, q1, q2⟩ := id r1
      exact ⟨p, ws, rfl, .inr ⟨TupR.of_fz q1, Run.ret s h r1⟩⟩
    | lst ys =>
      obtain ⟨p, ws, rfl, q1, q2⟩ := id r1
      exact ⟨p, ws, rfl, .inl ⟨SqL.of_fz q1, fun q ob hd hq => h _ _ _ (StR.upd_new tb s hq) (rep_tup_new tb s hd hq q2)⟩⟩
    | ref k =>
      split at h
      · rename_i b ys e
        obtain ⟨p, ws, rfl, q1, q2⟩ := seq_rep s r1 e
        have hb : b = true := by
          unfold seqOf at e
          dsimp only at e
          split at e <;> first | (cases e; rfl) | cases e
        subst hb
        exact ⟨p, ws, rfl, .inl ⟨q1, fun q ob hd hq => h _ _ _ (StR.upd_new tb s hq) (rep_tup_new tb s hd hq q2)⟩⟩
      · exact h.elim
    | non => exact h.elim
    | bl _ => exact h.elim
    | int _ => exact h.elim
    | str _ => exact h.elim
    | obj _ _ => exact h.elim
  · exact h.elim
theorem hc_tup : ∀ X, Jx g l X → CallR X (.type "tuple") (fun xs H Q => ∃ p ys, xs = [.ref p] ∧ ((SqL g.K H p ys ∧ ∀ l ob, ob.dict = none → H l = none → Q (.ref l) (upd H l (.frz ob (.tup ys)))) ∨ (SqT g.K H p ys ∧ Q (.ref p) H))) := fun X J => J.k ▸ call_tuple_ofX
/-- list(x) of a list or tuple: a new one -/
def lList (d : Den) : DenL := fun ρ st => (d ρ st).bind fun v st => match seqOf v st with
  | some (_, xs) => .ok xs st
  | none => .stuck 35
theorem ld_list (tb : TbOk g) {x : Str} {d : Den} {e : Expr} {p pos : Pos} (b : Blt g l x (.type "list")) (h : ED g l d e)
    (hn : x ≠ "__name__") (hdb : (x == ("__debug__" : Str)) = false) (he : ∀ env, starEach [e] env = (false, eval e env) :: starEach [] env) : LD g l (lList d) (.Call (.Name x p) [e] [] pos) := fun X W J tk =>
  PE.imp (pe_callTy (call_list_of) (gl_of J b.gl) (by rw [J.m]; exact b.mg) b.bt (pa_cons (h X W J tk) pa_nil (he _)) hn hdb (he _) rfl) fun σ H Q ⟨ρ, st, κ, L, h⟩ => ⟨ρ, st, κ, L, (RunL.bind h).mono fun x H1 ⟨v, st1, κ1, e1, r1, h1⟩ => by
    split at h1
    · rename_i b ys e
      obtain ⟨p, ws, rfl, q1, q2⟩ := seq_rep e1.sr r1 e
      refine ⟨p, ws, rfl, ?_, fun q hq => h1 _ _ q _ (NewL.of_upd tb e1 hq q2)⟩
      rw [J.k]
      cases b with
      | true => exact .inl q1
      | false => exact .inr q1
    · exact h1.elim⟩
end
end Wi

/-! Wi6: statements, targets, loops. -/
namespace Wi
open PySem L2

/-- an expression within a statement -/
def Res.thenS {α : Type} (r : Res α) (ρ : Sl) (f : α → Store → RS) : RS := match r with
  | .ok a st => f a st
  | .exc c l st => .exc c l ρ st
  | .stuck w => .stuck w
section
variable {g : Gm} {l : Lc}
theorem RunS.of {α β : Type} {R : List Addr → Hp → α → β → Prop} {W : WX} {r : Res α} {ρ : Sl} {f : α → Store → RS} {st : Store} {κ : List Addr} {σ : L2.St} {H : Hp} {D : Ends} (L : Lies g ρ st κ σ H) (h : RunS g W (r.thenS ρ f) st κ H D) :
    Run g R W r st κ σ H fun x H1 => ∃ v st1 κ1, Xt g st κ H st1 κ1 H1 ∧ R κ1 (Fz st1 κ1 H1) v x ∧ RunS g W (f v st1) st1 κ1 H1 D := by
  cases r with
  | ok v st' => exact fun κ' H' x e r => ⟨v, st', κ', e, r, h.xt e⟩
  | exc c l st' => exact fun κ' H' d e r => h κ' H' σ d e (L.xt e).sl r
  | stuck w => exact h
/-! ### targets -/
abbrev DenG := PV → Sl → Store → RS
def tG (g : Gm) (W : WX) (d : DenG) : TG := fun v σ H Q => ∃ pv ρ st κ, Lies g ρ st κ σ H ∧ RepX g.K g.T κ (Fz st κ H) pv v ∧ RunS g W (d pv ρ st) st κ H { nx := Q, rt := fun _ _ => False }
def GD (g : Gm) (l : Lc) (d : DenG) (t : Expr) : Prop := ∀ X W, Jx g l X → Takes X W → PG X t (tG g W d)
abbrev DenGs := List PV → Sl → Store → RS
def tGs (g : Gm) (W : WX) (d : DenGs) : TGs := fun vs σ H Q => ∃ pvs ρ st κ, Lies g ρ st κ σ H ∧ RepVs g.K g.T (Fz st κ H) pvs vs ∧ RunS g W (d pvs ρ st) st κ H { nx := Q, rt := fun _ _ => False }
def GsD (g : Gm) (l : Lc) (d : DenGs) (ts : List Expr) : Prop := ∀ X W, Jx g l X → Takes X W → PGs X ts (tGs g W d)
theorem PG.imp {X : Cx} {e : Expr} {t u : TG} (h : PG X e t) (i : ∀ v σ H Q, u v σ H Q → t v σ H Q) : PG X e u := ⟨fun pins s σ H v uu Q I r hu => h.run pins s σ H v uu Q I r (i v σ H Q hu)⟩
theorem PGs.imp {X : Cx} {e : List Expr} {t u : TGs} (h : PGs X e t) (i : ∀ v σ H Q, u v σ H Q → t v σ H Q) : PGs X e u := ⟨fun pins s σ H v uu Q I r hu => h.run pins s σ H v uu Q I r (i v σ H Q hu)⟩
def locB (l : Lc) (x : Str) : Bool := match l.sc.names.lookup x with
  | some .local => true
  | some .cell => l.fn x
  | _ => false
theorem loc_of {l : Lc} {x : Str} (h : locB l x = true) : L2.Loc l.sc x := by
  unfold locB at h
  unfold L2.Loc
  cases e : l.sc.names.lookup x with
  | none => rw [e] at h; cases h
  | some k => rw [e] at h; cases k <;> first | (cases h; done) | simp
theorem fn_of' {l : Lc} {x : Str} {X : Cx} (J : Jx g l X) (h : locB l x = true) : X.fn x = true ∨ X.env.scope.names.lookup x = some .local := by
  rw [J.sc]
  unfold locB at h
  cases e : l.sc.names.lookup x with
  | none => rw [e] at h; cases h
  | some k =>
    rw [e] at h
    cases k with
    | «local» => exact .inr rfl
    | cell => exact .inl (J.fn x h)
    | _ => cases h
theorem Lies.set {ρ : Sl} {st : Store} {κ : List Addr} {σ : L2.St} {H : Hp} {pv : PV} {v : V} {i : Nat} (L : Lies g ρ st κ σ H) (r : RepX g.K g.T κ (Fz st κ H) pv v) : Lies g (ρ.set i (some pv)) st κ (σ.set i (some v)) H := ⟨L.sr, L.sl.set r i⟩
def gN (i : Nat) : DenG := fun v ρ st => .nx (ρ.set i (some v)) st
theorem gd_name {i : Nat} {x : Str} {pos : Pos} (hi : l.N[i]? = some x) (hx : locB l x = true) : GD g l (gN i) (.Name x pos) := fun X W J tk =>
  PG.imp (pg_name (i := i) (by rw [J.N]; exact J.nd) (by rw [J.N]; exact hi) (by rw [J.sc]; exact loc_of hx) (fn_of' J hx)) fun v σ H Q ⟨pv, ρ, st, κ, L, r, h⟩ => by
    exact h κ H _ (Ext.refl L.sr) (L.set r).sl
def gsNil : DenGs := fun vs ρ st => match vs with
  | [] => .nx ρ st
  | _ => .stuck 40
def gsCons (d : DenG) (ds : DenGs) : DenGs := fun vs ρ st => match vs with
  | v :: r => match d v ρ st with
    | .nx ρ st => ds r ρ st
    | x => x
  | [] => .stuck 41
theorem gsd_nil : GsD g l gsNil [] := fun X W J tk => PGs.imp pgs_nil fun vs σ H Q ⟨pvs, ρ, st, κ, L, r, h⟩ => by
  cases pvs with
  | nil => cases r; exact ⟨rfl, h κ H σ (Ext.refl L.sr) L.sl⟩
  | cons _ _ => exact h.elim
theorem gsd_cons {e : Expr} {es : List Expr} {d : DenG} {ds : DenGs} (h1 : GD g l d e) (h2 : GsD g l ds es) (hs : ∀ env, (assignEach (e :: es) env).map (·.2) = assign e env :: (assignEach es env).map (·.2)) : GsD g l (gsCons d ds) (e :: es) := fun X W J tk =>
  PGs.imp (pgs_cons (h1 X W J tk) (h2 X W J tk) (hs _)) fun vs σ H Q ⟨pvs, ρ, st, κ, L, r, h⟩ => by
    cases pvs with
    | nil => exact h.elim
    | cons v rr =>
      obtain ⟨y, r', q, ry, rt⟩ := r
      refine ⟨y, r', q, v, ρ, st, κ, L, RepX.ofV ry, ?_⟩
      unfold gsCons at h
      dsimp only at h
      cases e : d v ρ st with
      | nx ρ1 st1 =>
        rw [e] at h
        exact fun κ1 H1 σ1 e1 s1 => ⟨rr, ρ1, st1, κ1, ⟨e1.sr, s1⟩, rt.mono e1.same, h.xt e1⟩
      | rt v st' => rw [e] at h; exact h
      | bk _ _ => rw [e] at h; exact h
      | ct _ _ => rw [e] at h; exact h
      | exc _ _ _ _ => rw [e] at h; exact h
      | stuck _ => rw [e] at h; exact h
/-- a, b = a tuple -/
def gTupD (n : Nat) (ds : DenGs) : DenG := fun v ρ st => match v with
  | .tup xs => if xs.length == n then ds xs ρ st else .stuck 42
  | _ => .stuck 43
theorem gd_tup {es : List Expr} {k n : Nat} {ds : DenGs} {pos : Pos} (h : GsD g l ds es) (hn : ∀ env, (assignEach es env).length = n) (hst : ∀ env, (assignEach es env).findIdx? (·.1) = none) : GD g l (gTupD n ds) (.Tuple es k pos) := fun X W J tk =>
  PG.imp (pg_tup J.calm (h X W J tk) (hn _) (hst _)) fun v σ H Q ⟨pv, ρ, st, κ, L, r, h⟩ => by
    cases pv with
    | tup xs =>
      obtain ⟨a, vs, rfl, q1, q2⟩ := r
      unfold gTupD at h
      dsimp only at h
      by_cases c : (xs.length == n) = true
      · rw [if_pos c] at h
        refine ⟨a, vs, rfl, ?_, by rw [← q2.length]; exact eq_of_beq c, xs, ρ, st, κ, L, q2, h⟩
        rw [J.k]
        exact TupR.of_fz q1
      · rw [if_neg c] at h
        exact h.elim
    | non => exact h.elim
    | bl _ => exact h.elim
    | int _ => exact h.elim
    | str _ => exact h.elim
    | lst _ => exact h.elim
    | ref _ => exact h.elim
    | obj _ _ => exact h.elim
/-! ### cells changed -/
theorem live_set {c c' : Cell} : ∀ {st : Store} {κ : List Addr} {k : Nat}, st[k]? = some c → c'.live = c.live → live (st.set k c') κ = live st κ
  | [], _, _, e, _ => by simp at e
  | _ :: _, [], _, _, _ => by simp [live]
  | b :: st, a :: κ, 0, e, h => by
    simp at e
    subst e
    show live (c' :: st) (a :: κ) = _
    unfold live
    rw [h]
  | b :: st, a :: κ, k + 1, e, h => by
    show live (b :: st.set k c') (a :: κ) = _
    unfold live
    rw [live_set (k := k) (by simpa using e) h]
theorem CellsR.set {K : PySem.W.Frag} {T : CT} {F F' H H' : Hp} {c' : Cell} {a : Addr} (e : Same F F') (hc : CellR K T F' H' a c') : ∀ {st : Store} {κ : List Addr} {k : Nat}, κ[k]? = some a → κ.Nodup → (∀ b ∈ κ, b ≠ a → H' b = H b) → CellsR K T F H st κ → CellsR K T F' H' (st.set k c') κ
  | [], _, _, _, _, _, q => q
  | _ :: _, _, 0, hk, nd, h, ⟨b, r, q, h1, h2⟩ => by
    subst q
    simp at hk
    subst hk
    refine ⟨b, r, rfl, hc, h2.mono e fun x hx => h x (List.mem_cons_of_mem _ hx) fun z => ?_⟩
    subst z
    exact (List.nodup_cons.mp nd).1 hx
  | _ :: _, _, k + 1, hk, nd, h, ⟨b, r, q, h1, h2⟩ => by
    subst q
    have hk' : r[k]? = some a := by simpa using hk
    have ne : b ≠ a := fun z => by subst z; exact (List.nodup_cons.mp nd).1 (List.mem_of_getElem? hk')
    exact ⟨b, r, rfl, h1.mono e (h b List.mem_cons_self ne), CellsR.set e hc (k := k) hk' (List.nodup_cons.mp nd).2 (fun x hx => h x (List.mem_cons_of_mem _ hx)) h2⟩
theorem live_mem {c : Cell} {a : Addr} : ∀ {st : Store} {κ : List Addr} {k : Nat}, st[k]? = some c → κ[k]? = some a → c.live = true → a ∈ live st κ
  | [], _, _, e, _, _ => by simp at e
  | _ :: _, [], _, _, e, _ => by simp at e
  | b :: st, x :: κ, 0, e, f, h => by simp at e f; subst e; subst f; unfold live; rw [h]; simp
  | b :: st, x :: κ, k + 1, e, f, h => by
    have := live_mem (k := k) (st := st) (κ := κ) (by simpa using e) (by simpa using f) h
    unfold live
    split
    · exact List.mem_cons_of_mem _ this
    · exact this
/-- a list in a cell is changed -/
theorem cell_upd (tb : TbOk g) {st : Store} {κ : List Addr} {H : Hp} {k : Nat} {xs ys : List PV} {a : Addr} {ws : List V} (s : StR g.K g.T g.Tb st κ H) (e : st[k]? = some (.lst xs)) (hk : κ[k]? = some a) (r : RepVs g.K g.T (Fz st κ H) ys ws) :
    Xt g st κ H (st.set k (.lst ys)) κ (upd H a (.lst ws)) := by
  have hl : live (st.set k (.lst ys)) κ = live st κ := live_set (c := .lst xs) (c' := .lst ys) e rfl
  have ha : a ∈ live st κ := live_mem (c := .lst xs) e hk rfl
  have sm : Same (Fz st κ H) (Fz (st.set k (.lst ys)) κ (upd H a (.lst ws))) := by
    show Same (fz (live st κ) H) (fz (live (st.set k (.lst ys)) κ) (upd H a (.lst ws)))
    rw [hl]
    exact fz_same fun b o hb _ q => ⟨hb, by rw [upd_ne fun z => hb (by rw [z]; exact ha)]; exact q⟩
  obtain ⟨a', h1, vs, h2, h3⟩ := cell_at s.cells e
  rw [hk] at h1
  cases h1
  refine ⟨⟨s.cells.set sm (c' := .lst ys) ⟨ws, upd_same, r.mono sm⟩ hk s.nd fun b _ hb => upd_ne hb, s.nd, fun b hb => ?_, tb _ _ (fun b ps q => ?_) (fun b o u q => by rw [upd_ne fun z => by subst z; rw [h2] at q; cases q]; exact q) s.tabs⟩, List.prefix_refl _, sm⟩
  · by_cases z : b = a
    · subst z; rw [upd_same]; exact fun z => by cases z
    · rw [upd_ne z]; exact s.there b hb
  · rw [upd_ne fun z => by subst z; rw [h2] at q; cases q]
    exact q
/-- a cell is frozen -/
theorem cell_frz {st : Store} {κ : List Addr} {H : Hp} {k : Nat} {xs : List PV} (s : StR g.K g.T g.Tb st κ H) (e : st[k]? = some (.lst xs)) : Xt g st κ H (st.set k (.frz xs)) κ H := by
  obtain ⟨a, hk, vs, h2, h3⟩ := cell_at s.cells e
  have sub : ∀ {st : Store} {κ : List Addr} {k : Nat}, st[k]? = some (.lst xs) → ∀ b, b ∈ live (st.set k (.frz xs)) κ → b ∈ live st κ := by
    intro st
    induction st with
    | nil => intro κ k e; simp at e
    | cons c st ih =>
      intro κ k e b hb
      cases κ with
      | nil => simp [live] at hb
      | cons a κ =>
        cases k with
        | zero =>
          simp at e
          subst e
          simp only [List.set_cons_zero] at hb
          unfold live at hb ⊢
          exact List.mem_cons_of_mem _ hb
        | succ k =>
          simp only [List.set_cons_succ] at hb
          unfold live at hb ⊢
          split at hb
          · rename_i q
            rw [if_pos q]
            rcases List.mem_cons.mp hb with hb | hb
            · exact hb ▸ List.mem_cons_self
            · exact List.mem_cons_of_mem _ (ih (by simpa using e) b hb)
          · rename_i q
            rw [if_neg q]
            exact ih (by simpa using e) b hb
  have out : ∀ {st : Store} {κ : List Addr} {k : Nat}, st[k]? = some (.lst xs) → κ[k]? = some a → κ.Nodup → a ∉ live (st.set k (.frz xs)) κ := by
    intro st
    induction st with
    | nil => intro κ k e; simp at e
    | cons c st ih =>
      intro κ k e f nd hb
      cases κ with
      | nil => simp at f
      | cons x κ =>
        cases k with
        | zero =>
          simp at f
          subst f
          simp only [List.set_cons_zero] at hb
          unfold live at hb
          exact (List.nodup_cons.mp nd).1 (live_sub hb)
        | succ k =>
          simp only [List.set_cons_succ] at hb
          have f' : κ[k]? = some a := by simpa using f
          unfold live at hb
          split at hb
          · rcases List.mem_cons.mp hb with hb | hb
            · subst hb; exact (List.nodup_cons.mp nd).1 (List.mem_of_getElem? f')
            · exact ih (by simpa using e) f' (List.nodup_cons.mp nd).2 hb
          · exact ih (by simpa using e) f' (List.nodup_cons.mp nd).2 hb
  have sm : Same (Fz st κ H) (Fz (st.set k (.frz xs)) κ H) := fz_perm fun b hb => sub e b hb
  refine ⟨⟨s.cells.set sm (c' := .frz xs) ⟨vs, SqL.of (fz_at (out e hk s.nd) h2 fun ps z => by cases z), h3.mono sm⟩ hk s.nd fun b _ hb => rfl, s.nd, s.there, s.tabs⟩, List.prefix_refl _, sm⟩
/-- a value that will not change from here on -/
def frzV (v : PV) (st : Store) : Res PV := match v with
  | .ref k => match st[k]? with
    | some (.lst xs) => .ok (.lst xs) (st.set k (.frz xs))
    | some (.frz xs) => .ok (.lst xs) st
    | _ => .stuck 44
  | v => .ok v st
def dFreeze (d : Den) : Den := fun ρ st => (d ρ st).bind frzV
theorem frzV_ok {v : PV} {st : Store} {κ : List Addr} {σ : L2.St} {H : Hp} {W : WX} {Q : VK} {x : V} (s : StR g.K g.T g.Tb st κ H) (r : RepX g.K g.T κ (Fz st κ H) v x) (h : Run g (RX g) W (frzV v st) st κ σ H Q) : Q x H := by
  cases v with
  | ref k =>
    unfold frzV at h
    dsimp only at h
    obtain ⟨a, h1, rfl⟩ := id r
    cases e : st[k]? with
    | none => rw [e] at h; exact h.elim
    | some c =>
      rw [e] at h
      cases c with
      | lst xs =>
        dsimp only at h
        have x1 := cell_frz s e
        have e2 : (st.set k (.frz xs))[k]? = some (.frz xs) := by rw [List.getElem?_set_self]; exact (List.getElem?_eq_some_iff.mp e).1
        obtain ⟨a', q1, vs, q2, q3⟩ := cell_at x1.sr.cells e2
        rw [h1] at q1
        cases q1
        exact h _ _ _ x1 ⟨a, vs, rfl, q2, q3⟩
      | frz xs =>
        dsimp only at h
        obtain ⟨a', q1, vs, q2, q3⟩ := cell_at s.cells e
        rw [h1] at q1
        cases q1
        exact Run.ret s h ⟨a, vs, rfl, q2, q3⟩
      | ins _ _ => exact h.elim
  | non => exact Run.ret s h r
  | bl _ => exact Run.ret s h r
  | int _ => exact Run.ret s h r
  | str _ => exact Run.ret s h r
  | tup _ => exact Run.ret s h r
  | lst _ => exact Run.ret s h r
  | obj _ _ => exact Run.ret s h r
theorem ed_freeze {d : Den} {e : Expr} (h : ED g l d e) : ED g l (dFreeze d) e := fun X W J tk =>
  PE.imp (h X W J tk) fun σ H Q ⟨ρ, st, κ, L, h⟩ => ⟨ρ, st, κ, L, (Run.bind h).mono fun x H1 ⟨v, st1, κ1, e1, r1, h1⟩ => frzV_ok e1.sr r1 h1⟩
end
end Wi

/-! Wi7: statements and loops. -/
namespace Wi
open PySem L2
section
variable {g : Gm} {l : Lc}
/-! ### an item stored -/
def SubAsg (o i : Expr) (pos : Pos) : Prop := ∀ (env : Env) (v : Value), assign (.Subscript o i pos) env v = (do
      let ov ← holding [v] (eval o env)
      let iv ← holding [v, ov] (eval i env)
      standAt pos
      holding [v, ov, iv] (setItem ov iv v)
      release [v, ov, iv] [])
def gSubD (dO dI : Den) : DenG := fun v ρ st => Res.thenS (dO ρ st) ρ fun o st => Res.thenS (dI ρ st) ρ fun i st => match o, i with
  | .ref k, .int j => match st[k]? with
    | some (.lst xs) => match ixN xs.length j with
      | some m => if isTree v then .nx ρ (st.set k (.lst (xs.set m v))) else .stuck 50
      | none => .stuck 51
    | _ => .stuck 52
  | _, _ => .stuck 53
theorem gd_sub (tb : TbOk g) {o i : Expr} {dO dI : Den} {pos : Pos} (ho : ED g l dO o) (hi : ED g l dI i) (ha : SubAsg o i pos) : GD g l (gSubD dO dI) (.Subscript o i pos) := fun X W J tk =>
  PG.imp (pg_sub (ho X W J tk) (hi X W J tk) set_list (ha _)) fun v σ H Q ⟨pv, ρ, st, κ, L, r, h⟩ =>
    ⟨ρ, st, κ, L, (RunS.of L h).mono fun x H1 ⟨o', st1, κ1, e1, r1, h1⟩ => ⟨ρ, st1, κ1, L.xt e1, (RunS.of (L.xt e1) h1).mono fun y H2 ⟨i', st2, κ2, e2, r2, h2⟩ => by
      have r1' := r1.mono e2.pre e2.same
      have r' := (r.mono e1.pre e1.same).mono e2.pre e2.same
      have L2 := (L.xt e1).xt e2
      cases o' with
      | ref k =>
        cases i' with
        | int j =>
          dsimp only at h2
          cases e : st2[k]? with
          | none => rw [e] at h2; exact h2.elim
          | some c =>
            rw [e] at h2
            cases c with
            | lst xs =>
              dsimp only at h2
              cases q : ixN xs.length j with
              | none => rw [q] at h2; exact h2.elim
              | some m =>
                rw [q] at h2
                dsimp only at h2
                by_cases t : isTree pv = true
                · rw [if_pos t] at h2
                  obtain ⟨a, q1, rfl⟩ := r1'
                  obtain ⟨a', q2, vs, q3, q4⟩ := cell_at L2.sr.cells e
                  rw [q1] at q2
                  cases q2
                  have x := cell_upd tb L2.sr e q1 (q4.set (r'.tree t) m)
                  exact ⟨a, vs, j, m, rfl, r2, q3, by rw [← q4.length]; exact q, h2 _ _ _ x (L2.xt x).sl⟩
                · rw [if_neg t] at h2
                  exact h2.elim
            | frz _ => exact h2.elim
            | ins _ _ => exact h2.elim
        | non => exact h2.elim
        | bl _ => exact h2.elim
        | str _ => exact h2.elim
        | tup _ => exact h2.elim
        | lst _ => exact h2.elim
        | ref _ => exact h2.elim
        | obj _ _ => exact h2.elim
      | non => exact h2.elim
      | bl _ => exact h2.elim
      | int _ => exact h2.elim
      | str _ => exact h2.elim
      | tup _ => exact h2.elim
      | lst _ => exact h2.elim
      | obj _ _ => exact h2.elim⟩⟩

/-! ### statements -/
def sSkip : DenS := fun ρ st => .nx ρ st
def sSeq (a b : DenS) : DenS := fun ρ st => match a ρ st with
  | .nx ρ st => b ρ st
  | r => r
theorem ssd_nil : SsD g l sSkip [] := fun X W J tk => PSs.imp pss_nil fun D σ H ⟨ρ, st, κ, L, h⟩ => h κ H σ (Ext.refl L.sr) L.sl
theorem ssd_cons {s : Stmt} {ss : List Stmt} {a b : DenS} (h1 : SD g l a s) (h2 : SsD g l b ss) : SsD g l (sSeq a b) (s :: ss) := fun X W J tk =>
  PSs.imp (pss_cons (h1 X W J tk) (h2 X W J tk)) fun D σ H ⟨ρ, st, κ, L, h⟩ => ⟨ρ, st, κ, L, by
    unfold sSeq at h
    cases e : a ρ st with
    | nx ρ1 st1 => rw [e] at h; exact fun κ1 H1 σ1 e1 s1 => ⟨ρ1, st1, κ1, ⟨e1.sr, s1⟩, h.xt e1⟩
    | rt v st' => rw [e] at h; exact h
    | bk _ _ => rw [e] at h; exact h
    | ct _ _ => rw [e] at h; exact h
    | exc _ _ _ _ => rw [e] at h; exact h
    | stuck _ => rw [e] at h; exact h⟩
theorem ssd_one {s : Stmt} {a : DenS} (h1 : SD g l a s) : SsD g l a [s] := fun X W J tk => pss_one (h1 X W J tk)
theorem sd_pass {pos : Pos} : SD g l sSkip (.Pass pos) := fun X W J tk => PS.imp ps_pass fun D σ H ⟨ρ, st, κ, L, h⟩ => h κ H σ (Ext.refl L.sr) L.sl
def sBrk : DenS := fun ρ st => .bk ρ st
def sCont : DenS := fun ρ st => .ct ρ st
theorem sd_break {pos : Pos} : SD g l sBrk (.Break pos) := fun X W J tk => PS.imp ps_break fun D σ H ⟨ρ, st, κ, L, h⟩ => h κ H σ (Ext.refl L.sr) L.sl
theorem sd_continue {pos : Pos} : SD g l sCont (.Continue pos) := fun X W J tk => PS.imp ps_continue fun D σ H ⟨ρ, st, κ, L, h⟩ => h κ H σ (Ext.refl L.sr) L.sl
theorem sd_doc {x : Str} {j : Nat} {pos pos' : Pos} : SD g l sSkip (.Expr (.Constant (.str x) j pos) pos') := fun X W J tk => PS.imp ps_doc fun D σ H ⟨ρ, st, κ, L, h⟩ => h κ H σ (Ext.refl L.sr) L.sl
def sExpr (d : Den) : DenS := fun ρ st => Res.thenS (d ρ st) ρ fun _ st => .nx ρ st
theorem sd_expr {e : Expr} {d : Den} {pos : Pos} (h : ED g l d e) (hs : ∀ env, swapsWith e none pos.line env = pure false) : SD g l (sExpr d) (.Expr e pos) := fun X W J tk =>
  PS.imp (ps_expr (h X W J tk) (hs _)) fun D σ H ⟨ρ, st, κ, L, h⟩ => ⟨ρ, st, κ, L, (RunS.of L h).mono fun x H1 ⟨v, st1, κ1, e1, r1, h1⟩ => h1 κ1 H1 σ (Ext.refl e1.sr) (L.xt e1).sl⟩
def sRet (d : Den) : DenS := fun ρ st => Res.thenS (d ρ st) ρ fun v st => .rt v st
theorem sd_ret {e : Expr} {d : Den} {pos : Pos} (h : ED g l d e) : SD g l (sRet d) (.Return (some e) pos) := fun X W J tk =>
  PS.imp (ps_ret (h X W J tk)) fun D σ H ⟨ρ, st, κ, L, h⟩ => ⟨ρ, st, κ, L, (RunS.of L h).mono fun x H1 ⟨v, st1, κ1, e1, r1, h1⟩ => h1 κ1 H1 x (Ext.refl e1.sr) r1⟩
def sRetN : DenS := fun _ st => .rt .non st
theorem sd_retN {pos : Pos} : SD g l sRetN (.Return none pos) := fun X W J tk => PS.imp ps_retN fun D σ H ⟨ρ, st, κ, L, h⟩ => h κ H .non (Ext.refl L.sr) rfl
def sIf (c : DenT) (a b : DenS) : DenS := fun ρ st => Res.thenS (c ρ st) ρ fun t st => if t then a ρ st else b ρ st
theorem sd_if {c : Expr} {xs ys : List Stmt} {dc : DenT} {a b : DenS} {pos : Pos} (hc : TD g l dc c) (ha : SsD g l a xs) (hb : SsD g l b ys) : SD g l (sIf dc a b) (.If c xs ys pos) := fun X W J tk =>
  PS.imp (ps_if (hc X W J tk) (ha X W J tk) (hb X W J tk)) fun D σ H ⟨ρ, st, κ, L, h⟩ => ⟨ρ, st, κ, L, (RunS.of (R := RB) L h).mono fun c H1 ⟨c', st1, κ1, e1, r1, h1⟩ => by
    have r1 : c' = c := r1
    subst r1
    cases c' with
    | true => exact ⟨ρ, st1, κ1, L.xt e1, h1⟩
    | false => exact ⟨ρ, st1, κ1, L.xt e1, h1⟩⟩
def sSet (i : Nat) (d : Den) : DenS := fun ρ st => Res.thenS (d ρ st) ρ fun v st => .nx (ρ.set i (some v)) st
theorem sd_set {i : Nat} {x : Str} {e : Expr} {d : Den} {pos pos' : Pos} (hi : l.N[i]? = some x) (hx : locB l x = true) (h : ED g l d e) (hs : ∀ env, env.scope = l.sc → swapsWith e (some (.Name x pos')) pos.line env = pure false) : SD g l (sSet i d) (.Assign [.Name x pos'] e pos) := fun X W J tk =>
  PS.imp (ps_set (i := i) (by rw [J.N]; exact J.nd) (by rw [J.N]; exact hi) (by rw [J.sc]; exact loc_of hx) (h X W J tk) (hs _ J.sc) (fn_of' J hx)) fun D σ H ⟨ρ, st, κ, L, h⟩ =>
    ⟨ρ, st, κ, L, (RunS.of L h).mono fun x H1 ⟨v, st1, κ1, e1, r1, h1⟩ => h1 κ1 H1 _ (Ext.refl e1.sr) ((L.xt e1).set r1).sl⟩
/-- target = value -/
def sAsg (d : Den) (t : DenG) : DenS := fun ρ st => Res.thenS (d ρ st) ρ fun v st => t v ρ st
theorem RunS.ends {W : WX} {r : RS} {st : Store} {κ : List Addr} {H : Hp} {D D' : Ends} (h : RunS g W r st κ H D) (h1 : ∀ σ H, D.nx σ H → D'.nx σ H) (h2 : ∀ v H, D.rt v H → D'.rt v H) (h3 : ∀ σ H, D.bk σ H → D'.bk σ H) (h4 : ∀ σ H, D.ct σ H → D'.ct σ H) : RunS g W r st κ H D' := by
  cases r with
  | nx a b => exact fun κ' H' x e r => h1 _ _ (h κ' H' x e r)
  | bk a b => exact fun κ' H' x e r => h3 _ _ (h κ' H' x e r)
  | ct a b => exact fun κ' H' x e r => h4 _ _ (h κ' H' x e r)
  | rt a b => exact fun κ' H' x e r => h2 _ _ (h κ' H' x e r)
  | exc c l a b => exact h
  | stuck w => exact h
/-- a target stores, no more -/
def GOnly (d : DenG) : Prop := ∀ v ρ st, match d v ρ st with
  | .rt _ _ => False
  | .bk _ _ => False
  | .ct _ _ => False
  | _ => True
theorem RunS.only {W : WX} {d : DenG} {v : PV} {ρ : Sl} {st0 st : Store} {κ : List Addr} {H : Hp} {D : Ends} (o : GOnly d) (h : RunS g W (d v ρ st0) st κ H D) : RunS g W (d v ρ st0) st κ H { nx := D.nx, rt := fun _ _ => False } := by
  have := o v ρ st0
  cases e : d v ρ st0 with
  | nx _ _ => rw [e] at h; exact h
  | rt _ _ => rw [e] at this; exact this.elim
  | bk _ _ => rw [e] at this; exact this.elim
  | ct _ _ => rw [e] at this; exact this.elim
  | exc _ _ _ _ => rw [e] at h; exact h
  | stuck _ => rw [e] at h; exact h
theorem go_name {i : Nat} : GOnly (gN i) := fun _ _ _ => trivial
theorem go_sub {a b : Den} : GOnly (gSubD a b) := fun v ρ st => by
  unfold gSubD Res.thenS
  dsimp only
  cases a ρ st with
  | ok o st1 =>
    dsimp only
    cases b ρ st1 with
    | ok i st2 =>
      dsimp only
      split
      · rename_i h
        split at h
        · split at h
          · split at h
            · split at h <;> cases h
            · cases h
          · cases h
        · cases h
      · rename_i h
        split at h
        · split at h
          · split at h
            · split at h <;> cases h
            · cases h
          · cases h
        · cases h
      · rename_i h
        split at h
        · split at h
          · split at h
            · split at h <;> cases h
            · cases h
          · cases h
        · cases h
      · trivial
    | exc _ _ _ => trivial
    | stuck _ => trivial
  | exc _ _ _ => trivial
  | stuck _ => trivial
def GsOnly (d : DenGs) : Prop := ∀ v ρ st, match d v ρ st with
  | .rt _ _ => False
  | .bk _ _ => False
  | .ct _ _ => False
  | _ => True
theorem gos_nil : GsOnly gsNil := fun v ρ st => by cases v <;> trivial
theorem gos_cons {d : DenG} {ds : DenGs} (h1 : GOnly d) (h2 : GsOnly ds) : GsOnly (gsCons d ds) := fun v ρ st => by
  unfold gsCons
  cases v with
  | nil => trivial
  | cons v r =>
    dsimp only
    have := h1 v ρ st
    cases e : d v ρ st with
    | nx ρ1 st1 => exact h2 r ρ1 st1
    | rt _ _ => rw [e] at this; exact this
    | bk _ _ => rw [e] at this; exact this
    | ct _ _ => rw [e] at this; exact this
    | exc _ _ _ _ => trivial
    | stuck _ => trivial
theorem go_tup {n : Nat} {ds : DenGs} (h : GsOnly ds) : GOnly (gTupD n ds) := fun v ρ st => by
  unfold gTupD
  cases v with
  | tup xs =>
    dsimp only
    by_cases c : (xs.length == n) = true
    · rw [if_pos c]; exact h xs ρ st
    · rw [if_neg c]; trivial
  | non => trivial
  | bl _ => trivial
  | int _ => trivial
  | str _ => trivial
  | lst _ => trivial
  | ref _ => trivial
  | obj _ _ => trivial
theorem sd_asg {tg e : Expr} {d : Den} {t : DenG} {pos : Pos} (h : ED g l d e) (ht : GD g l t tg) (o : GOnly t) (hs : ∀ env, swapsWithSole [tg] e pos.line env = pure false) (hw : ∀ env, env.scope = l.sc → swappedStores [tg] e env = pure none)
    (h1 : ∀ env, (assignEach [tg] env).map (·.2) = [assign tg env]) : SD g l (sAsg d t) (.Assign [tg] e pos) := fun X W J tk =>
  PS.imp (ps_asg (h X W J tk) (ht X W J tk) (hs _) (hw _ J.sc) (h1 _)) fun D σ H ⟨ρ, st, κ, L, h⟩ =>
    ⟨ρ, st, κ, L, (RunS.of L h).mono fun x H1 ⟨v, st1, κ1, e1, r1, h1⟩ => ⟨v, ρ, st1, κ1, L.xt e1, r1, h1.only o⟩⟩
/-- a, b = x, y, plain local names -/
def sPar (i j : Nat) (da : DenA) : DenS := fun ρ st => Res.thenS (da ρ st) ρ fun vs st => match vs with
  | [v, w] => .nx ((ρ.set i (some v)).set j (some w)) st
  | _ => .stuck 54
theorem sd_par {i j : Nat} {x y : Str} {a b : Expr} {da : DenA} {px py pt pos : Pos} {kt k2 : Nat} {pt2 : Pos} (hi : l.N[i]? = some x) (hj : l.N[j]? = some y) (hij : i ≠ j) (hx : l.sc.names.lookup x = some .local) (hy : l.sc.names.lookup y = some .local) (ha : AD g l da [a, b])
    (hps : ∀ X W, Jx g l X → Takes X W → PS X (.Assign [.Tuple [.Name x px, .Name y py] kt pt] (.Tuple [a, b] k2 pt2) pos) (tPar i j (tA g W da))) : SD g l (sPar i j da) (.Assign [.Tuple [.Name x px, .Name y py] kt pt] (.Tuple [a, b] k2 pt2) pos) := fun X W J tk =>
  PS.imp (hps X W J tk) fun D σ H ⟨ρ, st, κ, L, h⟩ => ⟨ρ, st, κ, L, (RunS.of (R := RXs g) L h).mono fun xs H1 ⟨vs, st1, κ1, e1, r1, h1⟩ => by
    split at h1
    · rename_i v w
      obtain ⟨x, y, rfl, q1, q2⟩ := rxs2 r1
      exact ⟨x, y, rfl, h1 κ1 H1 _ (Ext.refl e1.sr) (((L.xt e1).set (i := i) q1).set (i := j) q2).sl⟩
    · exact h1.elim⟩
end
end Wi

/-! Wi8: what is walked; for, while, list comprehensions. -/
namespace Wi
open PySem L2
section
variable {g : Gm} {l : Lc}
/-- an iterator that hands out xs -/
structure Wk (g : Gm) (J : It) (xs : List PV) (st : Store) (κ : List Addr) (H : Hp) : Prop where
  go : ∀ i st' κ' H', Xt g st κ H st' κ' H' → i < xs.length → J.go i H'
  stop : ∀ i st' κ' H', Xt g st κ H st' κ' H' → xs.length ≤ i → J.stop i H'
  yld : ∀ i st' κ' H' x H'' v, Xt g st κ H st' κ' H' → xs[i]? = some v → J.yld i H' x H'' → Xt g st' κ' H' st' κ' H'' ∧ RepX g.K g.T κ' (Fz st' κ' H'') v x
theorem Wk.xt {J : It} {xs : List PV} {st st1 : Store} {κ κ1 : List Addr} {H H1 : Hp} (w : Wk g J xs st κ H) (e : Xt g st κ H st1 κ1 H1) : Wk g J xs st1 κ1 H1 :=
  ⟨fun i st' κ' H' x => w.go i st' κ' H' (e.trans x), fun i st' κ' H' x => w.stop i st' κ' H' (e.trans x), fun i st' κ' H' y H'' v x => w.yld i st' κ' H' y H'' v (e.trans x)⟩
abbrev DenI := Sl → Store → Res (List PV)
/-- the items, behind what was done to have them -/
def RunI (g : Gm) (W : WX) (r : Res (List PV)) (st : Store) (κ : List Addr) (σ : L2.St) (H : Hp) (Q : It → Hp → Prop) : Prop := match r with
  | .ok xs st' => ∀ κ' H' J, Xt g st κ H st' κ' H' → Wk g J xs st' κ' H' → Q J H'
  | .exc c l st' => ∀ κ' H' d, Xt g st κ H st' κ' H' → ExcR g (Fz st' κ' H') H' c l d → W (.ref (g.T.ca c)) d σ H'
  | .stuck _ => False
def tI (g : Gm) (W : WX) (d : DenI) : TI := fun σ H R => ∃ ρ st κ, Lies g ρ st κ σ H ∧ RunI g W (d ρ st) st κ σ H R
/-- for tg in e, whatever tg -/
def ID (g : Gm) (l : Lc) (d : DenI) (tg e : Expr) : Prop := ∀ X W, Jx g l X → Takes X W → PI X tg e (tI g W d)
theorem PI.imp {X : Cx} {tg e : Expr} {t u : TI} (h : PI X tg e t) (i : ∀ σ H Q, u σ H Q → t σ H Q) : PI X tg e u := ⟨fun pins s σ H R I hu => h.run pins s σ H R I (i σ H R hu)⟩
theorem PI.or {X : Cx} {tg e : Expr} {t u : TI} (h : PI X tg e t) (h' : PI X tg e u) : PI X tg e (fun σ H R => t σ H R ∨ u σ H R) := ⟨fun pins s σ H R I hu => hu.elim (h.run pins s σ H R I) (h'.run pins s σ H R I)⟩
theorem RunI.bind {W : WX} {α β : Type} {R : List Addr → Hp → α → β → Prop} {r : Res α} {f : α → Store → Res (List PV)} {st : Store} {κ : List Addr} {σ : L2.St} {H : Hp} {Q : It → Hp → Prop} (h : RunI g W (r.bind f) st κ σ H Q) :
    Run g R W r st κ σ H fun x H1 => ∃ v st1 κ1, Xt g st κ H st1 κ1 H1 ∧ R κ1 (Fz st1 κ1 H1) v x ∧ RunI g W (f v st1) st κ σ H Q := by
  cases r with
  | ok v st' => exact fun κ' H' x e r => ⟨v, st', κ', e, r, h⟩
  | exc c l st' => exact h
  | stuck w => exact h
theorem RunI.xt {W : WX} {r : Res (List PV)} {st st1 : Store} {κ κ1 : List Addr} {σ : L2.St} {H H1 : Hp} {Q : It → Hp → Prop} (e : Xt g st κ H st1 κ1 H1) (h : RunI g W r st κ σ H Q) : RunI g W r st1 κ1 σ H1 Q := by
  cases r with
  | ok v st' => exact fun κ' H' J x w => h κ' H' J (e.trans x) w
  | exc c l st' => exact fun κ' H' d e' r => h κ' H' d (e.trans e') r
  | stuck w => exact h
/-! ### sequences that stay -/
theorem wk_list {st : Store} {κ : List Addr} {H : Hp} {a : Addr} {vs : List V} {xs : List PV} (h : SqL g.K (Fz st κ H) a vs) (r : RepVs g.K g.T (Fz st κ H) xs vs) : Wk g (Itl g.K a) xs st κ H where
  go i st' κ' H' e hi := by
    obtain ⟨y, q, _⟩ := (r.mono e.same).get (List.getElem?_eq_getElem hi)
    exact ⟨vs, y, SqL.of_fz (e.same.seq h), q⟩
  stop i st' κ' H' e hi := ⟨vs, SqL.of_fz (e.same.seq h), by rw [← r.length]; exact hi⟩
  yld i st' κ' H' x H'' v e hv hy := by
    obtain ⟨rfl, q⟩ := hy
    obtain ⟨y, q1, q2⟩ := (r.mono e.same).get hv
    have := q vs (SqL.of_fz (e.same.seq h))
    rw [q1] at this
    cases this
    exact ⟨Ext.refl e.sr, RepX.ofV q2⟩
theorem wk_tup {st : Store} {κ : List Addr} {H : Hp} {a : Addr} {vs : List V} {xs : List PV} (h : SqT g.K (Fz st κ H) a vs) (r : RepVs g.K g.T (Fz st κ H) xs vs) : Wk g (Itt g.K a) xs st κ H where
  go i st' κ' H' e hi := by
    obtain ⟨y, q, _⟩ := (r.mono e.same).get (List.getElem?_eq_getElem hi)
    exact ⟨vs, y, SqT.of_fz (Same.seqT e.same h), q⟩
  stop i st' κ' H' e hi := ⟨vs, SqT.of_fz (Same.seqT e.same h), by rw [← r.length]; exact hi⟩
  yld i st' κ' H' x H'' v e hv hy := by
    obtain ⟨rfl, q⟩ := hy
    obtain ⟨y, q1, q2⟩ := (r.mono e.same).get hv
    have := q vs (SqT.of_fz (Same.seqT e.same h))
    rw [q1] at this
    cases this
    exact ⟨Ext.refl e.sr, RepX.ofV q2⟩
/-- a list or tuple walked: frozen first -/
def iSeq (d : Den) : DenI := fun ρ st => (dFreeze d ρ st).bind fun v st => match v with
  | .tup xs => .ok xs st
  | .lst xs => .ok xs st
  | _ => .stuck 60
open PySem.Spec PyProof.Rows in
theorem pi_seq {X : Cx} {tg e : Expr} {te : TE} (h : PE X e te) : PI X tg e (fun σ H R => te σ H fun x H1 => ∃ a, x = .ref a ∧ (((∃ xs, SqL X.K H1 a xs) ∧ R (Itl X.K a) H1) ∨ ((∃ xs, SqT X.K H1 a xs) ∧ R (Itt X.K a) H1))) := by
  refine ⟨fun pins s σ H R I hq => ?_⟩
  refine thn (h.run pins s σ H _ I hq) fun v s1 ⟨x, H1, I1, r1, a, e, q1⟩ => ?_
  subst e
  cases r1
  rcases q1 with ⟨⟨xs, hq⟩, q⟩ | ⟨⟨xs, hq⟩, q⟩
  · obtain ⟨its, rv, p, hz⟩ := I1.list hq
    refine wpAny_pyIter_list p.isList ?_
    refine ⟨s1.heap.objs.size, [s1.heap.objs.size], _, _, H1, rfl, I1.kept (t' := s1.toks) fun b o e => Heap.get?_push_of_some _ e, turn_list a _, ⟨_, Heap.get?_push_size _ rfl, rfl, rfl⟩, fun b hb => ?_, q⟩
    have e : b = s1.heap.objs.size := by simpa using hb
    subst e
    exact I1.fpOk (Nat.le_refl _) (I1.hok.fresh (Nat.le_refl _))
  · obtain ⟨its, rv, p, hz⟩ := I1.tuple hq
    refine wpAny_pyIter_tuple (show s1.heap.IsTuple a its.toArray from p) ?_
    refine ⟨s1.heap.objs.size, [s1.heap.objs.size], _, _, H1, rfl, I1.kept (t' := s1.toks) fun b o e => Heap.get?_push_of_some _ e, turn_tuple a _, ⟨_, Heap.get?_push_size _ rfl, rfl, rfl⟩, fun b hb => ?_, q⟩
    have e : b = s1.heap.objs.size := by simpa using hb
    subst e
    exact I1.fpOk (Nat.le_refl _) (I1.hok.fresh (Nat.le_refl _))
theorem id_seq {d : Den} {tg e : Expr} (h : ED g l d e) : ID g l (iSeq d) tg e := fun X W J tk =>
  PI.imp (pi_seq (ed_freeze h X W J tk)) fun σ H Q ⟨ρ, st, κ, L, h⟩ => ⟨ρ, st, κ, L, (RunI.bind h).mono fun x H1 ⟨v, st1, κ1, e1, r1, h1⟩ => by
    rw [J.k]
    cases v with
    | tup xs => obtain ⟨a, vs, rfl, q1, q2⟩ := r1; exact ⟨a, rfl, .inr ⟨⟨vs, TupR.of_fz q1⟩, h1 κ1 H1 _ e1 (wk_tup q1.sq q2)⟩⟩
    | lst xs => obtain ⟨a, vs, rfl, q1, q2⟩ := r1; exact ⟨a, rfl, .inl ⟨⟨vs, SqL.of_fz q1⟩, h1 κ1 H1 _ e1 (wk_list q1 q2)⟩⟩
    | non => exact h1.elim
    | bl _ => exact h1.elim
    | int _ => exact h1.elim
    | str _ => exact h1.elim
    | ref _ => exact h1.elim
    | obj _ _ => exact h1.elim⟩
/-! ### ranges -/
def rgP (lo : Int) (n : Nat) : List PV := (List.range n).map fun i => .int (lo + (i : Nat))
theorem wk_range {lo : Int} {n : Nat} {st : Store} {κ : List Addr} {H : Hp} : Wk g (Itr lo n) (rgP lo n) st κ H where
  go i st' κ' H' e hi := (show i < n from by simpa [rgP] using hi)
  stop i st' κ' H' e hi := (show n ≤ i from by simpa [rgP] using hi)
  yld i st' κ' H' x H'' v e hv hy := by
    obtain ⟨rfl, rfl⟩ := hy
    refine ⟨Ext.refl e.sr, ?_⟩
    unfold rgP at hv
    rw [List.getElem?_map] at hv
    cases q : (List.range n)[i]? with
    | none => rw [q] at hv; cases hv
    | some j =>
      rw [q] at hv
      cases hv
      have : j = i := by
        obtain ⟨h1, h2⟩ := List.getElem?_eq_some_iff.mp q
        simpa using h2.symm
      subst this
      rfl
def midB (i : Int) : Bool := decide (-(2 ^ 62) ≤ i) && decide (i < 2 ^ 62)
theorem midB_ok {i : Int} (h : midB i = true) : -(2 ^ 62) ≤ i ∧ i < 2 ^ 62 := by
  unfold midB at h
  rw [Bool.and_eq_true, decide_eq_true_eq, decide_eq_true_eq] at h
  exact h
theorem tD_bindI {W : WX} {d : Den} {f : PV → Store → Res (List PV)} {σ : L2.St} {H : Hp} {Q : It → Hp → Prop} (h : tI g W (fun ρ st => (d ρ st).bind f) σ H Q) : tD g W d σ H fun x H1 => ∃ v ρ st1 κ1, Lies g ρ st1 κ1 σ H1 ∧ RepX g.K g.T κ1 (Fz st1 κ1 H1) v x ∧ RunI g W (f v st1) st1 κ1 σ H1 Q := by
  obtain ⟨ρ, st, κ, L, h⟩ := h
  exact ⟨ρ, st, κ, L, (RunI.bind h).mono fun xs H1 ⟨vs, st1, κ1, e1, r1, h1⟩ => ⟨vs, ρ, st1, κ1, L.xt e1, r1, h1.xt e1⟩⟩
def iRng (d : Den) : DenI := fun ρ st => (d ρ st).bind fun v st => match v with
  | .int j => if midB j then .ok (rgP 0 j.toNat) st else .stuck 61
  | _ => .stuck 63
theorem id_range1 {tg a : Expr} {d : Den} {p pos : Pos} (b : Blt g l "range" (.type "range")) (h : ED g l d a) (hs : ∀ env, starEach [a] env = [(false, eval a env)]) : ID g l (iRng d) tg (.Call (.Name "range" p) [a] [] pos) := fun X W J tk =>
  PI.imp (pi_range1 (gl_of J b.gl) (by rw [J.m]; exact b.mg) (pa_cons (h X W J tk) pa_nil (hs _)) (hs _)) fun σ H Q h => by
    obtain ⟨ρ, st, κ, L, h⟩ := tD_bindI h
    refine ⟨ρ, st, κ, L, h.mono fun x H1 ⟨v, ρ, st1, κ1, L1, r1, h1⟩ => ?_⟩
    cases v with
    | int j =>
      cases (show x = .int j from r1)
      dsimp only at h1
      by_cases c : midB j = true
      · rw [if_pos c] at h1
        obtain ⟨c1, c2⟩ := midB_ok c
        exact ⟨j, rfl, c1, c2, h1 κ1 H1 _ (Ext.refl L1.sr) wk_range⟩
      · rw [if_neg c] at h1
        exact h1.elim
    | non => exact h1.elim
    | bl _ => exact h1.elim
    | str _ => exact h1.elim
    | tup _ => exact h1.elim
    | lst _ => exact h1.elim
    | ref _ => exact h1.elim
    | obj _ _ => exact h1.elim
theorem tA_bindI {W : WX} {da : DenA} {f : List PV → Store → Res (List PV)} {σ : L2.St} {H : Hp} {Q : It → Hp → Prop} (h : tI g W (fun ρ st => (da ρ st).bind f) σ H Q) : tA g W da σ H fun xs H1 => ∃ vs ρ st1 κ1, Lies g ρ st1 κ1 σ H1 ∧ RXs g κ1 (Fz st1 κ1 H1) vs xs ∧ RunI g W (f vs st1) st1 κ1 σ H1 Q := by
  obtain ⟨ρ, st, κ, L, h⟩ := h
  exact ⟨ρ, st, κ, L, (RunI.bind h).mono fun xs H1 ⟨vs, st1, κ1, e1, r1, h1⟩ => ⟨vs, ρ, st1, κ1, L.xt e1, r1, h1.xt e1⟩⟩
def iRng2 (da : DenA) : DenI := fun ρ st => (da ρ st).bind fun vs st => match vs with
  | [.int i, .int j] => if midB i && midB j then .ok (rgP i (j - i).toNat) st else .stuck 62
  | _ => .stuck 63
theorem id_range2 {tg a b : Expr} {da : DenA} {p pos : Pos} (bl : Blt g l "range" (.type "range")) (h : AD g l da [a, b]) (hs : ∀ env, starEach [a, b] env = [(false, eval a env), (false, eval b env)]) (hs2 : ∀ env, starEach [b] env = [(false, eval b env)]) : ID g l (Wi.iRng2 da) tg (.Call (.Name "range" p) [a, b] [] pos) := fun X W J tk =>
  PI.imp (pi_range2 (gl_of J bl.gl) (by rw [J.m]; exact bl.mg) (h X W J tk) (hs _) (hs2 _)) fun σ H Q h => by
    obtain ⟨ρ, st, κ, L, h⟩ := tA_bindI h
    refine ⟨ρ, st, κ, L, h.mono fun xs H1 ⟨vs, ρ, st1, κ1, L1, r1, h1⟩ => ?_⟩
    split at h1
    · rename_i i j
      obtain ⟨x, y, rfl, q1, q2⟩ := rxs2 r1
      cases (show x = .int i from q1)
      cases (show y = .int j from q2)
      by_cases c : (midB i && midB j) = true
      · rw [if_pos c] at h1
        rw [Bool.and_eq_true] at c
        obtain ⟨c1, c2⟩ := midB_ok c.1
        obtain ⟨c3, c4⟩ := midB_ok c.2
        exact ⟨i, j, rfl, ⟨c1, c2, c3, c4⟩, h1 κ1 H1 _ (Ext.refl L1.sr) wk_range⟩
      · rw [if_neg c] at h1
        exact h1.elim
    · exact h1.elim
/-! ### for -/
def forL (t : DenG) (b : DenS) : List PV → Sl → Store → RS
  | [], ρ, st => .nx ρ st
  | x :: xs, ρ, st => match t x ρ st with
    | .nx ρ st => match b ρ st with
      | .nx ρ st => forL t b xs ρ st
      | .ct ρ st => forL t b xs ρ st
      | .bk ρ st => .nx ρ st
      | r => r
    | r => r
def sFor (i : DenI) (t : DenG) (b : DenS) : DenS := fun ρ st => Res.thenS (i ρ st) ρ fun xs st => forL t b xs ρ st
theorem RunS.ofI {W : WX} {r : Res (List PV)} {ρ : Sl} {f : List PV → Store → RS} {st : Store} {κ : List Addr} {σ : L2.St} {H : Hp} {D : Ends} (L : Lies g ρ st κ σ H) (h : RunS g W (r.thenS ρ f) st κ H D) :
    RunI g W r st κ σ H fun J H1 => ∃ xs st1 κ1, Xt g st κ H st1 κ1 H1 ∧ Wk g J xs st1 κ1 H1 ∧ RunS g W (f xs st1) st1 κ1 H1 D := by
  cases r with
  | ok v st' => exact fun κ' H' x e r => ⟨v, st', κ', e, r, h.xt e⟩
  | exc c l st' => exact fun κ' H' d e r => h κ' H' σ d e (L.xt e).sl r
  | stuck w => exact h
theorem RunI.mono {W : WX} {r : Res (List PV)} {st : Store} {κ : List Addr} {σ : L2.St} {H : Hp} {Q Q' : It → Hp → Prop} (h : RunI g W r st κ σ H Q) (i : ∀ x H', Q x H' → Q' x H') : RunI g W r st κ σ H Q' := by
  cases r with
  | ok v st' => exact fun κ' H' x e r => i _ _ (h κ' H' x e r)
  | exc c l st' => exact h
  | stuck w => exact h
theorem sd_for {tg e : Expr} {body : List Stmt} {i : DenI} {t : DenG} {b : DenS} {pos : Pos} (hi : ID g l i tg e) (ht : GD g l t tg) (o : GOnly t) (hb : SsD g l b body) (hs : ∀ env x, foldedSetIterable e env x = pure x) : SD g l (sFor i t b) (.For tg e body [] pos) := fun X W J tk =>
  PS.imp (ps_for J.own J.calm (hi X W J tk) (ht X W J tk) (hb X W J tk) (hs _)) fun D σ H ⟨ρ, st, κ, L, h⟩ => ⟨ρ, st, κ, L, (RunS.ofI L h).mono fun I H1 ⟨xs, st1, κ1, e1, w1, h1⟩ => by
    refine ⟨fun i m σ' H' => ∃ ρ' st' κ', i + m = xs.length ∧ Xt g st1 κ1 H1 st' κ' H' ∧ Lies g ρ' st' κ' σ' H' ∧ RunS g W (forL t b (xs.drop i) ρ' st') st' κ' H' D,
      ⟨xs.length, ρ, st1, κ1, by omega, Ext.refl e1.sr, L.xt e1, h1⟩, fun i m σ' H' ⟨ρ', st', κ', hm, x1, L', h'⟩ => ?_⟩
    by_cases hi : i < xs.length
    · refine .inr ⟨w1.go i st' κ' H' x1 hi, fun σ2 H2 => ∃ m', m' < m ∧ ∃ ρ2 st2 κ2, i + 1 + m' = xs.length ∧ Xt g st1 κ1 H1 st2 κ2 H2 ∧ Lies g ρ2 st2 κ2 σ2 H2 ∧ RunS g W (forL t b (xs.drop (i + 1)) ρ2 st2) st2 κ2 H2 D, fun σ2 H2 q => q, fun x H2 hy => ?_⟩
      obtain ⟨x2, r2⟩ := w1.yld i st' κ' H' x H2 _ x1 (List.getElem?_eq_getElem hi) hy
      have L2 := L'.xt x2
      have h2 := h'.xt x2
      rw [List.drop_eq_getElem_cons hi] at h2
      unfold forL at h2
      refine ⟨xs[i], ρ', st', κ', L2, r2, ?_⟩
      have only := o xs[i] ρ' st'
      cases q : t xs[i] ρ' st' with
      | nx ρ3 st3 =>
        rw [q] at h2
        intro κ3 H3 σ3 x3 s3
        refine ⟨ρ3, st3, κ3, ⟨x3.sr, s3⟩, ?_⟩
        have h3 := h2.xt x3
        have base := (x1.trans x2).trans x3
        dsimp only at h3
        cases q3 : b ρ3 st3 with
        | nx ρ4 st4 =>
          rw [q3] at h3
          exact fun κ4 H4 σ4 x4 s4 => ⟨xs.length - (i + 1), by omega, ρ4, st4, κ4, by omega, base.trans x4, ⟨x4.sr, s4⟩, h3.xt x4⟩
        | ct ρ4 st4 =>
          rw [q3] at h3
          exact fun κ4 H4 σ4 x4 s4 => ⟨xs.length - (i + 1), by omega, ρ4, st4, κ4, by omega, base.trans x4, ⟨x4.sr, s4⟩, h3.xt x4⟩
        | bk ρ4 st4 => rw [q3] at h3; exact h3
        | rt v st4 => rw [q3] at h3; exact h3
        | exc _ _ _ _ => rw [q3] at h3; exact h3
        | stuck _ => rw [q3] at h3; exact h3
      | rt _ _ => rw [q] at only; exact only.elim
      | bk _ _ => rw [q] at only; exact only.elim
      | ct _ _ => rw [q] at only; exact only.elim
      | exc _ _ _ _ => rw [q] at h2; exact h2
      | stuck _ => rw [q] at h2; exact h2
    · refine .inl ⟨w1.stop i st' κ' H' x1 (by omega), ?_⟩
      rw [List.drop_eq_nil_of_le (by omega)] at h'
      exact h' κ' H' σ' (Ext.refl L'.sr) L'.sl⟩
/-! ### while -/
def whileL (c : DenT) (b : DenS) : Nat → Sl → Store → RS
  | 0, _, _ => .stuck 64
  | n + 1, ρ, st => Res.thenS (c ρ st) ρ fun t st => if t then (match b ρ st with
    | .nx ρ st => whileL c b n ρ st
    | .ct ρ st => whileL c b n ρ st
    | .bk ρ st => .nx ρ st
    | r => r) else .nx ρ st
def whileN : Nat := 100000
def sWhile (c : DenT) (b : DenS) : DenS := whileL c b whileN
theorem sd_while {c : Expr} {body : List Stmt} {dc : DenT} {b : DenS} {pos : Pos} (hc : TD g l dc c) (hb : SsD g l b body) : SD g l (sWhile dc b) (.While c body [] pos) := fun X W J tk =>
  PS.imp (ps_while J.own (hc X W J tk) (hb X W J tk)) fun D σ H ⟨ρ, st, κ, L, h⟩ => by
    refine ⟨fun m σ' H' => ∃ ρ' st' κ', Lies g ρ' st' κ' σ' H' ∧ RunS g W (whileL dc b m ρ' st') st' κ' H' D, ⟨whileN, ρ, st, κ, L, h⟩, fun m σ' H' ⟨ρ', st', κ', L', h'⟩ => ?_⟩
    cases m with
    | zero => exact h'.elim
    | succ n =>
      unfold whileL at h'
      refine ⟨ρ', st', κ', L', (RunS.of (R := RB) L' h').mono fun t H1 ⟨t', st1, κ1, e1, r1, h1⟩ => ?_⟩
      have r1 : t' = t := r1
      subst r1
      cases t' with
      | false => exact h1 κ1 H1 σ' (Ext.refl e1.sr) (L'.xt e1).sl
      | true =>
        rw [if_pos rfl] at h1 ⊢
        refine ⟨fun σ2 H2 => ∃ ρ2 st2 κ2, Lies g ρ2 st2 κ2 σ2 H2 ∧ RunS g W (whileL dc b n ρ2 st2) st2 κ2 H2 D, fun σ2 H2 q => ⟨n, Nat.lt_succ_self _, q⟩, ρ', st1, κ1, L'.xt e1, ?_⟩
        cases q3 : b ρ' st1 with
        | nx ρ4 st4 =>
          rw [q3] at h1
          exact fun κ4 H4 σ4 x4 s4 => ⟨ρ4, st4, κ4, ⟨x4.sr, s4⟩, h1.xt x4⟩
        | ct ρ4 st4 =>
          rw [q3] at h1
          exact fun κ4 H4 σ4 x4 s4 => ⟨ρ4, st4, κ4, ⟨x4.sr, s4⟩, h1.xt x4⟩
        | bk ρ4 st4 => rw [q3] at h1; exact h1
        | rt v st4 => rw [q3] at h1; exact h1
        | exc _ _ _ _ => rw [q3] at h1; exact h1
        | stuck _ => rw [q3] at h1; exact h1
end
end Wi

/-! Wi9: list comprehensions. -/
namespace Wi
open PySem L2
section
variable {g : Gm} {l : Lc}
/-! ### targets of a comprehension: names -/
inductive Pt where
  | n (i : Nat) | t (is : List Nat)
def wipeP (ρ : Sl) : List Nat → Sl
  | [] => ρ
  | v :: vs => (wipeP ρ vs).set v none
def setPs : List Nat → List PV → Sl → Option Sl
  | [], [], ρ => some ρ
  | i :: is, v :: vs, ρ => setPs is vs (ρ.set i (some v))
  | _, _, _ => none
def bindPt (t : Pt) (v : PV) (ρ : Sl) : Option Sl := match t with
  | .n i => some (ρ.set i (some v))
  | .t is => match v with
    | .tup xs => setPs is xs ρ
    | _ => none
def gsP : List Nat → TGs
  | [] => gNil
  | i :: is => gCons (gName i) (gsP is)
def gP (K : PySem.W.Frag) : Pt → TG
  | .n i => gName i
  | .t is => gTup K is.length (gsP is)
def Pt.own : Pt → List Nat
  | .n i => [i]
  | .t is => is
/-- the target of a comprehension -/
def PtD (g : Gm) (l : Lc) (t : Pt) (tg : Expr) : Prop := ∀ X, Jx g l X → PG X tg (gP g.K t)
theorem SlR.setNone {K : PySem.W.Frag} {T : CT} {κ : List Addr} {F : Hp} : ∀ {ρ : Sl} {σ : L2.St} (i : Nat), SlR K T κ F ρ σ → SlR K T κ F (ρ.set i none) (σ.set i none)
  | [], _, _, h => by subst h; rfl
  | _ :: _, _, 0, ⟨x, r, q, h, t⟩ => by subst q; exact ⟨none, r, rfl, (fun w hw => nomatch hw), t⟩
  | _ :: _, _, i + 1, ⟨x, r, q, h, t⟩ => by subst q; exact ⟨x, _, rfl, h, SlR.setNone i t⟩
theorem SlR.wipe {K : PySem.W.Frag} {T : CT} {κ : List Addr} {F : Hp} {ρ : Sl} {σ : L2.St} (h : SlR K T κ F ρ σ) : ∀ vs : List Nat, SlR K T κ F (wipeP ρ vs) (L2.wipe σ vs)
  | [] => h
  | v :: vs => SlR.setNone v (SlR.wipe h vs)
theorem wipe_set {σ : L2.St} {i : Nat} {x : Option V} : ∀ {vs : List Nat}, i ∈ vs → L2.wipe (σ.set i x) vs = L2.wipe σ vs
  | [], h => by cases h
  | v :: vs, h => by
    unfold L2.wipe
    by_cases e : i ∈ vs
    · rw [wipe_set e]
    · have hv : i = v := (List.mem_cons.mp h).resolve_right e
      subst hv
      have key : ∀ ws : List Nat, i ∉ ws → L2.wipe (σ.set i x) ws = (L2.wipe σ ws).set i x := by
        intro ws
        induction ws with
        | nil => intro _; rfl
        | cons w ws ih =>
          intro hw
          unfold L2.wipe
          rw [ih fun z => hw (List.mem_cons_of_mem _ z), List.set_comm _ _ (fun z => hw (by rw [z]; exact List.mem_cons_self))]
      rw [key vs e, List.set_set]
/-- names take the items in turn -/
theorem setPs_ok {κ : List Addr} {st : Store} {H : Hp} {own : List Nat} : ∀ {is : List Nat} {xs : List PV} {vs : List V} {ρ ρ' : Sl} {σ : L2.St} {Q : L2.St → Hp → Prop}, setPs is xs ρ = some ρ' → RepVs g.K g.T (Fz st κ H) xs vs → SlR g.K g.T κ (Fz st κ H) ρ σ → (∀ i ∈ is, i ∈ own) →
    (∀ σ', SlR g.K g.T κ (Fz st κ H) ρ' σ' → L2.wipe σ' own = L2.wipe σ own → Q σ' H) → gsP is vs σ H Q
  | [], [], _, _, _, _, _, e, r, s, _, k => by cases e; cases r; exact ⟨rfl, k _ s rfl⟩
  | i :: is, v :: xs, _, ρ, ρ', σ, _, e, ⟨y, r', q, h, t⟩, s, ho, k => by
    subst q
    refine ⟨y, r', rfl, setPs_ok (ρ := ρ.set i (some v)) e t (s.set (RepX.ofV h) i) (fun j hj => ho j (List.mem_cons_of_mem _ hj)) fun σ' s' w => k σ' s' (w.trans (wipe_set (ho i List.mem_cons_self)))⟩
  | [], _ :: _, _, _, _, _, _, e, _, _, _, _ => by cases e
  | _ :: _, [], _, _, _, _, _, e, _, _, _, _ => by cases e
theorem setPs_len : ∀ {is : List Nat} {xs : List PV} {ρ ρ' : Sl}, setPs is xs ρ = some ρ' → xs.length = is.length
  | [], [], _, _, _ => rfl
  | i :: is, v :: xs, ρ, ρ', e => by
    have := setPs_len (is := is) (xs := xs) (ρ := ρ.set i (some v)) (ρ' := ρ') e
    simp [this]
  | [], _ :: _, _, _, e => by cases e
  | _ :: _, [], _, _, e => by cases e
theorem bindPt_ok {κ : List Addr} {st : Store} {H : Hp} {own : List Nat} {t : Pt} {pv : PV} {v : V} {ρ ρ' : Sl} {σ : L2.St} {Q : L2.St → Hp → Prop} (e : bindPt t pv ρ = some ρ') (r : RepX g.K g.T κ (Fz st κ H) pv v) (s : SlR g.K g.T κ (Fz st κ H) ρ σ) (ho : ∀ i ∈ t.own, i ∈ own)
    (k : ∀ σ', SlR g.K g.T κ (Fz st κ H) ρ' σ' → L2.wipe σ' own = L2.wipe σ own → Q σ' H) : gP g.K t v σ H Q := by
  cases t with
  | n i => cases e; exact k _ (s.set r i) (wipe_set (ho i List.mem_cons_self))
  | t is =>
    cases pv with
    | tup xs =>
      obtain ⟨a, vs, rfl, q1, q2⟩ := r
      exact ⟨a, vs, rfl, TupR.of_fz q1, by rw [← q2.length]; exact setPs_len e, setPs_ok e q2 s ho k⟩
    | non => cases e
    | bl _ => cases e
    | int _ => cases e
    | str _ => cases e
    | lst _ => cases e
    | ref _ => cases e
    | obj _ _ => cases e
/-! ### cells dropped -/
theorem live_take : ∀ {st : Store} {κ : List Addr} {k : Nat} {b : Addr}, b ∈ live (st.take k) (κ.take k) → b ∈ live st κ
  | [], _, _, _, h => by simp [live] at h
  | _ :: _, [], _, _, h => by simp [live] at h
  | _ :: _, _ :: _, 0, _, h => by simp [live] at h
  | c :: st, a :: κ, k + 1, b, h => by
    simp only [List.take_succ_cons] at h
    unfold live at h ⊢
    split at h
    · rename_i q
      rw [if_pos q]
      rcases List.mem_cons.mp h with h | h
      · exact h ▸ List.mem_cons_self
      · exact List.mem_cons_of_mem _ (live_take h)
    · rename_i q
      rw [if_neg q]
      exact live_take h
theorem CellsR.take {K : PySem.W.Frag} {T : CT} {F H : Hp} : ∀ {st : Store} {κ : List Addr} (k : Nat), CellsR K T F H st κ → CellsR K T F H (st.take k) (κ.take k)
  | [], _, _, h => by subst h; simp [CellsR]
  | _ :: _, _, 0, _ => by simp [CellsR]
  | _ :: _, _, k + 1, ⟨a, r, q, h, t⟩ => by subst q; exact ⟨a, r.take k, rfl, h, CellsR.take k t⟩
theorem pre_take {α : Type} {a b : List α} (p : a <+: b) {k : Nat} (h : a.length ≤ k) : a <+: b.take k := by
  obtain ⟨t, rfl⟩ := p
  exact ⟨t.take (k - a.length), by rw [List.take_append, List.take_of_length_le h]⟩
theorem Ext.take {st st' : Store} {κ κ' : List Addr} {H H' : Hp} {k : Nat} (x : Xt g st κ H st' κ' H') (hk : κ.length ≤ k) : Xt g st κ H (st'.take k) (κ'.take k) H' := by
  have sm : Same (Fz st' κ' H') (Fz (st'.take k) (κ'.take k) H') := fz_perm fun b hb => live_take hb
  exact ⟨⟨(x.sr.cells.mono sm fun _ _ => rfl).take k, x.sr.nd.sublist (List.take_sublist _ _), fun b hb => x.sr.there b (List.mem_of_mem_take hb), x.sr.tabs⟩, pre_take x.pre hk, x.same.trans sm⟩
/-- the cell at k, and all behind it, are dropped: the list is a new one -/
theorem NewL.of_cell {st st1 st' : Store} {κ κ1 κ' : List Addr} {H H1 H' : Hp} {D : Addr} {xs : List PV} (e1 : Xt g st κ H st1 κ1 H1) (x : Xt g st1 κ1 H1 st' κ' H') (hk : κ1.length = st1.length) (e : st'[st1.length]? = some (.lst xs)) (hD : κ'[st1.length]? = some D) (nD : D ∉ κ1) :
    ∃ vs, NewL g st κ H (st'.take st1.length) (κ'.take st1.length) H' D vs xs := by
  obtain ⟨a, q1, vs, q2, q3⟩ := cell_at x.sr.cells e
  rw [hD] at q1
  cases q1
  have hl : D ∈ live st' κ' := live_mem (c := .lst xs) e hD rfl
  have sm : Same (Fz st' κ' H') (fz (D :: live (st'.take st1.length) (κ'.take st1.length)) H') := fz_perm fun b hb => by
    rcases List.mem_cons.mp hb with z | z
    · rw [z]; exact hl
    · exact live_take z
  have t := Ext.take x (k := st1.length) (by omega)
  have eκ : κ'.take st1.length = κ1 := by
    obtain ⟨r, rfl⟩ := x.pre
    rw [← hk, List.take_left]
  refine ⟨vs, (x.sr.cells.mono sm fun _ _ => rfl).take _, t.sr.nd, t.sr.there, x.sr.tabs, ?_, ?_, q2, q3.mono sm, (e1.same.trans x.same).trans sm⟩
  · rw [eκ]; exact e1.pre
  · rw [eκ]; exact nD

/-! ### [e for t in i if c] -/
def noexc {α : Type} (r : Res α) : Res α := match r with
  | .exc _ _ _ => .stuck 70
  | r => r
def W0 : WX := fun _ _ _ _ => False
theorem Run.noexc {α β : Type} {R : List Addr → Hp → α → β → Prop} {W : WX} {r : Res α} {st : Store} {κ : List Addr} {σ : L2.St} {H : Hp} {Q : β → Hp → Prop} (h : Run g R W (noexc r) st κ σ H Q) : Run g R W0 r st κ σ H Q := by
  cases r with
  | ok v st' => exact h
  | exc c l st' => exact h.elim
  | stuck w => exact h
def compL (t : Pt) (c : DenT) (e : Den) (own : List Nat) (k : Nat) : List PV → Sl → Store → Res (List PV)
  | [], _, st => match st[k]? with
    | some (.lst acc) => .ok acc (st.take k)
    | _ => .stuck 71
  | x :: xs, ρ, st => match bindPt t x (wipeP ρ own) with
    | some ρ1 => (noexc (c ρ1 st)).bind fun b st => if b then (noexc (e ρ1 st)).bind fun y st => match st[k]? with
        | some (.lst acc) => if isTree y && Nat.blt acc.length 16777216 then compL t c e own k xs ρ (st.set k (.lst (acc ++ [y]))) else .stuck 72
        | _ => .stuck 73
      else compL t c e own k xs ρ st
    | none => .stuck 74
def lComp (i : DenI) (t : Pt) (c : DenT) (e : Den) (own : List Nat) : DenL := fun ρ st => (i ρ st).bind fun xs st => compL t c e own st.length xs ρ (st ++ [.lst []])
def tYesD : DenT := fun _ st => .ok true st
def TsD (g : Gm) (l : Lc) (d : DenT) (ifs : List Expr) : Prop := ∀ X W, Jx g l X → Takes X W → PTs X ifs (tT g W d)
theorem PTs.imp {X : Cx} {e : List Expr} {t u : TT} (h : PTs X e t) (i : ∀ σ H Q, u σ H Q → t σ H Q) : PTs X e u := ⟨fun pins s σ H R I hu => h.run pins s σ H R I (i σ H R hu)⟩
theorem tsd_nil : TsD g l tYesD [] := fun X W J tk => PTs.imp pts_nil fun σ H Q ⟨ρ, st, κ, L, h⟩ => Run.ret L.sr h rfl
theorem tsd_one {c : Expr} {d : DenT} (h : TD g l d c) : TsD g l d [c] := fun X W J tk => pts_one (h X W J tk)
theorem jx_blk {X : Cx} (J : Jx g l X) (s : Shared) (H : Hp) (scope : Scope) (C : Addr) (cl : List (Str × Addr)) (fp : List Addr) (hk : scope.kind = .function) : Jx g { l with top := false, sc := relS scope l.sc, fn := (fun x => scope.names.lookup x == some .cell), tab := 0 } (X.blk s H scope (compEnvC scope cl C X.env) fp) where
  p := J.p
  w := J.w
  k := J.k
  m := J.m
  b := J.b
  N := J.N
  sc := by
    show relabel scope X.env = relS scope l.sc
    rw [← J.sc]
    rfl
  nd := J.nd
  calm := J.calm
  room := J.room
  own := PassesOwn.never
  kind := hk
  fn := fun x hx => hx
  code := fun z => absurd z (Nat.lt_irrefl _)
  stk := fun z => nomatch z
theorem takes_blk {X : Cx} {s : Shared} {H : Hp} {scope : Scope} {env : Env} {fp : List Addr} : Takes (X.blk s H scope env fp) W0 := fun u s' ⟨a, B, sI, pins, σ, H, cls, d, e, I, nb, up, sky, na, os, ag, w⟩ => w.elim
theorem RunL.bindI {W : WX} {r : Res (List PV)} {f : List PV → Store → Res (List PV)} {st : Store} {κ : List Addr} {σ : L2.St} {H : Hp} {Q : VK} (h : RunL g W (r.bind f) st κ σ H Q) :
    RunI g W r st κ σ H fun J H1 => ∃ xs st1 κ1, Xt g st κ H st1 κ1 H1 ∧ Wk g J xs st1 κ1 H1 ∧ RunL g W (f xs st1) st κ σ H Q := by
  cases r with
  | ok v st' => exact fun κ' H' J e w => ⟨v, st', κ', e, w, h⟩
  | exc c l st' => exact h
  | stuck w => exact h
/-- .. from later on -/
theorem RunL.bind2 {α β : Type} {R : List Addr → Hp → α → β → Prop} {W : WX} {r : Res α} {f : α → Store → Res (List PV)} {st stb : Store} {κ κb : List Addr} {σ : L2.St} {H Hb : Hp} {Q : VK} (e : Xt g st κ H stb κb Hb) (h : RunL g W (r.bind f) st κ σ H Q) :
    Run g R W r stb κb σ Hb fun x H1 => ∃ v st1 κ1, Xt g stb κb Hb st1 κ1 H1 ∧ R κ1 (Fz st1 κ1 H1) v x ∧ RunL g W (f v st1) st κ σ H Q := by
  cases r with
  | ok v st' => exact fun κ' H' x e r => ⟨v, st', κ', e, r, h⟩
  | exc c l st' => exact fun κ' H' d e' r => h κ' H' d (e.trans e') r
  | stuck w => exact h
theorem wipe_none {σ : L2.St} : ∀ {vs : List Nat} {i : Nat}, i ∈ vs → (L2.wipe σ vs).set i none = L2.wipe σ vs
  | [], _, h => by cases h
  | v :: vs, i, h => by
    unfold L2.wipe
    by_cases e : i = v
    · subst e; rw [List.set_set]
    · rw [List.set_comm _ _ (Ne.symm e), wipe_none ((List.mem_cons.mp h).resolve_left e)]
theorem wipe_wipe {σ : L2.St} {vs : List Nat} : L2.wipe (L2.wipe σ vs) vs = L2.wipe σ vs := by
  have key : ∀ ws : List Nat, (∀ i ∈ ws, i ∈ vs) → L2.wipe (L2.wipe σ vs) ws = L2.wipe σ vs := by
    intro ws
    induction ws with
    | nil => intro _; rfl
    | cons w ws ih =>
      intro h
      show (L2.wipe (L2.wipe σ vs) ws).set w none = _
      rw [ih fun i hi => h i (List.mem_cons_of_mem _ hi), wipe_none (h w List.mem_cons_self)]
  exact key vs fun _ h => h
theorem lc_ok (tb : TbOk g) {own : List (Str × Nat)} {i : DenI} {t : Pt} {c : DenT} {e : Den} {W : WX} (ho : ∀ j ∈ t.own, j ∈ own.map (·.2)) : ∀ σ H Q, tL g W (lComp i t c e (own.map (·.2))) σ H Q → tLc (tI g W i) (gP g.K t) (tT g W0 c) (tD g W0 e) (own.map (·.2)) σ H Q :=
  fun σ H Q ⟨ρ, st, κ, L, h⟩ => ⟨ρ, st, κ, L, (RunL.bindI h).mono fun I H1 ⟨xs, st1, κ1, e1, w1, h1⟩ D hD => by
    have n0 := NewL.of_upd tb (vs := []) (xs := []) (Ext.refl e1.sr) hD rfl
    have x0 := n0.cell
    have nD : D ∉ κ1 := n0.na
    have hk1 : st1.length = κ1.length := e1.sr.cells.length
    have atD : ∀ {κ' : List Addr}, κ1 ++ [D] <+: κ' → κ'[st1.length]? = some D := fun {κ'} p => by
      obtain ⟨r, rfl⟩ := p
      rw [hk1, List.append_assoc, List.getElem?_append_right (Nat.le_refl _)]
      simp
    refine ⟨fun j m H' => ∃ st' κ', j + m = xs.length ∧ Xt g (st1 ++ [.lst []]) (κ1 ++ [D]) (upd H1 D (.lst [])) st' κ' H' ∧ RunL g W (compL t c e (own.map (·.2)) st1.length (xs.drop j) ρ st') st κ σ H Q,
      ⟨xs.length, st1 ++ [.lst []], κ1 ++ [D], by omega, Ext.refl x0.sr, by rw [List.drop_zero]; exact h1⟩, fun j m H' ⟨st', κ', hm, x1, h'⟩ => ?_⟩
    have xa : Xt g st1 κ1 H1 st' κ' H' := x0.trans x1
    by_cases hj : j < xs.length
    · refine .inr ⟨w1.go j st' κ' H' xa hj, fun H2 => ∃ m', m' < m ∧ ∃ st2 κ2, j + 1 + m' = xs.length ∧ Xt g (st1 ++ [.lst []]) (κ1 ++ [D]) (upd H1 D (.lst [])) st2 κ2 H2 ∧ RunL g W (compL t c e (own.map (·.2)) st1.length (xs.drop (j + 1)) ρ st2) st κ σ H Q, fun H2 q => q, fun x H2 hy => ?_⟩
      obtain ⟨x2, r2⟩ := w1.yld j st' κ' H' x H2 _ xa (List.getElem?_eq_getElem hj) hy
      have xb := xa.trans x2
      have L2 : Lies g ρ st' κ' σ H2 := (L.xt e1).xt xb
      rw [List.drop_eq_getElem_cons hj] at h'
      unfold compL at h'
      cases q : bindPt t xs[j] (wipeP ρ (own.map (·.2))) with
      | none => rw [q] at h'; exact h'.elim
      | some ρ1 =>
        rw [q] at h'
        dsimp only at h'
        refine bindPt_ok q r2 (SlR.wipe L2.sl _) ho fun σ2 s2 hw => ⟨hw.trans wipe_wipe, ?_⟩
        have rb := RunL.bind2 (R := RB) (e1.trans xb) h'
        refine ⟨ρ1, st', κ', ⟨L2.sr, s2⟩, (Run.noexc rb).mono fun b H3 ⟨b', st3, κ3, e3, r3, h3⟩ => ?_⟩
        have r3 : b' = b := r3
        subst r3
        have xc := xb.trans e3
        cases b' with
        | false => exact ⟨xs.length - (j + 1), by omega, st3, κ3, by omega, (x1.trans x2).trans e3, h3⟩
        | true =>
          rw [if_pos rfl] at h3 ⊢
          have re := RunL.bind2 (R := RX g) (e1.trans xc) h3
          refine ⟨ρ1, st3, κ3, (show Lies g ρ1 st' κ' σ2 H2 from ⟨L2.sr, s2⟩).xt e3, (Run.noexc re).mono fun y H4 ⟨y', st4, κ4, e4, r4, h4⟩ => ?_⟩
          cases q4 : st4[st1.length]? with
          | none => rw [q4] at h4; exact h4.elim
          | some cc =>
            rw [q4] at h4
            cases cc with
            | lst acc =>
              dsimp only at h4
              by_cases cnd : (isTree y' && Nat.blt acc.length 16777216) = true
              · rw [if_pos cnd] at h4
                rw [Bool.and_eq_true] at cnd
                obtain ⟨a, q5, vs, q6, q7⟩ := cell_at e4.sr.cells q4
                have xd := (x1.trans x2).trans (e3.trans e4)
                rw [atD xd.pre] at q5
                cases q5
                have xe := cell_upd tb e4.sr q4 (atD xd.pre) (q7.append (RepVs.one (r4.tree cnd.1)))
                refine ⟨vs, q6, ?_, xs.length - (j + 1), by omega, st4.set st1.length (.lst (acc ++ [y'])), κ4, by omega, xd.trans xe, h4⟩
                rw [← q7.length]
                exact Nat.lt_of_succ_le (Nat.le_of_ble_eq_true cnd.2)
              · rw [if_neg cnd] at h4
                exact h4.elim
            | frz _ => exact h4.elim
            | ins _ _ => exact h4.elim
    · refine .inl ⟨w1.stop j st' κ' H' xa (by omega), ?_⟩
      rw [List.drop_eq_nil_of_le (by omega)] at h'
      unfold compL at h'
      cases q : st'[st1.length]? with
      | none => rw [q] at h'; exact h'.elim
      | some cc =>
        rw [q] at h'
        cases cc with
        | lst acc =>
          obtain ⟨vs, n⟩ := NewL.of_cell e1 xa hk1.symm q (atD x1.pre) nD
          exact h' _ _ _ _ n
        | frz _ => exact h'.elim
        | ins _ _ => exact h'.elim⟩
theorem ld_comp (tb : TbOk g) {elt tg iter : Expr} {ifs : List Expr} {scope : Scope} {own : List (Str × Nat)} {pos : Pos} {i : DenI} {t : Pt} {c : DenT} {e : Den} (hi : ID g l i tg iter) (ok : blkC l.N l.sc scope own = true) (hk : scope.kind = .function)
    (hp : PtD g { l with top := false, sc := relS scope l.sc, fn := (fun x => scope.names.lookup x == some .cell), tab := 0 } t tg) (hc : TsD g { l with top := false, sc := relS scope l.sc, fn := (fun x => scope.names.lookup x == some .cell), tab := 0 } c ifs) (he : ED g { l with top := false, sc := relS scope l.sc, fn := (fun x => scope.names.lookup x == some .cell), tab := 0 } e elt)
    (ho : ∀ j ∈ t.own, j ∈ own.map (·.2)) (hs : ∀ env x, foldedSetIterable iter env x = pure x) : LD g l (lComp i t c e (own.map (·.2))) (.ListComp elt [⟨tg, iter, ifs, 0⟩] scope pos) := fun X W J tk =>
  PE.imp (pe_lc J.calm (by rw [J.N]; exact J.nd) (hi X W J tk) (by rw [J.N, J.sc]; exact blkOk_by ok) (fun s H C cl fp => hp _ (jx_blk J s H scope C cl fp hk)) (fun s H C cl fp => hc _ W0 (jx_blk J s H scope C cl fp hk) takes_blk)
    (fun s H C cl fp => he _ W0 (jx_blk J s H scope C cl fp hk) takes_blk) (hs _)) (lc_ok tb ho)
/-- what a fresh list becomes where it is stored -/
def tLK (g : Gm) (W : WX) (f : List PV → Store → Res PV) (d : DenL) : TE := tD g W fun ρ st => (d ρ st).bind f
/-- name = [..] on one line -/
theorem sd_setLc (tb : TbOk g) {n : Nat} {y : Str} {py spos : Pos} {elt tg iter : Expr} {ifs : List Expr} {scope : Scope} {own : List (Str × Nat)} {pos : Pos} {i : DenI} {t : Pt} {c : DenT} {e : Den} {d : Den} (hi : ID g l i tg iter) (ok : blkC l.N l.sc scope own = true) (hk : scope.kind = .function)
    (hp : PtD g { l with top := false, sc := relS scope l.sc, fn := (fun x => scope.names.lookup x == some .cell), tab := 0 } t tg) (hc : TsD g { l with top := false, sc := relS scope l.sc, fn := (fun x => scope.names.lookup x == some .cell), tab := 0 } c ifs) (he : ED g { l with top := false, sc := relS scope l.sc, fn := (fun x => scope.names.lookup x == some .cell), tab := 0 } e elt)
    (ho : ∀ j ∈ t.own, j ∈ own.map (·.2)) (hs : ∀ env x, foldedSetIterable iter env x = pure x) (hy : l.N[n]? = some y) (hyl : l.sc.names.lookup y = some .local) (hln : (py.line == pos.line) = true) (ha : (scope.names.any fun (n, k) => n == y && (k == .local || k == .cell)) = false)
    (hd : ∀ W σ H Q, tD g W d σ H Q → tL g W (lComp i t c e (own.map (·.2))) σ H Q) : SD g l (sSet n d) (.Assign [.Name y py] (.ListComp elt [⟨tg, iter, ifs, 0⟩] scope pos) spos) := fun X W J tk =>
  PS.imp (ps_setLc (i := n) J.calm (by rw [J.N]; exact J.nd) (by rw [J.N]; exact hy) (by rw [J.sc]; exact hyl) (sw_true (by rw [J.sc]; exact J.kind) (by rw [J.sc]; exact hyl) hln ha) (hi X W J tk) (by rw [J.N, J.sc]; exact blkOk_by ok) (fun s H C cl fp => hp _ (jx_blk J s H scope C cl fp hk)) (fun s H C cl fp => hc _ W0 (jx_blk J s H scope C cl fp hk) takes_blk)
    (fun s H C cl fp => he _ W0 (jx_blk J s H scope C cl fp hk) takes_blk) (hs _)) fun D σ H ⟨ρ, st, κ, L, h⟩ => lc_ok tb ho σ H _ (hd W σ H _ ⟨ρ, st, κ, L, (RunS.of L h).mono fun x H1 ⟨v, st1, κ1, e1, r1, h1⟩ => h1 κ1 H1 _ (Ext.refl e1.sr) ((L.xt e1).set r1).sl⟩)
theorem tL_frz {d : DenL} {W : WX} {σ : L2.St} {H : Hp} {Q : VK} (h : tD g W (dFrz d) σ H Q) : tL g W d σ H Q := by
  obtain ⟨ρ, st, κ, L, h⟩ := h
  refine ⟨ρ, st, κ, L, ?_⟩
  unfold dFrz at h
  cases q : d ρ st with
  | ok xs st' => rw [q] at h; exact fun κ' H' a vs n => h κ' H' (.ref a) n.xt n.frz
  | exc c l st' => rw [q] at h; exact h
  | stuck w => rw [q] at h; exact h
theorem tL_new {d : DenL} {W : WX} {σ : L2.St} {H : Hp} {Q : VK} (h : tD g W (dNew d) σ H Q) : tL g W d σ H Q := by
  obtain ⟨ρ, st, κ, L, h⟩ := h
  refine ⟨ρ, st, κ, L, ?_⟩
  unfold dNew at h
  cases q : d ρ st with
  | ok xs st' =>
    rw [q] at h
    refine fun κ' H' a vs n => h _ H' (.ref a) n.cell ⟨a, ?_, rfl⟩
    rw [n.cells.length, List.getElem?_append_right (Nat.le_refl _)]
    simp
  | exc c l st' => rw [q] at h; exact h
  | stuck w => rw [q] at h; exact h
end
end Wi

/-! Wi10: defs and their calls. -/
namespace Wi
open PySem L2
section
variable {g : Gm} {l : Lc}
abbrev FnS := List PV → Store → Res PV
/-- what a def hands back; its own cells are dropped -/
def retV (n : Nat) (v : PV) (st : Store) : Res PV := match v with
  | .ref k => if Nat.blt k n then .ok (.ref k) (st.take n) else match st[k]? with
    | some (.lst xs) => .ok (.ref n) (st.take n ++ [.lst xs])
    | _ => .stuck 80
  | v => .ok v (st.take n)
def startP (nN : Nat) (args : List PV) : Sl := args.map some ++ List.replicate (nN - args.length) none
def mkFn (nN : Nat) (b : DenS) : FnS := fun args st => match b (startP nN args) st with
  | .rt v st' => retV st.length v st'
  | .nx _ st' => .ok .non (st'.take st.length)
  | .exc c l _ st' => .exc c l (st'.take st.length)
  | .bk _ _ => .stuck 81
  | .ct _ _ => .stuck 82
  | .stuck w => .stuck w
/-- the promise: it does what the plain function does -/
def spM (g : Gm) (np : Nat) (f : FnS) : Sp := fun vs H Q E => vs.length = np ∧ ∃ args st κ, StR g.K g.T g.Tb st κ H ∧ RXs g κ (Fz st κ H) args vs ∧ Run g (RX g) (fun c d _ H' => E c d H') (f args st) st κ [] H Q
theorem slr_start {κ : List Addr} {F : Hp} : ∀ {args : List PV} {vs : List V} {m : Nat}, RXs g κ F args vs → SlR g.K g.T κ F (args.map some ++ List.replicate m none) (vs.map some ++ List.replicate m none)
  | [], _, m, h => by
    cases h
    show SlR g.K g.T κ F (List.replicate m none) (List.replicate m none)
    induction m with
    | zero => rfl
    | succ m ih => exact ⟨none, _, rfl, (fun w hw => nomatch hw), ih⟩
  | a :: args, _, m, ⟨y, r, q, h, t⟩ => by
    subst q
    exact ⟨some y, _, rfl, (fun w hw => by cases hw; exact ⟨y, rfl, h⟩), slr_start t⟩
theorem Run.slots {W : WX} {α β : Type} {R : List Addr → Hp → α → β → Prop} {r : Res α} {st : Store} {κ : List Addr} {σ : L2.St} {H : Hp} {Q : β → Hp → Prop} (h : Run g R W r st κ σ H Q) : Run g R (fun c d _ H' => W c d σ H') r st κ [] H Q := by
  cases r with
  | ok v st' => exact h
  | exc c l st' => exact h
  | stuck w => exact h
theorem get_pre {α : Type} {a b : List α} (p : a <+: b) {k : Nat} (h : k < a.length) : b[k]? = a[k]? := by
  obtain ⟨t, rfl⟩ := p
  rw [List.getElem?_append_left h]
/-- a cell of the callee's is handed back -/
theorem Ext.give {st st' : Store} {κ κ' : List Addr} {H H' : Hp} {k : Nat} {xs : List PV} (s0 : κ.length = st.length) (x : Xt g st κ H st' κ' H') (e : st'[k]? = some (.lst xs)) (hk : st.length ≤ k) :
    ∃ a, κ'[k]? = some a ∧ Xt g st κ H (st'.take st.length ++ [.lst xs]) (κ'.take st.length ++ [a]) H' := by
  obtain ⟨a, q1, vs, q2, q3⟩ := cell_at x.sr.cells e
  have t := Ext.take x (k := st.length) (by omega)
  have hl : live (st'.take st.length ++ [.lst xs]) (κ'.take st.length ++ [a]) = live (st'.take st.length) (κ'.take st.length) ++ [a] := by rw [live_app t.sr.cells.length]; rfl
  have sm : Same (Fz st' κ' H') (Fz (st'.take st.length ++ [.lst xs]) (κ'.take st.length ++ [a]) H') := fz_perm fun b hb => by
    rw [hl] at hb
    rcases List.mem_append.mp hb with hb | hb
    · exact live_take hb
    · rw [List.mem_singleton.mp hb]; exact live_mem (c := .lst xs) e q1 rfl
  have na : a ∉ κ'.take st.length := fun hm => by
    obtain ⟨j, hj, ej⟩ := List.getElem_of_mem hm
    have h1 : κ'[j]? = some a := by
      rw [List.length_take] at hj
      rw [List.getElem_take] at ej
      rw [List.getElem?_eq_getElem (by omega), ej]
    rw [List.length_take] at hj
    have h2 := (List.getElem?_eq_some_iff.mp q1).1
    have h3 : j = k := (List.getElem?_inj (by have := (List.getElem?_eq_some_iff.mp h1).1; omega) x.sr.nd).mp (by rw [h1, q1])
    omega
  refine ⟨a, q1, ⟨CellsR.app (c := .lst xs) ⟨vs, q2, q3.mono sm⟩ ((x.sr.cells.mono sm fun _ _ => rfl).take _), nodup_snoc t.sr.nd na, fun b hb => ?_, x.sr.tabs⟩, t.pre.trans (List.prefix_append _ _), x.same.trans sm⟩
  rcases List.mem_append.mp hb with hb | hb
  · exact t.sr.there b hb
  · rw [List.mem_singleton.mp hb, q2]; exact fun z => by cases z
theorem ok_fn {x qual : Str} {st : Stmt} {f : Addr} {fd : FuncData} {N ps : List Str} {k : Nat} {b : DenS} (F : Fun g.K x qual st f fd) (S : FnScope N ps (defScope st)) (hb : SsD g { N := N, sc := defScope st, n := k } b (defBody st)) :
    FnOk g.P g.w g.K g.mg g.base (L2.CX g.P g.w) (k + 1) f fd ps (spM g ps.length (mkFn N.length b)) := by
  refine F.okX S (fun vs H Q E h => h.1) fun cdv A outer s H vs Q E hr ⟨hl, args, st0, κ, sr, rx, hrun⟩ => ?_
  refine ⟨tS g (fun c d _ H' => E c d H') b, hb _ _ ⟨rfl, rfl, rfl, rfl, rfl, rfl, rfl, S.nd, rfl, hr, passes_of rfl, S.kind, fun _ _ => rfl, fun z => absurd z (Nat.lt_irrefl _), fun _ => ⟨rfl, rfl⟩⟩ (takes_of rfl rfl rfl rfl), ?_⟩
  have hpl : ps.length ≤ N.length := by have := congrArg List.length S.pre; rw [List.length_take] at this; omega
  refine ⟨startP N.length args, st0, κ, ⟨sr, ?_⟩, ?_⟩
  · unfold startP L2.start
    rw [rx.length]
    exact slr_start rx
  · unfold mkFn at hrun
    have s0 : κ.length = st0.length := sr.cells.length.symm
    cases e : b (startP N.length args) st0 with
    | rt v st' =>
      rw [e] at hrun
      intro κ' H' x xt rv
      have tk := Ext.take xt (k := st0.length) (by omega)
      have tree : ∀ u, RepV g.K g.T (Fz st' κ' H') u x → RepV g.K g.T (Fz (st'.take st0.length) (κ'.take st0.length) H') u x := fun u r => r.mono (fz_perm fun b hb => live_take hb)
      cases v with
      | ref k =>
        obtain ⟨a, h1, rfl⟩ := rv
        unfold retV at hrun
        dsimp only at hrun
        by_cases c : Nat.blt k st0.length = true
        · rw [if_pos c] at hrun
          have hk : k < st0.length := Nat.le_of_ble_eq_true c
          refine hrun _ _ _ tk ⟨a, ?_, rfl⟩
          rw [List.getElem?_take_of_lt hk]
          exact h1
        · rw [if_neg c] at hrun
          have hk : st0.length ≤ k := Nat.le_of_not_lt fun z => c (Nat.ble_eq_true_of_le z)
          cases q : st'[k]? with
          | none => rw [q] at hrun; exact hrun.elim
          | some cc =>
            rw [q] at hrun
            cases cc with
            | lst xs =>
              obtain ⟨a', h2, x2⟩ := Ext.give s0 xt q hk
              rw [h1] at h2
              cases h2
              refine hrun _ _ _ x2 ⟨a, ?_, rfl⟩
              have : st0.length = (κ'.take st0.length).length := by
                rw [List.length_take]
                have := (List.getElem?_eq_some_iff.mp h1).1
                omega
              rw [List.getElem?_append_right (by omega)]
              rw [← this]
              simp
            | frz _ => exact hrun.elim
            | ins _ _ => exact hrun.elim
      | non => exact hrun _ _ _ tk (RepX.ofV (tree _ rv))
      | bl _ => exact hrun _ _ _ tk (RepX.ofV (tree _ rv))
      | int _ => exact hrun _ _ _ tk (RepX.ofV (tree _ rv))
      | str _ => exact hrun _ _ _ tk (RepX.ofV (tree _ rv))
      | tup _ => exact hrun _ _ _ tk (RepX.ofV (tree _ rv))
      | lst _ => exact hrun _ _ _ tk (RepX.ofV (tree _ rv))
      | obj _ _ => exact hrun _ _ _ tk (RepX.ofV (tree _ rv))
    | nx ρ' st' =>
      rw [e] at hrun
      exact fun κ' H' σ' xt s' => hrun _ _ _ (Ext.take xt (k := st0.length) (by omega)) rfl
    | exc c l ρ' st' =>
      rw [e] at hrun
      refine fun κ' H' σ' d xt s' q => hrun _ _ d (Ext.take xt (k := st0.length) (by omega)) ?_
      unfold ExcR at q ⊢
      split at q
      · exact q
      · obtain ⟨dx, vs, h1, h2, h3⟩ := q
        exact ⟨dx, vs, h1, h2, h3.mono (fz_perm fun b hb => live_take hb)⟩
    | bk _ _ => rw [e] at hrun; exact hrun.elim
    | ct _ _ => rw [e] at hrun; exact hrun.elim
    | stuck _ => rw [e] at hrun; exact hrun.elim

/-! ### calls -/
/-- a def of the text is worth f -/
structure Df (g : Gm) (n : Nat) (x : Str) (np : Nat) (f : FnS) : Prop where
  ex : ∃ (a : Addr) (fd : FuncData) (ps : List Str), ps.length = np ∧ g.mg x = some (.ref a) ∧ PySem.W.keepIn g.K (.ref a) = true ∧ Binds g.K fd ps [] ∧ FnOk g.P g.w g.K g.mg g.base (L2.CX g.P g.w) n a fd ps (spM g np f)
def dCall (np : Nat) (f : FnS) (da : DenA) : Den := fun ρ st => (da ρ st).bind fun vs st => if vs.length == np then f vs st else .stuck 83
theorem ed_call {n np : Nat} {x : Str} {f : FnS} {da : DenA} {e : Expr} {es : List Expr} {p pos : Pos} (D : Df g n x np f) (hn : n ≤ l.n) (hg : l.sc.names.lookup x = some .globalImplicit) (ha : AD g l da (e :: es)) (hdb : (x == ("__debug__" : Str)) = false)
    (he : ∀ env, starEach (e :: es) env = (false, eval e env) :: starEach es env) (hpl : ∀ env, (backTo pos (starEach es env)).any (·.1) = false) : ED g l (dCall np f da) (.Call (.Name x p) (e :: es) [] pos) := fun X W J tk => by
  obtain ⟨a, fd, ps, hps, hm, hk, hb, F⟩ := D.ex
  have F' : FnOk X.prog X.w X.K X.mg X.base (L2.CX X.prog X.w) n a fd ps (spM g np f) := by rw [J.p, J.w, J.k, J.m, J.b]; exact F
  refine PE.imp (pe_callSD (E := WE W) F' (J.room.mono hn) (gl_of J hg) (by rw [J.m]; exact hm) (by rw [J.k]; exact hk) (by rw [J.k]; exact hb) .nil (fun σ => passAt tk σ) (ha X W J tk) hdb (he _) (hpl _)) fun σ H Q ⟨ρ, st, κ, L, h⟩ => ?_
  refine ⟨ρ, st, κ, L, (Run.bind h).mono fun xs H1 ⟨vs, st1, κ1, e1, r1, h1⟩ => ?_⟩
  by_cases c : (vs.length == np) = true
  · rw [if_pos c] at h1
    rw [List.append_nil]
    exact ⟨by rw [← r1.length]; exact eq_of_beq c, vs, st1, κ1, e1.sr, r1, h1.slots⟩
  · rw [if_neg c] at h1
    exact h1.elim
end
end Wi

/-! Wi11: methods of lists, in, isinstance. -/
namespace Wi
open PySem L2
section
variable {g : Gm} {l : Lc}
/-! ### in -/
def anyEq (d : PyData) (ds : List PyData) : Bool := ds.any fun z => PyData.eqv z d
def inX (v w : PV) (st : Store) : Option Bool := match toX v st, toX w st with
  | some d, some (.list ds) => if SeqAt.shaped d && SeqAt.shaped (.list ds) then some (anyEq d ds) else none
  | some d, some (.tuple ds) => if SeqAt.shaped d && SeqAt.shaped (.tuple ds) then some (anyEq d ds) else none
  | _, _ => none
def oIn (neg : Bool) : PV → PV → Store → Res PV := fun v w st => match inX v w st with
  | some b => .ok (.bl (if neg then !b else b)) st
  | none => .stuck 90
theorem inX_ok {v w : PV} {st : Store} {b : Bool} (e : inX v w st = some b) : ∃ d c ds, toX v st = some d ∧ toX w st = some c ∧ (c = .list ds ∨ c = .tuple ds) ∧ SeqAt.shaped d = true ∧ SeqAt.shaped c = true ∧ (ds.any fun z => PyData.eqv z d) = b := by
  unfold inX at e
  cases q1 : toX v st with
  | none => simp only [q1] at e; cases e
  | some d =>
    cases q2 : toX w st with
    | none => simp only [q1, q2] at e; cases e
    | some f =>
      cases f with
      | list ds =>
        simp only [q1, q2] at e
        split at e
        · rename_i c
          rw [Bool.and_eq_true] at c
          cases e
          exact ⟨d, _, ds, rfl, rfl, .inl rfl, c.1, c.2, rfl⟩
        · cases e
      | none => simp only [q1, q2] at e; cases e
      | bool _ => simp only [q1, q2] at e; cases e
      | int _ => simp only [q1, q2] at e; cases e
      | str _ => simp only [q1, q2] at e; cases e
      | tuple ds =>
        simp only [q1, q2] at e
        split at e
        · rename_i c
          rw [Bool.and_eq_true] at c
          cases e
          exact ⟨d, _, ds, rfl, rfl, .inr rfl, c.1, c.2, rfl⟩
        · cases e
      | dict _ => simp only [q1, q2] at e; cases e
def rInB (K : PySem.W.Frag) (neg : Bool) : R2 := fun x y H Q => ∃ d c ds, Dp K H x d ∧ Dp K H y c ∧ (c = .list ds ∨ c = .tuple ds) ∧ SeqAt.shaped d = true ∧ SeqAt.shaped c = true ∧ Q (.bl (if neg then !(ds.any fun z => PyData.eqv z d) else (ds.any fun z => PyData.eqv z d))) H
theorem op2_in (neg : Bool) : Op2 g (rInB g.K neg) (oIn neg) := fun v w st κ H x y W σ Q s r1 r2 h => by
  unfold oIn at h
  split at h
  · rename_i b e
    obtain ⟨d, c, ds, q1, q2, q0, q3, q4, q5⟩ := inX_ok e
    exact ⟨d, c, ds, toX_dp s q1 r1, toX_dp s q2 r2, q0, q3, q4, by rw [q5]; exact Run.ret s h rfl⟩
  · exact h.elim
theorem room65 {k : Nat} {A : Around} (r : Room k A) : A.units + 65 < cLine := by have := r.un; omega
theorem op_inB {X : Cx} (hu : X.A.units + 65 < cLine) : OpR X (compareOp .In) (rInB X.K false) := by
  intro pins s σ H x y v u Q I rx ry h
  obtain ⟨d, c, ds, hd, he, hc, sd, se, q⟩ := h
  rcases hc with rfl | rfl
  · obtain ⟨as, r1⟩ := Dp.reads I d x v hd rx
    obtain ⟨bs, r2⟩ := Dp.reads I (.list ds) y u he ry
    exact SeqAt.in_list_reads r2 r1 (SeqAt.canLay_of_shaped se) (SeqAt.canLay_of_shaped sd) (PyProof.Rows.room_in_shaped sd hu) ⟨.bl _, H, I, rfl, q⟩
  · obtain ⟨as, r1⟩ := Dp.reads I d x v hd rx
    obtain ⟨bs, r2⟩ := Dp.reads I (.tuple ds) y u he ry
    exact SeqAt.in_tuple_reads r2 r1 (SeqAt.canLay_of_shaped se) (SeqAt.canLay_of_shaped sd) (PyProof.Rows.room_in_shaped sd hu) ⟨.bl _, H, I, rfl, q⟩
theorem op_notInB {X : Cx} (hu : X.A.units + 65 < cLine) : OpR X (compareOp .NotIn) (rInB X.K true) := by
  intro pins s σ H x y v u Q I rx ry h
  obtain ⟨d, c, ds, hd, he, hc, sd, se, q⟩ := h
  rcases hc with rfl | rfl
  · obtain ⟨as, r1⟩ := Dp.reads I d x v hd rx
    obtain ⟨bs, r2⟩ := Dp.reads I (.list ds) y u he ry
    exact SeqAt.notIn_list_reads r2 r1 (SeqAt.canLay_of_shaped se) (SeqAt.canLay_of_shaped sd) (PyProof.Rows.room_in_shaped sd hu) ⟨.bl _, H, I, rfl, q⟩
  · obtain ⟨as, r1⟩ := Dp.reads I d x v hd rx
    obtain ⟨bs, r2⟩ := Dp.reads I (.tuple ds) y u he ry
    exact SeqAt.notIn_tuple_reads r2 r1 (SeqAt.canLay_of_shaped se) (SeqAt.canLay_of_shaped sd) (PyProof.Rows.room_in_shaped sd hu) ⟨.bl _, H, I, rfl, q⟩
theorem ho_in : ∀ X, Jx g l X → OpR X (compareOp .In) (rInB g.K false) := fun X J => J.k ▸ OpR.imp (op_inB (room65 J.room)) fun _ _ _ _ q => q
theorem ho_notin : ∀ X, Jx g l X → OpR X (compareOp .NotIn) (rInB g.K true) := fun X J => J.k ▸ OpR.imp (op_notInB (room65 J.room)) fun _ _ _ _ q => q

/-! ### methods of a list in a cell -/
/-- what a method does with the list at k -/
def dLm (f : List PV → List PV → Store → Nat → Res PV) (dO : Den) (da : DenA) : Den := fun ρ st => (dO ρ st).bind fun o st => match o with
  | .ref k => match st[k]? with
    | some (.lst _) => (da ρ st).bind fun vs st => match st[k]? with
      | some (.lst xs) => f xs vs st k
      | _ => .stuck 91
    | _ => .stuck 92
  | _ => .stuck 93
def mAppend : List PV → List PV → Store → Nat → Res PV := fun xs vs st k => match vs with
  | [v] => if isTree v && Nat.blt xs.length 16777216 then .ok .non (st.set k (.lst (xs ++ [v]))) else .stuck 94
  | _ => .stuck 95
theorem run_lm {f : List PV → List PV → Store → Nat → Res PV} {r : V → List V → Hp → VK → Prop} {dO : Den} {da : DenA} {W : WX} {σ : L2.St} {H : Hp} {Q : VK}
    (hf : ∀ xs vs st κ H k a ws ys W σ Q, StR g.K g.T g.Tb st κ H → st[k]? = some (.lst xs) → κ[k]? = some a → H a = some (.lst ws) → RepVs g.K g.T (Fz st κ H) xs ws → RXs g κ (Fz st κ H) vs ys → Run g (RX g) W (f xs vs st k) st κ σ H Q → r (.ref a) ys H Q)
    (h : tD g W (dLm f dO da) σ H Q) : tBM g.K "list" r (tD g W dO) (tA g W da) σ H Q := by
  obtain ⟨ρ, st, κ, L, h⟩ := h
  refine ⟨ρ, st, κ, L, (Run.bind h).mono fun x H1 ⟨o, st1, κ1, e1, r1, h1⟩ => ?_⟩
  cases o with
  | ref k =>
    dsimp only at h1
    obtain ⟨a, hk, rfl⟩ := r1
    cases q : st1[k]? with
    | none => rw [q] at h1; exact h1.elim
    | some c =>
      rw [q] at h1
      cases c with
      | lst xs0 =>
        dsimp only at h1
        obtain ⟨a', q1, ws0, q2, q3⟩ := cell_at e1.sr.cells q
        rw [hk] at q1
        cases q1
        refine ⟨.inl ⟨rfl, ws0, SqL.of q2⟩, ρ, st1, κ1, L.xt e1, (Run.bind (R := RXs g) h1).mono fun ys H2 ⟨vs, st2, κ2, e2, r2, h2⟩ => ?_⟩
        cases q' : st2[k]? with
        | none => rw [q'] at h2; exact h2.elim
        | some c2 =>
          rw [q'] at h2
          cases c2 with
          | lst xs =>
            obtain ⟨a', p1, ws, p2, p3⟩ := cell_at e2.sr.cells q'
            have : κ2[k]? = some a := by rw [get_pre e2.pre (List.getElem?_eq_some_iff.mp hk).1]; exact hk
            rw [this] at p1
            cases p1
            exact hf xs vs st2 κ2 H2 k a ws ys W σ Q e2.sr q' this p2 p3 r2 h2
          | frz _ => exact h2.elim
          | ins _ _ => exact h2.elim
      | frz _ => exact h1.elim
      | ins _ _ => exact h1.elim
  | non => exact h1.elim
  | bl _ => exact h1.elim
  | int _ => exact h1.elim
  | str _ => exact h1.elim
  | tup _ => exact h1.elim
  | lst _ => exact h1.elim
  | obj _ _ => exact h1.elim
/-- how a method of a built-in's is written -/
structure BmE (o : Expr) (name : Str) (es : List Expr) (cpos apos : Pos) : Prop where
  base : ∀ env, attributeBase o name env (eval o env) = eval o env
  few : ∀ env, ((backTo cpos (starEach es env)).all (fun x => !x.1) && (backToKw cpos (keywordEach [] env)).all (fun x => x.1.isSome) && decide (es.length + ([] : List Keyword).length + (if ([] : List Keyword).isEmpty then 0 else 1) < 30)) = true
  line : (apos.endLine == cpos.line) = true
theorem ed_append (tb : TbOk g) {o e : Expr} {apos cpos : Pos} {dO d : Den} (B : BmE o "append" [e] cpos apos) (ho : ED g l dO o) (he : ED g l d e) (hs : ∀ env, starEach [e] env = (false, eval e env) :: starEach [] env) : ED g l (dLm mAppend dO (aCons d aNil)) (.Call (.Attribute o "append" apos) [e] [] cpos) := fun X W J tk =>
  PE.imp (pe_bm PySem.F.plainAttrs_list PySem.F.slot_list_append PySem.F.type_list_append mt_append (ho X W J tk) (ad_cons he ad_nil hs X W J tk) (B.base _) (B.few _) B.line (hs _) rfl) fun σ H Q h => by
    rw [J.k]
    refine run_lm (fun xs vs st κ H k a ws ys W σ Q s e hk ha r rx q => ?_) h
    unfold mAppend at q
    split at q
    · rename_i v
      obtain ⟨y, rfl, r1⟩ := rxs1 rx
      by_cases c : (isTree v && Nat.blt xs.length 16777216) = true
      · rw [if_pos c] at q
        rw [Bool.and_eq_true] at c
        have x := cell_upd tb s e hk (r.append (RepVs.one (r1.tree c.1)))
        exact ⟨a, ws, y, rfl, rfl, ha, by rw [← r.length]; exact Nat.lt_of_succ_le (Nat.le_of_ble_eq_true c.2), q _ _ _ x rfl⟩
      · rw [if_neg c] at q
        exact q.elim
    · exact q.elim

/-! ### l.index(x) -/
def findD (d : PyData) : List PyData → Nat → Option Nat
  | [], _ => none
  | z :: zs, k => if PyData.eqv z d then some k else findD d zs (k + 1)
theorem findD_ok {d : PyData} : ∀ {ds : List PyData} {k j : Nat}, findD d ds k = some j → ∃ m, j = k + m ∧ ∃ z, ds[m]? = some z ∧ PyData.eqv z d = true ∧ ∀ (i : Nat) (z' : PyData), i < m → ds[i]? = some z' → PyData.eqv z' d = false
  | [], _, _, e => by cases e
  | z :: zs, k, j, e => by
    unfold findD at e
    by_cases c : PyData.eqv z d = true
    · rw [if_pos c] at e
      cases e
      exact ⟨0, rfl, z, rfl, c, fun i z' hi => by omega⟩
    · rw [if_neg c] at e
      obtain ⟨m, rfl, z1, h1, h2, h3⟩ := findD_ok e
      refine ⟨m + 1, by omega, z1, h1, h2, fun i z' hi hz => ?_⟩
      cases i with
      | zero => cases hz; simpa using c
      | succ i => exact h3 i z' (by omega) hz
/-- list.index of a list as it stands -/
def dIndex (dO d : Den) : Den := fun ρ st => (dO ρ st).bind fun o st => match toX o st with
  | some (.list _) => (d ρ st).bind fun v st => match toX o st, toX v st with
    | some (.list ds), some e => if SeqAt.shaped (.list ds) && SeqAt.shaped e then (match findD e ds 0 with
      | some j => .ok (.int (j : Nat)) st
      | none => .stuck 96) else .stuck 97
    | _, _ => .stuck 98
  | _ => .stuck 99
theorem dp_list {H : Hp} {x : V} {ds : List PyData} (h : Dp g.K H x (.list ds)) : ∃ a xs, x = .ref a ∧ SqL g.K H a xs := by
  cases h with
  | lst h1 h2 => exact ⟨_, _, rfl, h1⟩
theorem ed_index {o e : Expr} {apos cpos : Pos} {dO d : Den} (B : BmE o "index" [e] cpos apos) (ho : ED g l dO o) (he : ED g l d e) (hs : ∀ env, starEach [e] env = (false, eval e env) :: starEach [] env) : ED g l (dIndex dO d) (.Call (.Attribute o "index" apos) [e] [] cpos) := fun X W J tk =>
  PE.imp (pe_bm PySem.F.plainAttrs_list PySem.F.slot_list_index PySem.F.type_list_index (mt_indexD (room65 J.room)) (ho X W J tk) (pa_cons (he X W J tk) pa_nil (hs _)) (B.base _) (B.few _) B.line (hs _) rfl) fun σ H Q ⟨ρ, st, κ, L, h⟩ => ⟨ρ, st, κ, L, (Run.bind h).mono fun x H1 ⟨o', st1, κ1, e1, r1, h1⟩ => by
    rw [J.k]
    cases q : toX o' st1 with
    | none => rw [q] at h1; exact h1.elim
    | some dd =>
      rw [q] at h1
      cases dd with
      | list ds0 =>
        obtain ⟨a, xs, rfl, hq⟩ := dp_list (toX_dp e1.sr q r1)
        refine ⟨.inl ⟨rfl, xs, hq⟩, ρ, st1, κ1, L.xt e1, (Run.bind (R := RX g) h1).mono fun y H2 ⟨v, st2, κ2, e2, r2, h2⟩ => ?_⟩
        cases q1 : toX o' st2 with
        | none => rw [q1] at h2; exact h2.elim
        | some d1 =>
          cases d1 with
          | list ds =>
            cases q2 : toX v st2 with
            | none => rw [q1, q2] at h2; exact h2.elim
            | some d2 =>
              rw [q1, q2] at h2
              dsimp only at h2
              by_cases c : (SeqAt.shaped (.list ds) && SeqAt.shaped d2) = true
              · rw [if_pos c] at h2
                rw [Bool.and_eq_true] at c
                cases q3 : findD d2 ds 0 with
                | none => rw [q3] at h2; exact h2.elim
                | some j =>
                  rw [q3] at h2
                  obtain ⟨m, hm, z, h3, h4, h5⟩ := findD_ok q3
                  have : j = m := by omega
                  subst this
                  exact ⟨a, y, d2, ds, j, z, rfl, rfl, toX_dp e2.sr q1 (r1.mono e2.pre e2.same), toX_dp e2.sr q2 r2, c.1, c.2, h3, h4, h5, Run.ret e2.sr h2 rfl⟩
              · rw [if_neg c] at h2
                exact h2.elim
          | none => rw [q1] at h2; exact h2.elim
          | bool _ => rw [q1] at h2; exact h2.elim
          | int _ => rw [q1] at h2; exact h2.elim
          | str _ => rw [q1] at h2; exact h2.elim
          | tuple _ => rw [q1] at h2; exact h2.elim
          | dict _ => rw [q1] at h2; exact h2.elim
      | none => exact h1.elim
      | bool _ => exact h1.elim
      | int _ => exact h1.elim
      | str _ => exact h1.elim
      | tuple _ => exact h1.elim
      | dict _ => exact h1.elim⟩

/-! ### isinstance with a built-in type -/
def tyP (v : PV) (st : Store) : Option String := match v with
  | .non => some "NoneType"
  | .bl _ => some "bool"
  | .int _ => some "int"
  | .str _ => some "str"
  | .tup _ => some "tuple"
  | .lst _ => some "list"
  | .ref k => match st[k]? with
    | some (.lst _) => some "list"
    | some (.frz _) => some "list"
    | _ => none
  | .obj _ _ => none
theorem tyx_L {H : Hp} {a : Addr} {xs : List V} (h : SqL g.K H a xs) : TyX g.K H (.ref a) (.type "list") := by
  rcases h with (h | ⟨o, h⟩) | ⟨o, its, n, h1, h2, _⟩
  · exact .base (.lst h)
  · exact .base (.frz h)
  · exact .kList h1 h2
theorem tyx_T {H : Hp} {a : Addr} {xs : List V} (h : SqT g.K H a xs) : TyX g.K H (.ref a) (.type "tuple") := by
  rcases h with (h | ⟨o, h⟩) | ⟨o, its, n, h1, h2, _⟩
  · exact .base (.tup h)
  · exact .fTuple h
  · exact .kTuple h1 h2
theorem tyP_ok {v : PV} {st : Store} {κ : List Addr} {H : Hp} {x : V} {t : String} (s : StR g.K g.T g.Tb st κ H) (r : RepX g.K g.T κ (Fz st κ H) v x) (e : tyP v st = some t) : TyX g.K H x (.type t) := by
  cases v with
  | non => cases e; cases (show x = .non from r); exact .base .non
  | bl b => cases e; cases (show x = .bl b from r); exact .base (.bl b)
  | int b => cases e; cases (show x = .int b from r); exact .base (.int b)
  | str b => cases e; cases (show x = .str b from r); exact .base (.str b)
  | tup b => cases e; obtain ⟨a, vs, rfl, q, _⟩ := r; exact tyx_T (TupR.of_fz q)
  | lst b => cases e; obtain ⟨a, vs, rfl, q, _⟩ := r; exact tyx_L (SqL.of_fz q)
  | ref k =>
    unfold tyP at e
    dsimp only at e
    cases q : st[k]? with
    | none => rw [q] at e; cases e
    | some c =>
      rw [q] at e
      cases c with
      | lst xs =>
        cases e
        obtain ⟨a, vs, rfl, q1, q2⟩ := seq_rep s r (show seqOf (.ref k) st = some (true, xs) by unfold seqOf; simp only [q])
        exact tyx_L q1
      | frz xs =>
        cases e
        obtain ⟨a, vs, rfl, q1, q2⟩ := seq_rep s r (show seqOf (.ref k) st = some (true, xs) by unfold seqOf; simp only [q])
        exact tyx_L q1
      | ins _ _ => cases e
  | obj _ _ => cases e
def dIsi (T : String) (d : Den) : Den := fun ρ st => (d ρ st).bind fun v st => match tyP v st with
  | some t => match kitB t T with
    | some b => .ok (.bl b) st
    | none => .stuck 100
  | none => .stuck 101
theorem ed_isi {e : Expr} {d : Den} {T : String} {t : Str} {p p2 pos : Pos} (b : Blt g l "isinstance" (.builtin "isinstance")) (bt : Blt g l t (.type T)) (he : ED g l d e) (hn : t ≠ "__name__") (hdb : (t == ("__debug__" : Str)) = false)
    (hs : ∀ env, starEach [e, .Name t p2] env = (false, eval e env) :: starEach [.Name t p2] env) (hs2 : ∀ env, starEach [.Name t p2] env = (false, eval (.Name t p2) env) :: starEach [] env) (hpl : ∀ env, (backTo pos (starEach [.Name t p2] env)).any (·.1) = false) : ED g l (dIsi T d) (.Call (.Name "isinstance" p) [e, .Name t p2] [] pos) := fun X W J tk =>
  PE.imp (pe_callB call_isi (gl_of J b.gl) (by rw [J.m]; exact b.mg) b.bt (pa_cons (he X W J tk) (pa_cons (pe_bltn (v := .ty T) (gl_of J bt.gl) (by rw [J.m]; exact bt.mg) bt.bt rfl hn hdb) pa_nil (hs2 _)) (hs _)) (by decide) (by decide) (hs _) (hpl _)) fun σ H Q ⟨ρ, st, κ, L, h⟩ => ⟨ρ, st, κ, L, (Run.bind h).mono fun x H1 ⟨v, st1, κ1, e1, r1, h1⟩ => by
    cases q : tyP v st1 with
    | none => rw [q] at h1; exact h1.elim
    | some t' =>
      rw [q] at h1
      dsimp only at h1
      cases q2 : kitB t' T with
      | none => rw [q2] at h1; exact h1.elim
      | some bb =>
        rw [q2] at h1
        refine ⟨x, .ty T, .type t', .type T, bb, rfl, .ty T, ?_, kit_ty q2, Run.ret e1.sr h1 rfl⟩
        rw [J.k]
        exact tyP_ok e1.sr r1 q⟩
end
end Wi

/-! Wi12: lists joined, slices of either kind, pairs stored, short words. -/
namespace Wi
open PySem L2
/-! ### list + list -/
def rCatL (K : PySem.W.Frag) : R2 := fun x y H Q => ∃ l b xs zs, x = .ref l ∧ y = .ref b ∧ SqL K H l xs ∧ SqL K H b zs ∧ xs.length + zs.length ≤ sizeLine ∧ ∀ p, H p = none → Q (.ref p) (upd H p (.lst (xs ++ zs)))
section
variable {X : Cx}
theorem op_catL : OpR X (binaryOp .Add) (rCatL X.K) := by
  intro pins s σ H x y v u Q I rx ry h
  obtain ⟨l, b, xs, zs, rfl, rfl, hH, hB, hz, q⟩ := h
  cases rx
  cases ry
  obtain ⟨its, r, p1, hl⟩ := I.list hH
  obtain ⟨its2, r2, p2, hl2⟩ := I.list hB
  obtain ⟨⟨cls, dd, data, sl⟩, n, ho, hc, hdn, hd⟩ := p1
  obtain ⟨⟨cls2, dd2, data2, sl2⟩, n2, ho2, hc2, hdn2, hd2⟩ := p2
  simp only at hc hdn hd hc2 hdn2 hd2
  subst hc hdn hd hc2 hdn2 hd2
  refine concat_meets ⟨_, ho, rfl⟩ ⟨_, ho2, rfl⟩ noFill_list_add seq_list_add PySem.F.slot_list_add PySem.F.entry_list_add (PySem.F.args_list_add_2 _ _) (PyProof.Rows.list_addW l b its.toArray its2.toArray n n2 none none sl sl2 (by rw [List.size_toArray, List.size_toArray, ← r.length, ← r2.length]; exact hz)) ⟨ho, ho2, ?_⟩
  have ea : its.toArray ++ its2.toArray = (its ++ its2).toArray := by simp
  rw [ea]
  exact ⟨.ref _, _, I.lnew (t' := s.toks) (its := its ++ its2) (r.append r2) (by rw [List.length_append]; omega), rfl, q _ I.fresh⟩
end
section
variable {g : Gm} {l : Lc}
theorem ld_cat (tb : TbOk g) {da db : Den} {a b : Expr} {pos : Pos} (ha : ED g l da a) (hb : ED g l db b) : LD g l (lCat da db) (.BinOp a .Add b pos) := fun X W J tk =>
  PE.imp (pe_op (r := rCatL g.K) (J.k ▸ op_catL) (ha X W J tk) (hb X W J tk)) fun σ H Q ⟨ρ, st, κ, L, h⟩ => ⟨ρ, st, κ, L, (RunL.bind h).mono fun x H1 ⟨v, st1, κ1, e1, r1, h1⟩ =>
    ⟨ρ, st1, κ1, L.xt e1, (RunL.bind2 e1 h1).mono fun y H2 ⟨w, st2, κ2, e2, r2, h2⟩ => by
      split at h2
      · rename_i xs ys q1 q2
        split at h2
        · rename_i c
          obtain ⟨p, vs, rfl, q3, q4⟩ := seq_rep e2.sr (r1.mono e2.pre e2.same) q1
          obtain ⟨p', ws, rfl, q5, q6⟩ := seq_rep e2.sr r2 q2
          exact ⟨p, p', vs, ws, rfl, rfl, q3, q5, by rw [← q4.length, ← q6.length]; exact lineB_ok c, fun q hq => h2 _ _ q _ (NewL.of_upd tb (e1.trans e2) hq (q4.append q6))⟩
        · exact h2.elim
      · exact h2.elim⟩⟩
/-! ### a slice of a list or tuple -/
def dCut (d : Den) (lo hi : DenO) : Den := fun ρ st => (d ρ st).bind fun v st => (lo ρ st).bind fun a st => (hi ρ st).bind fun b st => match v with
  | .tup xs => .ok (.tup (cutP xs a b)) st
  | v => match seqOf v st with
    | some (true, xs) => .ok (.lst (cutP xs a b)) st
    | _ => .stuck 110
theorem sl_any {X : Cx} : L2.SlR X (fun x lo hi H Q => rSlX X.K x lo hi H Q ∨ rSlL X.K x lo hi H Q) := L2.SlR.or sl_tupX sl_list
theorem ed_cut (tb : TbOk g) {a : Expr} {lo hi : Option Expr} {da : Den} {dl dh : DenO} {p2 pos : Pos} (ha : ED g l da a) (hl : PD g l dl lo) (hh : PD g l dh hi) : ED g l (dCut da dl dh) (.Subscript a (.Slice lo hi none p2) pos) := fun X W J tk =>
  PE.imp (pe_slice (r := fun x lo hi H Q => rSlX g.K x lo hi H Q ∨ rSlL g.K x lo hi H Q) (J.k ▸ sl_any) (ha X W J tk) (hl X W J tk) (hh X W J tk)) fun σ H Q ⟨ρ, st, κ, L, h⟩ => ⟨ρ, st, κ, L, (Run.bind h).mono fun x H1 ⟨v, st1, κ1, e1, r1, h1⟩ =>
    ⟨ρ, st1, κ1, L.xt e1, (Run.bind h1).mono fun o H2 ⟨o', st2, κ2, e2, r2, h2⟩ => ⟨ρ, st2, κ2, (L.xt e1).xt e2, (Run.bind h2).mono fun o3 H3 ⟨o3', st3, κ3, e3, r3, h3⟩ => by
      have r2 : o' = o := r2
      have r3 : o3' = o3 := r3
      subst r2 r3
      have rx := (r1.mono e2.pre e2.same).mono e3.pre e3.same
      have lk : (∀ xs, v ≠ .tup xs) → Run g (RX g) W (match seqOf v st3 with | some (true, xs) => .ok (.lst (cutP xs o' o3')) st3 | _ => .stuck 110) st3 κ3 σ H3 Q → rSlL g.K x o' o3' H3 Q := fun _ q => by
        split at q
        · rename_i xs e
          obtain ⟨p, vs, rfl, q1, q2⟩ := seq_rep e3.sr rx e
          refine ⟨p, vs, rfl, q1, fun q' hq => ?_⟩
          have n := NewL.of_upd tb (Ext.refl e3.sr) hq (cut_rep q2 o' o3')
          exact q _ _ _ n.xt n.frz
        · exact q.elim
      cases v with
      | tup xs =>
        obtain ⟨p, vs, rfl, q1, q2⟩ := rx
        refine .inl ⟨p, vs, rfl, TupR.of_fz q1, fun hw => ?_, fun hw q ob hd hq => ?_⟩
        · have hx : cutP xs o' o3' = xs := by unfold cutP; rw [← q2.length] at hw; exact cut_whole hw
          dsimp only at h3
          rw [hx] at h3
          exact Run.ret e3.sr h3 ⟨p, vs, rfl, q1, q2⟩
        · exact h3 _ _ _ (StR.upd_new tb e3.sr hq) (rep_tup_new tb e3.sr hd hq (cut_rep q2 _ _))
      | non => exact .inr (lk (fun _ z => nomatch z) h3)
      | bl _ => exact .inr (lk (fun _ z => nomatch z) h3)
      | int _ => exact .inr (lk (fun _ z => nomatch z) h3)
      | str _ => exact .inr (lk (fun _ z => nomatch z) h3)
      | lst _ => exact .inr (lk (fun _ z => nomatch z) h3)
      | ref _ => exact .inr (lk (fun _ z => nomatch z) h3)
      | obj _ _ => exact .inr (lk (fun _ z => nomatch z) h3)⟩⟩⟩
/-! ### a, b = x, y -/
theorem sd_par2 {i j : Nat} {x y : Str} {a b : Expr} {da : DenA} {px py pt pos : Pos} {kt k2 : Nat} {pt2 : Pos} (hi : l.N[i]? = some x) (hj : l.N[j]? = some y) (hij : i ≠ j) (hx : l.sc.names.lookup x = some .local) (hy : l.sc.names.lookup y = some .local) (ha : AD g l da [a, b])
    (hw : ∀ env, env.scope = l.sc → swappedStores [.Tuple [.Name x px, .Name y py] kt pt] (.Tuple [a, b] k2 pt2) env = pure (some [x, y])) (hs : ∀ env, swapsWithSole [.Tuple [.Name x px, .Name y py] kt pt] (.Tuple [a, b] k2 pt2) pos.line env = pure false) :
    SD g l (sPar i j da) (.Assign [.Tuple [.Name x px, .Name y py] kt pt] (.Tuple [a, b] k2 pt2) pos) := sd_par hi hj hij hx hy ha fun X W J tk =>
  ps_par J.calm (by rw [J.N]; exact J.nd) (by rw [J.N]; exact hi) (by rw [J.N]; exact hj) hij (by rw [J.sc]; exact hx) (by rw [J.sc]; exact hy) (ha X W J tk) (hw _ J.sc) (hs _)
def sPar3 (i j m : Nat) (da : DenA) : DenS := fun ρ st => Res.thenS (da ρ st) ρ fun vs st => match vs with
  | [v, w, u] => .nx (((ρ.set i (some v)).set j (some w)).set m (some u)) st
  | _ => .stuck 54
theorem rxs3 {κ : List Addr} {F : Hp} {v w u : PV} {xs : List V} (h : RXs g κ F [v, w, u] xs) : ∃ x y z, xs = [x, y, z] ∧ RepX g.K g.T κ F v x ∧ RepX g.K g.T κ F w y ∧ RepX g.K g.T κ F u z := by
  obtain ⟨x, r, q, h1, y, r', q', h2, z, r'', q'', h3, h4⟩ := h
  cases h4
  subst q'' q'
  exact ⟨x, y, z, q, h1, h2, h3⟩
theorem sd_par3 {i j m : Nat} {x y z : Str} {a b c : Expr} {da : DenA} {px py pz pt pos : Pos} {kt k2 : Nat} {pt2 : Pos} (hi : l.N[i]? = some x) (hj : l.N[j]? = some y) (hm : l.N[m]? = some z) (hij : i ≠ j) (him : i ≠ m) (hjm : j ≠ m) (hx : l.sc.names.lookup x = some .local) (hy : l.sc.names.lookup y = some .local) (hz : l.sc.names.lookup z = some .local) (ha : AD g l da [a, b, c])
    (hw : ∀ env, env.scope = l.sc → swappedStores [.Tuple [.Name x px, .Name y py, .Name z pz] kt pt] (.Tuple [a, b, c] k2 pt2) env = pure (some [x, y, z])) (hs : ∀ env, swapsWithSole [.Tuple [.Name x px, .Name y py, .Name z pz] kt pt] (.Tuple [a, b, c] k2 pt2) pos.line env = pure false) :
    SD g l (sPar3 i j m da) (.Assign [.Tuple [.Name x px, .Name y py, .Name z pz] kt pt] (.Tuple [a, b, c] k2 pt2) pos) := fun X W J tk =>
  PS.imp (ps_par3 J.calm (by rw [J.N]; exact J.nd) (by rw [J.N]; exact hi) (by rw [J.N]; exact hj) (by rw [J.N]; exact hm) hij him hjm (by rw [J.sc]; exact hx) (by rw [J.sc]; exact hy) (by rw [J.sc]; exact hz) (ha X W J tk) (hw _ J.sc) (hs _)) fun D σ H ⟨ρ, st, κ, L, h⟩ => ⟨ρ, st, κ, L, (RunS.of (R := RXs g) L h).mono fun xs H1 ⟨vs, st1, κ1, e1, r1, h1⟩ => by
    split at h1
    · rename_i v w u
      obtain ⟨x, y, z, rfl, q1, q2, q3⟩ := rxs3 r1
      exact ⟨x, y, z, rfl, h1 κ1 H1 _ (Ext.refl e1.sr) ((((L.xt e1).set (i := i) q1).set (i := j) q2).set (i := m) q3).sl⟩
    · exact h1.elim⟩

/-! ### short words -/
def eqS (o : Option Str) (x : Str) : Bool := match o with
  | some y => y == x
  | none => false
theorem eqS_ok {o : Option Str} {x : Str} (h : eqS o x = true) : o = some x := by
  unfold eqS at h
  split at h
  · rw [eq_of_beq h]
  · cases h
def varB (l : Lc) (i : Nat) (x : Str) : Bool := eqS (l.N[i]?) x && visB l.sc x && !(x == ("__debug__" : Str)) && !(x == ("__classdict__" : Str))
theorem ev (i : Nat) {x : Str} {pos : Pos} (h : varB l i x = true) : ED g l (dVar i) (.Name x pos) := by
  unfold varB at h
  simp only [Bool.and_eq_true, Bool.not_eq_true'] at h
  exact ed_var (eqS_ok h.1.1.1) h.1.1.2 h.1.2 h.2
def tgB (l : Lc) (i : Nat) (x : Str) : Bool := eqS (l.N[i]?) x && locB l x
theorem gv (i : Nat) {x : Str} {pos : Pos} (h : tgB l i x = true) : GD g l (gN i) (.Name x pos) := by
  unfold tgB at h
  rw [Bool.and_eq_true] at h
  exact gd_name (eqS_ok h.1) h.2
def glB (l : Lc) (x : Str) : Bool := match l.sc.names.lookup x with
  | some .globalImplicit => !(x == ("__debug__" : Str)) && !(x == ("__name__" : Str))
  | _ => false
theorem glB_ok {x : Str} (h : glB l x = true) : l.sc.names.lookup x = some .globalImplicit ∧ (x == ("__debug__" : Str)) = false ∧ x ≠ "__name__" := by
  unfold glB at h
  split at h
  · rename_i e
    simp only [Bool.and_eq_true, Bool.not_eq_true'] at h
    refine ⟨e, h.1, fun z => ?_⟩
    subst z
    simp at h
  · cases h
/-- the built-in names that the text leaves alone -/
structure Bl (g : Gm) : Prop where
  tb : TbOk g
  n : ∀ x : Str, (["len", "range", "int", "abs", "tuple", "list", "isinstance", "bool", "str", "any", "all", "zip", "enumerate", "sorted", "divmod", "min", "max", "sum", "reversed"] : List Str).contains x = true → g.mg x = none
theorem Bl.b (B : Bl g) {x : Str} {v : Value} (h : glB l x = true) (h2 : (["len", "range", "int", "abs", "tuple", "list", "isinstance", "bool", "str", "any", "all", "zip", "enumerate", "sorted", "divmod", "min", "max", "sum", "reversed"] : List Str).contains x = true) (h3 : bootBuiltins x = some v) : Blt g l x v := ⟨(glB_ok h).1, B.n x h2, h3⟩
theorem boot_range' : bootBuiltins "range" = some (.type "range") := by decide +kernel
theorem boot_abs' : bootBuiltins "abs" = some (.builtin "abs") := by decide +kernel
theorem boot_isinstance' : bootBuiltins "isinstance" = some (.builtin "isinstance") := by decide +kernel
theorem boot_str' : bootBuiltins "str" = some (.type "str") := by decide +kernel
theorem c_len {e : Expr} {d : Den} {p pos : Pos} (B : Bl g) (h : glB l "len" = true) (he : ED g l d e) (hs : ∀ env, starEach [e] env = (false, eval e env) :: starEach [] env) : ED g l (dFn cLen (aCons d aNil)) (.Call (.Name "len" p) [e] [] pos) :=
  ed_callB hc_len fn_len (B.b h (by decide +kernel) PySem.boot_len) (ad_cons he ad_nil hs) (by decide) (by decide) hs (fun _ => rfl)
theorem c_abs {e : Expr} {d : Den} {p pos : Pos} (B : Bl g) (h : glB l "abs" = true) (he : ED g l d e) (hs : ∀ env, starEach [e] env = (false, eval e env) :: starEach [] env) : ED g l (dFn cAbs (aCons d aNil)) (.Call (.Name "abs" p) [e] [] pos) :=
  ed_callB (fun _ _ => call_abs) fn_abs (B.b h (by decide +kernel) boot_abs') (ad_cons he ad_nil hs) (by decide) (by decide) hs (fun _ => rfl)
theorem c_int {e : Expr} {d : Den} {p pos : Pos} (B : Bl g) (h : glB l "int" = true) (he : ED g l d e) (hs : ∀ env, starEach [e] env = (false, eval e env) :: starEach [] env) : ED g l (dFn cInt (aCons d aNil)) (.Call (.Name "int" p) [e] [] pos) :=
  ed_callTy (fun _ _ => call_int1) fn_int (B.b h (by decide +kernel) (by decide +kernel)) (ad_cons he ad_nil hs) (by decide) (by decide) hs (fun _ => rfl)
theorem c_tup {e : Expr} {d : Den} {p pos : Pos} (B : Bl g) (h : glB l "tuple" = true) (he : ED g l d e) (hs : ∀ env, starEach [e] env = (false, eval e env) :: starEach [] env) : ED g l (dFn cTup (aCons d aNil)) (.Call (.Name "tuple" p) [e] [] pos) :=
  ed_callTy hc_tup (fn_tup B.tb) (B.b h (by decide +kernel) (by decide +kernel)) (ad_cons he ad_nil hs) (by decide) (by decide) hs (fun _ => rfl)
theorem c_list {e : Expr} {d : Den} {p pos : Pos} (B : Bl g) (h : glB l "list" = true) (he : ED g l d e) (hs : ∀ env, starEach [e] env = (false, eval e env) :: starEach [] env) : LD g l (lList d) (.Call (.Name "list" p) [e] [] pos) :=
  ld_list B.tb (B.b h (by decide +kernel) (by decide +kernel)) he (by decide) (by decide) hs
theorem i_rng {tg a : Expr} {d : Den} {p pos : Pos} (B : Bl g) (h : glB l "range" = true) (ha : ED g l d a) (hs : ∀ env, starEach [a] env = [(false, eval a env)]) : ID g l (iRng d) tg (.Call (.Name "range" p) [a] [] pos) :=
  id_range1 (B.b h (by decide +kernel) boot_range') ha hs
theorem i_rng2 {tg a b : Expr} {da db : Den} {p pos : Pos} (B : Bl g) (h : glB l "range" = true) (ha : ED g l da a) (hb : ED g l db b) (hs : ∀ env, starEach [a, b] env = [(false, eval a env), (false, eval b env)]) (hs2 : ∀ env, starEach [b] env = [(false, eval b env)]) : ID g l (Wi.iRng2 (aCons da (aCons db aNil))) tg (.Call (.Name "range" p) [a, b] [] pos) :=
  id_range2 (B.b h (by decide +kernel) boot_range') (ad_cons ha (ad_cons hb ad_nil hs2) fun env => by rw [hs env, hs2 env]) hs hs2
theorem c_isi {e : Expr} {d : Den} {T : String} {t : Str} {p p2 pos : Pos} (B : Bl g) (h : glB l "isinstance" = true) (ht : glB l t = true) (hc : (["len", "range", "int", "abs", "tuple", "list", "isinstance", "bool", "str", "any", "all", "zip", "enumerate", "sorted", "divmod", "min", "max", "sum", "reversed"] : List Str).contains t = true) (hv : bootBuiltins t = some (.type T)) (he : ED g l d e)
    (hs : ∀ env, starEach [e, .Name t p2] env = (false, eval e env) :: starEach [.Name t p2] env) : ED g l (dIsi T d) (.Call (.Name "isinstance" p) [e, .Name t p2] [] pos) :=
  ed_isi (B.b h (by decide +kernel) boot_isinstance') (B.b ht hc hv) he (glB_ok ht).2.2 (glB_ok ht).2.1 hs (fun _ => rfl) (fun _ => rfl)
theorem c_call {n np : Nat} {x : Str} {f : FnS} {da : DenA} {e : Expr} {es : List Expr} {p pos : Pos} (D : Df g n x np f) (hn : Nat.ble n l.n = true) (h : glB l x = true) (ha : AD g l da (e :: es)) (he : ∀ env, starEach (e :: es) env = (false, eval e env) :: starEach es env) (hpl : ∀ env, (backTo pos (starEach es env)).any (·.1) = false) : ED g l (dCall np f da) (.Call (.Name x p) (e :: es) [] pos) :=
  ed_call D (Nat.le_of_ble_eq_true hn) (glB_ok h).1 ha (glB_ok h).2.1 he hpl
theorem pt_n {i : Nat} {x : Str} {pos : Pos} (h : tgB l i x = true) : PtD g l (.n i) (.Name x pos) := fun X J => by
  unfold tgB at h
  rw [Bool.and_eq_true] at h
  exact pg_name (i := i) (by rw [J.N]; exact J.nd) (by rw [J.N]; exact eqS_ok h.1) (by rw [J.sc]; exact loc_of h.2) (fn_of' J h.2)
/-- the names of a tuple target -/
def PtsD (g : Gm) (l : Lc) (is : List Nat) (ts : List Expr) : Prop := ∀ X, Jx g l X → PGs X ts (gsP is)
theorem pts_nil' : PtsD g l [] [] := fun X J => pgs_nil
theorem pts_cons' {i : Nat} {is : List Nat} {x : Str} {pos : Pos} {ts : List Expr} (h : tgB l i x = true) (ht : PtsD g l is ts) (hs : ∀ env, (assignEach (.Name x pos :: ts) env).map (·.2) = assign (.Name x pos) env :: (assignEach ts env).map (·.2)) : PtsD g l (i :: is) (.Name x pos :: ts) := fun X J =>
  pgs_cons (show PG X (.Name x pos) (gName i) from pt_n h X J) (ht X J) (hs _)
theorem pt_t {is : List Nat} {ts : List Expr} {k : Nat} {pos : Pos} (h : PtsD g l is ts) (hn : ∀ env, (assignEach ts env).length = is.length) (hst : ∀ env, (assignEach ts env).findIdx? (·.1) = none) : PtD g l (.t is) (.Tuple ts k pos) := fun X J => by
  have := pg_tup (X := X) (k := k) (pos := pos) J.calm (h X J) (hn _) (hst _)
  rw [J.k] at this
  exact this
def setB (l : Lc) (i : Nat) (x : Str) : Bool := tgB l i x
theorem s_set (i : Nat) {x : Str} {e : Expr} {d : Den} {pos pos' : Pos} (h : tgB l i x = true) (he : ED g l d e) (hs : ∀ env, env.scope = l.sc → swapsWith e (some (.Name x pos')) pos.line env = pure false) : SD g l (sSet i d) (.Assign [.Name x pos'] e pos) := by
  unfold tgB at h
  rw [Bool.and_eq_true] at h
  exact sd_set (eqS_ok h.1) h.2 he hs
end
end Wi

/-! Wi13: from the text's top to the law. -/
namespace Wi
open PySem L2
/-- a def of the text stands in the written part -/
def Dd (K : PySem.W.Frag) (x : Str) (st : Stmt) : Prop :=
  ∃ (f : Addr) (oc : Value) (od : Option Addr) (kV doc pm : Value) (an : Option Addr) (cd ct : Value) (sl : Array (Option Value)), PySem.W.nsIn K mainGlobals x = some (some (.ref f)) ∧
    K.lookup f = some ⟨oc, od, .func (PySem.W.fnOf x x (defArgs st) (defBody st) (defScope st) .none kV doc pm an cd ct), sl⟩ ∧ PySem.W.codeIn K cd x = true ∧ PySem.W.keepIn K (.ref f) = true
theorem dd_mk {K : PySem.W.Frag} {x : Str} {st : Stmt} {f : Addr} {oc : Value} {od : Option Addr} {kV doc pm : Value} {an : Option Addr} {cd ct : Value} {sl : Array (Option Value)} (h1 : PySem.W.nsIn K mainGlobals x = some (some (.ref f)))
    (h2 : K.lookup f = some ⟨oc, od, .func (PySem.W.fnOf x x (defArgs st) (defBody st) (defScope st) .none kV doc pm an cd ct), sl⟩) (h3 : PySem.W.codeIn K cd x = true) (h4 : PySem.W.keepIn K (.ref f) = true) : Dd K x st := ⟨f, oc, od, kV, doc, pm, an, cd, ct, sl, h1, h2, h3, h4⟩
/-- all parameters are given by place -/
def BindA (x : Str) (st : Stmt) (ps : List Str) : Prop := ∀ (kV doc pm : Value) (an : Option Addr) (cdv ct : Value) (us : List Value), us.length = ps.length → bindArgs (PySem.W.fnOf x x (defArgs st) (defBody st) (defScope st) .none kV doc pm an cdv ct) ⟨us, []⟩ = pure (ps.zip us)
theorem df_of {g : Gm} {h : Heap} (KX : g.K.In h) (G : h.Ns mainGlobals g.mg) {x : Str} {st : Stmt} {N ps : List Str} {k : Nat} {b : DenS} (D : Dd g.K x st) (S : FnScope N ps (defScope st)) (bi : BindA x st ps) (sd : SsD g { N := N, sc := defScope st, n := k } b (defBody st)) :
    Df g (k + 1) x ps.length (mkFn N.length b) := by
  obtain ⟨f, oc, od, kV, doc, pm, an, cd, ct, sl, h1, h2, h3, h4⟩ := D
  have F := fun_mk (st := st) h2 h3 h4
  exact ⟨f, _, ps, rfl, PySem.W.mg_of KX G h1, h4, F.binds bi, ok_fn F S sd⟩
def spLaw (K : PySem.W.Frag) : Sp := fun vs H Q _ => ∃ (a : Addr) (ns : List Int), vs = [.ref a] ∧ SqL K H a (ns.map V.int) ∧ ns.length ≤ 63 ∧ ∀ H', Q (.bl true) H'
theorem SqL.to_fz {K : PySem.W.Frag} {H : Hp} {a : Addr} {vs : List V} (h : SqL K H a vs) : SqL K (fz [] H) a vs := by
  rcases h with h | h
  · rcases h with h | ⟨o, h⟩
    · exact .inl (.inl (fz_at (fun z => by cases z) h fun ps z => by cases z))
    · exact .inl (.inr ⟨o, fz_at (fun z => by cases z) h fun ps z => by cases z⟩)
  · exact .inr h
theorem rep_ints {K : PySem.W.Frag} {T : CT} {F : Hp} : ∀ ns : List Int, RepVs K T F (ns.map PV.int) (ns.map V.int)
  | [] => rfl
  | n :: ns => ⟨_, _, rfl, rfl, rep_ints ns⟩
/-- what the law's own def gives, by the plain evaluator -/
theorem law_end {P : Program} {w : World} {K : PySem.W.Frag} {mg : Str → Option Value} {h : Heap} {fa : Addr} {T : CT} {Tb : Hp → Prop} {st : Stmt} {N : List Str} {k : Nat} {b : DenS} (KX : K.In h) (G : h.Ns mainGlobals mg) (hm : mg "law" = some (.ref fa)) (D : Dd K "law" st)
    (S : FnScope N ["script"] (defScope st)) (bi : BindA "law" st ["script"]) (sd : ∀ base : Heap, K.In base → base.Ns mainGlobals mg → SsD ⟨P, w, K, mg, base, T, Tb⟩ { N := N, sc := defScope st, n := k } b (defBody st)) (hT : ∀ H, Tb H)
    (hf : ∀ ns : List Int, ns.length ≤ 63 → ∃ s', mkFn N.length b [.lst (ns.map PV.int)] [] = .ok (.bl true) s') :
    ∃ fd : FuncData, (∀ (s : Shared) (u : Value), BindsTo s fd ⟨[u], []⟩ [("script", u)]) ∧ ∀ base : Heap, K.In base → base.Ns mainGlobals mg → FnOk P w K mg base (L2.CX P w) (k + 1) fa fd ["script"] (spLaw K) := by
  obtain ⟨f, oc, od, kV, doc, pm, an, cd, ct, sl, h1, h2, h3, h4⟩ := D
  have F := fun_mk (st := st) h2 h3 h4
  have e := PySem.W.mg_of KX G h1
  rw [hm] at e
  cases e
  refine ⟨_, fun s u => .of_eq (bi kV doc pm an cd ct [u] rfl), fun base kb nb => (ok_fn (g := ⟨P, w, K, mg, base, T, Tb⟩) F S (sd base kb nb)).imp fun vs H Q E ⟨a, ns, e, hS, hl, k⟩ => ?_⟩
  subst e
  obtain ⟨st, e⟩ := hf ns hl
  refine ⟨rfl, [.lst (ns.map PV.int)], [], [], ⟨rfl, List.nodup_nil, (fun _ z => by cases z), hT H⟩, ⟨.ref a, [], rfl, ⟨a, _, rfl, SqL.to_fz hS, rep_ints ns⟩, rfl⟩, ?_⟩
  rw [e]
  intro κ' H' x xt r
  cases r
  exact k H'
/-- the law's row by its def -/
theorem walk {l : PySem.W.OpenLaw} {n : Nat} {q : Program} {loose : List Str} {XP : (Str → Option Value) → Heap → Prop} {YP : World → Heap → Prop} {d : DefRec} {K : Params → PySem.W.Frag} (hn : l.most = some 63) (hdf : d.params.defaults = []) (hr : Room n callerA)
    (hY : ∀ (w : World) (h : Heap), YP w h → (K w.params).In h)
    (F : ∀ (w : World) (mg : Str → Option Value) (fa : Addr) (h : Heap), (K w.params).In h → h.Ns mainGlobals mg → mg d.name = some (.ref fa) →
      ∃ fd : FuncData, (∀ (s : Shared) (u : Value), BindsTo s fd ⟨[u], []⟩ [("script", u)]) ∧ ∀ base : Heap, (K w.params).In base → base.Ns mainGlobals mg → FnOk l.prog w (K w.params) mg base (L2.CX l.prog w) n fa fd ["script"] (spLaw (K w.params))) :
    PySem.W.WalkO q loose XP YP l.row.toRowW d [] (fun f vs => PySem.call f vs) :=
  L2.walk_of (n := 63) (k := n) (x := "script") (CX := fun w => L2.CX l.prog w) (sp := fun w => spLaw (K w.params)) hn (by decide) hdf hr hY F (fun _ _ a ns hl _ hS => ⟨a, ns, rfl, hS, hl, fun _ => rfl⟩) fun w H s e s' h => by
    obtain ⟨_, _, _, _, _, _, _, _, _, _, _, _, z⟩ := h
    exact z
theorem bl_n {K : PySem.W.Frag} {mg : Str → Option Value} {h : Heap} (KX : K.In h) (G : h.Ns mainGlobals mg)
    (z : PySem.W.nsIn K mainGlobals "len" = some none ∧ PySem.W.nsIn K mainGlobals "range" = some none ∧ PySem.W.nsIn K mainGlobals "int" = some none ∧ PySem.W.nsIn K mainGlobals "abs" = some none ∧ PySem.W.nsIn K mainGlobals "tuple" = some none ∧ PySem.W.nsIn K mainGlobals "list" = some none ∧ PySem.W.nsIn K mainGlobals "isinstance" = some none ∧
      PySem.W.nsIn K mainGlobals "bool" = some none ∧ PySem.W.nsIn K mainGlobals "str" = some none ∧ PySem.W.nsIn K mainGlobals "any" = some none ∧ PySem.W.nsIn K mainGlobals "all" = some none ∧ PySem.W.nsIn K mainGlobals "zip" = some none ∧ PySem.W.nsIn K mainGlobals "enumerate" = some none ∧ PySem.W.nsIn K mainGlobals "sorted" = some none ∧
      PySem.W.nsIn K mainGlobals "divmod" = some none ∧ PySem.W.nsIn K mainGlobals "min" = some none ∧ PySem.W.nsIn K mainGlobals "max" = some none ∧ PySem.W.nsIn K mainGlobals "sum" = some none ∧ PySem.W.nsIn K mainGlobals "reversed" = some none) :
    ∀ x : Str, (["len", "range", "int", "abs", "tuple", "list", "isinstance", "bool", "str", "any", "all", "zip", "enumerate", "sorted", "divmod", "min", "max", "sum", "reversed"] : List Str).contains x = true → mg x = none := fun x hx => by
  obtain ⟨z0, z1, z2, z3, z4, z5, z6, z7, z8, z9, z10, z11, z12, z13, z14, z15, z16, z17, z18⟩ := z
  have hm := List.contains_iff_mem.mp hx
  simp only [List.mem_cons, List.not_mem_nil, or_false] at hm
  rcases hm with rfl | rfl | rfl | rfl | rfl | rfl | rfl | rfl | rfl | rfl | rfl | rfl | rfl | rfl | rfl | rfl | rfl | rfl | rfl <;> exact PySem.W.mg_none_of KX G (by assumption)
end Wi

namespace Wi
open PySem L2
/-! ### equations of plain worths -/
theorem for_nx {b : DenS} {i : Nat} {st : Store} (I : List PV → Sl → Prop) (step : ∀ x xs ρ, I (x :: xs) ρ → ∃ ρ', (b (ρ.set i (some x)) st = .nx ρ' st ∨ b (ρ.set i (some x)) st = .ct ρ' st) ∧ I xs ρ') :
    ∀ xs ρ, I xs ρ → ∃ ρ', forL (gN i) b xs ρ st = .nx ρ' st ∧ I [] ρ'
  | [], ρ, h => ⟨ρ, rfl, h⟩
  | x :: xs, ρ, h => by
    obtain ⟨ρ', e, h'⟩ := step x xs ρ h
    obtain ⟨ρ2, e2, h2⟩ := for_nx I step xs ρ' h'
    refine ⟨ρ2, ?_, h2⟩
    rw [← e2]
    cases e with
    | inl e => simp only [forL, gN, e]
    | inr e => simp only [forL, gN, e]
/-- with a store that changes too -/
theorem for_st {b : DenS} {i : Nat} (I : List PV → Sl → Store → Prop) (step : ∀ x xs ρ st, I (x :: xs) ρ st → ∃ ρ' st', (b (ρ.set i (some x)) st = .nx ρ' st' ∨ b (ρ.set i (some x)) st = .ct ρ' st') ∧ I xs ρ' st') :
    ∀ xs ρ st, I xs ρ st → ∃ ρ' st', forL (gN i) b xs ρ st = .nx ρ' st' ∧ I [] ρ' st'
  | [], ρ, st, h => ⟨ρ, st, rfl, h⟩
  | x :: xs, ρ, st, h => by
    obtain ⟨ρ', st', e, h'⟩ := step x xs ρ st h
    obtain ⟨ρ2, st2, e2, h2⟩ := for_st I step xs ρ' st' h'
    refine ⟨ρ2, st2, ?_, h2⟩
    rw [← e2]
    cases e with
    | inl e => simp only [forL, gN, e]
    | inr e => simp only [forL, gN, e]
theorem comp_go {n : Nat} {c : DenT} {e : Den} {own : List Nat} {ρ : Sl} {st : Store} (f : PV → Bool) (g : PV → PV) : ∀ (xs acc : List PV),
    (∀ x ∈ xs, ∀ st', c ((wipeP ρ own).set n (some x)) st' = .ok (f x) st') → (∀ x ∈ xs, f x = true → ∀ st', e ((wipeP ρ own).set n (some x)) st' = .ok (g x) st') → (∀ x ∈ xs, isTree (g x) = true) → acc.length + xs.length ≤ 16777216 →
    compL (.n n) c e own st.length xs ρ (st ++ [.lst acc]) = .ok (acc ++ (xs.filter f).map g) st
  | [], acc, _, _, _, _ => by simp [compL]
  | x :: xs, acc, hc, he, ht, hl => by
    have c1 := hc x List.mem_cons_self
    unfold compL
    simp only [bindPt, c1, noexc, Res.bind]
    cases q : f x with
    | false =>
      rw [if_neg (by simp), comp_go f g xs acc (fun y h => hc y (List.mem_cons_of_mem _ h)) (fun y h => he y (List.mem_cons_of_mem _ h)) (fun y h => ht y (List.mem_cons_of_mem _ h)) (by simp at hl; omega), List.filter_cons, q, if_neg (by simp)]
    | true =>
      have hb : Nat.blt acc.length 16777216 = true := by simp only [Nat.blt_eq]; simp at hl; omega
      have := comp_go (st := st) f g xs (acc ++ [g x]) (fun y h => hc y (List.mem_cons_of_mem _ h)) (fun y h => he y (List.mem_cons_of_mem _ h)) (fun y h => ht y (List.mem_cons_of_mem _ h)) (by simp at hl ⊢; omega)
      simp only [if_true, he x List.mem_cons_self q, noexc, Res.bind, List.getElem?_concat_length, ht x List.mem_cons_self, hb, Bool.and_self, List.set_append_right _ _ (Nat.le_refl _), Nat.sub_self, List.set_cons_zero]
      rw [this, List.filter_cons, q, if_pos rfl, List.map_cons, List.append_assoc]
      rfl
theorem comp_ok {i : DenI} {n : Nat} {c : DenT} {e : Den} {own : List Nat} {ρ : Sl} {st : Store} {xs : List PV} (f : PV → Bool) (g : PV → PV) (hi : i ρ st = .ok xs st)
    (hc : ∀ x ∈ xs, ∀ st', c ((wipeP ρ own).set n (some x)) st' = .ok (f x) st') (he : ∀ x ∈ xs, f x = true → ∀ st', e ((wipeP ρ own).set n (some x)) st' = .ok (g x) st') (ht : ∀ x ∈ xs, isTree (g x) = true) (hl : xs.length ≤ 16777216) :
    lComp i (.n n) c e own ρ st = .ok ((xs.filter f).map g) st := by
  unfold lComp
  rw [hi]
  show compL (.n n) c e own st.length xs ρ (st ++ [.lst []]) = _
  rw [comp_go f g xs [] hc he ht (by simpa using hl), List.nil_append]
theorem rgP_len (lo : Int) (n : Nat) : (rgP lo n).length = n := by simp [rgP]
theorem rgP_mem {lo : Int} {n : Nat} {x : PV} (h : x ∈ rgP lo n) : ∃ k : Nat, k < n ∧ x = .int (lo + k) := by
  unfold rgP at h
  obtain ⟨k, h1, rfl⟩ := List.mem_map.mp h
  exact ⟨k, by simpa using h1, rfl⟩
/-- what counts up from k -/
def ups (k n : Nat) : List PV := (List.range' k n).map fun i => .int (i : Nat)
theorem rgP_up (n : Nat) : rgP 0 n = ups 0 n := by
  unfold rgP ups
  rw [List.range_eq_range']
  exact List.map_congr_left fun a _ => by rw [Int.zero_add]
theorem ups_succ (k n : Nat) : ups k (n + 1) = .int (k : Nat) :: ups (k + 1) n := by
  unfold ups
  rw [List.range'_succ, List.map_cons]
theorem midB_nat {n : Nat} (h : n < 4611686018427387904) : midB (n : Int) = true := by
  unfold midB
  simp only [Bool.and_eq_true, decide_eq_true_eq]
  omega
theorem small_nat {n : Nat} (h : n < 18446744073709551616) : smallB (n : Int) = true := by
  unfold smallB
  simp only [Bool.and_eq_true, decide_eq_true_eq]
  omega
theorem small_of {n : Int} (h1 : -18446744073709551616 < n) (h2 : n < 18446744073709551616) : smallB n = true := by
  unfold smallB
  simp only [Bool.and_eq_true, decide_eq_true_eq]
  omega
theorem fMul_l {i : Int} (h : smallB i = true) (j : Int) : fMul i j = some (.int (i * j)) := by unfold fMul; rw [h, Bool.true_or, Bool.true_or, if_pos rfl]
theorem fMul_r {j : Int} (h : smallB j = true) (i : Int) : fMul i j = some (.int (i * j)) := by unfold fMul; rw [h, Bool.or_true, Bool.true_or, if_pos rfl]
theorem eq_int (i j : Int) (st : Store) : oEq (.int i) (.int j) st = .ok (.bl (decide (i = j))) st := by
  simp [oEq, eqX, toX, toD, SeqAt.shaped, PyData.eqv]
  try rfl
theorem ne_int (i j : Int) (st : Store) : oNe (.int i) (.int j) st = .ok (.bl (decide (i ≠ j))) st := by
  simp [oNe, eqX, toX, toD, SeqAt.shaped, PyData.eqv]
  try rfl
end Wi
namespace Wi
open PySem L2
theorem iRng_ok {d : Den} {ρ : Sl} {st st' : Store} {j : Int} (h : d ρ st = .ok (.int j) st') (m : midB j = true) : iRng d ρ st = .ok (rgP 0 j.toNat) st' := by
  unfold iRng
  rw [h]
  show (if midB j = true then _ else _) = _
  rw [if_pos m]
theorem iRng_nat {i : Nat} {ρ : Sl} {st : Store} {n : Nat} (h : ρ[i]? = some (some (.int (n : Nat)))) (m : n < 4611686018427387904) : iRng (dVar i) ρ st = .ok (ups 0 n) st := by
  rw [iRng_ok (j := n) (st' := st) (by unfold dVar; rw [h]; rfl) (midB_nat m), rgP_up]
  rfl
theorem iRng2_ok {da : DenA} {ρ : Sl} {st st' : Store} {i j : Int} (h : da ρ st = .ok [.int i, .int j] st') (m1 : midB i = true) (m2 : midB j = true) : Wi.iRng2 da ρ st = .ok (rgP i (j - i).toNat) st' := by
  unfold Wi.iRng2
  rw [h]
  show (if (midB i && midB j) = true then _ else _) = _
  rw [if_pos (by rw [m1, m2]; rfl)]
theorem sFor_ok {i : DenI} {t : DenG} {b : DenS} {ρ : Sl} {st st' : Store} {xs : List PV} (h : i ρ st = .ok xs st') : sFor i t b ρ st = forL t b xs ρ st' := by
  unfold sFor
  rw [h]
  rfl
theorem sSeq_nx {a b : DenS} {ρ ρ' : Sl} {st st' : Store} (h : a ρ st = .nx ρ' st') : sSeq a b ρ st = b ρ' st' := by unfold sSeq; rw [h]
theorem sSeq_rt {a b : DenS} {ρ : Sl} {v : PV} {st st' : Store} (h : a ρ st = .rt v st') : sSeq a b ρ st = .rt v st' := by unfold sSeq; rw [h]
theorem sSet_ok {i : Nat} {d : Den} {ρ : Sl} {v : PV} {st st' : Store} (h : d ρ st = .ok v st') : sSet i d ρ st = .nx (ρ.set i (some v)) st' := by unfold sSet; rw [h]; rfl
theorem sRet_ok {d : Den} {ρ : Sl} {v : PV} {st st' : Store} (h : d ρ st = .ok v st') : sRet d ρ st = .rt v st' := by unfold sRet; rw [h]; rfl
theorem sIf_ok {c : DenT} {a b : DenS} {ρ : Sl} {t : Bool} {st st' : Store} (h : c ρ st = .ok t st') : sIf c a b ρ st = if t then a ρ st' else b ρ st' := by unfold sIf; rw [h]; rfl
theorem mkFn_ok {n : Nat} {b : DenS} {args : List PV} {st : Store} {v : PV} {xs : Store} (h : b (startP n args) st = .rt v (st ++ xs)) (ht : isTree v = true) : mkFn n b args st = .ok v st := by
  unfold mkFn
  rw [h]
  show retV st.length v (st ++ xs) = _
  cases v <;> first | (cases ht; done) | (show Res.ok _ _ = _; rw [List.take_left'] ; rfl)
theorem mkFn_ok0 {n : Nat} {b : DenS} {args : List PV} {st : Store} {v : PV} (h : b (startP n args) st = .rt v st) (ht : isTree v = true) : mkFn n b args st = .ok v st := mkFn_ok (xs := []) (by rw [h, List.append_nil]) ht
theorem dCall_ok {np : Nat} {f : FnS} {da : DenA} {ρ : Sl} {vs : List PV} {st st' : Store} (h : da ρ st = .ok vs st') (hl : vs.length = np) : dCall np f da ρ st = f vs st' := by
  unfold dCall
  rw [h]
  show (if vs.length == np then _ else _) = _
  rw [if_pos (by simpa using hl)]
end Wi
namespace Wi
open PySem L2
theorem dOp2_ok {f : PV → PV → Store → Res PV} {da db : Den} {ρ : Sl} {st st1 st2 : Store} {v w : PV} {r : Res PV} (h1 : da ρ st = .ok v st1) (h2 : db ρ st1 = .ok w st2) (h3 : f v w st2 = r) : dOp2 f da db ρ st = r := by
  unfold dOp2
  rw [h1]
  show (db ρ st1).bind _ = _
  rw [h2]
  exact h3
theorem aCons_ok {d : Den} {da : DenA} {ρ : Sl} {st st1 st2 : Store} {v : PV} {vs : List PV} (h1 : d ρ st = .ok v st1) (h2 : da ρ st1 = .ok vs st2) : aCons d da ρ st = .ok (v :: vs) st2 := by
  unfold aCons
  rw [h1]
  show (da ρ st1).bind _ = _
  rw [h2]
  rfl
theorem dB_ok {d : Den} {ρ : Sl} {st st' : Store} {b : Bool} (h : d ρ st = .ok (.bl b) st') : dB d ρ st = .ok b st' := by unfold dB; rw [h]; rfl
end Wi
namespace Wi
open PySem L2
/-- whole numbers as a line of values -/
def pns (ns : List Nat) : List PV := ns.map fun (n : Nat) => PV.int (n : Nat)
theorem ups_eq (k n : Nat) : ups k n = pns (List.range' k n) := rfl
theorem toDs_pns (ns : List Nat) : toDs (pns ns) = some (ns.map fun (n : Nat) => PyData.int (n : Nat)) := by
  induction ns with
  | nil => rfl
  | cons n ns ih =>
    show toDs (PV.int (n : Nat) :: pns ns) = _
    unfold toDs
    rw [ih]
    rfl
theorem canLay_ints (ns : List Nat) : PyData.canLayAll0 (ns.map fun (n : Nat) => PyData.int (n : Nat)) = true := by
  induction ns with
  | nil => rfl
  | cons n ns ih =>
    rw [List.map_cons]
    unfold PyData.canLayAll0
    rw [ih]
    rfl
theorem depth_ints (ns : List Nat) : PyData.depthAll (ns.map fun (n : Nat) => PyData.int (n : Nat)) = 0 := by
  induction ns with
  | nil => rfl
  | cons n ns ih =>
    rw [List.map_cons]
    unfold PyData.depthAll
    rw [ih]
    rfl
theorem shaped_ints (ns : List Nat) : SeqAt.shaped (.list (ns.map fun (n : Nat) => PyData.int (n : Nat))) = true := by
  unfold SeqAt.shaped PyData.canLay0 PyData.depth
  rw [canLay_ints, depth_ints]
  rfl
theorem anyEq_ints (k : Nat) (ns : List Nat) : anyEq (.int (k : Nat)) (ns.map fun (n : Nat) => PyData.int (n : Nat)) = decide (k ∈ ns) := by
  induction ns with
  | nil => rfl
  | cons n ns ih =>
    unfold anyEq at ih ⊢
    rw [List.map_cons, List.any_cons, ih]
    have : PyData.eqv (.int (n : Nat)) (.int (k : Nat)) = decide (k = n) := by
      show ((n : Int) == (k : Int)) = _
      by_cases h : k = n
      · subst h; rw [decide_eq_true rfl]; exact beq_self_eq_true _
      · rw [decide_eq_false h]; exact beq_eq_false_iff_ne.mpr (by omega)
    rw [this]
    by_cases h : k = n <;> simp [h]
theorem in_ints (neg : Bool) (k : Nat) (ns : List Nat) (st : Store) : oIn neg (.int (k : Nat)) (.lst (pns ns)) st = .ok (.bl (if neg then !decide (k ∈ ns) else decide (k ∈ ns))) st := by
  have e : inX (.int (k : Nat)) (.lst (pns ns)) st = some (decide (k ∈ ns)) := by
    unfold inX
    rw [show toX (.int (k : Nat)) st = some (.int (k : Nat)) from rfl, show toX (.lst (pns ns)) st = (toDs (pns ns)).map .list from by unfold toX toD; rfl, toDs_pns]
    show (if _ then _ else _) = _
    rw [if_pos (by rw [shaped_ints]; rfl), anyEq_ints]
  unfold oIn
  rw [e]
theorem filter_pns (f : PV → Bool) (p : Nat → Bool) (ns : List Nat) (h : ∀ n ∈ ns, f (.int (n : Nat)) = p n) : (pns ns).filter f = pns (ns.filter p) := by
  induction ns with
  | nil => rfl
  | cons n ns ih =>
    have h1 := h n List.mem_cons_self
    have h2 := ih fun m hm => h m (List.mem_cons_of_mem _ hm)
    show (PV.int (n : Nat) :: pns ns).filter f = _
    rw [List.filter_cons, List.filter_cons, h1, h2]
    split <;> rfl
theorem map_id_pns (ns : List Nat) : (pns ns).map (fun x => x) = pns ns := List.map_id' _
theorem pns_len (ns : List Nat) : (pns ns).length = ns.length := by simp [pns]
theorem mem_pns {x : PV} {ns : List Nat} (h : x ∈ pns ns) : ∃ n ∈ ns, x = .int (n : Nat) := by
  obtain ⟨n, h1, rfl⟩ := List.mem_map.mp h
  exact ⟨n, h1, rfl⟩
end Wi
namespace Wi
open PySem L2
theorem a1_ok {d : Den} {ρ : Sl} {st st1 : Store} {v : PV} (h1 : d ρ st = .ok v st1) : aCons d aNil ρ st = .ok [v] st1 := aCons_ok h1 rfl
theorem a2_ok {d e : Den} {ρ : Sl} {st st1 st2 : Store} {v w : PV} (h1 : d ρ st = .ok v st1) (h2 : e ρ st1 = .ok w st2) : aCons d (aCons e aNil) ρ st = .ok [v, w] st2 := aCons_ok h1 (a1_ok h2)
theorem a3_ok {d e f : Den} {ρ : Sl} {st st1 st2 st3 : Store} {v w u : PV} (h1 : d ρ st = .ok v st1) (h2 : e ρ st1 = .ok w st2) (h3 : f ρ st2 = .ok u st3) : aCons d (aCons e (aCons f aNil)) ρ st = .ok [v, w, u] st3 := aCons_ok h1 (a2_ok h2 h3)
theorem dVar_ok {i : Nat} {ρ : Sl} {st : Store} {v : PV} (h : ρ[i]? = some (some v)) (ht : isTree v = true) : dVar i ρ st = .ok v st := by
  unfold dVar
  rw [h]
  cases v <;> first | (cases ht; done) | rfl
theorem dFn_ok {f : List PV → Store → Res PV} {da : DenA} {ρ : Sl} {st st' : Store} {vs : List PV} {r : Res PV} (h : da ρ st = .ok vs st') (h2 : f vs st' = r) : dFn f da ρ st = r := by
  unfold dFn
  rw [h]
  exact h2
theorem dFrz_ok {d : DenL} {ρ : Sl} {st st' : Store} {xs : List PV} (h : d ρ st = .ok xs st') : dFrz d ρ st = .ok (.lst xs) st' := by
  unfold dFrz
  rw [h]
  rfl
theorem len_lst (xs : List PV) (st : Store) : cLen [.lst xs] st = .ok (.int (xs.length : Nat)) st := rfl
theorem dC_ok (v : PV) (ρ : Sl) (st : Store) : dC v ρ st = .ok v st := rfl
theorem iSeq_ok {d : Den} {ρ : Sl} {st : Store} {xs : List PV} (h : d ρ st = .ok (.lst xs) st) : iSeq d ρ st = .ok xs st := by
  unfold iSeq dFreeze
  rw [h]
  rfl
theorem iSeq_tup {d : Den} {ρ : Sl} {st : Store} {xs : List PV} (h : d ρ st = .ok (.tup xs) st) : iSeq d ρ st = .ok xs st := by
  unfold iSeq dFreeze
  rw [h]
  rfl
end Wi
namespace Wi
open PySem L2
theorem for_one {i : Nat} {b : DenS} {x : PV} {xs : List PV} {ρ ρ' : Sl} {st st' : Store} (h : b (ρ.set i (some x)) st = .nx ρ' st') : forL (gN i) b (x :: xs) ρ st = forL (gN i) b xs ρ' st' := by
  simp only [forL, gN, h]
theorem map_id_pns_of {xs : List PV} {ns : List Nat} (h : xs = pns ns) : xs.map (fun x => x) = pns ns := by rw [h, map_id_pns]
end Wi
namespace Wi
open PySem L2
theorem while_go {c : DenT} {b : DenS} {n : Nat} {ρ ρ' : Sl} {st st' st2 : Store} (h : c ρ st = .ok true st') (h2 : b ρ st' = .nx ρ' st2) : whileL c b (n + 1) ρ st = whileL c b n ρ' st2 := by
  rw [whileL.eq_def]
  simp only [h, Res.thenS, if_true, h2]
theorem while_end {c : DenT} {b : DenS} {n : Nat} {ρ : Sl} {st st' : Store} (h : c ρ st = .ok false st') : whileL c b (n + 1) ρ st = .nx ρ st' := by
  rw [whileL.eq_def]
  simp only [h, Res.thenS]
  rfl
theorem sWhile_at {c : DenT} {b : DenS} {ρ : Sl} {st : Store} (k : Nat) (h : k ≤ 99999) : sWhile c b ρ st = whileL c b (k + (99999 - k) + 1) ρ st := by
  rw [show k + (99999 - k) + 1 = whileN from by unfold whileN; omega]
  rfl
theorem log_le {n m : Nat} (h : n ≤ 2 ^ m) : n.log2 ≤ m := by
  have := PySem.Flt.log2_lt_of (n := n) (k := m + 1) (by omega) (Nat.lt_of_le_of_lt h (by rw [Nat.pow_succ]; have := Nat.two_pow_pos m; omega))
  omega
theorem op_mul_w {i j : Int} {a b : Nat} (h1 : i.natAbs ≤ 2 ^ a) (h2 : j.natAbs ≤ 2 ^ b) (h : a + b < 1000000) (st : Store) : opInt fMul (.int i) (.int j) st = .ok (.int (i * j)) st := by
  have e : fMul i j = some (.int (i * j)) := by
    unfold fMul
    have := log_le h1
    have := log_le h2
    rw [if_pos (by rw [Bool.or_eq_true, decide_eq_true_eq]; exact .inr (by omega))]
  unfold opInt
  simp only [e]
end Wi
namespace Wi
open PySem L2
theorem sPar_ok {i j : Nat} {da : DenA} {ρ : Sl} {st st' : Store} {v w : PV} (h : da ρ st = .ok [v, w] st') : sPar i j da ρ st = .nx ((ρ.set i (some v)).set j (some w)) st' := by
  unfold sPar
  rw [h]
  rfl
end Wi

set_option maxHeartbeats 1000000
namespace Wi
open PySem L2 PySem.Spec PyProof.Rows GenW
/-! ### a generator expression, turn by turn -/
/-- one who eats: his pins by what he ate, what he does while the other sleeps -/
structure Eat where
  pin : List V → List (Addr × Obj) → Prop
  slp : Value → Shared → Shared → Prop
  cont : V → Prop
structure Eat.Ok (C : Eat) (X : Cx) : Prop where
  woken : ∀ {ys : List V} {x : V} {pins ip : List (Addr × Obj)} {σ : L2.St} {H : Hp} {s s' : Shared} {v : Value}, C.pin ys pins → (∀ p ∈ ip, ∀ q ∈ pins, q.1 ≠ p.1) → Inv X (pins ++ ip) σ H s → RelV x v → C.slp v s s' → ∃ pins', C.pin (ys ++ [x]) pins' ∧ Inv X (pins' ++ ip) σ H s' ∧ ∀ p' ∈ pins', ∃ p ∈ pins, p.1 = p'.1
  more : ∀ {y : V} {v : Value} {s s' : Shared}, RelV y v → C.slp v s s' → C.cont y
def EndG (X : Cx) (C : Eat) (End : List V → Hp → Prop) : GenEnd := fun n s₀ r s1 => r = .ok .next ∧ ∃ ys σ H pins, ys.length ≤ sizeLine ∧ C.pin ys pins ∧ Inv X pins σ H s1 ∧ End ys H
def YldG (X : Cx) (C : Eat) (Out : List V → V → Hp → Prop) : Protocol := fun n s₀ v s1 kap =>
  ∃ ys y σ H pins, n + 1 + ys.length = sizeLine ∧ RelV y v ∧ C.pin ys pins ∧ Inv X pins σ H s1 ∧ Out ys y H ∧ ∀ s', C.slp v s1 s' → kap (.send .none) s'
theorem seg_gen {X : Cx} {elt tg iter : Expr} {ifs : List Expr} {scope : Scope} {pos : Pos} {it : Addr} {fp : List Addr} {tn : Nat → Heap → Prop} {J : It} {g : TG} {tt : TT} {te : TE}
    (hc : X.calm = true) (T : Turn X.prog X.w X.K tg J fp it tn) (hg : PG X tg g) (ht : PTs X ifs tt) (he : PE X elt te) (C : Eat) (ok : C.Ok X) (hco : X.env.scope.isCoroutine = false)
    {A : Around} (hA : A.over (.compLoop (.GeneratorExp elt [⟨tg, iter, ifs, 0⟩] scope pos) 0 (.ref it) .none X.env) [] = X.A) (hxe : ∀ e s, X.xe e s → False)
    (W : Nat → Nat → List V → L2.St → Hp → Prop) (Out : List V → V → Hp → Prop) (End : List V → Hp → Prop)
    (turn : ∀ i m ys σ H, W i m ys σ H → (J.stop i H ∧ End ys H) ∨ (J.go i H ∧ ∀ x H', J.yld i H x H' → g x σ H' fun σ2 H2 => tt σ2 H2 fun b H3 =>
      if b = true then te σ2 H3 fun y H4 => ys.length < sizeLine ∧ Out ys y H4 ∧ (C.cont y → ∃ m', m' < m ∧ W (i + 1) m' (ys ++ [y]) σ2 H4) else ∃ m', m' < m ∧ W (i + 1) m' ys σ2 H3)) :
    ∀ (m n i : Nat) (ys : List V) (σ : L2.St) (H : Hp) (pins : List (Addr × Obj)) (s₀ s : Shared), n + ys.length = sizeLine → C.pin ys pins → Inv X pins σ H s → tn i s.heap → (∀ b ∈ fp, FpOk X pins H b) → W i m ys σ H →
      Seg (model X.prog X.w) A (EndG X C End) (YldG X C Out) n s₀ (.compLoop (.GeneratorExp elt [⟨tg, iter, ifs, 0⟩] scope pos) 0 (.ref it) .none X.env)
        ((model X.prog X.w).den (.compLoop (.GeneratorExp elt [⟨tg, iter, ifs, 0⟩] scope pos) 0 (.ref it) .none X.env)) [] s := by
  intro m
  induction m using Nat.strongRecOn with
  | ind m ih =>
    intro n i ys σ H pins s₀ s hn hp I st fo w
    show Seg _ A _ _ _ s₀ _ ((compTurn (.GeneratorExp elt [⟨tg, iter, ifs, 0⟩] scope pos) 0 (.ref it) .none X.env).onRaise (leaving X.env)) [] s
    rw [compTurn_gen, Sem.onRaise_eq_wrap]
    refine seg_bind_wrap (wpAny_standAt ?_)
    rcases turn i m ys σ H w with ⟨stop, fin⟩ | ⟨go, step⟩
    · refine seg_bind_wrap ?_
      rw [hA]
      refine wpAny_mono (T.done X rfl rfl rfl hc i pins s σ H X.xe I fo st stop) (fun r s4 ⟨hr, I4⟩ => ?_) fun e s' hx => (hxe e s' hx).elim
      subst hr
      exact seg_end (.ok .next) ⟨rfl, ys, σ, H, pins, by omega, hp, I4, fin⟩
    · refine seg_bind_wrap ?_
      rw [hA]
      refine wpAny_mono (T.item X rfl rfl rfl hc i pins s σ H X.xe I fo st go) (fun r s4 ⟨u, hr, h4⟩ => ?_) fun e s' hx => (hxe e s' hx).elim
      subst hr
      refine seg_bind_wrap ?_
      rw [hA]
      refine wpAny_mono h4 (fun _ s5 ⟨x, H5, I5, r5, y5, st5, fr5⟩ => ?_) fun e s' hx => (hxe e s' hx).elim
      have fo5 : ∀ b ∈ fp, FpOk X pins H5 b := fun b hb => ⟨fr5 b hb, (fo b hb).2⟩
      have I5' := I5.pinned fo5 (T.obj _ _ st5)
      refine seg_bind_wrap ?_
      rw [hA]
      refine wpAny_mono (hg.run _ s5 σ H5 x u _ I5' r5 (step x H5 y5)) (fun _ s6 ⟨σ6, H6, I6, q6⟩ => ?_) fun e s' hx => (hxe e s' hx).elim
      refine seg_bind_wrap ?_
      rw [hA]
      refine wpAny_mono (ht.run _ s6 σ6 H6 _ I6 q6) (fun b s7 ⟨H7, I7, q7⟩ => ?_) fun e s' hx => (hxe e s' hx).elim
      have nx : ∀ {pins' : List (Addr × Obj)} {σ7 : L2.St} {H7 : Hp} {s7 : Shared}, (∀ p' ∈ pins', ∃ p ∈ pins, p.1 = p'.1) → Inv X (pins' ++ pinsAt fp s5.heap) σ7 H7 s7 → tn (i + 1) s7.heap ∧ ∀ b ∈ fp, FpOk X pins' H7 b := fun {pins' σ7 H7 s7} hpp I7 => by
        refine ⟨T.keep _ _ _ st5 fun b hb o e => (I7.pin (b, o) (List.mem_append_right _ (List.mem_append_right _ (mem_pinsAt hb e)))).1, fun b hb => ?_⟩
        obtain ⟨o, e, d⟩ := T.obj _ _ st5 b hb
        obtain ⟨f1, f2, f3, f4, f5, f6⟩ := fo b hb
        refine ⟨(I7.pin (b, o) (List.mem_append_right _ (List.mem_append_right _ (mem_pinsAt hb e)))).2.1, f2, f3, f4, f5, fun p hp => ?_⟩
        rcases List.mem_append.mp hp with z | z
        · exact f6 p (List.mem_append_left _ z)
        · obtain ⟨p0, z0, ez⟩ := hpp p z
          rw [← ez]
          exact f6 p0 (List.mem_append_right _ z0)
      cases b with
      | false =>
        simp only [Bool.false_eq_true, if_false] at q7 ⊢
        obtain ⟨m', hm, w7⟩ := q7
        obtain ⟨st7, fo7⟩ := nx (fun p hp => ⟨p, hp, rfl⟩) I7
        exact seg_again rfl (ih m' hm n (i + 1) ys σ6 H7 pins s₀ s7 hn hp I7.unpinned st7 fo7 w7)
      | true =>
        simp only [if_true] at q7 ⊢
        have hy : ∀ v, yieldOut X.env v = yieldValue v := fun v => by simp only [yieldOut, hco, Bool.false_eq_true, if_false]
        simp only [hy]
        rw [Sem.bind_eq_wrap', Sem.bind_eq_wrap', Sem.wrap_wrap, Sem.wrap_wrap]
        refine seg_wrap ?_
        rw [hA]
        refine wpAny_mono (he.run _ s7 σ6 H7 _ I7 q7) (fun v s8 ⟨y, H8, I8, ry, hlt, out, more⟩ => ?_) fun e s' hx => (hxe e s' hx).elim
        obtain ⟨n, rfl⟩ : ∃ k, n = k + 1 := ⟨n - 1, by omega⟩
        refine seg_at (seg_yield rfl rfl rfl ⟨ys, y, σ6, H8, _, hn, ry, hp, I8.unpinned, out, fun s'' hs => ?_⟩)
        obtain ⟨m', hm, w8⟩ := more (ok.more ry hs)
        obtain ⟨pins', hp', I9, hpp⟩ := ok.woken hp (fun p q z hz => (fo p.1 (of_pinsAt q).1).2.2.2.2.2 z (List.mem_append_right _ hz)) I8 ry hs
        obtain ⟨st9, fo9⟩ := nx hpp I9
        refine seg_again rfl (ih m' hm n (i + 1) (ys ++ [y]) σ6 H8 pins' s'' s'' ?_ hp' I9.unpinned st9 fo9 w8)
        rw [List.length_append, List.length_singleton]
        omega
/-! ### its frame -/
theorem over_gx {A : Around} {elt tg iter : Expr} {ifs : List Expr} {scope : Scope} {pos : Pos} {it acc : Value} {env : Env} :
    A.over (.compLoop (.GeneratorExp elt [⟨tg, iter, ifs, 0⟩] scope pos) 0 it acc env) [] = A.deeper env := by
  first
    | rfl
    | (obtain ⟨hd, d, fr, gs, u⟩ := A; simp [Around.over, Around.deeper, marksOver, frameCount, unitsOf, envsOf, guardsOf, pushEnvs, pushGuards, Code.envs, Code.env?, Code.isFrame, Code.guards, Code.isGuard, Code.weight, Code.frames, Code.isCreation, Code.isCaller, Code.cUnits])
theorem over_gs {A : Around} {elt tg iter : Expr} {ifs : List Expr} {scope : Scope} {pos : Pos} {it acc : Value} {env : Env} :
    A.over (.compStart (.GeneratorExp elt [⟨tg, iter, ifs, 0⟩] scope pos) 0 it acc env) [] = A.deeper env := by
  first
    | rfl
    | (obtain ⟨hd, d, fr, gs, u⟩ := A; simp [Around.over, Around.deeper, marksOver, frameCount, unitsOf, envsOf, guardsOf, pushEnvs, pushGuards, Code.envs, Code.env?, Code.isFrame, Code.guards, Code.isGuard, Code.weight, Code.frames, Code.isCreation, Code.isCaller, Code.cUnits])
theorem newEnv_gx {M : Model} {A : Around} {E : Value → Shared → Prop} {s : Shared} {scope : Scope} {globals : Addr} {cl : List (Str × Addr)} {qual : Str} {code it : Value} {bi : Addr} {Q : Env → Shared → Prop}
    (hk : scope.kind = .function) (h0 : scope.names.lookup (".0" : Str) = some NameKind.local)
    (hQ : ∀ h' tk, h'.Ns s.heap.objs.size (fun y => if y = ".0" then some it else none) → Heap.SameBut s.heap.objs.size (pushCells (s.heap.push { cls := .type "frame", data := .dict #[] }) scope.names) h' →
      Q (newEnv scope s.heap.objs.size globals (cellsFrom (s.heap.objs.size + 1) scope.names cl) qual none code none bi) { s with heap := h', toks := tk }) :
    wpAny M A (newFunctionEnv scope globals cl [(".0", it)] qual none code none bi) Q E s := by
  simp only [newFunctionEnv, Option.isSome_none, Bool.false_eq_true, if_false]
  refine wpAny_bind (wpAny_alloc ?_)
  refine wpAny_bind (wpAny_layCells _ (fun name kind cells => by cases kind == NameKind.cell <;> simp) _ _ _ _ ?_)
  rw [show ({ s with heap := s.heap.push { cls := .type "frame", data := .dict #[] } } : Shared).heap.objs.size = s.heap.objs.size + 1 from Heap.size_push ..]
  rw [List.forIn_cons]
  refine wpAny_bind (wpAny_bind (wpAny_bind (wpAny_storeName_local h0 ((Heap.Ns.new s.heap (.type "frame")).keeps (pushCells_keeps _ _)) (fun h' hn' hs' => ?_) (by show (scope.kind == _ || (scope.kind == _ && _)) = false; rw [hk]; rfl))))
  refine wpAny_pure ?_
  show wpAny M A (forIn (m := Sem) ([] : List (Str × Value)) PUnit.unit _) _ _ _
  rw [List.forIn_nil]
  exact wpAny_pure (wpAny_pure (hQ h' _ hn' hs'))
/-- the frame of a generator expression -/
abbrev gxEnv (scope : Scope) (cl : List (Str × Addr)) (C : Addr) (code : Value) (bi : Addr) (env : Env) : Env := newEnv scope C env.globals cl (env.qual ++ "<genexpr>.") none code none bi
abbrev gxc (X : Cx) (s : Shared) (H : Hp) (e2 : Env) (fp : List Addr) (A2 : Around) (pn2 : List (Addr × Obj)) : Cx :=
  { X with A := A2, s_0 := s, H_0 := H, env := e2, outer := X.stack, stack := e2 :: X.stack, ex := fp, fn := fun x => e2.scope.names.lookup x == some .cell, calm := true, pn := pn2, xe := fun _ _ => False }
abbrev gxCells (X : Cx) (scope : Scope) (s : Shared) : List (Str × Addr) := cellsFrom (s.heap.objs.size + 1) scope.names (cloFrom X.env.cells scope.names [])
theorem gen_start {X : Cx} {pins pn2 pins2 : List (Addr × Obj)} {σ : L2.St} {H : Hp} {s s2 : Shared} {scope : Scope} {own : List (Str × Nat)} {fp : List Addr} {code : Value} {A2 : Around} {m : Str → Option Value}
    (I : Inv X pins σ H s) (ok : BlkOk X.N X.env.scope scope own) (hN : X.N.Nodup) (hfp : ∀ b ∈ fp, FpOk X pins H b ∧ b < s.heap.objs.size)
    (hfr : A2.frames = some (gxEnv scope (gxCells X scope s) s.heap.objs.size code builtinsNs X.env :: X.stack)) (hhd : A2.handled = none)
    (os : s2.os = s.os) (bare : AllBare s2.gens) (kp : ∀ b o, s.heap.get? b = some o → s2.heap.get? b = some o) (ns : s2.heap.Ns s.heap.objs.size m)
    (nc : ∀ c v, (pushCells (s.heap.push { cls := .type "frame", data := .dict #[] }) scope.names).IsCell c v → s.heap.objs.size < c → s2.heap.IsCell c v)
    (hp : ∀ p ∈ pn2 ++ pins2, s2.heap.get? p.1 = some p.2 ∧ H p.1 = none ∧ p.1 ≠ s.heap.objs.size ∧ p.1 ∉ frs X.stack ∧ ∀ v, p.2.data ≠ .cell v) :
    Inv (gxc X s H (gxEnv scope (gxCells X scope s) s.heap.objs.size code builtinsNs X.env) fp A2 pn2) pins2 (wipe σ (own.map (·.2))) H s2 := by
  have capt : ∀ y ∈ scope.names, y.2 = .free → ∃ c, X.env.cells.lookup y.1 = some c := fun y hy e => (ok.free y hy e).elim (fun z => I.ok.has _ (.inl z)) fun z => I.ok.has _ (.inr z)
  have old : ∀ {y c}, (y, c) ∈ cloFrom X.env.cells scope.names [] → X.env.cells.lookup y = some c ∧ c < s.heap.objs.size := fun {y c} hm => by
    rcases cloFrom_mem hm with z | ⟨z, e⟩
    · cases z
    · obtain ⟨c2, h2⟩ := capt _ z rfl
      rw [h2] at e
      subst e
      obtain ⟨w2, z2⟩ := I.cell _ _ h2
      exact ⟨h2, z2.lt⟩
  generalize hE : gxEnv scope (gxCells X scope s) s.heap.objs.size code builtinsNs X.env = e2 at hfr ⊢
  have eL : e2.locals = s.heap.objs.size := by rw [← hE]; rfl
  have eS : e2.scope = scope := by rw [← hE]; rfl
  have eK : ∀ y, e2.kindOf y = scope.names.lookup y := fun y => by unfold Env.kindOf; rw [eS]
  have eF : e2.frame = some e2.locals := by rw [← hE]; rfl
  have eC : e2.cells = cellsFrom (s.heap.push { cls := .type "frame", data := .dict #[] }).objs.size scope.names (cloFrom X.env.cells scope.names []) := by rw [Heap.size_push, ← hE]; rfl
  have split : ∀ {y c}, e2.cells.lookup y = some c → (X.env.cells.lookup y = some c ∧ c < s.heap.objs.size) ∨ (s.heap.objs.size < c ∧ s2.heap.IsCell c none) := fun {y c} e => by
    rw [eC] at e
    rcases cells_mem (PySem.mem_of_lookup e) with z | ⟨_, z2, z3⟩
    · exact .inl (old z)
    · rw [Heap.size_push] at z2
      exact .inr ⟨z2, nc _ _ z3 z2⟩
  have seen : ∀ {y}, scope.names.lookup y = some .free → ∃ c, e2.cells.lookup y = some c ∧ X.env.cells.lookup y = some c := fun {y} hl => by
    have hy : (y, NameKind.free) ∈ scope.names := PySem.mem_of_lookup hl
    obtain ⟨c2, h2⟩ := mem_lookup (cells_acc (names := scope.names) (n := (s.heap.push { cls := .type "frame", data := .dict #[] }).objs.size) (cloFrom_has (cells := X.env.cells) (acc := []) hy))
    rw [← eC] at h2
    refine ⟨c2, h2, ?_⟩
    rw [eC] at h2
    rcases cells_mem (PySem.mem_of_lookup h2) with z | ⟨z, _, _⟩
    · exact (old z).1
    · have q := ok.uniq _ z
      rw [hl] at q
      cases q
  have okG : (gxc X s H e2 fp A2 pn2).Ok := by
    refine { mod := I.ok.mod, kind := ?_, glob := ?_, blt := ?_, above := Nat.le_of_eq eL.symm, inj := fun y z c h1 h2 => ?_, has := fun y hy => ?_, cab := fun y c h1 h2 => ?_, hd := fun _ => hhd, frames := hfr, stk := .inr ⟨rfl, eF⟩, exf := fun b hb => ⟨?_, fun y c h1 h2 => ?_⟩, bs := I.bs, bsz := Nat.le_trans I.ok.bsz I.sz, noex := fun b o h1 h2 => ?_, exfs := fun b hb h2 => ?_, funs := I.stack, frf := I.stkFree }
    · show e2.scope.kind = _
      rw [eS]; exact ok.kind
    · show e2.globals = _
      rw [← hE]; exact I.ok.glob
    · show e2.builtins = _
      rw [← hE]; rfl
    · have h1 : e2.cells.lookup y = some c := h1
      have h2 : e2.cells.lookup z = some c := h2
      rw [eC] at h1 h2
      refine cells_inj (fun p hp => ?_) (fun a b d q1 q2 => I.ok.inj a b d (old q1).1 (old q2).1) (PySem.mem_of_lookup h1) (PySem.mem_of_lookup h2)
      rw [Heap.size_push]
      exact Nat.lt_succ_of_lt (old (y := p.1) (c := p.2) hp).2
    · show ∃ c, e2.cells.lookup y = some c
      have hy : e2.kindOf y = some .cell ∨ e2.kindOf y = some .free := hy
      rw [eK] at hy
      rcases hy with q | q
      · obtain ⟨c, hm⟩ := cells_has (n := (s.heap.push { cls := .type "frame", data := .dict #[] }).objs.size) (acc := cloFrom X.env.cells scope.names []) (PySem.mem_of_lookup q)
        obtain ⟨c2, h2⟩ := mem_lookup hm
        exact ⟨c2, by rw [eC]; exact h2⟩
      · obtain ⟨c, h1, _⟩ := seen q
        exact ⟨c, h1⟩
    · have h1 : (e2.scope.names.lookup y == some NameKind.cell) = true := h1
      rw [eS] at h1
      have h1 : scope.names.lookup y = some .cell := by simpa using h1
      have h2 : e2.cells.lookup y = some c := h2
      rw [eC] at h2
      rcases cells_mem (PySem.mem_of_lookup h2) with z | ⟨_, z, _⟩
      · rcases cloFrom_mem z with z | ⟨z, _⟩
        · cases z
        · have q := ok.uniq _ z
          rw [h1] at q
          cases q
      · rw [Heap.size_push] at z
        exact Nat.le_of_succ_le z
    · show b ≠ e2.locals
      rw [eL]; exact Nat.ne_of_lt (hfp b hb).2
    · have h1 : e2.cells.lookup y = some c := h1
      rcases split h1 with ⟨z, _⟩ | ⟨z, _⟩
      · exact (hfp b hb).1.2.2.2.2.1 y c z h2
      · rw [h2] at z
        exact absurd (Nat.lt_trans z (hfp b hb).2) (Nat.lt_irrefl _)
    · rcases (hfp b h2).1.2.2.2.1 with z | z
      · exact I.ok.noex b o h1 z
      · exact absurd (Nat.lt_of_lt_of_le (Heap.lt_size h1) (Nat.le_trans I.ok.bsz z)) (Nat.lt_irrefl _)
    · rcases List.mem_cons.mp (I.stkSub b h2) with z | z
      · exact (hfp b hb).1.2.1 z
      · exact (hfp b hb).1.2.2.1 z
  refine { ok := okG, os := os, bare := bare, base := Un.kept kp, loc := ⟨m, by show s2.heap.Ns e2.locals m; rw [eL]; exact ns, fun i y v h1 h2 h3 => ?_⟩, cell := fun y c h1 => ?_, free := ?_, freeC := fun y c h1 => ?_, pin := fun p q => ?_, hok := I.hok.kept kp, len := by rw [wipe_length]; exact I.len }
  · obtain ⟨h2, hne⟩ := wipe_some h2
    have h3 : Vis e2.scope y := h3
    unfold Vis at h3
    rw [eS] at h3
    have hown : ¬ (scope.names.lookup y = some .local ∨ scope.names.lookup y = some .cell) := fun hh => by
      have : y ∈ own.map (·.1) ∨ y ∉ X.N := by
        rcases hh with q | q
        · exact ok.own _ (PySem.mem_of_lookup q) (.inl rfl)
        · exact ok.own _ (PySem.mem_of_lookup q) (.inr rfl)
      rcases this with q | q
      · obtain ⟨p, p1, p2⟩ := List.mem_map.mp q
        have p3 := ok.ix p p1
        rw [show p.1 = y from p2] at p3
        exact hne (List.mem_map.mpr ⟨p, p1, nodup_ix hN p3 h1⟩)
      · exact q (List.mem_of_getElem? h1)
    have hfree : scope.names.lookup y = some .free := by
      rcases h3 with q | q | q
      · exact (hown (.inl q)).elim
      · exact (hown (.inr q)).elim
      · exact q
    have hv : Vis X.env.scope y := (ok.free _ (PySem.mem_of_lookup hfree) rfl).elim (fun k => .inr (.inl k)) fun k => .inr (.inr k)
    obtain ⟨mX, _, lk⟩ := I.loc
    obtain ⟨u, r, q⟩ := lk i y v h1 h2 hv
    refine ⟨u, r, .inr ⟨.inr (by show e2.kindOf y = _; rw [eK]; exact hfree), ?_⟩⟩
    obtain ⟨c, q1, q2⟩ := seen hfree
    rcases q with ⟨k, _⟩ | ⟨_, c2, h4, z⟩
    · have k : X.env.scope.names.lookup y = some .local := k
      rcases ok.free _ (PySem.mem_of_lookup hfree) rfl with k2 | k2
      · rw [show X.env.scope.names.lookup y = _ from k2] at k; cases k
      · rw [show X.env.scope.names.lookup y = _ from k2] at k; cases k
    · rw [q2] at h4
      cases h4
      exact ⟨c, q1, z.keeps kp⟩
  · rcases split (show e2.cells.lookup y = some c from h1) with ⟨z, _⟩ | ⟨_, z⟩
    · obtain ⟨v, q⟩ := I.cell y c z
      exact ⟨v, q.keeps kp⟩
    · exact ⟨none, z⟩
  · show H e2.locals = none
    rw [eL]; exact I.hok.fresh (Nat.le_refl _)
  · rcases split (show e2.cells.lookup y = some c from h1) with ⟨z, _⟩ | ⟨z, _⟩
    · exact I.freeC y c z
    · exact I.hok.fresh (Nat.le_of_lt z)
  · show s2.heap.get? p.1 = some p.2 ∧ H p.1 = none ∧ p.1 ≠ e2.locals ∧ p.1 ∉ frs X.stack ∧ _
    rw [eL]
    exact hp p q
/-- a list at S that is filled -/
def eatL (S : Addr) : Eat := ⟨fun ys ps => ∃ (acc : Array Value) (c : Nat), Vals ys acc.toList ∧ ps = [(S, lstObj acc c)], Slept S, fun _ => True⟩
theorem eatL_ok {X : Cx} {S : Addr} (hpn : ∀ p ∈ X.pn, p.1 ≠ S) (hA : Apart X S) : (eatL S).Ok X := ⟨fun {ys x pins ip σ H s s' v} ⟨acc, c, r, e⟩ hip I rv z => by
  subst e
  obtain ⟨acc2, c2, r2, I2⟩ := GI.woken (x := x) hpn (fun p hp q => hip p hp _ List.mem_cons_self q.symm) hA ⟨acc, c, r, I⟩ rv z
  exact ⟨_, ⟨acc2, c2, r2, rfl⟩, I2, fun p hp => ⟨_, List.mem_cons_self, by rw [List.mem_singleton.mp hp]⟩⟩, fun _ _ => trivial⟩
/-- nobody keeps anything; at a quit nobody asks again -/
def eat0 (quit : Bool) : Eat := ⟨fun _ ps => ps = [], fun v s s' => v ≠ .bool quit ∧ s'.os = s.os ∧ AllBare s'.gens ∧ ∀ b o, s.heap.get? b = some o → s'.heap.get? b = some o, fun y => y ≠ .bl quit⟩
theorem eat0_ok {X : Cx} {quit : Bool} : (eat0 quit).Ok X := ⟨fun {ys x pins ip σ H s s' v} e _ I _ ⟨_, z1, z2, z3⟩ => ⟨[], rfl, by
  have e : pins = [] := e
  subst e
  exact I.call' (ch := []) (z1.trans I.os ▸ z1) (Un.kept z3) (I.hok.kept z3) z2 fun b hb => absurd hb (by simp), fun p hp => absurd hp (by simp)⟩, fun {y v s s'} r z e => z.1 (by subst e; exact r)⟩
end Wi

set_option maxHeartbeats 1000000
namespace Wi
open PySem L2 PySem.Spec PyProof.Rows GenW
/-! ### the code object of a generator expression -/
/-- later by tables alone, and new things -/
structure Tabs (g : Gm) (H H' : Hp) : Prop where
  old : ∀ b o, H b = some o → (∀ ps, o ≠ .tbl ps) → H' b = some o
  new : ∀ b o, H b = none → H' b = some o → (∃ ob u, o = .frz ob u) ∨ ∃ ps, o = .tbl ps
  tb : g.Tb H'
  tbl : ∀ b ps, H b = some (.tbl ps) → ∃ ps', H' b = some (.tbl ps')
/-- tables may grow -/
def TbGrow (g : Gm) : Prop := ∀ (H H' : Hp) (Q : Addr) (ps ps' : Array Value), H Q = some (.tbl ps) → H' Q = some (.tbl ps') → TriplesOk ps'.toList →
  (∀ b qs, b ≠ Q → H b = some (.tbl qs) → H' b = some (.tbl qs)) → (∀ b o u, H b = some (.frz o u) → H' b = some (.frz o u)) →
  (∀ q cv, codeAmong q ps'.toList = some cv → codeAmong q ps.toList = some cv ∨ ∃ c' P' o u, cv = .ref c' ∧ H' c' = some (.frz o u) ∧ CodeO o c' P' ∧ H' P' = some (.tbl #[])) → g.Tb H → g.Tb H'
theorem sh_is (s s' : Shared) (h : s'.os = s.os) : s' = { s with heap := s'.heap, gens := s'.gens, drawn := s'.drawn, toks := s'.toks } := by
  cases s'
  cases h
  rfl
theorem code_step {g : Gm} {X : Cx} {pins : List (Addr × Obj)} {σ : L2.St} {H : Hp} {s : Shared} {n : Nat} {gpos : Pos} {qn : Str} {scope : Scope} {E : Value → Shared → Prop} {Q : Value → Shared → Prop}
    (hP : X.prog = g.P) (hw : X.w = g.w) (cf : CodeFor g X (n + 1)) (tg : TbGrow g) (I : Inv X pins σ H s) (tb : g.Tb H)
    (hQ : ∀ (c' : Addr) (H' : Hp) (h' : Heap) (tk : Nat), Inv X pins σ H' { s with heap := h', toks := tk } → Tabs g H H' → (∀ b o, s.heap.get? b = some o → (∀ ps, H b ≠ some (.tbl ps)) → h'.get? b = some o) → s.heap.objs.size ≤ h'.objs.size → (∀ b, b < s.heap.objs.size → H b = none → H' b = none) →
      (∃ (P P' : Addr) (o : Obj) (u : HO), H' c' = some (.frz o u) ∧ CodeO o c' P' ∧ ∃ (c : Addr) (ps : Array Value), X.env.code = .ref c ∧ H' P = some (.tbl ps) ∧ TriplesOk ps.toList ∧ codeAmong gpos ps.toList = some (.ref c') ∧
        ∀ (H2 : Hp) (h2 : Heap), HOk g.P g.w H2 h2 → (∀ b o, X.base.get? b = some o → h2.get? b = some o) → (∀ b o u, X.H_0 b = some (.frz o u) → H2 b = some (.frz o u)) → (∀ b ps, X.H_0 b = some (.tbl ps) → ∃ more, H2 b = some (.tbl (ps ++ more))) → g.Tb H2 → TabD H2 (n + 1) P) →
      Q (.ref c') { s with heap := h', toks := tk }) :
    wpAny (model X.prog X.w) X.A (genexprCode X.env gpos qn scope) Q E s := by
  obtain ⟨c, P, hcode, cfa⟩ := cf.ex
  have hok : HOk g.P g.w H s.heap := by rw [← hP, ← hw]; exact I.hok
  obtain ⟨cd, ps, eP, tr, ent⟩ := cfa H s.heap hok I.bk I.base.frzs I.base.tbls tb
  have hPs : s.heap.get? P = some { cls := .none, data := .fields ps } := I.hok P _ eP
  have deep : ∀ (H2 : Hp) (h2 : Heap), HOk g.P g.w H2 h2 → (∀ b o, X.base.get? b = some o → h2.get? b = some o) → (∀ b o u, X.H_0 b = some (.frz o u) → H2 b = some (.frz o u)) → (∀ b ps, X.H_0 b = some (.tbl ps) → ∃ more, H2 b = some (.tbl (ps ++ more))) → g.Tb H2 → TabD H2 (n + 1) P := fun H2 h2 a b c d e => (cfa H2 h2 a b c d e).2
  cases hf : codeAmong gpos ps.toList with
  | some cv =>
    refine wpAny_genexprCode_hit hcode (cd.code hPs tr) hf ?_
    obtain ⟨c', P', o, u, rfl, e2, e3, e4⟩ := ent gpos cv hf
    exact hQ c' H s.heap s.toks I ⟨fun _ _ e _ => e, (fun b o e1 e2 => by rw [e1] at e2; cases e2), tb, fun b ps e => ⟨ps, e⟩⟩ (fun _ _ e _ => e) (Nat.le_refl _) (fun _ _ e => e) ⟨P, P', o, u, e2, e3, c, ps, hcode, eP, tr, hf, deep⟩
  | none =>
    refine wpAny_genexprCodeX hcode (cd.code hPs tr) (cd.tab hPs) hf fun c' h' tk hx hge hlt hco _ htab ⟨P', hP', hco', htab'⟩ => ?_
    obtain ⟨_, _, _, _, _, _, _, _, _, _, _, _, _, _, _, _, _, _, _, htr, _⟩ := hco
    have hcd' := PySem.W.CodeHd.of hco' htab'
    obtain ⟨o', _, _, _, _, _, _, _, _, ec', _⟩ := id hcd'
    have hcP : c' ≠ P' := by
      obtain ⟨_, _, _, _, _, _, _, _, _, _, _, _, _, _, _, _, _, _, _, _, z⟩ := hco'
      exact z
    have lP : P < s.heap.objs.size := Heap.lt_size hPs
    have nc : P ≠ c' := Nat.ne_of_lt (Nat.lt_of_lt_of_le lP hge)
    have nP : P ≠ P' := Nat.ne_of_lt (Nat.lt_of_lt_of_le lP hP')
    have Hc : H c' = none := I.hok.fresh hge
    have HP : H P' = none := I.hok.fresh hP'
    generalize hps : ps ++ #[rawInt gpos.line, rawInt gpos.col, Value.ref c'] = ps' at htab htr
    generalize hH : upd (upd (upd H P (.tbl ps')) c' (.frz o' (.own 0))) P' (.tbl #[]) = H'
    have aP : H' P = some (.tbl ps') := by rw [← hH, upd_ne nP, upd_ne nc, upd_same]
    have ac : H' c' = some (.frz o' (.own 0)) := by rw [← hH, upd_ne hcP, upd_same]
    have aP' : H' P' = some (.tbl #[]) := by rw [← hH, upd_same]
    have ao : ∀ b, b ≠ P → b ≠ c' → b ≠ P' → H' b = H b := fun b h1 h2 h3 => by rw [← hH, upd_ne h3, upd_ne h2, upd_ne h1]
    have av : ∀ b o, H b = some o → b ≠ P → H' b = some o := fun b o e h1 => by rw [ao b h1 (fun z => by rw [z, Hc] at e; cases e) fun z => by rw [z, HP] at e; cases e]; exact e
    have notP : ∀ b o, H b = some o → (∀ q, o ≠ .tbl q) → b ≠ P := fun b o e q z => by rw [z, eP] at e; exact q ps (Option.some.inj e).symm
    have noneP : ∀ b, H b = none → b ≠ P := fun b e z => by rw [z, eP] at e; cases e
    have grown : ∀ q cv, codeAmong q ps'.toList = some cv → codeAmong q ps.toList = some cv ∨ ∃ c' P' o u, cv = .ref c' ∧ H' c' = some (.frz o u) ∧ CodeO o c' P' ∧ H' P' = some (.tbl #[]) := fun q cv hq => by
      rw [← hps] at hq
      have hl : (ps ++ #[rawInt gpos.line, rawInt gpos.col, Value.ref c']).toList = ps.toList ++ [rawInt gpos.line, rawInt gpos.col, .ref c'] := by simp
      rw [hl] at hq
      rcases among_last tr hq with z | z
      · exact .inl z
      · exact .inr ⟨c', P', o', .own 0, z, ac, CodeO.of ec' hcd', aP'⟩
    have frzs : ∀ b o u, H b = some (.frz o u) → H' b = some (.frz o u) := fun b o u e => av b _ e (notP b _ e fun q z => by cases z)
    have tb' : g.Tb H' := tg H H' P ps ps' eP aP htr (fun b qs hb e => av b _ e hb) frzs grown tb
    have J : Inv X pins σ H' { s with heap := h', gens := s.gens, drawn := s.drawn, toks := tk } := by
      refine I.step (g' := s.gens) (d' := s.drawn) (t' := tk) (ch := []) (fun b hb => absurd hb (by simp)) (fun b o _ _ _ e n => hx b o (noneP b n) e) (fun b o _ _ _ e n => ⟨o.slots, hx b o (noneP b n) e⟩)
        (fun b o _ e n => ?_) (fun b o _ e => ?_) (fun b xs e => av b _ e (notP b _ e fun q z => by cases z)) frzs (fun b qs e => ?_) (fun m hn => ?_) (fun b u e => ?_) I.bare
      · have hl := Heap.lt_size e
        rw [ao b (noneP b n) (Nat.ne_of_lt (Nat.lt_of_lt_of_le hl hge)) (Nat.ne_of_lt (Nat.lt_of_lt_of_le hl hP'))]
        exact n
      · by_cases z : b = P
        · exact ⟨_, by rw [z]; exact htab.2⟩
        · exact ⟨o, hx b o z e⟩
      · by_cases z : b = P
        · subst z
          rw [eP] at e
          cases e
          exact ⟨_, by rw [aP, ← hps]⟩
        · exact ⟨#[], by rw [av b _ e z]; simp⟩
      · obtain ⟨ob, es, ep, ho, r⟩ := hn
        exact ⟨ob, es, ep, hx _ ob (noneP _ I.free) ho, r⟩
      · by_cases z1 : b = P
        · subst z1
          rw [aP] at e
          cases e
          exact htab.2
        · by_cases z2 : b = c'
          · subst z2
            rw [ac] at e
            cases e
            exact ⟨ec', o', ec'⟩
          · by_cases z3 : b = P'
            · subst z3
              rw [aP'] at e
              cases e
              exact htab'.2
            · rw [ao b z1 z2 z3] at e
              refine (I.hok b u e).stay (fun d v hd q => hx d v (hd.elim (fun z => by rw [z]; exact z1) fun z => notP d _ z fun q z => by cases z) q) (fun d q => av d _ q (notP d _ q fun q z => by cases z)) fun d xs q => av d _ q (notP d _ q fun q z => by cases z)
    have hsz : s.heap.objs.size ≤ h'.objs.size := Nat.le_trans hge (Nat.le_of_lt hlt)
    refine hQ c' H' h' tk J ⟨fun b o e q => av b o e (notP b o e q), fun b o e1 e2 => ?_, tb', fun b qs e => (if z : b = P then ⟨ps', by rw [z]; exact aP⟩ else ⟨qs, av b _ e z⟩)⟩ (fun b o e q => hx b o (fun z => by rw [z] at q; exact q ps eP) e) hsz (fun b hl e => by rw [ao b (noneP b e) (Nat.ne_of_lt (Nat.lt_of_lt_of_le hl hge)) (Nat.ne_of_lt (Nat.lt_of_lt_of_le hl hP'))]; exact e) ⟨P, P', o', .own 0, ac, CodeO.of ec' hcd', c, ps', hcode, aP, htr, ?_, deep⟩
    · by_cases z1 : b = P
      · rw [z1, eP] at e1; cases e1
      · by_cases z2 : b = c'
        · rw [z2, ac] at e2; cases e2; exact .inl ⟨_, _, rfl⟩
        · by_cases z3 : b = P'
          · rw [z3, aP'] at e2; cases e2; exact .inr ⟨_, rfl⟩
          · rw [ao b z1 z2 z3, e1] at e2; cases e2
    · rw [← hps]
      have hl : (ps ++ #[rawInt gpos.line, rawInt gpos.col, Value.ref c']).toList = ps.toList ++ [rawInt gpos.line, rawInt gpos.col, .ref c'] := by simp
      rw [hl]
      exact codeAmong_snoc _ tr hf
end Wi

set_option maxHeartbeats 1000000
namespace Wi
open PySem L2 PySem.Spec PyProof.Rows GenW
/-! ### a generator expression is made -/
abbrev gxStart (elt tg iter : Expr) (ifs : List Expr) (scope : Scope) (pos : Pos) (it : Addr) (e2 : Env) : Code := .compStart (.GeneratorExp elt [⟨tg, iter, ifs, 0⟩] scope pos) 0 (.ref it) .none e2
/-- the code object that it runs -/
def CodeInfo (g : Gm) (X : Cx) (n : Nat) (gpos : Pos) (c' : Addr) (H' : Hp) : Prop :=
  ∃ (P P' : Addr) (o : Obj) (u : HO), H' c' = some (.frz o u) ∧ CodeO o c' P' ∧ ∃ (c : Addr) (ps : Array Value), X.env.code = .ref c ∧ H' P = some (.tbl ps) ∧ TriplesOk ps.toList ∧ codeAmong gpos ps.toList = some (.ref c') ∧
    ∀ (H2 : Hp) (h2 : Heap), HOk g.P g.w H2 h2 → (∀ b o, X.base.get? b = some o → h2.get? b = some o) → (∀ b o u, X.H_0 b = some (.frz o u) → H2 b = some (.frz o u)) → (∀ b ps, X.H_0 b = some (.tbl ps) → ∃ more, H2 b = some (.tbl (ps ++ more))) → g.Tb H2 → TabD H2 (n + 1) P
structure Made (g : Gm) (X : Cx) (n : Nat) (elt tg iter : Expr) (ifs : List Expr) (scope : Scope) (pos : Pos) (pins : List (Addr × Obj)) (σ : L2.St) (it : Addr) (fp : List Addr) (tn : Nat → Heap → Prop) (J : It) (H : Hp) (s : Shared) (c' a : Addr) (gi : Nat) (go : Obj) (s' : Shared) : Prop where
  inv : Inv X pins σ H s
  turn : Turn X.prog X.w X.K tg J fp it tn
  st : tn 0 s.heap
  fo : ∀ b ∈ fp, FpOk X pins H b ∧ b < s.heap.objs.size
  code : CodeInfo g X n pos c' H
  lo : s.heap.objs.size < a
  hi : a < s'.heap.objs.size
  gen : s'.heap.get? a = some go ∧ go.cls = .type "generator" ∧ (∃ nm qn, go.data = .fields #[.int gi 0, nm, qn]) ∧ go.slots = #[]
  fresh : s'.gens[gi]? = some (.fresh (gxStart elt tg iter ifs scope pos it (gxEnv scope (gxCells X scope s) s.heap.objs.size (.ref c') builtinsNs X.env)))
  os : s'.os = s.os
  bare : AllBare s'.gens
  keep : ∀ b o, s.heap.get? b = some o → s'.heap.get? b = some o
  ns : ∃ m, s'.heap.Ns s.heap.objs.size m
  nc : ∀ c v, (pushCells (s.heap.push { cls := .type "frame", data := .dict #[] }) scope.names).IsCell c v → s.heap.objs.size < c → s'.heap.IsCell c v
theorem eval_gx {g : Gm} {X : Cx} {n : Nat} {elt tg iter : Expr} {ifs : List Expr} {scope : Scope} {pos : Pos} {own : List (Str × Nat)} {pins : List (Addr × Obj)} {σ : L2.St} {H : Hp} {s : Shared} {wi : TI} {R : It → Hp → Prop} {Q : Value → Shared → Prop}
    (hP : X.prog = g.P) (hw : X.w = g.w) (cf : CodeFor g X (n + 1)) (tg' : TbGrow g) (hr : X.A.depth < recursionLimit) (ok : BlkOk X.N X.env.scope scope own) (h0 : scope.names.lookup (".0" : Str) = some NameKind.local) (hco : scope.isCoroutine = false)
    (hi : PI X tg iter wi) (hs : ∀ v, genFold iter X.env v = pure v) (I : Inv X pins σ H s) (h : wi σ H R) (hR : ∀ J H1, R J H1 → g.Tb H1)
    (hQ : ∀ J H1 H2 it fp tn s2 c' a gi go s', R J H1 → Tabs g H1 H2 → Made g X n elt tg iter ifs scope pos pins σ it fp tn J H2 s2 c' a gi go s' → Q (.ref a) s') :
    wpAny (model X.prog X.w) X.A (eval (.GeneratorExp elt [⟨tg, iter, ifs, 0⟩] scope pos) X.env) Q X.xe s := by
  have hfree : ∀ y ∈ scope.names, y.2 = .free → ∃ c, X.env.cells.lookup y.1 = some c := fun y hy e => (ok.free y hy e).elim (fun z => I.ok.has _ (.inl z)) fun z => I.ok.has _ (.inr z)
  rw [eval_GeneratorExp1 _ _ _ _ _ _ _ hco, closure_ok hfree]
  refine wpAny_bind (wpAny_mono (hi.run pins s σ H R I h) (fun xv s₁ h₁ => ?_) fun _ _ e => e)
  refine wpAny_bind (wpAny_standAt ?_)
  refine wpAny_bind (wpAny_of_eq (hs xv) ?_)
  refine wpAny_bind (wpAny_holding (wpAny_mono h₁ (fun itv s₂ h₂ => ?_) fun _ _ e => e))
  obtain ⟨it, fp, tn, J, H1, e, I1, T, st1, f1, q⟩ := h₂
  subst e
  refine wpAny_bind (wpAny_enterFrame I1.nolimit hr ?_)
  refine wpAny_bind (wpAny_pure ?_)
  refine wpAny_bind (code_step hP hw cf tg' I1 (hR J H1 q) fun c' H2 h2 tk I2 tabs kp2 sz2 nn info => ?_)
  obtain ⟨bm, ob, e1, e2, e3, e4, e5, e6⟩ := cf.bm
  refine wpAny_bind (wpAny_builtinsFor (m := X.mg) (by rw [I1.ok.glob]; exact I1.mod.glob.keeps I2.bk) e1 e2 (I2.bk _ _ e3) e4 e5 e6 ?_)
  generalize hsh : ({ s₂ with heap := h2, toks := tk } : Shared) = s2 at I2 ⊢
  have eh : s2.heap = h2 := by rw [← hsh]
  refine wpAny_bind (newEnv_gx ok.kind h0 fun h3 tk3 ns3 sb3 => ?_)
  simp only [newGenerator, newFields]
  refine wpAny_bind (wpAny_newGen (wpAny_bind (wpAny_mkText (wpAny_bind (wpAny_mkText (wpAny_newObj_type ?_ (by size_fits)))))))
  have k3 : ∀ b o, s2.heap.get? b = some o → h3.get? b = some o := fun b o e => sb3.extBut b o (Nat.ne_of_lt (Heap.lt_size e)) (pushCells_keeps _ _ _ _ (Heap.get?_push_of_some _ e))
  have sz3 : s2.heap.objs.size < h3.objs.size := ns3.lt
  have fz : ∀ b ∈ fp, ∀ o, s₂.heap.get? b = some o → s2.heap.get? b = some o := fun b hb o e => by
    rw [eh]
    exact kp2 b o e fun ps z => by rw [(f1 b hb).1] at z; cases z
  refine hQ J H1 H2 it fp tn s2 c' _ s2.gens.size _ _ q tabs ⟨I2, T, T.keep _ _ _ st1 fz, fun b hb => ?_, info, sz3, ?_, ⟨Heap.get?_push_size _ rfl, rfl, ⟨_, _, rfl⟩, rfl⟩, Array.getElem?_push_size .., rfl, AllBare.push I2.bare rfl, fun b o e => Heap.get?_push_of_some _ (k3 b o e), ⟨_, ns3.push _⟩, fun c v hc hlt => ?_⟩
  · obtain ⟨o, e, d⟩ := T.obj _ _ st1 b hb
    have hl := Heap.lt_size (fz b hb o e)
    obtain ⟨f0, fr⟩ := f1 b hb
    refine ⟨⟨?_, fr⟩, hl⟩
    exact nn b (Heap.lt_size e) f0
  · show _ < (h3.push _).objs.size
    rw [Heap.size_push]
    exact Nat.lt_succ_self _
  · exact (hc.sameBut sb3 (Nat.ne_of_gt hlt)).keeps fun b o e => Heap.get?_push_of_some _ e
theorem not_frs {X : Cx} {pins : List (Addr × Obj)} {σ : L2.St} {H : Hp} {s : Shared} (I : Inv X pins σ H s) {b : Addr} (h : s.heap.objs.size ≤ b) : b ∉ frs X.stack := fun z => by
  rcases List.mem_cons.mp (I.stkSub b z) with e | e
  · rw [e] at h
    exact absurd (Nat.lt_of_lt_of_le I.lt h) (Nat.lt_irrefl _)
  · exact I.nofs h e
theorem Made.seg {g : Gm} {X : Cx} {n : Nat} {elt tg iter : Expr} {ifs : List Expr} {scope : Scope} {pos : Pos} {pins : List (Addr × Obj)} {σ : L2.St} {it : Addr} {fp : List Addr} {tn : Nat → Heap → Prop} {J : It} {H : Hp} {s : Shared} {c' a : Addr} {gi : Nat} {go : Obj} {s' : Shared}
    (M : Made g X n elt tg iter ifs scope pos pins σ it fp tn J H s c' a gi go s') {own : List (Str × Nat)} (ok : BlkOk X.N X.env.scope scope own) (hN : X.N.Nodup) (hco : scope.isCoroutine = false)
    {A : Around} (hA : A.handled = none) (hfr : A.frames = some X.stack) {s2 : Shared} (kp2 : ∀ b o, s'.heap.get? b = some o → s2.heap.get? b = some o) (os2 : s2.os = s.os) (ba2 : AllBare s2.gens)
    (C : Eat) {pins2 : List (Addr × Obj)} (hp2 : ∀ p ∈ pins2, s2.heap.get? p.1 = some p.2 ∧ s'.heap.objs.size ≤ p.1 ∧ ∀ v, p.2.data ≠ .cell v) (hC : C.pin [] pins2)
    (okC : C.Ok (gxc X s H (gxEnv scope (gxCells X scope s) s.heap.objs.size (.ref c') builtinsNs X.env) fp (A.deeper (gxEnv scope (gxCells X scope s) s.heap.objs.size (.ref c') builtinsNs X.env)) [(a, go)]))
    {gg : TG} {tt : TT} {te : TE} (hg : PG (gxc X s H (gxEnv scope (gxCells X scope s) s.heap.objs.size (.ref c') builtinsNs X.env) fp (A.deeper (gxEnv scope (gxCells X scope s) s.heap.objs.size (.ref c') builtinsNs X.env)) [(a, go)]) tg gg)
    (ht : PTs (gxc X s H (gxEnv scope (gxCells X scope s) s.heap.objs.size (.ref c') builtinsNs X.env) fp (A.deeper (gxEnv scope (gxCells X scope s) s.heap.objs.size (.ref c') builtinsNs X.env)) [(a, go)]) ifs tt)
    (he : PE (gxc X s H (gxEnv scope (gxCells X scope s) s.heap.objs.size (.ref c') builtinsNs X.env) fp (A.deeper (gxEnv scope (gxCells X scope s) s.heap.objs.size (.ref c') builtinsNs X.env)) [(a, go)]) elt te)
    (W : Nat → Nat → List V → L2.St → Hp → Prop) (Out : List V → V → Hp → Prop) (End : List V → Hp → Prop)
    (turn : ∀ i m ys σ H, W i m ys σ H → (J.stop i H ∧ End ys H) ∨ (J.go i H ∧ ∀ x H', J.yld i H x H' → gg x σ H' fun σ2 H2 => tt σ2 H2 fun b H3 =>
      if b = true then te σ2 H3 fun y H4 => ys.length < sizeLine ∧ Out ys y H4 ∧ (C.cont y → ∃ m', m' < m ∧ W (i + 1) m' (ys ++ [y]) σ2 H4) else ∃ m', m' < m ∧ W (i + 1) m' ys σ2 H3))
    {m0 : Nat} (w0 : W 0 m0 [] (wipe σ (own.map (·.2))) H) {s₀ : Shared} :
    Seg (model X.prog X.w) A (EndG (gxc X s H (gxEnv scope (gxCells X scope s) s.heap.objs.size (.ref c') builtinsNs X.env) fp (A.deeper (gxEnv scope (gxCells X scope s) s.heap.objs.size (.ref c') builtinsNs X.env)) [(a, go)]) C End)
      (YldG (gxc X s H (gxEnv scope (gxCells X scope s) s.heap.objs.size (.ref c') builtinsNs X.env) fp (A.deeper (gxEnv scope (gxCells X scope s) s.heap.objs.size (.ref c') builtinsNs X.env)) [(a, go)]) C Out) sizeLine s₀
      (gxStart elt tg iter ifs scope pos it (gxEnv scope (gxCells X scope s) s.heap.objs.size (.ref c') builtinsNs X.env))
      ((model X.prog X.w).den (gxStart elt tg iter ifs scope pos it (gxEnv scope (gxCells X scope s) s.heap.objs.size (.ref c') builtinsNs X.env))) [] s2 := by
  obtain ⟨m, ns⟩ := M.ns
  have kp : ∀ b o, s.heap.get? b = some o → s2.heap.get? b = some o := fun b o e => kp2 b o (M.keep b o e)
  have lo := M.lo
  have big : ∀ b, s.heap.objs.size < b → H b = none ∧ b ≠ s.heap.objs.size ∧ b ∉ frs X.stack := fun b hb => ⟨M.inv.hok.fresh (Nat.le_of_lt hb), Nat.ne_of_gt hb, not_frs M.inv (Nat.le_of_lt hb)⟩
  have large : ∀ p ∈ [(a, go)] ++ pins2, s.heap.objs.size < p.1 := fun p hp => by
    rcases List.mem_append.mp hp with z | z
    · rw [List.mem_singleton.mp z]; exact lo
    · exact Nat.lt_of_lt_of_le (Nat.lt_trans lo M.hi) (hp2 p z).2.1
  have I2 := gen_start (X := X) (pn2 := [(a, go)]) (pins2 := pins2) (code := .ref c') (A2 := A.deeper (gxEnv scope (gxCells X scope s) s.heap.objs.size (.ref c') builtinsNs X.env)) (m := m) M.inv ok hN M.fo (Around.frames_deeper hfr) hA os2 ba2 kp
    (ns.keeps kp2) (fun c v h1 h2 => (M.nc c v h1 h2).keeps kp2) fun p hp => by
      obtain ⟨b1, b2, b3⟩ := big p.1 (large p hp)
      rcases List.mem_append.mp hp with z | z
      · have e := List.mem_singleton.mp z
        obtain ⟨h1, _, ⟨nm, qn, h3⟩, _⟩ := M.gen
        rw [e] at b1 b2 b3 ⊢
        exact ⟨kp2 _ _ h1, b1, b2, b3, fun v q => by rw [h3] at q; cases q⟩
      · exact ⟨(hp2 p z).1, b1, b2, b3, (hp2 p z).2.2⟩
  have hco2 : (gxEnv scope (gxCells X scope s) s.heap.objs.size (.ref c') builtinsNs X.env).scope.isCoroutine = false := hco
  generalize gxEnv scope (gxCells X scope s) s.heap.objs.size (.ref c') builtinsNs X.env = e2 at I2 okC hg ht he hco2 ⊢
  have fo2 : ∀ b ∈ fp, FpOk (gxc X s H e2 fp (A.deeper e2) [(a, go)]) pins2 H b := fun b hb =>
    ⟨(M.fo b hb).1.1, (I2.ok.exf b hb).1, I2.ok.exfs b hb, .inl hb, fun x c e => (I2.ok.exf b hb).2 x c e, fun p hp z => by
      have := large p hp
      rw [z] at this
      exact absurd (Nat.lt_trans this (M.fo b hb).2) (Nat.lt_irrefl _)⟩
  have st2 : tn 0 s2.heap := M.turn.keep _ _ _ M.st fun b _ o e => kp b o e
  have loop := seg_gen (X := gxc X s H e2 fp (A.deeper e2) [(a, go)]) (elt := elt) (iter := iter) (scope := scope) (pos := pos) rfl M.turn hg ht he C okC hco2 (A := A) over_gx (fun _ _ z => z) W Out End turn m0 sizeLine 0 [] _ H pins2 s₀ s2 (Nat.add_zero _) hC I2 st2 fo2 w0
  show Seg _ A _ _ _ s₀ _ ((compStart (.GeneratorExp elt [⟨tg, iter, ifs, 0⟩] scope pos) 0 (.ref it) .none e2).onRaise (leaving e2)) [] s2
  unfold compStart
  rw [Sem.onRaise_eq_wrap]
  show Seg _ A _ _ _ s₀ _ ((ask >>= _).wrap _ _ _ _) [] s2
  refine seg_bind_wrap (wpAny_askSetting ?_)
  split
  · exact seg_again rfl loop
  · refine seg_bind_wrap (wpAny_rule ?_)
    show Seg _ A _ _ _ s₀ _ ((standAt iter.pos >>= _).wrap _ _ _ _) [] s2
    exact seg_bind_wrap (wpAny_standAt (seg_bind_wrap (M.turn.self _ 0 s2 _ _ st2 (seg_again rfl loop))))
end Wi

set_option maxHeartbeats 1000000
namespace Wi
open PySem L2 PySem.Spec PyProof.Rows GenW
/-! ### tuple(..) of it -/
abbrev gxE (X : Cx) (scope : Scope) (s : Shared) (c' : Addr) : Env := gxEnv scope (gxCells X scope s) s.heap.objs.size (.ref c') builtinsNs X.env
abbrev gxX (X : Cx) (scope : Scope) (s : Shared) (H : Hp) (c' a : Addr) (go : Obj) (fp : List Addr) (A : Around) : Cx := gxc X s H (gxE X scope s c') fp (A.deeper (gxE X scope s c')) [(a, go)]
theorem Made.gmade {g : Gm} {X : Cx} {n k : Nat} {elt tg iter : Expr} {ifs : List Expr} {scope : Scope} {pos : Pos} {pins : List (Addr × Obj)} {σ : L2.St} {it : Addr} {fp : List Addr} {tn : Nat → Heap → Prop} {J : It} {H : Hp} {s : Shared} {c' a : Addr} {gi : Nat} {go : Obj} {s' : Shared}
    (M : Made g X n elt tg iter ifs scope pos pins σ it fp tn J H s c' a gi go s') {own : List (Str × Nat)} (ok : BlkOk X.N X.env.scope scope own) (hN : X.N.Nodup) (hco : scope.isCoroutine = false)
    {gg : TG} {tt : TT} {te : TE} (hg : ∀ A, Room k A → PG (gxX X scope s H c' a go fp A) tg gg) (ht : ∀ A, Room k A → PTs (gxX X scope s H c' a go fp A) ifs tt) (he : ∀ A, Room k A → PE (gxX X scope s H c' a go fp A) elt te)
    (W : Nat → Nat → List V → L2.St → Hp → Prop) (Out : List V → V → Hp → Prop) (End : List V → Hp → Prop)
    (turn : ∀ i m ys σ H, W i m ys σ H → (J.stop i H ∧ End ys H) ∨ (J.go i H ∧ ∀ x H', J.yld i H x H' → gg x σ H' fun σ2 H2 => tt σ2 H2 fun b H3 =>
      if b = true then te σ2 H3 fun y H4 => ys.length < sizeLine ∧ Out ys y H4 ∧ (True → ∃ m', m' < m ∧ W (i + 1) m' (ys ++ [y]) σ2 H4) else ∃ m', m' < m ∧ W (i + 1) m' ys σ2 H3))
    {m0 : Nat} (w0 : W 0 m0 [] (wipe σ (own.map (·.2))) H) : GMade X.prog X.w k X.stack H s fp End (fun _ _ _ => False) (.ref a) s' := by
  obtain ⟨g1, g2, ⟨nm, qn, g3⟩, g4⟩ := M.gen
  have lim : s'.heap.NoLimit := M.inv.nolimit.keeps M.keep
  refine ⟨a, gi, _, rfl, Nat.le_of_lt M.lo, M.hi, ⟨go, nm, qn, g1, g2, g3, g4⟩, M.fresh, M.os, M.bare, lim, M.keep, fun A S s2 hr hfr hS kp2 ⟨cS, eS⟩ os2 ba2 => ?_⟩
  have aS : a < S := Nat.lt_of_lt_of_le M.hi hS
  have lS : s.heap.objs.size < S := Nat.lt_trans M.lo aS
  have I0 := gen_start (X := X) (pn2 := [(a, go)]) (pins2 := []) (code := .ref c') (A2 := A.deeper (gxE X scope s c')) (m := M.ns.choose) M.inv ok hN M.fo (Around.frames_deeper hfr) hr.hd M.os M.bare M.keep
    M.ns.choose_spec M.nc fun p hp => by
      have e : p = (a, go) := by simpa using hp
      rw [e]
      exact ⟨g1, M.inv.hok.fresh (Nat.le_of_lt M.lo), Nat.ne_of_gt M.lo, not_frs M.inv (Nat.le_of_lt M.lo), fun v q => by rw [g3] at q; cases q⟩
  have ap : Apart (gxX X scope s H c' a go fp A) S := by
    refine ⟨Nat.le_of_lt lS, Nat.ne_of_gt lS, fun x c e z => ?_⟩
    obtain ⟨v, q⟩ := I0.cell x c e
    have := q.lt
    rw [z] at this
    exact absurd (Nat.lt_of_lt_of_le this hS) (Nat.lt_irrefl _)
  have sg := M.seg ok hN hco hr.hd hfr kp2 os2 ba2 (eatL S) (pins2 := [(S, lstObj #[] cS)]) (fun p hp => by rw [List.mem_singleton.mp hp]; exact ⟨eS, hS, fun v q => by cases q⟩) ⟨#[], cS, .nil, rfl⟩
    (eatL_ok (fun p hp => by rw [List.mem_singleton.mp hp]; exact Nat.ne_of_lt aS) ap) (hg A hr) (ht A hr) (he A hr) W Out End turn w0 (s₀ := s2)
  refine seg_imp (fun n s₀ r s1 hR => ?_) (fun n s₀ v s1 kap kap' hkk hY => ?_) sizeLine sg
  · obtain ⟨rfl, ys, σ1, H1, ps, hl, ⟨acc, cc, r1, rfl⟩, I1, q⟩ := hR
    obtain ⟨p1, p2, _⟩ := I1.pin (S, lstObj acc cc) (List.mem_append_right _ List.mem_cons_self)
    exact .inl ⟨.inr rfl, H1, ys, acc, cc, I1.os, I1.bare, I1.base, I1.hok, p2, p1, r1, hl, q⟩
  · obtain ⟨ys, y, σ1, H1, ps, hn, ry, ⟨acc, cc, r1, rfl⟩, I1, _, hk⟩ := hY
    obtain ⟨p1, p2, _⟩ := I1.pin (S, lstObj acc cc) (List.mem_append_right _ List.mem_cons_self)
    obtain ⟨q1, _⟩ := I1.pin (a, go) (List.mem_append_left _ (List.mem_singleton.mpr rfl))
    have hsz : acc.size = ys.length := by
      have e1 := r1.length
      have e2 : acc.toList.length = acc.size := by simp
      omega
    exact ⟨I1.os, I1.bare, I1.nolimit, ⟨go, nm, qn, q1, g2, g3, g4⟩, ⟨acc, cc, p1, by rw [hsz]; exact hn⟩, fun s3 z => hkk _ _ (hk s3 z)⟩
/-- all that it hands out, gathered -/
theorem collect_made {P : Program} {w : World} {outer : List Env} {H : Hp} {sc s : Shared} {ex : List Addr} {Q : List V → Hp → Prop} {A : Around} {k : Nat} {u : Value} {Qc : List Value → Shared → Prop} {E : Value → Shared → Prop}
    (hr : Room (k + 1) A) (hfr : A.frames = some outer) (h : GMade P w k outer H sc ex Q (fun _ _ _ => False) u s)
    (hQ : ∀ (s' : Shared) (acc : Array Value) (H' : Hp) (ys : List V), Vals ys acc.toList → ys.length ≤ sizeLine → s'.os = sc.os → AllBare s'.gens → Un (frs outer) ex H H' sc.heap s'.heap → HOk P w H' s'.heap → Q ys H' → Qc acc.toList s') :
    wpAny (model P w) A (collect u) Qc E s := by
  obtain ⟨a, g, c, rfl, ha1, ha2, hg, hgs, hos, hb, hl, hkp, wake⟩ := h
  have ne1 : s.heap.objs.size ≠ a := Nat.ne_of_gt ha2
  have ne2 : s.heap.objs.size ≠ cStatics := by
    obtain ⟨_, hn, _⟩ := id hl
    exact Nat.ne_of_gt hn.lt
  unfold collect
  refine wpAny_bind (wpAny_runValue (codeAny_builtin F.entry_proto_collect ?_))
  rw [Around.under_plainId F.plain_proto_collect _]
  show wpAny _ A.in1 ((newList []) >>= fun l => again (.builtin "list.__iadd__" ⟨[l, .ref a], []⟩)) _ _ s
  refine wpAny_bind (wpAny_newObj_type ?_)
  refine wpAny_pure ⟨plainId_quiet F.plain_list_iadd _, (codeAny_builtin F.entry_list_iadd ?_)⟩
  rw [Around.under_plainId F.plain_list_iadd _]
  have e1 : (s.heap.push { cls := .type "list", data := .seq #[] }).get? s.heap.objs.size = some { cls := .type "list", data := .seq #[] } := Heap.get?_push_size _ rfl
  have q1 : ∀ b o, s.heap.get? b = some o → (s.heap.push { cls := .type "list", data := .seq #[] }).get? b = some o := fun b o e => Heap.get?_push_of_some _ e
  have gen1 : ∀ {h : Heap}, (∀ b o, s.heap.get? b = some o → h.get? b = some o) → h.IsGen a g := fun {h} q => hg.keeps q
  show wpAny _ A.in1 ((Builtin.List.listExtendWith (.ref s.heap.objs.size) (.ref a) (.ref s.heap.objs.size))) _ _ _
  unfold Builtin.List.listExtendWith
  refine wpAny_bind (wpAny_typeOf ((gen1 q1).typeIs (s := { s with heap := _ })) ?_)
  have t1 : Builtin.List.listSameRef (.ref s.heap.objs.size) (.ref a) = false := by simp [Builtin.List.listSameRef, ne1]
  have t2 : (Value.type "generator" == Value.type "list") = false := (by decide)
  have t3 : (Value.type "generator" == Value.type "tuple") = false := (by decide)
  simp only [t1, t2, t3, Bool.or_false, Bool.false_eq_true, if_false]
  refine wpAny_bind (wpAny_pyIter_gen (s := { s with heap := _ }) (gen1 q1) ?_)
  refine wpAny_bind (wpAny_holding ?_)
  unfold Builtin.List.listLengthHint
  refine wpAny_bind (wpAny_specialOf ((gen1 q1).typeIs (s := { s with heap := _ })) F.gen_no_len ?_)
  show wpAny _ A.in1 ((specialOf (Value.ref a) (Str.ofString "__length_hint__")) >>= _) _ _ _
  refine wpAny_bind (wpAny_specialOf ((gen1 q1).typeIs (s := { s with heap := _ })) F.gen_no_hint ?_)
  refine wpAny_pure ?_
  show wpAny _ A.in1 ((rule "list.extend.makes-room") >>= fun _ => Builtin.List.listTouch (.ref s.heap.objs.size) >>= fun _ => again (.builtin "list.extend.loop" ⟨[.ref s.heap.objs.size, .ref a, .ref s.heap.objs.size], []⟩)) _ _ _
  refine wpAny_bind (wpAny_rule ?_)
  refine wpAny_bind ?_
  show wpAny _ A.in1 ((updateSeq s.heap.objs.size (·.push .none)) >>= fun _ => updateSeq s.heap.objs.size (·.pop)) _ _ _
  refine wpAny_bind (wpAny_updateSeq e1 rfl ?_)
  have e2 := Heap.get?_update_self (Obj.mapSeq (·.push Value.none)) e1 rfl
  refine wpAny_updateSeq (hz := by seq_fits) e2 rfl ?_
  have e3 := Heap.get?_update_self (Obj.mapSeq (·.pop)) e2 rfl
  have off : ∀ (h : Heap) (f : Obj → Obj), (∀ b o, s.heap.get? b = some o → h.get? b = some o) → ∀ b o, s.heap.get? b = some o → (h.update s.heap.objs.size f).get? b = some o := fun h f q b o e =>
    (Heap.get?_update_other _ _ (Ne.symm (Nat.ne_of_lt (Heap.lt_size e)))).trans (q b o e)
  have q3 := off _ (Obj.mapSeq (·.pop)) (off _ (Obj.mapSeq (·.push Value.none)) q1)
  refine wpAny_pure ⟨plainId_quiet F.plain_extend_loop _, ?_⟩
  refine drain (P := P) (w := w) (outer := outer) (H := H) (sc := sc) (ex := ex) (Q := Q) (EX := fun _ _ _ => False) (A := A) (g := g) hr.hd hr.depth ne1 ne2
    (fun s4 acc c4 H4 ys p1 p2 p3 p4 p5 p6 p7 p8 p9 => ?_) (fun e s4 hc => ?_) sizeLine _ (gen1 q3) (hl.keeps q3) ⟨_, hgs, rfl, ?_⟩
  · show wpAny _ A ((load s.heap.objs.size) >>= _) _ _ s4
    refine wpAny_bind (wpAny_load p1 ?_)
    exact wpAny_pure (hQ s4 acc H4 ys p2 p3 p4 p5 p6 p7 p9)
  · obtain ⟨_, _, _, _, _, _, _, _, _, _, _, _, z⟩ := hc
    exact z.elim
  · refine wake _ _ _ ⟨hr.hd, ?_, ?_⟩ hfr (Nat.le_refl _) q3 ⟨_, e3⟩ hos (allBare_setGen (s := { s with heap := _ }) hb rfl)
    · have := hr.dp
      show A.depth + 3 * k + 5 < _
      omega
    · have := hr.un
      show A.units + 1 + 1 + 16 * k + 200 < _
      omega
/-- the tuple of what it hands out -/
theorem call_tuple_made {P : Program} {w : World} {outer : List Env} {H : Hp} {sc s : Shared} {ex : List Addr} {Q : List V → Hp → Prop} {A : Around} {k : Nat} {u : Value} {Qt : Value → Shared → Prop} {E : Value → Shared → Prop}
    (hr : Room (k + 2) A) (hfr : A.frames = some outer) (h : GMade P w k outer H sc ex Q (fun _ _ _ => False) u s)
    (hQ : ∀ (s' : Shared) (acc : Array Value) (H' : Hp) (ys : List V), Vals ys acc.toList → ys.length ≤ sizeLine → s'.os = sc.os → AllBare s'.gens → Un (frs outer) ex H H' sc.heap s'.heap → HOk P w H' s'.heap → Q ys H' →
      Qt (.ref s'.heap.objs.size) { s' with heap := s'.heap.push { cls := .type "tuple", data := .seq acc } }) :
    wpAny (model P w) A (call (.type "tuple") [u]) Qt E s := by
  have hty : s.TypeIs u "generator" := by
    obtain ⟨a, g, c, rfl, _, _, hg, _⟩ := h
    exact hg.typeIs
  refine callType_codes (Q₁ := fun obj s₁ => s₁.TypeIs obj "tuple" ∧ Qt obj s₁) F.called_tuple (F.typeCall_tuple_1 _) F.entry_object_init ?_ fun obj s₁ h₁ => ?_
  · refine codeAny_of_tree ?_
    show wpAny _ A.in1.in1 (do checkBuiltinCall "tuple.__new__" ⟨[.type "tuple", u], []⟩; again (.builtin "tuple.__new__" ⟨[.type "tuple", u], []⟩)) _ _ s
    refine wpAny_bind (wpAny_of_eq (F.newCall_tuple_1 _) (wpAny_pure ⟨plainId_quiet F.plain_tuple_new _, (codeAny_builtin F.entry_tuple_new ?_)⟩))
    rw [Around.under_plainId F.plain_tuple_new _]
    have v1 := sub_tuple_self
    have v2 := init_tuple_lookup
    have v3 := madeHere_tuple
    have room : Room (k + 1) A.in1.in1 := ⟨hr.hd, by have := hr.dp; show A.depth + 3 * (k + 1) + 5 < _; omega, by have := hr.un; show A.units + 1 + 1 + 16 * (k + 1) + 200 < _; omega⟩
    wp_walk using wpAny_typeOf hty, collect_made room hfr h
    intro s4 acc H4 ys p1 p2 p3 p4 p5 p6 p7
    show wpAny _ _ ((Builtin.Tuple.tupleExact acc.toList.toArray) >>= fun v => ret v) _ _ _
    unfold Builtin.Tuple.tupleExact
    refine wpAny_bind (wpAny_newObj_type ?_ (by show acc.toList.toArray.size ≤ sizeLine; rw [Array.toArray_toList, ← Array.length_toList, ← p1.length]; exact p2))
    refine wpAny_pure ?_
    rw [Array.toArray_toList]
    exact ⟨⟨_, Heap.get?_push_size _ rfl, rfl⟩, hQ s4 acc H4 ys p1 p2 p3 p4 p5 p6 p7⟩
  · exact ⟨h₁.1, F.args_object_init_2 obj _, object_init_meets F.called_tuple.init.lookup F.called_tuple.made (by decide) P w A.in1 _ s₁ ⟨h₁.1, rfl, h₁.2⟩⟩
end Wi

set_option maxHeartbeats 1000000
namespace Wi
open PySem L2 PySem.Spec PyProof.Rows GenW
/-! ### its plain worth -/
theorem CellR.tabs {K : PySem.W.Frag} {T : CT} {F F' H H' : Hp} (e : Same F F') (h : ∀ b o, H b = some o → (∀ ps, o ≠ .tbl ps) → H' b = some o) {a : Addr} : ∀ {c : Cell}, CellR K T F H a c → CellR K T F' H' a c
  | .lst xs, ⟨vs, q, r⟩ => ⟨vs, h _ _ q (fun ps z => by cases z), r.mono e⟩
  | .frz xs, ⟨vs, q, r⟩ => ⟨vs, e.seq q, r.mono e⟩
  | .ins c xs, ⟨dx, vs, q, l, r⟩ => ⟨dx, vs, h _ _ q (fun ps z => by cases z), l, r.mono e⟩
theorem CellsR.tabs {K : PySem.W.Frag} {T : CT} {F F' H H' : Hp} (e : Same F F') (h : ∀ b o, H b = some o → (∀ ps, o ≠ .tbl ps) → H' b = some o) : ∀ {st : Store} {κ : List Addr}, CellsR K T F H st κ → CellsR K T F' H' st κ
  | [], _, q => q
  | _ :: _, _, ⟨a, r, q, h1, h2⟩ => by subst q; exact ⟨a, r, rfl, CellR.tabs e h h1, CellsR.tabs e h h2⟩
theorem Tabs.xt {g : Gm} {st : Store} {κ : List Addr} {H H' : Hp} (s : StR g.K g.T g.Tb st κ H) (t : Tabs g H H') : Xt g st κ H st κ H' := by
  have sm : Same (Fz st κ H) (Fz st κ H') := fz_same fun b o hb ht e => ⟨hb, t.old b o e ht⟩
  refine ⟨⟨CellsR.tabs sm t.old s.cells, s.nd, fun a ha z => ?_, t.tb⟩, List.prefix_refl _, sm⟩
  cases e : H a with
  | none => exact s.there a ha e
  | some o =>
    cases o with
    | tbl ps => obtain ⟨ps', q⟩ := t.tbl a ps e; rw [z] at q; cases q
    | _ => rw [t.old a _ e (fun ps w => by cases w)] at z; cases z
theorem SlR.unset {K : PySem.W.Frag} {T : CT} {κ : List Addr} {F : Hp} : ∀ {ρ : Sl} {σ : L2.St} (i : Nat), SlR K T κ F ρ (σ.set i none) → SlR K T κ F ρ σ
  | [], [], _, _ => rfl
  | [], _ :: _, 0, h => by cases h
  | [], _ :: _, _ + 1, h => by cases h
  | _ :: _, [], _, ⟨_, _, q, _, _⟩ => by cases q
  | _ :: _, z :: σ, 0, ⟨x, r, q, h, t⟩ => by cases q; exact ⟨z, σ, rfl, (fun v hv => by obtain ⟨y, a, _⟩ := h v hv; cases a), t⟩
  | _ :: _, z :: σ, i + 1, ⟨x, r, q, h, t⟩ => by cases q; exact ⟨z, σ, rfl, h, SlR.unset i t⟩
theorem SlR.unwipe {K : PySem.W.Frag} {T : CT} {κ : List Addr} {F : Hp} {ρ : Sl} {σ : L2.St} : ∀ {vs : List Nat}, SlR K T κ F ρ (L2.wipe σ vs) → SlR K T κ F ρ σ
  | [], h => h
  | v :: vs, h => SlR.unwipe (vs := vs) (SlR.unset v h)
theorem wipeP_none {ρ : Sl} : ∀ {vs : List Nat} {i : Nat}, i ∈ vs → (wipeP ρ vs).set i none = wipeP ρ vs
  | [], _, h => by cases h
  | v :: vs, i, h => by
    unfold wipeP
    by_cases e : i = v
    · subst e; rw [List.set_set]
    · rw [List.set_comm _ _ (Ne.symm e), wipeP_none ((List.mem_cons.mp h).resolve_left e)]
theorem wipeP_wipeP {ρ : Sl} {vs : List Nat} : wipeP (wipeP ρ vs) vs = wipeP ρ vs := by
  have key : ∀ ws : List Nat, (∀ i ∈ ws, i ∈ vs) → wipeP (wipeP ρ vs) ws = wipeP ρ vs := by
    intro ws
    induction ws with
    | nil => intro _; rfl
    | cons w ws ih =>
      intro h
      show (wipeP (wipeP ρ vs) ws).set w none = _
      rw [ih fun i hi => h i (List.mem_cons_of_mem _ hi), wipeP_none (h w List.mem_cons_self)]
  exact key vs fun _ h => h
/-- turn by turn: what is left, what is out -/
def gGo (t : Pt) (c : DenT) (e : Den) (own : List Nat) : List PV → List PV → Sl → Store → Res (List PV)
  | [], acc, _, st => .ok acc st
  | x :: xs, acc, ρ, st => match bindPt t x (wipeP ρ own) with
    | some ρ1 => (noexc (c ρ1 st)).bind fun b st => if b then (noexc (e ρ1 st)).bind fun y st => if isTree y && Nat.blt acc.length 16777216 then gGo t c e own xs (acc ++ [y]) ρ st else .stuck 110 else gGo t c e own xs acc ρ st
    | none => .stuck 111
/-- tuple(e for t in i if c) -/
def dTupG (i : DenI) (t : Pt) (c : DenT) (e : Den) (own : List Nat) : Den := fun ρ st => (i ρ st).bind fun xs st => (gGo t c e own xs [] ρ st).bind fun ys st => .ok (.tup ys) st
theorem jx_gx {g : Gm} {l : Lc} {X : Cx} {k d : Nat} {elt tg iter : Expr} {ifs : List Expr} {scope : Scope} {pos : Pos} {pins : List (Addr × Obj)} {σ : L2.St} {it : Addr} {fp : List Addr} {tn : Nat → Heap → Prop} {J : It} {H : Hp} {s : Shared} {c' a : Addr} {gi : Nat} {go : Obj} {s' : Shared}
    (hJ : Jx g l X) (cf : CodeFor g X (d + 1)) (M : Made g X d elt tg iter ifs scope pos pins σ it fp tn J H s c' a gi go s') (hk : scope.kind = .function) {A : Around} (hr : Room (k + 1) A) :
    Jx g { l with top := false, sc := scope, n := k, fn := (fun x => scope.names.lookup x == some .cell), tab := d } (gxX X scope s H c' a go fp A) where
  p := hJ.p
  w := hJ.w
  k := hJ.k
  m := hJ.m
  b := hJ.b
  N := hJ.N
  sc := rfl
  nd := hJ.nd
  calm := rfl
  room := hr.deeper _
  own := PassesOwn.never
  kind := hk
  fn := fun x hx => hx
  stk := fun z => nomatch z
  code := fun _ => by
    obtain ⟨P, P', o, u, e1, e2, c, ps, e3, e4, tr, e5, deep⟩ := M.code
    refine ⟨⟨c', P', rfl, fun H2 h2 hok bs fz tb Tb => ?_⟩, cf.bm⟩
    have f1 : H2 c' = some (.frz o u) := fz c' o u e1
    have g1 : h2.get? c' = some o := (hok c' _ f1).1
    have D := deep H2 h2 hok bs (fun b o u q => fz b o u (M.inv.base.frzs b o u q)) (fun b qs q => by
      obtain ⟨m1, q1⟩ := M.inv.base.tbls b qs q
      obtain ⟨m2, q2⟩ := tb b _ q1
      exact ⟨m1 ++ m2, by rw [q2, Array.append_assoc]⟩) Tb
    obtain ⟨qs, q1, q2, q3⟩ := D
    obtain ⟨more, q4⟩ := tb P ps e4
    rw [q4] at q1
    cases q1
    have am : codeAmong pos (ps ++ more).toList = some (.ref c') := by
      rw [Array.toList_append]
      exact among_more tr e5
    obtain ⟨c2, P2, o2, u2, r1, r2, r3, r4⟩ := q3 pos _ am
    cases r1
    rw [f1] at r2
    cases r2
    have h1 := e2 h2 g1
    have h3 := r3 h2 g1
    have : P2 = P' := by
      obtain ⟨oa, va, _, _, _, _, _, _, _, a1, _, a3, a4, _⟩ := h1
      obtain ⟨ob, vb, _, _, _, _, _, _, _, b1, _, b3, b4, _⟩ := h3
      rw [a1] at b1
      cases b1
      rw [a3] at b3
      cases b3
      rw [a4] at b4
      cases b4
      rfl
    subst this
    exact ⟨h1, r4⟩
theorem takes_gx {X : Cx} {scope : Scope} {s : Shared} {H : Hp} {c' a : Addr} {go : Obj} {fp : List Addr} {A : Around} : Takes (gxX X scope s H c' a go fp A) W0 := fun u s' ⟨a, B, sI, pins, σ, H, cls, d, e, I, nb, up, sky, na, os, ag, w⟩ => w.elim
theorem Res.bind_assoc' {α β γ : Type} (r : Res α) (f : α → Store → Res β) (h : β → Store → Res γ) : (r.bind f).bind h = r.bind fun v st => (f v st).bind h := by
  cases r <;> rfl
theorem Run.slot2 {g : Gm} {α β : Type} {R : List Addr → Hp → α → β → Prop} {r : Res α} {st : Store} {κ : List Addr} {σ σ' : L2.St} {H : Hp} {Q : β → Hp → Prop} (h : Run g R W0 r st κ σ H Q) : Run g R W0 r st κ σ' H Q := by
  cases r with
  | ok v st' => exact h
  | exc c l st' => exact h
  | stuck w => exact h
section
variable {g : Gm} {l : Lc}
/-- the turns, from the plain worth -/
theorem gx_turn {β : Type} {R : List Addr → Hp → β → V → Prop} {t : Pt} {c : DenT} {e : Den} {own : List Nat} {ρ : Sl} {st1 : Store} {κ1 : List Addr} {σ0 : L2.St} {H1 : Hp} {xs : List PV} {J : It} {WW : WX} {Q : VK} {f : List PV → Store → Res β} (ho : ∀ j ∈ t.own, j ∈ own) (wk : Wk g J xs st1 κ1 H1)
    (i m : Nat) (ys : List V) (σ : L2.St) (H : Hp) (hW : ∃ acc st' κ', i + m = xs.length ∧ Xt g st1 κ1 H1 st' κ' H ∧ RepVs g.K g.T (Fz st' κ' H) acc ys ∧ SlR g.K g.T κ' (Fz st' κ' H) (wipeP ρ own) σ ∧ Run g R WW ((gGo t c e own (xs.drop i) acc ρ st').bind f) st' κ' σ0 H Q) :
    (J.stop i H ∧ ∃ acc st' κ', Xt g st1 κ1 H1 st' κ' H ∧ RepVs g.K g.T (Fz st' κ' H) acc ys ∧ Run g R WW (f acc st') st' κ' σ0 H Q) ∨
    (J.go i H ∧ ∀ x H', J.yld i H x H' → gP g.K t x σ H' fun σ2 H2 => tT g W0 c σ2 H2 fun b H3 => if b = true then tD g W0 e σ2 H3 fun y H4 => ys.length < sizeLine ∧ True ∧ (True → ∃ m', m' < m ∧
        ∃ acc st' κ', i + 1 + m' = xs.length ∧ Xt g st1 κ1 H1 st' κ' H4 ∧ RepVs g.K g.T (Fz st' κ' H4) acc (ys ++ [y]) ∧ SlR g.K g.T κ' (Fz st' κ' H4) (wipeP ρ own) σ2 ∧ Run g R WW ((gGo t c e own (xs.drop (i + 1)) acc ρ st').bind f) st' κ' σ0 H4 Q)
      else ∃ m', m' < m ∧ ∃ acc st' κ', i + 1 + m' = xs.length ∧ Xt g st1 κ1 H1 st' κ' H3 ∧ RepVs g.K g.T (Fz st' κ' H3) acc ys ∧ SlR g.K g.T κ' (Fz st' κ' H3) (wipeP ρ own) σ2 ∧ Run g R WW ((gGo t c e own (xs.drop (i + 1)) acc ρ st').bind f) st' κ' σ0 H3 Q) := by
  obtain ⟨acc, st', κ', hm, x1, ra, sl, h'⟩ := hW
  by_cases hj : i < xs.length
  · refine .inr ⟨wk.go i st' κ' H x1 hj, fun x H2 hy => ?_⟩
    obtain ⟨x2, r2⟩ := wk.yld i st' κ' H x H2 _ x1 (List.getElem?_eq_getElem hj) hy
    have xb := x1.trans x2
    have sl2 := sl.mono x2.pre x2.same
    have ra2 := ra.mono x2.same
    rw [List.drop_eq_getElem_cons hj] at h'
    unfold gGo at h'
    cases q : bindPt t xs[i] (wipeP ρ own) with
    | none => rw [q] at h'; exact h'.elim
    | some ρ1 =>
      rw [q] at h'
      dsimp only at h'
      refine bindPt_ok q r2 sl2 ho fun σ2 s2 hw => ?_
      have own2 : ∀ {κ3 : List Addr} {F3 : Hp}, SlR g.K g.T κ3 F3 (wipeP ρ own) σ → SlR g.K g.T κ3 F3 (wipeP ρ own) σ2 := fun {κ3 F3} z => by
        have z2 := SlR.wipe z own
        rw [wipeP_wipeP, ← hw] at z2
        exact z2.unwipe
      have rb := Run.bind (R := RB) (Run.xt x2 (by rw [Res.bind_assoc'] at h'; exact h'))
      refine ⟨ρ1, st', κ', ⟨x2.sr, s2⟩, (Run.slot2 (Run.noexc rb)).mono fun b H3 ⟨b', st3, κ3, e3, r3, h3⟩ => ?_⟩
      have r3 : b' = b := r3
      subst r3
      cases b' with
      | false =>
        rw [if_neg Bool.false_ne_true] at h3 ⊢
        exact ⟨xs.length - (i + 1), by omega, acc, st3, κ3, by omega, xb.trans e3, ra2.mono e3.same, own2 (sl2.mono e3.pre e3.same), h3⟩
      | true =>
        rw [if_pos rfl] at h3 ⊢
        have re := Run.bind (R := RX g) (by rw [Res.bind_assoc'] at h3; exact h3)
        refine ⟨ρ1, st3, κ3, (show Lies g ρ1 st' κ' σ2 H2 from ⟨x2.sr, s2⟩).xt e3, (Run.slot2 (Run.noexc re)).mono fun y H4 ⟨y', st4, κ4, e4, r4, h4⟩ => ?_⟩
        by_cases cnd : (isTree y' && Nat.blt acc.length 16777216) = true
        · rw [if_pos cnd] at h4
          rw [Bool.and_eq_true] at cnd
          have ra4 := (ra2.mono e3.same).mono e4.same
          refine ⟨?_, trivial, fun _ => ⟨xs.length - (i + 1), by omega, acc ++ [y'], st4, κ4, by omega, (xb.trans e3).trans e4, ra4.append (RepVs.one (r4.tree cnd.1)), own2 ((sl2.mono e3.pre e3.same).mono e4.pre e4.same), h4⟩⟩
          rw [← ra4.length]
          exact Nat.lt_of_succ_le (Nat.le_of_ble_eq_true cnd.2)
        · rw [if_neg cnd] at h4
          exact h4.elim
  · refine .inl ⟨wk.stop i st' κ' H x1 (by omega), acc, st', κ', x1, ra, ?_⟩
    rw [List.drop_eq_nil_of_le (by omega)] at h'
    exact h'
end
end Wi

set_option maxHeartbeats 1000000
namespace Wi
open PySem L2 PySem.Spec PyProof.Rows GenW
section
variable {g : Gm} {l : Lc}
theorem Run.ofI {α β : Type} {R : List Addr → Hp → α → β → Prop} {W : WX} {r : Res (List PV)} {f : List PV → Store → Res α} {st : Store} {κ : List Addr} {σ : L2.St} {H : Hp} {Q : β → Hp → Prop} (h : Run g R W (r.bind f) st κ σ H Q) :
    RunI g W r st κ σ H fun J H1 => ∃ xs st1 κ1, Xt g st κ H st1 κ1 H1 ∧ Wk g J xs st1 κ1 H1 ∧ Run g R W (f xs st1) st1 κ1 σ H1 Q := by
  cases r with
  | ok v st' => exact fun κ' H' J e w => ⟨v, st', κ', e, w, h.xt e⟩
  | exc c l st' => exact h
  | stuck w => exact h
theorem code_less {X : Cx} {n m : Nat} (h : CodeFor g X n) (hm : m ≤ n) : CodeFor g X m := by
  obtain ⟨⟨c, P, e, f⟩, b⟩ := h
  refine ⟨⟨c, P, e, fun H h a1 a2 a3 a4 a5 => ?_⟩, b⟩
  obtain ⟨q1, q2⟩ := f H h a1 a2 a3 a4 a5
  refine ⟨q1, ?_⟩
  have key : ∀ d, TabD H (m + d) P → TabD H m P := fun d => by
    induction d with
    | zero => exact id
    | succ d ih => exact fun z => ih z.less
  exact key (n - m) (by rw [Nat.add_sub_cancel' hm]; exact q2)
theorem ed_tupG (tb : TbOk g) (tg' : TbGrow g) {k d : Nat} {elt tg iter : Expr} {ifs : List Expr} {scope : Scope} {own : List (Str × Nat)} {gpos p pos : Pos} {i : DenI} {t : Pt} {c : DenT} {e : Den}
    (b : Blt g l "tuple" (.type "tuple")) (hn : k + 3 ≤ l.n) (hd : d + 1 ≤ l.tab) (hi : ID g l i tg iter) (ok : blkC l.N l.sc scope own = true) (h0 : scope.names.lookup (".0" : Str) = some NameKind.local) (hco : scope.isCoroutine = false)
    (hp : PtD g { l with top := false, sc := scope, n := k, fn := (fun x => scope.names.lookup x == some .cell), tab := d } t tg) (hc : TsD g { l with top := false, sc := scope, n := k, fn := (fun x => scope.names.lookup x == some .cell), tab := d } c ifs) (he : ED g { l with top := false, sc := scope, n := k, fn := (fun x => scope.names.lookup x == some .cell), tab := d } e elt)
    (ho : ∀ j ∈ t.own, j ∈ own.map (·.2)) (hs : ∀ env x, genFold iter env x = pure x)
    (hst : ∀ env, starEach [.GeneratorExp elt [⟨tg, iter, ifs, 0⟩] scope gpos] env = (false, eval (.GeneratorExp elt [⟨tg, iter, ifs, 0⟩] scope gpos) env) :: starEach [] env) :
    ED g l (dTupG i t c e (own.map (·.2))) (.Call (.Name "tuple" p) [.GeneratorExp elt [⟨tg, iter, ifs, 0⟩] scope gpos] [] pos) := fun X W J tk => ⟨fun pins s σ H Q I ⟨ρ, st, κ, L, h⟩ => by
  have okX : BlkOk X.N X.env.scope scope own := by rw [J.N, J.sc]; exact blkOk_by ok
  have hN : X.N.Nodup := by rw [J.N]; exact J.nd
  have cf : CodeFor g X (d + 1) := code_less (J.code (Nat.lt_of_lt_of_le (Nat.succ_pos d) hd)) hd
  refine wpAny_Call_Name_kw (ld_blt I (gl_of J b.gl) (by rw [J.m]; exact b.mg) b.bt ?_ (by decide) (by decide))
  refine PyProof.Rows.callWith_type1 ?_ (hst _) rfl
  rw [hst]
  show wpAny _ _ (spliced ((false, eval (.GeneratorExp elt [⟨tg, iter, ifs, 0⟩] scope gpos) X.env) :: backTo pos (starEach [] X.env))) _ _ s
  refine Calls.spliced_cons (eval_gx J.p J.w cf tg' J.room.depth okX h0 hco (hi X W J tk) (hs _) I ⟨ρ, st, κ, L, Run.ofI h⟩ (fun _ H1 ⟨_, _, _, e1, _, _⟩ => e1.sr.tabs) fun Jt H1 H2 it fp tn s2 c' a gi go s3 ⟨xs, st1, κ1, e1, w1, h1⟩ tabs M => ?_)
  refine Calls.spliced_nil ?_
  have x2 := Tabs.xt e1.sr tabs
  have L2 : Lies g ρ st1 κ1 σ H2 := (L.xt e1).xt x2
  have gm := M.gmade (k := k + 1) okX hN hco (gg := gP g.K t) (tt := tT g W0 c) (te := tD g W0 e) (fun A hr => hp _ (jx_gx J cf M okX.kind hr)) (fun A hr => hc _ W0 (jx_gx J cf M okX.kind hr) takes_gx) (fun A hr => he _ W0 (jx_gx J cf M okX.kind hr) takes_gx)
    _ (fun _ _ _ => True) _ (fun i m ys σ' H' hW => gx_turn (R := RX g) (WW := W) (Q := Q) (σ0 := σ) (ρ := ρ) ho (w1.xt x2) i m ys σ' H' hW) (m0 := xs.length)
    ⟨[], st1, κ1, by omega, Ext.refl x2.sr, rfl, SlR.wipe L2.sl _, by rw [List.drop_zero]; exact h1.xt x2⟩
  refine call_tuple_made (J.room.mono hn) I.ok.frames gm fun s4 acc H4 ys v1 v2 v3 v4 v5 v6 ⟨acc', st4, κ4, x4, ra, h4⟩ => ?_
  have I4 : Inv X pins σ H4 s4 := M.inv.call' (ch := fp) v3 v5 v6 v4 fun b hb => ⟨(M.fo b hb).1.2.2.2.1, (M.fo b hb).1.2.1, (M.fo b hb).1.2.2.2.2.1, (M.fo b hb).1.2.2.2.2.2⟩
  have hf : H4 s4.heap.objs.size = none := I4.hok.fresh (Nat.le_refl _)
  refine ⟨.ref s4.heap.objs.size, _, I4.layT (t' := s4.toks) v1 v2, rfl, ?_⟩
  exact h4 _ _ _ (StR.upd_new tb x4.sr hf) (rep_tup_new tb x4.sr rfl hf ra)⟩
end
end Wi

set_option maxHeartbeats 1000000
namespace Wi
open PySem L2 PySem.Spec PyProof.Rows GenW
/-! ### all(..), any(..) of it -/
def REnd0 (P : Program) (w : World) (outer : List Env) (H : Hp) (s : Shared) (ex : List Addr) (End : List V → Hp → Prop) : GenEnd := fun n s₀ r s1 =>
  ((r = .ok (.ret .none) ∨ r = .ok .next) ∧ ∃ H' ys, s1.os = s.os ∧ AllBare s1.gens ∧ Un (frs outer) ex H H' s.heap s1.heap ∧ HOk P w H' s1.heap ∧ End ys H') ∨ ∃ e, r = .error e ∧ False
def YItem0 (P : Program) (w : World) (outer : List Env) (H : Hp) (s : Shared) (ex : List Addr) (a : Addr) (g : Nat) (quit : Bool) (Out : List V → V → Hp → Prop) : Protocol := fun n s₀ v s1 kap =>
  s1.os = s.os ∧ AllBare s1.gens ∧ s1.heap.NoLimit ∧ s1.heap.IsGen a g ∧ (∃ H' ys y, Un (frs outer) ex H H' s.heap s1.heap ∧ HOk P w H' s1.heap ∧ RelV y v ∧ Out ys y H') ∧ ∀ s', (eat0 quit).slp v s1 s' → kap (.send .none) s'
def GMade0 (P : Program) (w : World) (k : Nat) (outer : List Env) (H : Hp) (s : Shared) (ex : List Addr) (quit : Bool) (Out : List V → V → Hp → Prop) (End : List V → Hp → Prop) (u : Value) (s' : Shared) : Prop :=
  ∃ (a : Addr) (g : Nat) (c : Code), u = .ref a ∧ s'.heap.IsGen a g ∧ s'.gens[g]? = some (.fresh c) ∧ s'.os = s.os ∧ AllBare s'.gens ∧ s'.heap.NoLimit ∧
    ∀ (A : Around) (s2 : Shared), Room k A → A.frames = some outer → (∀ b o, s'.heap.get? b = some o → s2.heap.get? b = some o) → s2.os = s.os → AllBare s2.gens →
      Seg (model P w) A (REnd0 P w outer H s ex End) (YItem0 P w outer H s ex a g quit Out) sizeLine s2 c ((model P w).den c) [] s2
theorem Made.gmade0 {g : Gm} {X : Cx} {n k : Nat} {quit : Bool} {elt tg iter : Expr} {ifs : List Expr} {scope : Scope} {pos : Pos} {pins : List (Addr × Obj)} {σ : L2.St} {it : Addr} {fp : List Addr} {tn : Nat → Heap → Prop} {J : It} {H : Hp} {s : Shared} {c' a : Addr} {gi : Nat} {go : Obj} {s' : Shared}
    (M : Made g X n elt tg iter ifs scope pos pins σ it fp tn J H s c' a gi go s') {own : List (Str × Nat)} (ok : BlkOk X.N X.env.scope scope own) (hN : X.N.Nodup) (hco : scope.isCoroutine = false)
    {gg : TG} {tt : TT} {te : TE} (hg : ∀ A, Room k A → PG (gxX X scope s H c' a go fp A) tg gg) (ht : ∀ A, Room k A → PTs (gxX X scope s H c' a go fp A) ifs tt) (he : ∀ A, Room k A → PE (gxX X scope s H c' a go fp A) elt te)
    (W : Nat → Nat → List V → L2.St → Hp → Prop) (Out : List V → V → Hp → Prop) (End : List V → Hp → Prop)
    (turn : ∀ i m ys σ H, W i m ys σ H → (J.stop i H ∧ End ys H) ∨ (J.go i H ∧ ∀ x H', J.yld i H x H' → gg x σ H' fun σ2 H2 => tt σ2 H2 fun b H3 =>
      if b = true then te σ2 H3 fun y H4 => ys.length < sizeLine ∧ Out ys y H4 ∧ (y ≠ .bl quit → ∃ m', m' < m ∧ W (i + 1) m' (ys ++ [y]) σ2 H4) else ∃ m', m' < m ∧ W (i + 1) m' ys σ2 H3))
    {m0 : Nat} (w0 : W 0 m0 [] (wipe σ (own.map (·.2))) H) : GMade0 X.prog X.w k X.stack H s fp quit Out End (.ref a) s' := by
  obtain ⟨g1, g2, ⟨nm, qn, g3⟩, g4⟩ := M.gen
  have lim : s'.heap.NoLimit := M.inv.nolimit.keeps M.keep
  refine ⟨a, gi, _, rfl, ⟨go, nm, qn, g1, g2, g3, g4⟩, M.fresh, M.os, M.bare, lim, fun A s2 hr hfr kp2 os2 ba2 => ?_⟩
  have sg := M.seg ok hN hco hr.hd hfr kp2 os2 ba2 (eat0 quit) (pins2 := []) (fun p hp => by cases hp) rfl eat0_ok (hg A hr) (ht A hr) (he A hr) W Out End turn w0 (s₀ := s2)
  refine seg_imp (fun n s₀ r s1 hR => ?_) (fun n s₀ v s1 kap kap' hkk hY => ?_) sizeLine sg
  · obtain ⟨rfl, ys, σ1, H1, ps, hl, _, I1, q⟩ := hR
    exact .inl ⟨.inr rfl, H1, ys, I1.os, I1.bare, I1.base, I1.hok, q⟩
  · obtain ⟨ys, y, σ1, H1, ps, hn, ry, _, I1, out, hk⟩ := hY
    obtain ⟨q1, _⟩ := I1.pin (a, go) (List.mem_append_left _ (List.mem_singleton.mpr rfl))
    exact ⟨I1.os, I1.bare, I1.nolimit, ⟨go, nm, qn, q1, g2, g3, g4⟩, ⟨H1, ys, y, I1.base, I1.hok, ry, out⟩, fun s3 z => hkk _ _ (hk s3 z)⟩
/-- all: it stops at False, any: at True -/
theorem quit_loop {P : Program} {w : World} {outer : List Env} {H : Hp} {sc : Shared} {ex : List Addr} {A : Around} {R : Result → Shared → Prop} {a : Addr} {g : Nat} {quit : Bool} {id : String} {Bi : Builtin} (hid : plainId id = true) (hen : entryFor table id = some Bi)
    (hBi : ∀ (Q : PySem.Fin → Shared → Prop) (E : Value → Shared → Prop) (s : Shared), wpAny (model P w) A.in1 (pyNext (.ref a)) (fun o s1 => match o with
      | none => Q (.done (.ret (.bool (!quit)))) s1
      | some v => ∃ b, v = .bool b ∧ Q (if b = quit then .done (.ret (.bool quit)) else .again (.builtin id ⟨[.ref a], []⟩)) s1) E s → wpAny (model P w) A.in1 (Bi ⟨[.ref a], []⟩) Q E s)
    (hh : A.handled = none) (hd : A.depth < recursionLimit) (End : List V → Hp → Prop) (Out : List V → V → Hp → Prop)
    (hOut : ∀ ys y H', Out ys y H' → ∃ b, y = .bl b ∧ (b = quit → Out ys y H'))
    (hend : ∀ s' H' ys, s'.os = sc.os → AllBare s'.gens → Un (frs outer) ex H H' sc.heap s'.heap → HOk P w H' s'.heap → End ys H' → R (.ok (.ret (.bool (!quit)))) s')
    (hquit : ∀ s' H' ys, s'.os = sc.os → AllBare s'.gens → Un (frs outer) ex H H' sc.heap s'.heap → HOk P w H' s'.heap → Out ys (.bl quit) H' → R (.ok (.ret (.bool quit))) s') :
    ∀ (m : Nat) (s : Shared), s.heap.IsGen a g → s.heap.NoLimit →
      (∃ gs, s.gens[g]? = some gs ∧ gs.Goes (model P w) A.in1.in1 (REnd0 P w outer H sc ex End) (YItem0 P w outer H sc ex a g quit Out) m (.send .none) (s.setGen g .running)) →
      codeAny (model P w) A (.builtin id ⟨[.ref a], []⟩) R s := by
  have goes : ∀ {gs : GenState} {B : Around} {n : Nat} {r : Resume} {s : Shared}, gs.Goes (model P w) B (REnd0 P w outer H sc ex End) (YItem0 P w outer H sc ex a g quit Out) n r s →
      gs.Goes (model P w) B (fun n s₀ r s1 => ((r = .ok (.ret .none) ∨ r = .ok .next) ∧ (∃ H' ys, s1.os = sc.os ∧ AllBare s1.gens ∧ Un (frs outer) ex H H' sc.heap s1.heap ∧ HOk P w H' s1.heap ∧ End ys H')) ∨ ∃ e, r = .error e ∧ (fun (_ : Value) (_ : Shared) => False) e s1) (YItem0 P w outer H sc ex a g quit Out) n r s := fun h => h
  intro m
  induction m with
  | zero =>
    intro s hg hl ⟨gs, hgs, hgo⟩
    refine codeAny_builtin hen ?_
    rw [Around.under_plainId hid _]
    refine hBi _ _ _ (next_genG (A := A.in1) hh hl hd hg hgs (goes hgo) (fun v s₁ gs' hbare hv => ?_) (fun s₁ hp h' hk => ?_) fun e s₁ he => he.elim)
    · obtain ⟨os1, hb1, _, _, ⟨H', ys, y, un, hok, ry, out⟩, hk⟩ := hv
      obtain ⟨b, rfl, _⟩ := hOut ys y H' out
      obtain rfl : v = .bool b := ry
      refine ⟨b, rfl, ?_⟩
      by_cases hb : b = quit
      · rw [if_pos hb]
        subst hb
        exact hquit _ H' ys os1 (allBare_setGen hb1 hbare) un hok out
      · exact False.elim (hk s₁ ⟨fun z => hb (by cases z; rfl), rfl, hb1, fun _ _ e => e⟩)
    · obtain ⟨H', ys, os1, hb1, un, hok, q⟩ := hp
      exact hend _ H' ys os1 (allBare_setGen hb1 rfl) (un.trans (Un.kept hk)) (hok.kept hk) q
  | succ m ih =>
    intro s hg hl ⟨gs, hgs, hgo⟩
    have hgl : g < s.gens.size := (Array.getElem?_eq_some_iff.mp hgs).1
    refine codeAny_builtin hen ?_
    rw [Around.under_plainId hid _]
    refine hBi _ _ _ (wpAny_gsz (n := g + 1) hgl (next_genG (A := A.in1) hh hl hd hg hgs (goes hgo) (fun v s₁ gs' hbare hv => ?_) (fun s₁ hp h' hk => ?_) fun e s₁ he => he.elim))
    · intro hsz
      obtain ⟨os1, hb1, hl1, hg1, ⟨H', ys, y, un, hok, ry, out⟩, hk⟩ := hv
      obtain ⟨b, rfl, _⟩ := hOut ys y H' out
      obtain rfl : v = .bool b := ry
      refine ⟨b, rfl, ?_⟩
      by_cases hb : b = quit
      · rw [if_pos hb]
        subst hb
        exact hquit _ H' ys os1 (allBare_setGen hb1 hbare) un hok out
      · rw [if_neg hb]
        have hsz1 : g < s₁.gens.size := by
          have q : (s₁.setGen g gs').gens.size = s₁.gens.size := setGen_size _ _ _
          have hsz' : g + 1 ≤ (s₁.setGen g gs').gens.size := hsz
          omega
        exact ⟨plainId_quiet hid _, ih (s₁.setGen g gs') hg1 hl1 ⟨gs', setGen_at hsz1, hk _ ⟨fun z => hb (by cases z; rfl), rfl, allBare_setGen (s := s₁.setGen g gs') (allBare_setGen hb1 hbare) rfl, fun _ _ e => e⟩⟩⟩
    · intro hsz
      obtain ⟨H', ys, os1, hb1, un, hok, q⟩ := hp
      exact hend _ H' ys os1 (allBare_setGen hb1 rfl) (un.trans (Un.kept hk)) (hok.kept hk) q
end Wi

set_option maxHeartbeats 1000000
namespace Wi
open PySem L2 PySem.Spec PyProof.Rows GenW
section
variable {P : Program} {w : World} {outer : List Env} {H : Hp} {sc s : Shared} {ex : List Addr} {A : Around} {k : Nat} {u : Value} {Qr : Value → Shared → Prop} {E : Value → Shared → Prop} {End : List V → Hp → Prop} {Out : List V → V → Hp → Prop}
theorem call_all_made (hr : Room (k + 2) A) (hfr : A.frames = some outer) (h : GMade0 P w k outer H sc ex false Out End u s) (hOut : ∀ ys y H', Out ys y H' → ∃ b, y = .bl b ∧ (b = false → Out ys y H'))
    (hend : ∀ s' H' ys, s'.os = sc.os → AllBare s'.gens → Un (frs outer) ex H H' sc.heap s'.heap → HOk P w H' s'.heap → End ys H' → Qr (.bool true) s')
    (hquit : ∀ s' H' ys, s'.os = sc.os → AllBare s'.gens → Un (frs outer) ex H H' sc.heap s'.heap → HOk P w H' s'.heap → Out ys (.bl false) H' → Qr (.bool false) s') : wpAny (model P w) A (call (.builtin "all") [u]) Qr E s := by
  obtain ⟨a, g, c, rfl, hg, hgs, hos, hb, hl, wake⟩ := h
  refine call_function_tree F.kind_all F.plain_all F.entry_all (F.args_all1 _) ?_
  unfold Builtin.«all»
  refine wpAny_bind (m := oneArg "all" _) (wpAny_pure ?_)
  refine wpAny_bind (wpAny_pyIter_gen hg ?_)
  refine wpAny_pure ⟨plainId_quiet F.plain_all_loop _, ?_⟩
  refine quit_loop (quit := false) (Bi := Builtin.«all.loop») (End := End) (Out := Out) (sc := sc) (ex := ex) (outer := outer) (H := H) (g := g) F.plain_all_loop F.entry_all_loop (fun Q2 E2 s2 hq => ?_) hr.hd hr.depth hOut (fun s' H' ys q1 q2 q3 q4 q5 => ?_) (fun s' H' ys q1 q2 q3 q4 q5 => ?_) sizeLine s hg hl
    ⟨_, hgs, rfl, wake _ _ ⟨hr.hd, by have := hr.dp; show A.depth + 3 * k + 5 < _; omega, by have := hr.un; show A.units + 1 + 1 + 16 * k + 200 < _; omega⟩ hfr (fun _ _ e => e) hos (allBare_setGen hb rfl)⟩
  · show wpAny _ A.in1 ((pyNext (.ref a)) >>= _) _ _ s2
    refine wpAny_bind (wpAny_mono hq (fun o s3 h3 => ?_) fun _ _ e => e)
    cases o with
    | none => exact wpAny_bind (wpAny_rule (wpAny_pure h3))
    | some v =>
      obtain ⟨b, rfl, q⟩ := h3
      refine wpAny_bind (wpAny_holding (wpAny_truthy_bool ?_))
      refine wpAny_bind (wpAny_letGo ?_)
      cases b with
      | true => exact wpAny_pure q
      | false => exact wpAny_bind (wpAny_rule (wpAny_pure q))
  · exact hend s' H' ys q1 q2 q3 q4 q5
  · exact hquit s' H' ys q1 q2 q3 q4 q5
theorem call_any_made (hr : Room (k + 2) A) (hfr : A.frames = some outer) (h : GMade0 P w k outer H sc ex true Out End u s) (hOut : ∀ ys y H', Out ys y H' → ∃ b, y = .bl b ∧ (b = true → Out ys y H'))
    (hend : ∀ s' H' ys, s'.os = sc.os → AllBare s'.gens → Un (frs outer) ex H H' sc.heap s'.heap → HOk P w H' s'.heap → End ys H' → Qr (.bool false) s')
    (hquit : ∀ s' H' ys, s'.os = sc.os → AllBare s'.gens → Un (frs outer) ex H H' sc.heap s'.heap → HOk P w H' s'.heap → Out ys (.bl true) H' → Qr (.bool true) s') : wpAny (model P w) A (call (.builtin "any") [u]) Qr E s := by
  obtain ⟨a, g, c, rfl, hg, hgs, hos, hb, hl, wake⟩ := h
  refine call_function_tree F.kind_any F.plain_any F.entry_any (F.args_any1 _) ?_
  unfold Builtin.«any»
  refine wpAny_bind (m := oneArg "any" _) (wpAny_pure ?_)
  refine wpAny_bind (wpAny_pyIter_gen hg ?_)
  refine wpAny_pure ⟨plainId_quiet F.plain_any_loop _, ?_⟩
  refine quit_loop (quit := true) (Bi := Builtin.«any.loop») (End := End) (Out := Out) (sc := sc) (ex := ex) (outer := outer) (H := H) (g := g) F.plain_any_loop F.entry_any_loop (fun Q2 E2 s2 hq => ?_) hr.hd hr.depth hOut (fun s' H' ys q1 q2 q3 q4 q5 => ?_) (fun s' H' ys q1 q2 q3 q4 q5 => ?_) sizeLine s hg hl
    ⟨_, hgs, rfl, wake _ _ ⟨hr.hd, by have := hr.dp; show A.depth + 3 * k + 5 < _; omega, by have := hr.un; show A.units + 1 + 1 + 16 * k + 200 < _; omega⟩ hfr (fun _ _ e => e) hos (allBare_setGen hb rfl)⟩
  · show wpAny _ A.in1 ((pyNext (.ref a)) >>= _) _ _ s2
    refine wpAny_bind (wpAny_mono hq (fun o s3 h3 => ?_) fun _ _ e => e)
    cases o with
    | none => exact wpAny_bind (wpAny_rule (wpAny_pure h3))
    | some v =>
      obtain ⟨b, rfl, q⟩ := h3
      refine wpAny_bind (wpAny_holding (wpAny_truthy_bool ?_))
      refine wpAny_bind (wpAny_letGo ?_)
      cases b with
      | true => exact wpAny_bind (wpAny_rule (wpAny_pure q))
      | false => exact wpAny_pure q
  · exact hend s' H' ys q1 q2 q3 q4 q5
  · exact hquit s' H' ys q1 q2 q3 q4 q5
end
/-- turn by turn: it stops at quit -/
def qGo (quit : Bool) (t : Pt) (c : DenT) (e : Den) (own : List Nat) : List PV → Sl → Store → Res PV
  | [], _, st => .ok (.bl (!quit)) st
  | x :: xs, ρ, st => match bindPt t x (wipeP ρ own) with
    | some ρ1 => (noexc (c ρ1 st)).bind fun b st => if b then (noexc (e ρ1 st)).bind fun y st => match y with
        | .bl b => if b = quit then .ok (.bl quit) st else qGo quit t c e own xs ρ st
        | _ => .stuck 112
      else qGo quit t c e own xs ρ st
    | none => .stuck 113
def dQuit (quit : Bool) (i : DenI) (t : Pt) (c : DenT) (e : Den) (own : List Nat) : Den := fun ρ st => (i ρ st).bind fun xs st => if lineB xs.length then qGo quit t c e own xs ρ st else .stuck 114
section
variable {g : Gm} {l : Lc}
theorem q_turn {quit : Bool} {t : Pt} {c : DenT} {e : Den} {own : List Nat} {ρ : Sl} {st1 : Store} {κ1 : List Addr} {σ0 : L2.St} {H1 : Hp} {xs : List PV} {J : It} {WW : WX} {Q : VK} (ho : ∀ j ∈ t.own, j ∈ own) (hlen : xs.length ≤ sizeLine) (wk : Wk g J xs st1 κ1 H1)
    (i m : Nat) (ys : List V) (σ : L2.St) (H : Hp) (hW : ∃ st' κ', i + m = xs.length ∧ ys.length ≤ i ∧ Xt g st1 κ1 H1 st' κ' H ∧ SlR g.K g.T κ' (Fz st' κ' H) (wipeP ρ own) σ ∧ Run g (RX g) WW (qGo quit t c e own (xs.drop i) ρ st') st' κ' σ0 H Q) :
    (J.stop i H ∧ Q (.bl (!quit)) H) ∨
    (J.go i H ∧ ∀ x H', J.yld i H x H' → gP g.K t x σ H' fun σ2 H2 => tT g W0 c σ2 H2 fun b H3 => if b = true then tD g W0 e σ2 H3 fun y H4 => ys.length < sizeLine ∧ (∃ b, y = .bl b ∧ (b = quit → Q (.bl quit) H4)) ∧ (y ≠ .bl quit → ∃ m', m' < m ∧
        ∃ st' κ', i + 1 + m' = xs.length ∧ (ys ++ [y]).length ≤ i + 1 ∧ Xt g st1 κ1 H1 st' κ' H4 ∧ SlR g.K g.T κ' (Fz st' κ' H4) (wipeP ρ own) σ2 ∧ Run g (RX g) WW (qGo quit t c e own (xs.drop (i + 1)) ρ st') st' κ' σ0 H4 Q)
      else ∃ m', m' < m ∧ ∃ st' κ', i + 1 + m' = xs.length ∧ ys.length ≤ i + 1 ∧ Xt g st1 κ1 H1 st' κ' H3 ∧ SlR g.K g.T κ' (Fz st' κ' H3) (wipeP ρ own) σ2 ∧ Run g (RX g) WW (qGo quit t c e own (xs.drop (i + 1)) ρ st') st' κ' σ0 H3 Q) := by
  obtain ⟨st', κ', hm, hy0, x1, sl, h'⟩ := hW
  by_cases hj : i < xs.length
  · refine .inr ⟨wk.go i st' κ' H x1 hj, fun x H2 hy => ?_⟩
    obtain ⟨x2, r2⟩ := wk.yld i st' κ' H x H2 _ x1 (List.getElem?_eq_getElem hj) hy
    have xb := x1.trans x2
    have sl2 := sl.mono x2.pre x2.same
    rw [List.drop_eq_getElem_cons hj] at h'
    unfold qGo at h'
    cases q : bindPt t xs[i] (wipeP ρ own) with
    | none => rw [q] at h'; exact h'.elim
    | some ρ1 =>
      rw [q] at h'
      dsimp only at h'
      refine bindPt_ok q r2 sl2 ho fun σ2 s2 hw => ?_
      have own2 : ∀ {κ3 : List Addr} {F3 : Hp}, SlR g.K g.T κ3 F3 (wipeP ρ own) σ → SlR g.K g.T κ3 F3 (wipeP ρ own) σ2 := fun {κ3 F3} z => by
        have z2 := SlR.wipe z own
        rw [wipeP_wipeP, ← hw] at z2
        exact z2.unwipe
      have rb := Run.bind (R := RB) (Run.xt x2 h')
      refine ⟨ρ1, st', κ', ⟨x2.sr, s2⟩, (Run.slot2 (Run.noexc rb)).mono fun b H3 ⟨b', st3, κ3, e3, r3, h3⟩ => ?_⟩
      have r3 : b' = b := r3
      subst r3
      cases b' with
      | false =>
        rw [if_neg Bool.false_ne_true] at h3 ⊢
        exact ⟨xs.length - (i + 1), by omega, st3, κ3, by omega, by omega, xb.trans e3, own2 (sl2.mono e3.pre e3.same), h3⟩
      | true =>
        rw [if_pos rfl] at h3 ⊢
        have re := Run.bind (R := RX g) h3
        refine ⟨ρ1, st3, κ3, (show Lies g ρ1 st' κ' σ2 H2 from ⟨x2.sr, s2⟩).xt e3, (Run.slot2 (Run.noexc re)).mono fun y H4 ⟨y', st4, κ4, e4, r4, h4⟩ => ?_⟩
        cases y' with
        | bl b =>
          obtain rfl : y = .bl b := r4
          dsimp only at h4
          refine ⟨by omega, ⟨b, rfl, fun hb => ?_⟩, fun hb => ?_⟩
          · rw [if_pos hb] at h4
            exact Run.ret e4.sr h4 rfl
          · rw [if_neg fun z => hb (by rw [z])] at h4
            exact ⟨xs.length - (i + 1), by omega, st4, κ4, by omega, by rw [List.length_append, List.length_singleton]; omega, (xb.trans e3).trans e4, own2 ((sl2.mono e3.pre e3.same).mono e4.pre e4.same), h4⟩
        | non => exact h4.elim
        | int _ => exact h4.elim
        | str _ => exact h4.elim
        | tup _ => exact h4.elim
        | lst _ => exact h4.elim
        | ref _ => exact h4.elim
        | obj _ _ => exact h4.elim
  · refine .inl ⟨wk.stop i st' κ' H x1 (by omega), ?_⟩
    rw [List.drop_eq_nil_of_le (by omega)] at h'
    exact Run.ret x1.sr h' rfl
theorem ed_allG (tb : TbOk g) (tg' : TbGrow g) {k d : Nat} {elt tg iter : Expr} {ifs : List Expr} {scope : Scope} {own : List (Str × Nat)} {gpos p pos : Pos} {i : DenI} {t : Pt} {c : DenT} {e : Den}
    (b : Blt g l "all" (.builtin "all")) (hn : k + 3 ≤ l.n) (hd : d + 1 ≤ l.tab) (hi : ID g l i tg iter) (ok : blkC l.N l.sc scope own = true) (h0 : scope.names.lookup (".0" : Str) = some NameKind.local) (hco : scope.isCoroutine = false)
    (hp : PtD g { l with top := false, sc := scope, n := k, fn := (fun x => scope.names.lookup x == some .cell), tab := d } t tg) (hc : TsD g { l with top := false, sc := scope, n := k, fn := (fun x => scope.names.lookup x == some .cell), tab := d } c ifs) (he : ED g { l with top := false, sc := scope, n := k, fn := (fun x => scope.names.lookup x == some .cell), tab := d } e elt)
    (ho : ∀ j ∈ t.own, j ∈ own.map (·.2)) (hs : ∀ env x, genFold iter env x = pure x)
    (hst : ∀ env, starEach [.GeneratorExp elt [⟨tg, iter, ifs, 0⟩] scope gpos] env = (false, eval (.GeneratorExp elt [⟨tg, iter, ifs, 0⟩] scope gpos) env) :: starEach [] env) :
    ED g l (dQuit false i t c e (own.map (·.2))) (.Call (.Name "all" p) [.GeneratorExp elt [⟨tg, iter, ifs, 0⟩] scope gpos] [] pos) := fun X W J tk => ⟨fun pins s σ H Q I ⟨ρ, st, κ, L, h⟩ => by
  have okX : BlkOk X.N X.env.scope scope own := by rw [J.N, J.sc]; exact blkOk_by ok
  have hN : X.N.Nodup := by rw [J.N]; exact J.nd
  have cf : CodeFor g X (d + 1) := code_less (J.code (Nat.lt_of_lt_of_le (Nat.succ_pos d) hd)) hd
  refine wpAny_Call_Name_kw (ld_blt I (gl_of J b.gl) (by rw [J.m]; exact b.mg) b.bt ?_ (by decide) (by decide))
  refine PyProof.Rows.callWith_builtin1 ?_ (hst _) (by rfl)
  rw [hst]
  show wpAny _ _ (spliced ((false, eval (.GeneratorExp elt [⟨tg, iter, ifs, 0⟩] scope gpos) X.env) :: backTo pos (starEach [] X.env))) _ _ s
  refine Calls.spliced_cons (eval_gx J.p J.w cf tg' J.room.depth okX h0 hco (hi X W J tk) (hs _) I ⟨ρ, st, κ, L, Run.ofI h⟩ (fun _ H1 ⟨_, _, _, e1, _, _⟩ => e1.sr.tabs) fun Jt H1 H2 it fp tn s2 c' a gi go s3 ⟨xs, st1, κ1, e1, w1, h1⟩ tabs M => ?_)
  refine Calls.spliced_nil ?_
  have x2 := Tabs.xt e1.sr tabs
  have L2 : Lies g ρ st1 κ1 σ H2 := (L.xt e1).xt x2
  by_cases hl : lineB xs.length = true
  · rw [if_pos hl] at h1
    have gm := M.gmade0 (k := k + 1) (quit := false) okX hN hco (gg := gP g.K t) (tt := tT g W0 c) (te := tD g W0 e) (fun A hr => hp _ (jx_gx J cf M okX.kind hr)) (fun A hr => hc _ W0 (jx_gx J cf M okX.kind hr) takes_gx) (fun A hr => he _ W0 (jx_gx J cf M okX.kind hr) takes_gx)
      _ (fun ys y H' => ∃ b, y = .bl b ∧ (b = false → Q (.bl false) H')) (fun ys H' => Q (.bl (!false)) H') (fun i m ys σ' H' hW => q_turn (WW := W) (Q := Q) (σ0 := σ) (ρ := ρ) ho (lineB_ok hl) (w1.xt x2) i m ys σ' H' hW) (m0 := xs.length)
      ⟨st1, κ1, by omega, Nat.le_refl _, Ext.refl x2.sr, SlR.wipe L2.sl _, by rw [List.drop_zero]; exact h1.xt x2⟩
    have back : ∀ {s4 : Shared} {H4 : Hp}, s4.os = s2.os → AllBare s4.gens → Un (frs X.stack) fp H2 H4 s2.heap s4.heap → HOk X.prog X.w H4 s4.heap → Inv X pins σ H4 s4 := fun v3 v4 v5 v6 =>
      M.inv.call' (ch := fp) v3 v5 v6 v4 fun b hb => ⟨(M.fo b hb).1.2.2.2.1, (M.fo b hb).1.2.1, (M.fo b hb).1.2.2.2.2.1, (M.fo b hb).1.2.2.2.2.2⟩
    exact call_all_made (J.room.mono hn) I.ok.frames gm (fun ys y H' ⟨b, q1, q2⟩ => ⟨b, q1, fun _ => ⟨b, q1, q2⟩⟩)
      (fun s4 H4 ys v3 v4 v5 v6 q => ⟨.bl (!false), H4, back v3 v4 v5 v6, rfl, q⟩) (fun s4 H4 ys v3 v4 v5 v6 ⟨b, q1, q2⟩ => ⟨.bl false, H4, back v3 v4 v5 v6, rfl, q2 (by cases q1; rfl)⟩)
  · rw [if_neg hl] at h1
    exact h1.elim⟩
theorem ed_anyG (tb : TbOk g) (tg' : TbGrow g) {k d : Nat} {elt tg iter : Expr} {ifs : List Expr} {scope : Scope} {own : List (Str × Nat)} {gpos p pos : Pos} {i : DenI} {t : Pt} {c : DenT} {e : Den}
    (b : Blt g l "any" (.builtin "any")) (hn : k + 3 ≤ l.n) (hd : d + 1 ≤ l.tab) (hi : ID g l i tg iter) (ok : blkC l.N l.sc scope own = true) (h0 : scope.names.lookup (".0" : Str) = some NameKind.local) (hco : scope.isCoroutine = false)
    (hp : PtD g { l with top := false, sc := scope, n := k, fn := (fun x => scope.names.lookup x == some .cell), tab := d } t tg) (hc : TsD g { l with top := false, sc := scope, n := k, fn := (fun x => scope.names.lookup x == some .cell), tab := d } c ifs) (he : ED g { l with top := false, sc := scope, n := k, fn := (fun x => scope.names.lookup x == some .cell), tab := d } e elt)
    (ho : ∀ j ∈ t.own, j ∈ own.map (·.2)) (hs : ∀ env x, genFold iter env x = pure x)
    (hst : ∀ env, starEach [.GeneratorExp elt [⟨tg, iter, ifs, 0⟩] scope gpos] env = (false, eval (.GeneratorExp elt [⟨tg, iter, ifs, 0⟩] scope gpos) env) :: starEach [] env) :
    ED g l (dQuit true i t c e (own.map (·.2))) (.Call (.Name "any" p) [.GeneratorExp elt [⟨tg, iter, ifs, 0⟩] scope gpos] [] pos) := fun X W J tk => ⟨fun pins s σ H Q I ⟨ρ, st, κ, L, h⟩ => by
  have okX : BlkOk X.N X.env.scope scope own := by rw [J.N, J.sc]; exact blkOk_by ok
  have hN : X.N.Nodup := by rw [J.N]; exact J.nd
  have cf : CodeFor g X (d + 1) := code_less (J.code (Nat.lt_of_lt_of_le (Nat.succ_pos d) hd)) hd
  refine wpAny_Call_Name_kw (ld_blt I (gl_of J b.gl) (by rw [J.m]; exact b.mg) b.bt ?_ (by decide) (by decide))
  refine PyProof.Rows.callWith_builtin1 ?_ (hst _) (by rfl)
  rw [hst]
  show wpAny _ _ (spliced ((false, eval (.GeneratorExp elt [⟨tg, iter, ifs, 0⟩] scope gpos) X.env) :: backTo pos (starEach [] X.env))) _ _ s
  refine Calls.spliced_cons (eval_gx J.p J.w cf tg' J.room.depth okX h0 hco (hi X W J tk) (hs _) I ⟨ρ, st, κ, L, Run.ofI h⟩ (fun _ H1 ⟨_, _, _, e1, _, _⟩ => e1.sr.tabs) fun Jt H1 H2 it fp tn s2 c' a gi go s3 ⟨xs, st1, κ1, e1, w1, h1⟩ tabs M => ?_)
  refine Calls.spliced_nil ?_
  have x2 := Tabs.xt e1.sr tabs
  have L2 : Lies g ρ st1 κ1 σ H2 := (L.xt e1).xt x2
  by_cases hl : lineB xs.length = true
  · rw [if_pos hl] at h1
    have gm := M.gmade0 (k := k + 1) (quit := true) okX hN hco (gg := gP g.K t) (tt := tT g W0 c) (te := tD g W0 e) (fun A hr => hp _ (jx_gx J cf M okX.kind hr)) (fun A hr => hc _ W0 (jx_gx J cf M okX.kind hr) takes_gx) (fun A hr => he _ W0 (jx_gx J cf M okX.kind hr) takes_gx)
      _ (fun ys y H' => ∃ b, y = .bl b ∧ (b = true → Q (.bl true) H')) (fun ys H' => Q (.bl (!true)) H') (fun i m ys σ' H' hW => q_turn (WW := W) (Q := Q) (σ0 := σ) (ρ := ρ) ho (lineB_ok hl) (w1.xt x2) i m ys σ' H' hW) (m0 := xs.length)
      ⟨st1, κ1, by omega, Nat.le_refl _, Ext.refl x2.sr, SlR.wipe L2.sl _, by rw [List.drop_zero]; exact h1.xt x2⟩
    have back : ∀ {s4 : Shared} {H4 : Hp}, s4.os = s2.os → AllBare s4.gens → Un (frs X.stack) fp H2 H4 s2.heap s4.heap → HOk X.prog X.w H4 s4.heap → Inv X pins σ H4 s4 := fun v3 v4 v5 v6 =>
      M.inv.call' (ch := fp) v3 v5 v6 v4 fun b hb => ⟨(M.fo b hb).1.2.2.2.1, (M.fo b hb).1.2.1, (M.fo b hb).1.2.2.2.2.1, (M.fo b hb).1.2.2.2.2.2⟩
    exact call_any_made (J.room.mono hn) I.ok.frames gm (fun ys y H' ⟨b, q1, q2⟩ => ⟨b, q1, fun _ => ⟨b, q1, q2⟩⟩)
      (fun s4 H4 ys v3 v4 v5 v6 q => ⟨.bl (!true), H4, back v3 v4 v5 v6, rfl, q⟩) (fun s4 H4 ys v3 v4 v5 v6 ⟨b, q1, q2⟩ => ⟨.bl true, H4, back v3 v4 v5 v6, rfl, q2 (by cases q1; rfl)⟩)
  · rw [if_neg hl] at h1
    exact h1.elim⟩
end
end Wi

/-! Wi23: defs whose code objects make others: the tables. -/
namespace Wi
open PySem L2
/-- the code object of a def, and its table -/
def tabOf (K : PySem.W.Frag) (cd : Value) : List (Addr × Addr) := match cd with
  | .ref c => (match K.lookup c with
    | some ⟨_, _, .fields vs, _⟩ => (match (vs[11]? : Option Value) with
      | some (.ref P) => if (K.lookup P).isNone && PySem.W.codeHdIn K c P then [(c, P)] else []
      | _ => [])
    | _ => [])
  | _ => []
/-- all of these -/
def csOf (K : PySem.W.Frag) : List (Addr × Addr) := K.flatMap fun p => match p.2.data with
  | .func fd => tabOf K fd.code
  | _ => []
theorem tabOf_ok {K : PySem.W.Frag} {cd : Value} {p : Addr × Addr} (h : p ∈ tabOf K cd) : cd = .ref p.1 ∧ K.lookup p.2 = none ∧ PySem.W.codeHdIn K p.1 p.2 = true := by
  unfold tabOf at h
  split at h
  · split at h
    · split at h
      · split at h
        · rename_i q
          rw [Bool.and_eq_true] at q
          rw [List.mem_singleton] at h
          subst h
          exact ⟨rfl, Option.isNone_iff_eq_none.mp q.1, q.2⟩
        · cases h
      · cases h
    · cases h
  · cases h
theorem lookup_mem {K : PySem.W.Frag} {a : Addr} {o : Obj} : K.lookup a = some o → (a, o) ∈ K := by
  induction K with
  | nil => intro h; cases h
  | cons p K ih =>
    obtain ⟨b, u⟩ := p
    intro h
    rw [List.lookup_cons] at h
    split at h
    · rename_i z
      cases h
      rw [eq_of_beq z]
      exact List.mem_cons_self
    · exact List.mem_cons_of_mem _ (ih h)
theorem csOf_mem {K : PySem.W.Frag} {f : Addr} {oc : Value} {od : Option Addr} {fd : FuncData} {sl : Array (Option Value)} {p : Addr × Addr} (h : K.lookup f = some ⟨oc, od, .func fd, sl⟩) (hp : p ∈ tabOf K fd.code) : p ∈ csOf K :=
  List.mem_flatMap.mpr ⟨_, lookup_mem h, hp⟩
theorem csOf_ok {K : PySem.W.Frag} {p : Addr × Addr} (h : p ∈ csOf K) : K.lookup p.2 = none ∧ PySem.W.codeHdIn K p.1 p.2 = true := by
  obtain ⟨q, _, hq⟩ := List.mem_flatMap.mp h
  split at hq
  · exact (tabOf_ok hq).2
  · cases hq
/-- tables D deep -/
def tbOf (K : PySem.W.Frag) (D : Nat) : Hp → Prop := fun H => ∀ p ∈ csOf K, TabD H D p.2
theorem tbOf_ok {g : Gm} {D : Nat} (h : g.Tb = tbOf g.K D) : TbOk g := fun H H' a b t => by
  rw [h] at t ⊢
  exact fun p hp => (t p hp).mono a b
theorem tbOf_grow {g : Gm} {D : Nat} (h : g.Tb = tbOf g.K D) : TbGrow g := by
  intro H H' Q ps ps' hQ hQ' tr ht hf hn t
  rw [h] at t ⊢
  exact fun p hp => (t p hp).grow hQ hQ' tr ht hf hn
theorem tbOf_start {K : PySem.W.Frag} {D : Nat} {H : Hp} (h : ∀ p ∈ csOf K, H p.2 = some (.tbl #[])) : tbOf K D H := fun p hp => by
  cases D with
  | zero => trivial
  | succ n => exact ⟨#[], h p hp, trivial, fun q cv hq => by simp [codeAmong] at hq⟩
/-- what the base heap says of the code objects -/
structure Gt (g : Gm) (D : Nat) : Prop where
  tb : g.Tb = tbOf g.K D
  at_ : ∀ p ∈ csOf g.K, LamX.TabB g.base g.mg p.1 p.2
theorem CodeHd.up {h h' : Heap} {c P : Addr} (k : ∀ b o, h.get? b = some o → h'.get? b = some o) (x : PySem.W.CodeHd h c P) : PySem.W.CodeHd h' c P := by
  obtain ⟨o2, vs, fl, tf, fg, tg, nf, tx, tt, e1, r⟩ := x
  exact ⟨o2, vs, fl, tf, fg, tg, nf, tx, tt, k _ _ e1, r⟩
theorem code_for {g : Gm} {D : Nat} (G : Gt g D) {p : Addr × Addr} (hp : p ∈ csOf g.K) {X : Cx} (hc : X.env.code = .ref p.1) (hb : X.base = g.base) (hm : X.mg = g.mg) : CodeFor g X D := by
  have B := G.at_ p hp
  refine ⟨⟨p.1, p.2, hc, fun H h hok hbase _ _ tb => ⟨CodeHd.up (fun b o e => hbase b o (by rw [hb]; exact e)) B.code, ?_⟩⟩, ?_⟩
  · rw [G.tb] at tb
    exact tb p hp
  · obtain ⟨b, o, h1, h2, _, _, h3, h4, h5, h6⟩ := B.bm
    exact ⟨b, o, by rw [hm]; exact h1, h2, by rw [hb]; exact h3, h4, h5, h6⟩
theorem ok_fnC {g : Gm} {x qual : Str} {st : Stmt} {f : Addr} {oc : Value} {od an : Option Addr} {kV doc pm cd ct : Value} {sl : Array (Option Value)} {N ps : List Str} {k D : Nat} {b : DenS}
    (lk : g.K.lookup f = some ⟨oc, od, .func (PySem.W.fnOf x qual (defArgs st) (defBody st) (defScope st) .none kV doc pm an cd ct), sl⟩) (hcd : PySem.W.codeIn g.K cd qual = true) (S : FnScope N ps (defScope st))
    (hcf : ∀ A outer s H E, 0 < D → CodeFor g (cxOf (L2.CX g.P g.w) g.P g.w g.K g.mg g.base N qual (defScope st) f cd A outer s H E) D) (hb : SsD g { N := N, sc := defScope st, n := k, tab := D } b (defBody st)) :
    FnOk g.P g.w g.K g.mg g.base (L2.CX g.P g.w) (k + 1) f (PySem.W.fnOf x qual (defArgs st) (defBody st) (defScope st) .none kV doc pm an cd ct) ps (spM g ps.length (mkFn N.length b)) := by
  refine fn_of lk hcd S (fun vs H Q E h => h.1) fun A outer s H vs Q E hr ⟨hl, args, st0, κ, sr, rx, hrun⟩ => ?_
  refine ⟨tS g (fun c d _ H' => E c d H') b, hb _ _ ⟨rfl, rfl, rfl, rfl, rfl, rfl, rfl, S.nd, rfl, hr, passes_of rfl, S.kind, fun _ _ => rfl, fun z => hcf A outer s H E z, fun _ => ⟨rfl, rfl⟩⟩ (takes_of rfl rfl rfl rfl), ?_⟩
  have hpl : ps.length ≤ N.length := by have := congrArg List.length S.pre; rw [List.length_take] at this; omega
  refine ⟨startP N.length args, st0, κ, ⟨sr, ?_⟩, ?_⟩
  · unfold startP L2.start
    rw [rx.length]
    exact slr_start rx
  · unfold mkFn at hrun
    have s0 : κ.length = st0.length := sr.cells.length.symm
    cases e : b (startP N.length args) st0 with
    | rt v st' =>
      rw [e] at hrun
      intro κ' H' x xt rv
      have tk := Ext.take xt (k := st0.length) (by omega)
      have tree : ∀ u, RepV g.K g.T (Fz st' κ' H') u x → RepV g.K g.T (Fz (st'.take st0.length) (κ'.take st0.length) H') u x := fun u r => r.mono (fz_perm fun b hb => live_take hb)
      cases v with
      | ref k =>
        obtain ⟨a, h1, rfl⟩ := rv
        unfold retV at hrun
        dsimp only at hrun
        by_cases c : Nat.blt k st0.length = true
        · rw [if_pos c] at hrun
          have hk : k < st0.length := Nat.le_of_ble_eq_true c
          refine hrun _ _ _ tk ⟨a, ?_, rfl⟩
          rw [List.getElem?_take_of_lt hk]
          exact h1
        · rw [if_neg c] at hrun
          have hk : st0.length ≤ k := Nat.le_of_not_lt fun z => c (Nat.ble_eq_true_of_le z)
          cases q : st'[k]? with
          | none => rw [q] at hrun; exact hrun.elim
          | some cc =>
            rw [q] at hrun
            cases cc with
            | lst xs =>
              obtain ⟨a', h2, x2⟩ := Ext.give s0 xt q hk
              rw [h1] at h2
              cases h2
              refine hrun _ _ _ x2 ⟨a, ?_, rfl⟩
              have : st0.length = (κ'.take st0.length).length := by
                rw [List.length_take]
                have := (List.getElem?_eq_some_iff.mp h1).1
                omega
              rw [List.getElem?_append_right (by omega)]
              rw [← this]
              simp
            | frz _ => exact hrun.elim
            | ins _ _ => exact hrun.elim
      | non => exact hrun _ _ _ tk (RepX.ofV (tree _ rv))
      | bl _ => exact hrun _ _ _ tk (RepX.ofV (tree _ rv))
      | int _ => exact hrun _ _ _ tk (RepX.ofV (tree _ rv))
      | str _ => exact hrun _ _ _ tk (RepX.ofV (tree _ rv))
      | tup _ => exact hrun _ _ _ tk (RepX.ofV (tree _ rv))
      | lst _ => exact hrun _ _ _ tk (RepX.ofV (tree _ rv))
      | obj _ _ => exact hrun _ _ _ tk (RepX.ofV (tree _ rv))
    | nx ρ' st' =>
      rw [e] at hrun
      exact fun κ' H' σ' xt s' => hrun _ _ _ (Ext.take xt (k := st0.length) (by omega)) rfl
    | exc c l ρ' st' =>
      rw [e] at hrun
      refine fun κ' H' σ' d xt s' q => hrun _ _ d (Ext.take xt (k := st0.length) (by omega)) ?_
      unfold ExcR at q ⊢
      split at q
      · exact q
      · obtain ⟨dx, vs, h1, h2, h3⟩ := q
        exact ⟨dx, vs, h1, h2, h3.mono (fz_perm fun b hb => live_take hb)⟩
    | bk _ _ => rw [e] at hrun; exact hrun.elim
    | ct _ _ => rw [e] at hrun; exact hrun.elim
    | stuck _ => rw [e] at hrun; exact hrun.elim
/-- a def or method whose code object is told -/
theorem ok_fnT {g : Gm} {D : Nat} (G : 0 < D → ∃ D', D ≤ D' ∧ Gt g D') {x qual : Str} {st : Stmt} {f : Addr} {oc : Value} {od an : Option Addr} {kV doc pm cd ct : Value} {sl : Array (Option Value)} {N ps : List Str} {k : Nat} {b : DenS}
    (lk : g.K.lookup f = some ⟨oc, od, .func (PySem.W.fnOf x qual (defArgs st) (defBody st) (defScope st) .none kV doc pm an cd ct), sl⟩) (hcd : PySem.W.codeIn g.K cd qual = true) (S : FnScope N ps (defScope st))
    (ht : 0 < D → (tabOf g.K cd).isEmpty = false) (hb : SsD g { N := N, sc := defScope st, n := k, tab := D } b (defBody st)) :
    FnOk g.P g.w g.K g.mg g.base (L2.CX g.P g.w) (k + 1) f (PySem.W.fnOf x qual (defArgs st) (defBody st) (defScope st) .none kV doc pm an cd ct) ps (spM g ps.length (mkFn N.length b)) := by
  refine ok_fnC lk hcd S (fun A outer s H E z => ?_) hb
  obtain ⟨D', h1, h2⟩ := G z
  have he := ht z
  cases e : tabOf g.K cd with
  | nil => rw [e] at he; cases he
  | cons p r =>
    have hp : p ∈ tabOf g.K cd := by rw [e]; exact List.mem_cons_self
    exact code_less (code_for h2 (csOf_mem lk hp) (tabOf_ok hp).1 rfl rfl) h1
end Wi

/-! Wi24: objects of the text's classes: fields, methods, making. -/
namespace L2
open PySem PySem.Spec PyProof.Rows
section
variable {X : Cx} {CX : CXT} {k : Nat} {f C : Addr} {fd : FuncData} {ps : List Str} {sp : Sp} {dvs : List V} {ds : List Value} {E : St → XK} {x m : Str} {p pos apos : Pos} {e o : Expr} {es : List Expr} {ta : TE} {t : TA}
/-- C(..), what is raised wished for at the caller's slots -/
def tMakeSD (C : Addr) (sp : Sp) (dvs : List V) (E : St → XK) (t : TA) : TE := fun σ H Q => t σ H fun vs H1 => ∀ x dx, H1 x = none → H1 dx = none → dx ≠ x →
  sp (.ref x :: (vs ++ dvs)) (upd (upd H1 dx (.own x)) x (.ins C dx [])) (fun v H2 => v = .non ∧ Q (.ref x) H2) (E σ)
theorem run_makeSD {pins : List (Addr × Obj)} {σ : St} {H : Hp} {s : Shared} {Q : VK} {us : List Value} {vs : List V} (M : Mk X.K C f) (F : FnOk X.prog X.w X.K X.mg X.base CX k f fd ps sp) (hr : Room (k + 1) X.A) (hb : Binds X.K fd ps ds) (hd : Vals dvs ds)
    (hx : PassesAt CX X σ (E σ)) (I : Inv X pins σ H s) (r : Vals vs us)
    (h : ∀ x dx, H x = none → H dx = none → dx ≠ x → sp (.ref x :: (vs ++ dvs)) (upd (upd H dx (.own x)) x (.ins C dx [])) (fun v H2 => v = .non ∧ Q (.ref x) H2) (E σ)) :
    wpAny (model X.prog X.w) X.A (call (.ref C) us) (EP X pins σ Q) X.xe s := by
  have hq := h (s.heap.objs.size + 1) s.heap.objs.size (I.hok.fresh (Nat.le_succ _)) (I.hok.fresh (Nat.le_refl _)) (Nat.ne_of_lt (Nat.lt_succ_self _))
  have I2 := Inv.made (C := C) I
  have r2 : Vals (V.ref (s.heap.objs.size + 1) :: (vs ++ dvs)) (Value.ref (s.heap.objs.size + 1) :: (us ++ ds)) := .cons rfl (r.append hd)
  have hl : (Value.ref (s.heap.objs.size + 1) :: us ++ ds).length = ps.length := by
    have e := r2.length
    rw [F.len _ _ _ _ hq] at e
    exact e.symm
  refine wpAny_call (make_map (f := f) I.kIn M.makes M.init (beq_iff_eq.mp M.fn) (codeAny_mono (F.run _ X.stack _ _ ⟨Value.ref (s.heap.objs.size + 1) :: us, []⟩ (Value.ref (s.heap.objs.size + 1) :: (us ++ ds)) _ _ (E σ) (hr.make C us [])
    (I2.env0.make C us []) (hb _ (Value.ref (s.heap.objs.size + 1) :: us) I2.kIn hl) r2 hq) fun r s' hq' => ?_))
  cases r with
  | error e => exact hx pins _ _ e s' I2 hq'
  | ok fl =>
    cases fl with
    | ret u =>
      obtain ⟨v, H', I3, rv, ev, q3⟩ := I2.after hq'
      subst ev
      exact ⟨rv, ⟨V.ref (s.heap.objs.size + 1), H', I3, rfl, q3⟩⟩
    | next => exact False.elim hq'
    | brk => exact False.elim hq'
    | cont => exact False.elim hq'
theorem pe_makeSD (M : Mk X.K C f) (F : FnOk X.prog X.w X.K X.mg X.base CX k f fd ps sp) (hr : Room (k + 1) X.A) (hg : Gl X x) (hm : X.mg x = some (.ref C)) (hb : Binds X.K fd ps ds) (hd : Vals dvs ds) (hx : ∀ σ, PassesAt CX X σ (E σ))
    (ha : PA X (e :: es) t) (hdb : (x == ("__debug__" : Str)) = false := by decide) (he : starEach (e :: es) X.env = (false, eval e X.env) :: starEach es X.env := by rfl) (hpl : (backTo pos (starEach es X.env)).any (·.1) = false := by rfl) :
    PE X (.Call (.Name x p) (e :: es) [] pos) (tMakeSD C sp dvs E t) := by
  refine ⟨fun pins s σ H Q I h => ?_⟩
  refine wpAny_Call_Name_kw (ld_glob I hg hm ?_ hdb)
  refine PySem.W.callWith_K (h₀ := X.base) I.ok.mod.kin M.kp (thn (ha.run pos pins s σ H _ I h) fun us s1 ⟨vs, H1, I1, r, q⟩ => ⟨I1.kIn, ?_⟩) he hpl
  exact run_makeSD M F hr hb hd (hx σ) I1 r q
/-- o.m(..) -/
def tMethSD (C : Addr) (m : Str) (sp : Sp) (dvs : List V) (E : St → XK) (ta : TE) (t : TA) : TE := fun σ H Q => ta σ H fun x H1 => ∃ a dx fs, x = .ref a ∧ H1 a = some (.ins C dx fs) ∧ fs.lookup m = none ∧
  t σ H1 fun vs H2 => sp (x :: (vs ++ dvs)) H2 Q (E σ)
theorem pe_methSD {pl : Sem Bool} (he : PE X o ta) (c : Cls X.K C) (hm : Meth X.K C m f) (F : FnOk X.prog X.w X.K X.mg X.base CX k f fd ps sp) (hr : Room k X.A) (hb : Binds X.K fd ps ds) (hd : Vals dvs ds) (hx : ∀ σ, PassesAt CX X σ (E σ)) (ha : PA X (e :: es) t)
    (hst : starEach (e :: es) X.env = (false, eval e X.env) :: starEach es X.env) (hpl : (backTo pos (starEach es X.env)).any (·.1) = false)
    (ht : eval (.Call (.Attribute o m apos) (e :: es) [] pos) X.env = (do
      let ov ← eval o X.env
      standAt apos.atName
      let (f, first) ← holding [ov] (getMethod ov m pl)
      callWith pos f first (backTo pos (starEach (e :: es) X.env)) (backToKw pos (keywordEach [] X.env)))) :
    PE X (.Call (.Attribute o m apos) (e :: es) [] pos) (tMethSD C m sp dvs E ta t) := by
  refine ⟨fun pins s σ H Q I h => ?_⟩
  refine PySem.W.methodCall_KW (pl := pl) (thn (he.run pins s σ H _ I h) fun u s1 ⟨x, H1, I1, rx, a, dx, fs, ex, ea, l, q⟩ => ?_) ht
  subst ex
  obtain rfl : u = Value.ref a := rx
  refine getmeth_ok I1 ea c hm l ?_
  refine PySem.W.callWith_K (first := [.ref a]) (h₀ := X.base) I.ok.mod.kin hm.kp (thn (ha.run pos pins s1 σ H1 _ I1 q) fun us s2 ⟨vs, H2, I2, r, q2⟩ => ⟨I2.kIn, ?_⟩) hst hpl
  exact run_fnSD (us := .ref a :: us) (vs := .ref a :: vs) F hr hb hd (hx σ) I2 (.cons rfl r) q2
theorem pe_methSD0 {pl : Sem Bool} (he : PE X o ta) (c : Cls X.K C) (hm : Meth X.K C m f) (F : FnOk X.prog X.w X.K X.mg X.base CX k f fd ps sp) (hr : Room k X.A) (hb : Binds X.K fd ps ds) (hd : Vals dvs ds) (hx : ∀ σ, PassesAt CX X σ (E σ))
    (ht : eval (.Call (.Attribute o m apos) [] [] pos) X.env = (do
      let ov ← eval o X.env
      standAt apos.atName
      let (f, first) ← holding [ov] (getMethod ov m pl)
      callWith pos f first (backTo pos (starEach [] X.env)) (backToKw pos (keywordEach [] X.env)))) :
    PE X (.Call (.Attribute o m apos) [] [] pos) (tMethSD C m sp dvs E ta tNil) := by
  refine ⟨fun pins s σ H Q I h => ?_⟩
  refine PySem.W.methodCall_KW (pl := pl) (thn (he.run pins s σ H _ I h) fun u s1 ⟨x, H1, I1, rx, a, dx, fs, ex, ea, l, q⟩ => ?_) ht
  subst ex
  obtain rfl : u = Value.ref a := rx
  refine getmeth_ok I1 ea c hm l ?_
  exact PySem.W.callWith_K0 (first := [.ref a]) I1.kIn hm.kp (run_fnSD (us := [.ref a]) (vs := [.ref a]) F hr hb hd (hx σ) I1 (.cons rfl .nil) q)
end
end L2
namespace Wi
open PySem L2
section
variable {g : Gm} {l : Lc}
/-- a class of the text: its number, its fields -/
structure ClsAt (g : Gm) (c : Nat) (fs : List Str) : Prop where
  cls : Cls g.K (g.T.ca c)
  lay : g.T.lay c = fs
  nd : fs.Nodup
  no : ∀ f ∈ fs, NoAttr g.K (g.T.ca c) f
theorem zip_lookup : ∀ {fs : List Str} {vs : List V} {i : Nat} {f : Str} {b : V}, fs.Nodup → fs[i]? = some f → vs[i]? = some b → (fs.zip vs).lookup f = some b
  | [], _, _, _, _, _, e, _ => by simp at e
  | _ :: _, [], _, _, _, _, _, e => by simp at e
  | a :: fs, v :: vs, 0, f, b, _, e1, e2 => by
    simp at e1 e2
    subst e1; subst e2
    simp [List.zip_cons_cons, List.lookup_cons]
  | a :: fs, v :: vs, i + 1, f, b, nd, e1, e2 => by
    have e1' : fs[i]? = some f := by simpa using e1
    have ne : f ≠ a := fun z => (List.nodup_cons.mp nd).1 (z ▸ List.mem_of_getElem? e1')
    rw [List.zip_cons_cons, List.lookup_cons]
    have : (f == a) = false := by simpa using ne
    rw [this]
    exact zip_lookup (List.nodup_cons.mp nd).2 e1' (by simpa using e2)
theorem zip_putF : ∀ {fs : List Str} {vs : List V} {f : Str} {b : V}, fs.Nodup → fs[vs.length]? = some f → putF f b (fs.zip vs) = fs.zip (vs ++ [b])
  | [], _, _, _, _, e => by simp at e
  | a :: fs, [], f, b, _, e => by
    simp at e
    subst e
    show putF a b [] = _
    simp [putF]
  | a :: fs, v :: vs, f, b, nd, e => by
    have e' : fs[vs.length]? = some f := by simpa using e
    have ne : a ≠ f := fun z => (List.nodup_cons.mp nd).1 (z ▸ List.mem_of_getElem? e')
    rw [List.zip_cons_cons, List.cons_append, List.zip_cons_cons]
    show (if a = f then _ else _) = _
    rw [if_neg ne, zip_putF (List.nodup_cons.mp nd).2 e']
/-! ### a field read -/
def fldOf (c i : Nat) : PV → Store → Res PV := fun v st => match v with
  | .obj c' xs => if c' == c then (match xs[i]? with
    | some u => .ok u st
    | none => .stuck 60) else .stuck 61
  | .ref k => (match st[k]? with
    | some (.ins c' xs) => if c' == c then (match xs[i]? with
      | some u => .ok u st
      | none => .stuck 62) else .stuck 63
    | _ => .stuck 64)
  | _ => .stuck 65
def dFld (c i : Nat) (d : Den) : Den := fun ρ st => (d ρ st).bind (fldOf c i)
theorem fld_ok {c i : Nat} {fs : List Str} {f : Str} (C : ClsAt g c fs) (hf : fs[i]? = some f) {v : PV} {st : Store} {κ : List Addr} {σ : L2.St} {H : Hp} {W : WX} {Q : VK} {x : V} (s : StR g.K g.T g.Tb st κ H) (r : RepX g.K g.T κ (Fz st κ H) v x)
    (h : Run g (RX g) W (fldOf c i v st) st κ σ H Q) : ∃ a dx fs' b, x = .ref a ∧ H a = some (.ins (g.T.ca c) dx fs') ∧ fs'.lookup f = some b ∧ Q b H := by
  cases v with
  | obj c' xs =>
    unfold fldOf at h
    dsimp only at h
    split at h
    · rename_i z
      obtain rfl := eq_of_beq z
      obtain ⟨a, dx, vs, h1, h2, h3, h4⟩ := r
      split at h
      · rename_i u q
        obtain ⟨b, q1, q2⟩ := h4.get q
        rw [C.lay] at h2
        exact ⟨a, dx, _, b, h1, fz_some h2, zip_lookup C.nd hf q1, Run.ret s h (RepX.ofV q2)⟩
      · exact h.elim
    · exact h.elim
  | ref k =>
    unfold fldOf at h
    dsimp only at h
    obtain ⟨a, hk, rfl⟩ := r
    split at h
    · rename_i c' xs e
      obtain ⟨a', q1, dx, vs, q2, q3, q4⟩ := cell_at s.cells e
      rw [hk] at q1
      cases q1
      split at h
      · rename_i z
        obtain rfl := eq_of_beq z
        split at h
        · rename_i u q
          obtain ⟨b, p1, p2⟩ := q4.get q
          rw [C.lay] at q2
          exact ⟨a, dx, _, b, rfl, q2, zip_lookup C.nd hf p1, Run.ret s h (RepX.ofV p2)⟩
        · exact h.elim
      · exact h.elim
    · exact h.elim
  | non => exact h.elim
  | bl _ => exact h.elim
  | int _ => exact h.elim
  | str _ => exact h.elim
  | tup _ => exact h.elim
  | lst _ => exact h.elim
theorem ed_fld {c i : Nat} {fs : List Str} {f : Str} {d : Den} {e : Expr} {pos : Pos} (C : ClsAt g c fs) (hf : fs[i]? = some f) (he : ED g l d e) (hb : ∀ env, attributeBase e f env (eval e env) = eval e env) : ED g l (dFld c i d) (.Attribute e f pos) := fun X W J tk =>
  PE.imp (pe_fld (he X W J tk) (hb _)) fun σ H Q ⟨ρ, st, κ, L, h⟩ => ⟨ρ, st, κ, L, (Run.bind h).mono fun x H1 ⟨v, st1, κ1, e1, r1, h1⟩ => by
    obtain ⟨a, dx, fs', b, p1, p2, p3, p4⟩ := fld_ok C hf e1.sr r1 h1
    rw [J.k]
    exact ⟨a, _, dx, fs', b, p1, p2, C.cls, C.no f (List.mem_of_getElem? hf), p3, p4⟩⟩
/-! ### a field stored, while the object is made -/
theorem cell_ins (tb : TbOk g) {c : Nat} {fs : List Str} {f : Str} (C : ClsAt g c fs) {st : Store} {κ : List Addr} {H : Hp} {k : Nat} {xs : List PV} {v : PV} {y : V} {a : Addr} (s : StR g.K g.T g.Tb st κ H) (e : st[k]? = some (.ins c xs)) (hk : κ[k]? = some a) (hf : fs[xs.length]? = some f) (r : RepV g.K g.T (Fz st κ H) v y) :
    ∃ dx vs, H a = some (.ins (g.T.ca c) dx (fs.zip vs)) ∧ vs.length = xs.length ∧ putF f y (fs.zip vs) = fs.zip (vs ++ [y]) ∧ Xt g st κ H (st.set k (.ins c (xs ++ [v]))) κ (upd H a (.ins (g.T.ca c) dx (fs.zip (vs ++ [y])))) := by
  obtain ⟨a', h1, dx, vs, h2, h0, h3⟩ := cell_at s.cells e
  rw [hk] at h1
  cases h1
  have hl : live (st.set k (.ins c (xs ++ [v]))) κ = live st κ := live_set (c := .ins c xs) (c' := .ins c (xs ++ [v])) e rfl
  have ha : a ∈ live st κ := live_mem (c := .ins c xs) e hk rfl
  have sm : Same (Fz st κ H) (Fz (st.set k (.ins c (xs ++ [v]))) κ (upd H a (.ins (g.T.ca c) dx (fs.zip (vs ++ [y]))))) := by
    show Same (fz (live st κ) H) (fz (live (st.set k (.ins c (xs ++ [v]))) κ) (upd H a _))
    rw [hl]
    exact fz_same fun b o hb _ q => ⟨hb, by rw [upd_ne fun z => hb (by rw [z]; exact ha)]; exact q⟩
  have hlen : vs.length = xs.length := h3.length.symm
  rw [C.lay] at h2
  have lt : xs.length < fs.length := (List.getElem?_eq_some_iff.mp hf).1
  refine ⟨dx, vs, h2, hlen, zip_putF C.nd (by rw [hlen]; exact hf), ⟨s.cells.set sm (c' := .ins c (xs ++ [v])) ⟨dx, vs ++ [y], by rw [C.lay]; exact upd_same, by rw [C.lay, List.length_append]; exact lt, (h3.mono sm).append (RepVs.one (r.mono sm))⟩ hk s.nd fun b _ hb => upd_ne hb, s.nd, fun b hb => ?_, tb _ _ (fun b ps q => ?_) (fun b o u q => by rw [upd_ne fun z => by subst z; rw [h2] at q; cases q]; exact q) s.tabs⟩, List.prefix_refl _, sm⟩
  · by_cases z : b = a
    · subst z; rw [upd_same]; exact fun z => by cases z
    · rw [upd_ne z]; exact s.there b hb
  · rw [upd_ne fun z => by subst z; rw [h2] at q; cases q]
    exact q
def sFldS (c i : Nat) (dO d : Den) : DenS := fun ρ st => Res.thenS (d ρ st) ρ fun v st => Res.thenS (dO ρ st) ρ fun o st => match o with
  | .ref k => (match st[k]? with
    | some (.ins c' xs) => if c' == c && xs.length == i && isTree v then .nx ρ (st.set k (.ins c (xs ++ [v]))) else .stuck 66
    | _ => .stuck 67)
  | _ => .stuck 68
theorem sd_fldS (tb : TbOk g) {c i : Nat} {fs : List Str} {f : Str} {dO d : Den} {o e : Expr} {pos pos' : Pos} (C : ClsAt g c fs) (hf : fs[i]? = some f) (hfs : fs.length < 1000) (he : ED g l d e) (ho : ED g l dO o)
    (hs : ∀ env, swapsWith e (some (.Attribute o f pos')) pos.line env = pure false) : SD g l (sFldS c i dO d) (.Assign [.Attribute o f pos'] e pos) := fun X W J tk =>
  PS.imp (ps_fld (ho X W J tk) (he X W J tk) (hs _)) fun D σ H ⟨ρ, st, κ, L, h⟩ => ⟨ρ, st, κ, L, (RunS.of L h).mono fun y H1 ⟨v, st1, κ1, e1, r1, h1⟩ => ⟨ρ, st1, κ1, L.xt e1, (RunS.of (L.xt e1) h1).mono fun x H2 ⟨ov, st2, κ2, e2, r2, h2⟩ => by
    cases ov with
    | ref k =>
      dsimp only at h2
      obtain ⟨a, hk, rfl⟩ := r2
      split at h2
      · rename_i c' xs e
        split at h2
        · rename_i z
          rw [Bool.and_eq_true, Bool.and_eq_true] at z
          obtain ⟨⟨z1, z2⟩, z3⟩ := z
          obtain rfl := eq_of_beq z1
          obtain rfl := eq_of_beq z2
          obtain ⟨dx, vs, p1, p2, p3, p4⟩ := cell_ins tb C e2.sr e hk hf ((r1.mono e2.pre e2.same).tree z3)
          rw [J.k]
          refine ⟨a, _, dx, _, rfl, p1, C.cls, C.no f (List.mem_of_getElem? hf), ?_, ?_⟩
          · rw [List.length_zip]; omega
          · rw [p3]
            exact h2 _ _ _ p4 (((L.xt e1).xt e2).xt p4).sl
        · exact h2.elim
      · exact h2.elim
    | non => exact h2.elim
    | bl _ => exact h2.elim
    | int _ => exact h2.elim
    | str _ => exact h2.elim
    | tup _ => exact h2.elim
    | lst _ => exact h2.elim
    | obj _ _ => exact h2.elim⟩⟩
end
end Wi

/-! Wi25: methods called, objects made. -/
namespace Wi
open PySem L2
section
variable {g : Gm} {l : Lc}
/-- a method of a class is worth f -/
structure Mf (g : Gm) (n c : Nat) (m : Str) (np : Nat) (f : FnS) : Prop where
  ex : ∃ (a : Addr) (fd : FuncData) (ps : List Str), ps.length = np ∧ Meth g.K (g.T.ca c) m a ∧ Binds g.K fd ps [] ∧ FnOk g.P g.w g.K g.mg g.base (L2.CX g.P g.w) n a fd ps (spM g np f)
  nf : m ∉ g.T.lay c
theorem zip_none : ∀ {fs : List Str} {vs : List V} {m : Str}, m ∉ fs → (fs.zip vs).lookup m = none
  | [], _, _, _ => by simp
  | _ :: _, [], _, _ => by simp
  | a :: fs, v :: vs, m, h => by
    rw [List.zip_cons_cons, List.lookup_cons]
    have : (m == a) = false := Bool.eq_false_iff.mpr fun z => h (by rw [eq_of_beq z]; exact List.mem_cons_self)
    rw [this]
    exact zip_none fun z => h (List.mem_cons_of_mem _ z)
def dMeth (c np : Nat) (f : FnS) (dO : Den) (da : DenA) : Den := fun ρ st => (dO ρ st).bind fun o st => match o with
  | .obj c' xs => if c' == c then (da ρ st).bind fun vs st => if vs.length + 1 == np then f (.obj c' xs :: vs) st else .stuck 70 else .stuck 71
  | _ => .stuck 72
theorem meth_run {c np : Nat} {m : Str} {f : FnS} {dO : Den} {da : DenA} {X : Cx} {W : WX} (J : Jx g l X) (C : Cls g.K (g.T.ca c)) (hm : m ∉ g.T.lay c) {σ : L2.St} {H : Hp} {Q : VK} (h : tD g W (dMeth c np f dO da) σ H Q) :
    tMethSD (g.T.ca c) m (spM g np f) [] (WE W) (tD g W dO) (tA g W da) σ H Q := by
  obtain ⟨ρ, st, κ, L, h⟩ := h
  refine ⟨ρ, st, κ, L, (Run.bind h).mono fun x H1 ⟨o, st1, κ1, e1, r1, h1⟩ => ?_⟩
  cases o with
  | obj c' xs =>
    dsimp only at h1
    split at h1
    · rename_i z
      obtain rfl := eq_of_beq z
      obtain ⟨a, dx, vs, q1, q2, q3, q4⟩ := id r1
      refine ⟨a, dx, _, q1, fz_some q2, zip_none hm, ρ, st1, κ1, L.xt e1, (Run.bind (R' := RX g) (R := RXs g) h1).mono fun ys H2 ⟨us, st2, κ2, e2, r2, h2⟩ => ?_⟩
      split at h2
      · rename_i zn
        rw [List.append_nil]
        refine ⟨?_, .obj c' xs :: us, st2, κ2, e2.sr, ⟨x, ys, rfl, r1.mono e2.pre e2.same, r2⟩, h2.slots⟩
        rw [List.length_cons, ← r2.length]
        exact eq_of_beq zn
      · exact h2.elim
    · exact h1.elim
  | non => exact h1.elim
  | bl _ => exact h1.elim
  | int _ => exact h1.elim
  | str _ => exact h1.elim
  | tup _ => exact h1.elim
  | lst _ => exact h1.elim
  | ref _ => exact h1.elim
theorem ed_meth {n c np : Nat} {m : Str} {f : FnS} {dO : Den} {da : DenA} {o e : Expr} {es : List Expr} {apos pos : Pos} {pl : Env → Sem Bool} {fs : List Str} (M : Mf g n c m np f) (C : ClsAt g c fs) (hn : n ≤ l.n) (ho : ED g l dO o) (ha : AD g l da (e :: es))
    (he : ∀ env, starEach (e :: es) env = (false, eval e env) :: starEach es env) (hpl : ∀ env, (backTo pos (starEach es env)).any (·.1) = false)
    (ht : ∀ env, eval (.Call (.Attribute o m apos) (e :: es) [] pos) env = (do
      let ov ← eval o env
      standAt apos.atName
      let (f, first) ← holding [ov] (getMethod ov m (pl env))
      callWith pos f first (backTo pos (starEach (e :: es) env)) (backToKw pos (keywordEach [] env)))) : ED g l (dMeth c np f dO da) (.Call (.Attribute o m apos) (e :: es) [] pos) := fun X W J tk => by
  obtain ⟨a, fd, ps, hps, hm, hb, F⟩ := M.ex
  have F' : FnOk X.prog X.w X.K X.mg X.base (L2.CX X.prog X.w) n a fd ps (spM g np f) := by rw [J.p, J.w, J.k, J.m, J.b]; exact F
  refine PE.imp (pe_methSD (E := WE W) (C := g.T.ca c) (ho X W J tk) (by rw [J.k]; exact C.cls) (by rw [J.k]; exact hm) F' (J.room.mono hn) (by rw [J.k]; exact hb) .nil (fun σ => passAt tk σ) (ha X W J tk) (he _) (hpl _) (ht _)) fun σ H Q h => meth_run J C.cls M.nf h
theorem ed_meth0 {n c np : Nat} {m : Str} {f : FnS} {dO : Den} {o : Expr} {apos pos : Pos} {pl : Env → Sem Bool} {fs : List Str} (M : Mf g n c m np f) (C : ClsAt g c fs) (hn : n ≤ l.n) (ho : ED g l dO o)
    (ht : ∀ env, eval (.Call (.Attribute o m apos) [] [] pos) env = (do
      let ov ← eval o env
      standAt apos.atName
      let (f, first) ← holding [ov] (getMethod ov m (pl env))
      callWith pos f first (backTo pos (starEach [] env)) (backToKw pos (keywordEach [] env)))) : ED g l (dMeth c np f dO aNil) (.Call (.Attribute o m apos) [] [] pos) := fun X W J tk => by
  obtain ⟨a, fd, ps, hps, hm, hb, F⟩ := M.ex
  have F' : FnOk X.prog X.w X.K X.mg X.base (L2.CX X.prog X.w) n a fd ps (spM g np f) := by rw [J.p, J.w, J.k, J.m, J.b]; exact F
  refine PE.imp (pe_methSD0 (E := WE W) (C := g.T.ca c) (ho X W J tk) (by rw [J.k]; exact C.cls) (by rw [J.k]; exact hm) F' (J.room.mono hn) (by rw [J.k]; exact hb) .nil (fun σ => passAt tk σ) (ht _)) fun σ H Q h => ?_
  obtain ⟨ρ, st, κ, L, q⟩ := meth_run J C.cls M.nf h
  exact ⟨ρ, st, κ, L, q.mono fun x H1 ⟨a, dx, fs, h1, h2, h3, ρ, st, κ, L, q⟩ => ⟨a, dx, fs, h1, h2, h3, Run.ret L.sr q rfl⟩⟩
/-! ### an object made -/
/-- the class named x: its __init__ is worth f -/
structure Mc (g : Gm) (n c : Nat) (x : Str) (np : Nat) (f : FnS) : Prop where
  ex : ∃ (a : Addr) (fd : FuncData) (ps : List Str), ps.length = np ∧ g.mg x = some (.ref (g.T.ca c)) ∧ Mk g.K (g.T.ca c) a ∧ Binds g.K fd ps [] ∧ FnOk g.P g.w g.K g.mg g.base (L2.CX g.P g.w) n a fd ps (spM g np f)
theorem new_ins (tb : TbOk g) {st : Store} {κ : List Addr} {H : Hp} {c : Nat} {x dx : Addr} (s : StR g.K g.T g.Tb st κ H) (hx : H x = none) : Xt g st κ H (st ++ [.ins c []]) (κ ++ [x]) (upd H x (.ins (g.T.ca c) dx [])) := by
  have np := s.not_mem hx
  have e2 := StR.upd_new tb (o := .ins (g.T.ca c) dx []) s hx
  have hl : live (st ++ [.ins c []]) (κ ++ [x]) = live st κ ++ [x] := by rw [live_app s.cells.length]; rfl
  have sm : Same (Fz st κ H) (Fz (st ++ [.ins c []]) (κ ++ [x]) (upd H x (.ins (g.T.ca c) dx []))) := fz_same fun b u hb _ q => by
    have hne : b ≠ x := ne_of_none q hx
    rw [hl]
    refine ⟨fun z => ?_, by rw [upd_ne hne]; exact q⟩
    rcases List.mem_append.mp z with z | z
    · exact hb z
    · exact hne (List.mem_singleton.mp z)
  refine ⟨⟨CellsR.app (c := .ins c []) ⟨dx, [], by rw [List.zip_nil_right]; exact upd_same, Nat.zero_le _, rfl⟩ (s.cells.mono sm fun a ha => upd_ne fun z => np (z ▸ ha)), nodup_snoc s.nd np, fun b hb => ?_, e2.sr.tabs⟩, List.prefix_append _ _, sm⟩
  rcases List.mem_append.mp hb with hb | hb
  · exact e2.sr.there b hb
  · rw [List.mem_singleton.mp hb, upd_same]; exact fun z => by cases z
def madeOf (c nf n : Nat) : PV → Store → Res PV := fun v st2 => match v with
  | .non => (match st2[n]? with
    | some (.ins c' xs) => if c' == c && xs.length == nf then .ok (.obj c xs) (st2.take n) else .stuck 73
    | _ => .stuck 74)
  | _ => .stuck 75
def dMake (c nf np : Nat) (f : FnS) (da : DenA) : Den := fun ρ st => (da ρ st).bind fun vs st1 => if vs.length + 1 == np then (f (.ref st1.length :: vs) (st1 ++ [.ins c []])).bind (madeOf c nf st1.length) else .stuck 76
theorem ed_make (tb : TbOk g) {n c np nf : Nat} {x : Str} {f : FnS} {da : DenA} {e : Expr} {es : List Expr} {p pos : Pos} {fs : List Str} (D : Mc g n c x np f) (C : ClsAt g c fs) (hnf : fs.length = nf) (hn : n + 1 ≤ l.n) (hg : l.sc.names.lookup x = some .globalImplicit) (ha : AD g l da (e :: es)) (hdb : (x == ("__debug__" : Str)) = false)
    (he : ∀ env, starEach (e :: es) env = (false, eval e env) :: starEach es env) (hpl : ∀ env, (backTo pos (starEach es env)).any (·.1) = false) : ED g l (dMake c nf np f da) (.Call (.Name x p) (e :: es) [] pos) := fun X W J tk => by
  obtain ⟨a, fd, ps, hps, hm, hk, hb, F⟩ := D.ex
  have F' : FnOk X.prog X.w X.K X.mg X.base (L2.CX X.prog X.w) n a fd ps (spM g np f) := by rw [J.p, J.w, J.k, J.m, J.b]; exact F
  refine PE.imp (pe_makeSD (E := WE W) (C := g.T.ca c) (by rw [J.k]; exact hk) F' (J.room.mono hn) (gl_of J hg) (by rw [J.m]; exact hm) (by rw [J.k]; exact hb) .nil (fun σ => passAt tk σ) (ha X W J tk) hdb (he _) (hpl _)) fun σ H Q ⟨ρ, st, κ, L, h⟩ => ?_
  refine ⟨ρ, st, κ, L, (Run.bind (R' := RX g) (R := RXs g) h).mono fun ys H1 ⟨vs, st1, κ1, e1, r1, h1⟩ x dx hx hdx hne => ?_⟩
  split at h1
  · rename_i zn
    have x1 := StR.upd_new tb (o := .own x) e1.sr hdx
    have hx' : upd H1 dx (.own x) x = none := by rw [upd_ne (Ne.symm hne)]; exact hx
    have x2 := new_ins tb (c := c) (dx := dx) x1.sr hx'
    have x12 := x1.trans x2
    rw [List.append_nil]
    have lenκ : κ1.length = st1.length := e1.sr.cells.length.symm
    refine ⟨by rw [List.length_cons, ← r1.length]; exact eq_of_beq zn, .ref st1.length :: vs, st1 ++ [.ins c []], κ1 ++ [x], x12.sr, ⟨.ref x, ys, rfl, ⟨x, by rw [← lenκ, List.getElem?_append_right (Nat.le_refl _), Nat.sub_self]; rfl, rfl⟩, r1.mono x12.pre x12.same⟩, ?_⟩
    cases e : f (.ref st1.length :: vs) (st1 ++ [.ins c []]) with
    | stuck w => rw [e] at h1; exact h1
    | exc cc ll st2 => rw [e] at h1; exact fun κ' H' d e2 r => h1 κ' H' d (x12.trans e2) r
    | ok pv st2 =>
      rw [e] at h1
      intro κ2 H2 y e2 r2
      have h2 : Run g (RX g) W (madeOf c nf st1.length pv st2) st1 κ1 σ H1 Q := h1
      cases pv with
      | non =>
        refine ⟨r2, ?_⟩
        unfold madeOf at h2
        dsimp only at h2
        split at h2
        · rename_i c' xs q
          split at h2
          · rename_i z
            rw [Bool.and_eq_true] at z
            obtain rfl := eq_of_beq z.1
            have zl := eq_of_beq z.2
            have xt := x12.trans e2
            obtain ⟨a2, q1, dx2, ws, q2, q3, q4⟩ := cell_at e2.sr.cells q
            have : κ2[st1.length]? = some x := by
              rw [get_pre e2.pre (by rw [List.length_append, lenκ]; exact Nat.lt_succ_self _), ← lenκ, List.getElem?_append_right (Nat.le_refl _), Nat.sub_self]
              rfl
            rw [this] at q1
            cases q1
            have tk := Ext.take xt (k := st1.length) (by omega)
            have out : x ∉ live (st2.take st1.length) (κ2.take st1.length) := fun z => by
              obtain ⟨j, hj, ej⟩ := List.getElem_of_mem (live_sub z)
              rw [List.length_take] at hj
              rw [List.getElem_take] at ej
              have h1 : κ2[j]? = some x := by rw [List.getElem?_eq_getElem (by omega), ej]
              have h3 : j = st1.length := (List.getElem?_inj (by have := (List.getElem?_eq_some_iff.mp h1).1; omega) e2.sr.nd).mp (by rw [h1, this])
              omega
            refine h2 _ _ _ tk ⟨x, dx2, ws, rfl, fz_at out q2 (fun ps z => by cases z), by rw [C.lay, hnf]; exact zl, q4.mono (fz_perm fun b hb => live_take hb)⟩
          · exact h2.elim
        · exact h2.elim
      | ref k => exact h2.elim
      | bl _ => exact h2.elim
      | int _ => exact h2.elim
      | str _ => exact h2.elim
      | tup _ => exact h2.elim
      | lst _ => exact h2.elim
      | obj _ _ => exact h2.elim
  · exact h1.elim
end
end Wi

/-! Wi26: the text's own exceptions raised and caught. -/
namespace Wi
open PySem L2
section
variable {g : Gm} {l : Lc}
/-! ### raised -/
/-- an exception class without an __init__ of its own -/
structure ExA (g : Gm) (c : Nat) (x : Str) : Prop where
  gC : g.mg x = some (.ref (g.T.ca c))
  xP : PySem.W.excIn g.K (g.T.ca c) [.type "ValueError", .type "Exception", .type "BaseException", .type "object"] "ValueError.__new__" = true
  kP : PySem.W.keepIn g.K (.ref (g.T.ca c)) = true
  bP : PySem.W.subIn g.K (.ref (g.T.ca c)) (.type "BaseException") = some true
  tP : PySem.W.typeIn g.K (.ref (g.T.ca c)) = some (.type "type")
  lay : g.T.lay c = []
def sRaise0 (c : Nat) : DenS := fun ρ st => .exc c [] ρ st
theorem sd_raise0 {c : Nat} {x m : Str} {j : Nat} {p p2 pos pos' : Pos} (T : ExA g c x) (hg : l.sc.names.lookup x = some .globalImplicit) (hdb : (x == ("__debug__" : Str)) = false) : SD g l (sRaise0 c) (.Raise (some (.Call (.Name x p) [.Constant (.str m) j p2] [] pos)) none pos') := fun X W J tk =>
  PS.imp (ps_raise J.calm tk (pmk_own PySem.F.excBase_ValueError (by rw [J.k]; exact T.xP) (by rw [J.m]; exact T.gC) (by rw [J.k]; exact T.kP) (raises_own (by rw [J.k]; exact T.bP) (by rw [J.k]; exact T.tP)) (gl_of J hg) hdb)) fun D σ H ⟨ρ, st, κ, L, h⟩ =>
    h κ H σ none (Ext.refl L.sr) L.sl (by unfold ExcR; rw [T.lay])
def spOex (C : Addr) (f : Str) : Sp := fun vs H Q _ => ∃ (a : Addr) (y : V), vs = [.ref a, y] ∧ H a = some (exo a C none) ∧ ∀ dx, H dx = none → dx ≠ a → Q .non (upd (upd H dx (exd dx [(f, y)])) a (exo a C (some dx)))
/-- an exception class whose __init__(self, f) stores f, and no more -/
structure ExB (g : Gm) (c : Nat) (x f : Str) : Prop where
  gC : g.mg x = some (.ref (g.T.ca c))
  o : OexC g.K (g.T.ca c)
  xf : XfC g.K (g.T.ca c)
  lay : g.T.lay c = [f]
  noF : PySem.W.findIn g.K (.ref (g.T.ca c)) f = some none
  ex : ∃ (fI : Addr) (fd : FuncData) (ps : List Str), PySem.W.findIn g.K (.ref (g.T.ca c)) "__init__" = some (some (.ref fI)) ∧ PySem.W.typeIn g.K (.ref fI) = some (.type "function") ∧ ps.length = 2 ∧ Binds g.K fd ps [] ∧
    FnOk g.P g.w g.K g.mg g.base (L2.CX g.P g.w) 1 fI fd ps (spOex (g.T.ca c) f)
theorem oex_init {P : Program} {w : World} {K : PySem.W.Frag} {mg : Str → Option Value} {base : Heap} {C : Addr} {x qual f s n : Str} {st : Stmt} {fI : Addr} {oc : Value} {od an : Option Addr} {kV doc pm cd ct : Value} {sl : Array (Option Value)} {p1 p2 p3 p4 : Pos}
    (lk : K.lookup fI = some ⟨oc, od, .func (PySem.W.fnOf x qual (defArgs st) (defBody st) (defScope st) .none kV doc pm an cd ct), sl⟩) (hcd : PySem.W.codeIn K cd qual = true) (S : FnScope [s, n] [s, n] (defScope st)) (hb : defBody st = [.Assign [.Attribute (.Name s p1) f p2] (.Name n p3) p4])
    (v1 : visB (defScope st) s = true) (v2 : visB (defScope st) n = true) (d1 : (s == ("__debug__" : Str)) = false) (d2 : (n == ("__debug__" : Str)) = false) (e1 : (s == ("__classdict__" : Str)) = false) (e2 : (n == ("__classdict__" : Str)) = false)
    (hs : ∀ env, swapsWith (.Name n p3) (some (.Attribute (.Name s p1) f p2)) p4.line env = pure false) (T : OexC K C) (noF : PySem.W.findIn K (.ref C) f = some none) :
    FnOk P w K mg base (L2.CX P w) 1 fI (PySem.W.fnOf x qual (defArgs st) (defBody st) (defScope st) .none kV doc pm an cd ct) [s, n] (spOex C f) := by
  refine fn_of lk hcd S (fun vs H Q E ⟨a, y, e, _⟩ => by subst e; rfl) fun A outer s' H vs Q E hr ⟨a, y, e, ha, q⟩ => ?_
  subst e
  rw [hb]
  refine ⟨_, pss_one (ps_ost (pe_var (i := 0) rfl (vis_of v1) d1 e1) (pe_var (i := 1) rfl (vis_of v2) d2 e2) (hs _)), ?_⟩
  exact ⟨_, rfl, _, rfl, a, C, rfl, T, noF, .inl ⟨ha, fun dx h1 h2 => q dx h1 h2⟩⟩
def sRaise1 (c : Nat) (d : Den) : DenS := fun ρ st => Res.thenS (d ρ st) ρ fun v st => if isTree v then .exc c [v] ρ st else .stuck 110
theorem sd_raise1 (tb : TbOk g) {c : Nat} {x f : Str} {d : Den} {e : Expr} {p pos pos' : Pos} (T : ExB g c x f) (hn : 2 ≤ l.n) (hg : l.sc.names.lookup x = some .globalImplicit) (hdb : (x == ("__debug__" : Str)) = false) (he : ED g l d e)
    (h1 : ∀ env, starEach (e :: []) env = (false, eval e env) :: starEach [] env) (hpl : ∀ env, (backTo pos (starEach [] env)).any (·.1) = false) : SD g l (sRaise1 c d) (.Raise (some (.Call (.Name x p) [e] [] pos)) none pos') := fun X W J tk => by
  obtain ⟨fI, fd, ps, iC, tI, hps, hb, F⟩ := T.ex
  have F' : FnOk X.prog X.w X.K X.mg X.base (L2.CX X.prog X.w) 1 fI fd ps (spOex (g.T.ca c) f) := by rw [J.p, J.w, J.k, J.m, J.b]; exact F
  refine PS.imp (ps_raise J.calm tk (pmk_oex (by rw [J.k]; exact T.o) (by rw [J.k]; exact iC) (by rw [J.k]; exact tI) F' (J.room.mono hn) (by rw [J.k]; exact hb) .nil passL (gl_of J hg) (by rw [J.m]; exact T.gC) (pa_cons (he X W J tk) pa_nil (h1 _)) hdb (h1 _) (hpl _))) fun D σ H ⟨ρ, st, κ, L, h⟩ => ?_
  refine ⟨ρ, st, κ, L, (RunS.of L h).mono fun y H1 ⟨v, st1, κ1, x1, r1, h1⟩ => ?_⟩
  split at h1
  · rename_i t
    have rt := r1.tree t
    refine ⟨(show 1 ≤ 1000 from by decide), fun a ha => ⟨a, y, rfl, upd_same, fun dx hdx hne => ⟨rfl, dx, [(f, y)], upd_same, ?_, ?_, ?_⟩⟩⟩
    · rw [upd_ne hne, upd_same]
    · rw [upd_ne hne] at hdx; exact hdx
    · have hd1 : H1 dx = none := by rw [upd_ne hne] at hdx; exact hdx
      have eH : upd (del (upd (upd (upd H1 a (exo a (g.T.ca c) none)) dx (exd dx [(f, y)])) a (exo a (g.T.ca c) (some dx))) a) dx (.xd [(f, y)]) = upd H1 dx (.xd [(f, y)]) := by
        funext b
        by_cases z : b = dx
        · subst z; rw [upd_same, upd_same]
        · rw [upd_ne z, upd_ne z]
          by_cases za : b = a
          · subst za; rw [del_same]; exact ha.symm
          · rw [del_ne za, upd_ne za, upd_ne z, upd_ne za]
      rw [eH]
      have x2 := StR.upd_new tb (o := .xd [(f, y)]) x1.sr hd1
      refine h1 _ _ σ (some dx) x2 ((L.xt x1).xt x2).sl ?_
      unfold ExcR
      rw [T.lay]
      exact ⟨dx, [y], rfl, upd_same, RepVs.one (rt.mono x2.same)⟩
  · exact h1.elim
end
end Wi

/-! Wi27: try .. except. -/
namespace Wi
open PySem L2
section
variable {g : Gm} {l : Lc}
theorem Jx.tr {X : Cx} (J : Jx g l X) {pn : List (Addr × Obj)} {xe : Value → Shared → Prop} (o : PassesOwn (model X.prog X.w) X.A X.env xe) : Jx g l (X.tr pn xe) :=
  ⟨J.p, J.w, J.k, J.m, J.b, J.N, J.sc, J.nd, J.calm, J.room, o, J.kind, J.fn, (fun z => ⟨(J.code z).ex, (J.code z).bm⟩), J.stk⟩
theorem SlR.unset2 {κ : List Addr} {F : Hp} {y : Option V} : ∀ {ρ : Sl} {σ : L2.St} (i : Nat), SlR g.K g.T κ F ρ σ → SlR g.K g.T κ F (ρ.set i none) (σ.set i y)
  | [], _, _, h => by subst h; rfl
  | _ :: _, _, 0, ⟨x, r, q, h, t⟩ => by subst q; exact ⟨y, r, rfl, (fun w hw => nomatch hw), t⟩
  | _ :: _, _, i + 1, ⟨x, r, q, h, t⟩ => by subst q; exact ⟨x, _, rfl, h, SlR.unset2 i t⟩
/-- which of the text's exceptions an except clause takes -/
structure Exm (g : Gm) (x : Str) (ms : List Bool) : Prop where
  ex : ∃ C : Addr, g.mg x = some (.ref C) ∧ ∀ (c : Nat) (b : Bool), ms[c]? = some b → PySem.W.exmOne g.K (.ref (g.T.ca c)) (.ref C) = some b
abbrev noW : WX := fun _ _ _ _ => False
/-- a suite that doesn't look at the exception -/
def SuN (g : Gm) (l : Lc) (h : DenS) (b : List Stmt) : Prop := ∀ (X : Cx) (a : Addr) (oe : Obj) (pn : List (Addr × Obj)), Jx g l X → PSs (X.suite a ((a, oe) :: pn)) b (tS g noW h)
/-- a suite that looks at it: it is in slot i, of the class c -/
def tSu (g : Gm) (i c : Nat) (a : Addr) (d : Option Addr) (h : List PV → DenS) : TS := fun D σ H => ∃ lv ρ st κ, Lies g ρ st κ σ H ∧ σ[i]? = some (some (.ref a)) ∧ ExcR g (Fz st κ H) H c lv d ∧ RunS g noW (h lv ρ st) st κ H D
def SuD (g : Gm) (l : Lc) (i c : Nat) (h : List PV → DenS) (b : List Stmt) : Prop := ∀ (X : Cx) (a : Addr) (oe : Obj) (d : Option Addr) (pn : List (Addr × Obj)), Jx g l X → Zc (.ref (g.T.ca c)) d oe → (∃ vs, oe.data = .fields vs) → PSs (X.suite a ((a, oe) :: pn)) b (tSu g i c a d h)
def onlyB (ms : List Bool) (c0 : Nat) : Bool := (List.range ms.length).all fun c => !(ms[c]? == some true) || c == c0
theorem only_of {ms : List Bool} {c0 : Nat} (h : onlyB ms c0 = true) {c : Nat} (hc : ms[c]? = some true) : c = c0 := by
  unfold onlyB at h
  rw [List.all_eq_true] at h
  have := h c (by rw [List.mem_range]; exact (List.getElem?_eq_some_iff.mp hc).1)
  rw [hc] at this
  simpa using this
def noExc (r : RS) : RS := match r with
  | .exc _ _ _ _ => .stuck 120
  | r => r
def sTryN (ms : List Bool) (b h : DenS) : DenS := fun ρ st => match b ρ st with
  | .exc c lv ρ' st' => (match ms[c]? with
    | some true => noExc (h ρ' st')
    | some false => .exc c lv ρ' st'
    | none => .stuck 121)
  | r => r
theorem RunS.no {W : WX} {r : RS} {st : Store} {κ : List Addr} {H : Hp} {D : Ends} (h : RunS g W (noExc r) st κ H D) : RunS g noW r st κ H D := by
  cases r with
  | exc c l a b => exact h.elim
  | nx a b => exact h
  | rt a b => exact h
  | bk a b => exact h
  | ct a b => exact h
  | stuck w => exact h
theorem sd_tryN {ms : List Bool} {b h : DenS} {x : Str} {body suite : List Stmt} {b₀ : Stmt} {np pos pos' : Pos} (M : Exm g x ms) (hg : l.sc.names.lookup x = some .globalImplicit) (hdb : (x == ("__debug__" : Str)) = false) (hb : SsD g l b body) (hs : SuN g l h (b₀ :: suite)) (hst : l.top = true) : SD g l (sTryN ms b h) (.Try body [.ExceptHandler (some (.Name x np)) none (b₀ :: suite) pos'] [] [] pos) := fun X W J tk => by
  obtain ⟨C, hC, hm⟩ := M.ex
  obtain ⟨s1, s2⟩ := J.stk hst
  refine PS.imp (ps_try_only (c := .ref C) (tb := fun W => tS g W b) (ts := fun _ _ _ => tS g noW h) (Wout := W) s1 s2 ⟨gl_of J hg, hdb, .inl (by rw [J.m]; exact hC)⟩ tk (fun W pn xe tk o => hb _ _ (J.tr o) tk) (fun a oe cls d pn hz hf => hs X a oe pn J)) fun D σ H ⟨ρ, st, κ, L, q⟩ => ⟨ρ, st, κ, L, ?_⟩
  unfold sTryN at q
  cases e : b ρ st with
  | exc c lv ρ' st' =>
    rw [e] at q
    dsimp only at q
    intro κ' H' σ' d xt sl er
    cases e2 : ms[c]? with
    | none => rw [e2] at q; exact q.elim
    | some k =>
      rw [e2] at q
      refine ⟨k, by rw [J.k]; exact hm c k e2, fun z a ha => ?_, fun z => ?_⟩
      · subst z
        exact ⟨ρ', st', κ', ⟨xt.sr, sl⟩, (RunS.no q).xt xt⟩
      · subst z
        exact q κ' H' σ' d xt sl er
  | nx a b => rw [e] at q; exact q
  | rt a b => rw [e] at q; exact q
  | bk a b => rw [e] at q; exact q
  | ct a b => rw [e] at q; exact q
  | stuck w => rw [e] at q; exact q
def unset (i : Nat) (r : RS) : RS := match r with
  | .exc _ _ _ _ => .stuck 122
  | .nx ρ st => .nx (ρ.set i none) st
  | .bk ρ st => .bk (ρ.set i none) st
  | .ct ρ st => .ct (ρ.set i none) st
  | r => r
def sTryA (i : Nat) (ms : List Bool) (b : DenS) (h : List PV → DenS) : DenS := fun ρ st => match b ρ st with
  | .exc c lv ρ' st' => (match ms[c]? with
    | some true => if Nat.blt i ρ'.length then unset i (h lv (ρ'.set i none) st') else .stuck 124
    | some false => .exc c lv ρ' st'
    | none => .stuck 123)
  | r => r
theorem RunS.unset {W : WX} {i : Nat} {r : RS} {st : Store} {κ : List Addr} {H : Hp} {D : Ends} (h : RunS g W (unset i r) st κ H D) :
    RunS g noW r st κ H { nx := fun σ' H' => D.nx (σ'.set i none) H', rt := D.rt, bk := fun σ' H' => D.bk (σ'.set i none) H', ct := fun σ' H' => D.ct (σ'.set i none) H' } := by
  cases r with
  | exc c l a b => exact h.elim
  | nx a b => exact fun κ' H' σ' xt s => h κ' H' _ xt (SlR.unset2 i s)
  | rt a b => exact h
  | bk a b => exact fun κ' H' σ' xt s => h κ' H' _ xt (SlR.unset2 i s)
  | ct a b => exact fun κ' H' σ' xt s => h κ' H' _ xt (SlR.unset2 i s)
  | stuck w => exact h
theorem sd_tryA {i c0 : Nat} {ms : List Bool} {b : DenS} {h : List PV → DenS} {x n : Str} {body suite : List Stmt} {b₀ : Stmt} {np pos pos' : Pos} (M : Exm g x ms) (ho : onlyB ms c0 = true) (hg : l.sc.names.lookup x = some .globalImplicit) (hdb : (x == ("__debug__" : Str)) = false) (hi : l.N[i]? = some n) (hl : l.sc.names.lookup n = some .local)
    (hb : SsD g l b body) (hs : SuD g l i c0 h (b₀ :: suite)) (hst : l.top = true) :
    SD g l (sTryA i ms b h) (.Try body [.ExceptHandler (some (.Name x np)) (some n) (b₀ :: suite) pos'] [] [] pos) := fun X W J tk => by
  obtain ⟨C, hC, hm⟩ := M.ex
  obtain ⟨s1, s2⟩ := J.stk hst
  refine PS.imp (ps_try_as (c := .ref C) (i := i) (tb := fun W => tS g W b) (ts := fun a cls d => fun D σ H => ∃ _ : cls = .ref (g.T.ca c0), tSu g i c0 a d h D σ H) (Wout := W) s1 s2 (by rw [J.N]; exact J.nd) (by rw [J.N]; exact hi) (show X.env.scope.names.lookup n = some .local by rw [J.sc]; exact hl) ⟨gl_of J hg, hdb, .inl (by rw [J.m]; exact hC)⟩ tk
    (fun W pn xe tk o => hb _ _ (J.tr o) tk) (fun a oe cls d pn hz hf => ⟨fun pins s σ H D I ⟨e, q⟩ => by subst e; exact (hs X a oe d pn J hz hf).run pins s σ H D I q⟩)) fun D σ H ⟨ρ, st, κ, L, q⟩ => ⟨ρ, st, κ, L, ?_⟩
  unfold sTryA at q
  cases e : b ρ st with
  | exc c lv ρ' st' =>
    rw [e] at q
    dsimp only at q
    intro κ' H' σ' d xt sl er
    cases e2 : ms[c]? with
    | none => rw [e2] at q; exact q.elim
    | some k =>
      rw [e2] at q
      refine ⟨k, by rw [J.k]; exact hm c k e2, fun z a ha => ?_, fun z => ?_⟩
      · subst z
        obtain rfl := only_of ho e2
        dsimp only at q
        split at q
        · rename_i zl
          have hl' : i < ρ'.length := Nat.le_of_ble_eq_true zl
          exact ⟨rfl, lv, ρ'.set i none, st', κ', ⟨xt.sr, SlR.unset2 i sl⟩, List.getElem?_set_self (by rw [← sl.length]; exact hl'), er, (RunS.unset q).xt xt⟩
        · exact q.elim
      · subst z
        exact q κ' H' σ' d xt sl er
  | nx a b => rw [e] at q; exact q
  | rt a b => rw [e] at q; exact q
  | bk a b => rw [e] at q; exact q
  | ct a b => rw [e] at q; exact q
  | stuck w => rw [e] at q; exact q
end
end Wi

/-! Wi28: written dicts with whole numbers as keys, divmod, chains, tuple.index, tuple(range). -/
namespace L2
open PySem PySem.Spec PyProof.Rows
/-- the value at a key in a written dict -/
def kdGet : List DictEntry → Int → Option Value
  | [], _ => none
  | e :: es, k => if (match e.key with
    | .int j _ => j == k
    | _ => false) then some e.val else kdGet es k
def kdKeys : List DictEntry → Bool
  | [] => true
  | e :: es => (match e.key with
    | .int j _ => e.hash == hashInt j
    | _ => false) && kdKeys es
structure KInt (K : PySem.W.Frag) (d : Addr) (es : Array DictEntry) (n : Nat) : Prop where
  at_ : K.lookup d = some ⟨.type "dict", none, .dict es n, #[]⟩
  keys : kdKeys es.toList = true
  low : (d == sysModules) = false
theorem kdKeys_all : ∀ {l : List DictEntry}, kdKeys l = true → ∀ e ∈ l, ∃ j t, e.key = .int j t ∧ e.hash = hashInt j
  | e :: r, h, e', hm => by
    unfold kdKeys at h
    rw [Bool.and_eq_true] at h
    rcases List.mem_cons.mp hm with rfl | hm
    · have h1 := h.1
      split at h1
      · rename_i j t hk
        exact ⟨j, t, hk, eq_of_beq h1⟩
      · cases h1
    · exact kdKeys_all h.2 e' hm
theorem isInt_of (k j : Int) (t : Tok) : Value.isInt k (.int j t) = (j == k) := by
  first
    | rfl
    | (unfold Value.isInt; rfl)
    | (unfold Value.isInt; rw [Bool.beq_comm])
theorem find_kd (prog : Program) (w : World) (es : Array DictEntry) (h : kdKeys es.toList = true) (k : Int) : findBy (PySem.intKind prog w).is es k = kdGet es.toList k := by
  obtain ⟨l⟩ := es
  unfold findBy
  rw [List.find?_toArray]
  dsimp only at h ⊢
  induction l with
  | nil => rfl
  | cons e l ih =>
    obtain ⟨j, t, hk, _⟩ := kdKeys_all h e List.mem_cons_self
    unfold kdKeys at h
    rw [Bool.and_eq_true] at h
    rw [List.find?_cons]
    have e1 : (PySem.intKind prog w).is k e.key = (j == k) := by
      rw [hk]
      exact isInt_of k j t
    have e2 : kdGet (e :: l) k = if (j == k) = true then some e.val else kdGet l k := by
      show (if (match e.key with
        | .int j _ => j == k
        | _ => false) = true then some e.val else kdGet l k) = _
      rw [hk]
    rw [e1, e2]
    by_cases z : (j == k) = true
    · rw [if_pos z]
      simp only [z]
      rfl
    · rw [if_neg z]
      rw [Bool.not_eq_true] at z
      simp only [z]
      exact ih h.2
theorem KInt.map {K : PySem.W.Frag} {d : Addr} {es : Array DictEntry} {n : Nat} (D : KInt K d es n) (prog : Program) (w : World) {h : Heap} (X : K.In h) : h.MapOf (PySem.intKind prog w) d (fun k => kdGet es.toList k) :=
  ⟨_, es, n, X _ _ D.at_, ⟨rfl, rfl, rfl⟩, rfl, fun e he => by
    obtain ⟨j, t, e1, e2⟩ := kdKeys_all D.keys e (Array.mem_toList_iff.mpr he)
    exact ⟨j, by rw [e1]; show Value.isInt j (.int j t) = true; simp [Value.isInt], e2⟩, fun k => find_kd prog w es D.keys k⟩
theorem int_is (prog : Program) (w : World) (z : Int) (t : Tok) : (PySem.intKind prog w).is z (.int z t) = true := by
  show Value.isInt z (.int z t) = true
  simp [Value.isInt]
section
variable {X : Cx} {d : Addr} {es : Array DictEntry} {n : Nat}
def rKin (d : Addr) (es : Array DictEntry) (neg : Bool) : R2 := fun x y H Q => ∃ z : Int, x = .int z ∧ y = .ref d ∧ Q (.bl (if neg then !(kdGet es.toList z).isSome else (kdGet es.toList z).isSome)) H
theorem op_in_ki (D : KInt X.K d es n) : OpR X (compareOp .In) (rKin d es false) := by
  intro pins s σ H x y v u Q I rx ry h
  obtain ⟨z, rfl, rfl, q⟩ := h
  obtain ⟨t, rfl⟩ := rx
  cases ry
  refine wpAny_in_of (int_is X.prog X.w z t) D.low (D.map X.prog X.w I.kIn) ?_
  exact ⟨.bl _, H, I.tok _, rfl, q⟩
theorem op_notIn_ki (D : KInt X.K d es n) : OpR X (compareOp .NotIn) (rKin d es true) := by
  intro pins s σ H x y v u Q I rx ry h
  obtain ⟨z, rfl, rfl, q⟩ := h
  obtain ⟨t, rfl⟩ := rx
  cases ry
  refine wpAny_notIn_of (int_is X.prog X.w z t) D.low (D.map X.prog X.w I.kIn) ?_
  exact ⟨.bl _, H, I.tok _, rfl, q⟩
theorem ix_ki (D : KInt X.K d es n) : IxR X (fun x y H Q => ∃ (z : Int) (u0 : Value) (v0 : V), x = .ref d ∧ y = .int z ∧ kdGet es.toList z = some u0 ∧ RelV v0 u0 ∧ Q v0 H) := by
  intro value slice pins s σ H x y v u Q I rx ry h hs
  obtain ⟨z, u0, v0, rfl, rfl, e, ru, q⟩ := h
  obtain rfl : v = Value.ref d := rx
  obtain ⟨t, rfl⟩ := ry
  have hm := D.map X.prog X.w I.kIn
  exact tail_any hm.typeIs slot_dict_getitem.lookup (wpAny_getItem_of (int_is X.prog X.w z t) hm e ⟨v0, H, I.tok _, ru, q⟩) hs
theorem mt_get_ki (D : KInt X.K d es n) : MtR X "dict.get" (fun x xs H Q => ∃ (z : Int) (y : V), x = .ref d ∧ xs = [.int z, y] ∧ (match kdGet es.toList z with
    | some u0 => ∃ v0, RelV v0 u0 ∧ Q v0 H
    | none => Q y H)) := by
  intro pins s σ H x xs v us Q I rx rs h
  obtain ⟨z, y, rfl, rfl, q⟩ := h
  cases rx
  obtain ⟨u1, u2, rfl, ⟨t, rfl⟩, r2⟩ := vals2 rs
  have hm := D.map X.prog X.w I.kIn
  refine call_meetsIn PySem.F.slot_dict_get hm.typeIs PySem.F.entry_dict_get (PySem.F.args_dict_get_3 _ _ _) (meets_dict_get_default (PySem.intKind X.prog X.w) d (int_is X.prog X.w z t) D.low u2) ⟨_, hm, ?_⟩
  cases e : kdGet es.toList z with
  | none =>
    rw [e] at q
    exact ⟨y, H, I.tok _, r2, q⟩
  | some u0 =>
    rw [e] at q
    obtain ⟨v0, r0, q⟩ := q
    exact ⟨v0, H, I.tok _, r0, q⟩
end
end L2

/-! Wi29: the plain words for these. -/
namespace L2
open PySem PySem.Spec PyProof.Rows
/-- a built-in's method where the receiver is known by P -/
def tBMx (P : V → Hp → Prop) (r : V → List V → Hp → VK → Prop) (to : TE) (t : TA) : TE := fun σ H Q => to σ H fun x H1 => P x H1 ∧ t σ H1 fun xs H2 => r x xs H2 Q
def IsTy (X : Cx) (T : String) (P : V → Hp → Prop) : Prop := ∀ (pins : List (Addr × Obj)) (σ : St) (H : Hp) (s : Shared) (x : V) (v : Value), Inv X pins σ H s → RelV x v → P x H → s.TypeIs v T ∧ ∀ a, v = .ref a → ∃ ob, s.heap.get? a = some ob ∧ ob.dict = none
theorem pe_bmx {X : Cx} {T id : String} {name : Str} {P : V → Hp → Prop} {r : V → List V → Hp → VK → Prop} {o e : Expr} {es : List Expr} {cpos apos : Pos} {to : TE} {t : TA} (pa : PlainAttrs T) (slot : Slot T name id) (hty : typeOf (.builtin id) = pure (.type "method_descriptor")) (hm : MtR X id r) (hP : IsTy X T P) (ho : PE X o to) (ha : PA X (e :: es) t)
    (hbase : attributeBase o name X.env (eval o X.env) = eval o X.env)
    (hfew : ((backTo cpos (starEach (e :: es) X.env)).all (fun x => !x.1) && (backToKw cpos (keywordEach [] X.env)).all (fun x => x.1.isSome)
      && decide ((e :: es).length + ([] : List Keyword).length + (if ([] : List Keyword).isEmpty then 0 else 1) < 30)) = true)
    (hline : (apos.endLine == cpos.line) = true) (hs : starEach (e :: es) X.env = (false, eval e X.env) :: starEach es X.env) (hplain : (backTo cpos (starEach es X.env)).any (·.1) = false) :
    PE X (.Call (.Attribute o name apos) (e :: es) [] cpos) (tBMx P r to t) := by
  refine ⟨fun pins s σ H Q I h => ?_⟩
  refine wpAny_Call_method_late hbase hfew hline rfl (thn (ho.run pins s σ H _ I h) fun v s1 ⟨x, H1, I1, r1, ty, q1⟩ => ?_)
  obtain ⟨h1, h2⟩ := hP pins σ H1 s1 x v I1 r1 ty
  refine ⟨T, id, pa, slot, hty, h1, h2, ?_⟩
  have hA := ha.run cpos pins s1 σ H1 _ I1 q1
  rw [hs] at hA ⊢
  refine Calls.callWith_builtin (by show (false || (backTo cpos (starEach es X.env)).any (·.1)) = false; rw [hplain] <;> rfl) (Calls.evalArgs_plain ?_)
  exact thn hA fun us s2 ⟨vs, H2, I2, r2, q2⟩ => hm pins s2 σ H2 x vs v us Q I2 r1 r2 q2
theorem isTy_tup {X : Cx} : IsTy X "tuple" (fun x H => ∃ a vs, x = .ref a ∧ TupR X.K H a vs) := by
  intro pins σ H s x v I r ⟨a, vs, e, h⟩
  subst e
  cases r
  rcases h with ⟨ob, h, hd⟩ | ⟨o, its, n, h1, h2, h3, h4, h5, h6⟩
  · have z : ObjOk X.prog X.w H s.heap a (.frz ob (.tup vs)) := I.hok a _ h
    obtain ⟨e, _, its, _, o, e2, hc, _⟩ := z
    rw [e] at e2
    cases e2
    exact ⟨⟨_, e, hc⟩, fun b z => by cases z; exact ⟨ob, e, hd⟩⟩
  · exact ⟨⟨o, I.kIn _ o h1, h2⟩, fun b z => by cases z; exact ⟨o, I.kIn _ o h1, h6⟩⟩
theorem isTy_kint {X : Cx} {d : Addr} {es : Array DictEntry} {n : Nat} (D : KInt X.K d es n) : IsTy X "dict" (fun x _ => x = .ref d) := by
  intro pins σ H s x v I r e
  subst e
  cases r
  have h := I.kIn _ _ D.at_
  exact ⟨⟨_, h, rfl⟩, fun b z => by cases z; exact ⟨_, h, rfl⟩⟩
theorem flat_ints (ys : List Int) : (ys.map V.int).all flatV = true := by
  rw [List.all_map]
  exact List.all_eq_true.mpr fun _ _ => rfl
/-- t.index(i), t a tuple of ints -/
theorem mt_tup_indexI {X : Cx} : MtR X "tuple.index" (fun x xs H Q => ∃ p, ∃ ys : List Int, ∃ z j, x = .ref p ∧ xs = [.int z] ∧ SqT X.K H p (ys.map V.int) ∧ ys[j]? = some z ∧ (∀ m, m < j → ys[m]? ≠ some z) ∧ Q (.int (j : Nat)) H) := by
  intro pins s σ H x xs v us Q I rx rs h
  obtain ⟨p, ys, z, j, rfl, rfl, hq, hy, hno, q⟩ := h
  cases rx
  obtain ⟨u, rfl, t, rfl⟩ := vals1 rs
  obtain ⟨its, r, pl, hz⟩ := I.tuple hq
  obtain ⟨⟨cls, dd, dt, sl⟩, ho, hc, n, hd⟩ := pl
  simp only at hc hd
  subst hc
  subst hd
  have hl : its.toArray.size = ys.length := by rw [List.size_toArray, ← r.length, List.length_map]
  have hj : j < its.toArray.size := by rw [hl]; exact (List.getElem?_eq_some_iff.mp hy).1
  have at' : ∀ (m : Nat) (hm : m < its.toArray.size), ∃ y t', ys[m]? = some y ∧ its.toArray[m] = Value.int y t' := fun m hm => by
    have hm' : m < ys.length := by rw [← hl]; exact hm
    obtain ⟨w, hw, t', hw'⟩ := r.get (i := m) (x := .int ys[m]) (by simp [hm'])
    refine ⟨ys[m], t', List.getElem?_eq_getElem hm', ?_⟩
    have e := (List.getElem?_eq_some_iff.mp hw).2
    rw [← hw', ← e]
    simp
  refine call_meets PySem.F.slot_tuple_index ⟨_, ho, rfl⟩ PySem.F.entry_tuple_index (PySem.F.args_tuple_index_2 _ _) (TI.tuple_indexAt p its.toArray n dd sl (.int z t) (eqU (.int z)) j hj ?_ ?_)
    ⟨ho, fun w hw => mem_eqAt (x := .int z) ⟨t, rfl⟩ rfl r (flat_ints ys) w (by simpa using hw), ⟨.int (j : Nat), H, I.tok _, ⟨_, rfl⟩, q⟩⟩
  · obtain ⟨y, t', h1, h2⟩ := at' j hj
    rw [hy] at h1
    cases h1
    rw [h2]
    show (z == z) = true
    exact beq_self_eq_true z
  · intro m hm hmj
    obtain ⟨y, t', h1, h2⟩ := at' m hm
    rw [h2]
    show (y == z) = false
    exact beq_eq_false_iff_ne.mpr fun e => hno m hmj (e ▸ h1)
end L2
namespace Wi
open PySem L2
section
variable {g : Gm} {l : Lc}
/-! ### written dicts -/
def intsB : List PV → List Value → Bool
  | [], [] => true
  | .int i :: xs, .int j _ :: us => i == j && intsB xs us
  | _, _ => false
theorem intsB_ok {F : Hp} : ∀ {xs : List PV} {us : List Value}, intsB xs us = true → ∃ vs, Vals vs us ∧ RepVs g.K g.T F xs vs
  | [], [], _ => ⟨[], .nil, rfl⟩
  | [], _ :: _, h => by cases h
  | .int i :: xs, [], h => by cases h
  | .int i :: xs, u :: us, h => by
    cases u <;> first
      | (rename_i j t
         unfold intsB at h
         rw [Bool.and_eq_true] at h
         obtain ⟨vs, h1, h2⟩ := intsB_ok (F := F) h.2
         obtain rfl := eq_of_beq h.1
         exact ⟨.int i :: vs, .cons ⟨t, rfl⟩ h1, _, _, rfl, rfl, h2⟩)
      | cases h
  | .non :: _, u, h => by cases u <;> cases h
  | .bl _ :: _, u, h => by cases u <;> cases h
  | .str _ :: _, u, h => by cases u <;> cases h
  | .tup _ :: _, u, h => by cases u <;> cases h
  | .lst _ :: _, u, h => by cases u <;> cases h
  | .ref _ :: _, u, h => by cases u <;> cases h
  | .obj _ _ :: _, u, h => by cases u <;> cases h
def valB (K : PySem.W.Frag) (v : PV) (u : Value) : Bool := match v, u with
  | .int i, .int j _ => i == j
  | .tup xs, .ref a => (match K.lookup a with
    | some ⟨.type "tuple", none, .seq its _, _⟩ => intsB xs its.toList && lineB its.size
    | _ => false)
  | _, _ => false
theorem valB_ok {v : PV} {u : Value} (h : valB g.K v u = true) : ∃ y : V, RelV y u ∧ ∀ F, RepV g.K g.T F v y := by
  unfold valB at h
  split at h
  · rename_i i j t
    obtain rfl := eq_of_beq h
    exact ⟨.int i, ⟨t, rfl⟩, fun _ => rfl⟩
  · rename_i xs a
    split at h
    · rename_i its n sl e
      rw [Bool.and_eq_true] at h
      refine ⟨.ref a, rfl, fun F => ?_⟩
      obtain ⟨vs, h1, h2⟩ := intsB_ok (g := g) (F := F) h.1
      exact ⟨a, vs, rfl, .inr ⟨_, its, n, e, rfl, rfl, lineB_ok h.2, h1, rfl⟩, h2⟩
    · cases h
  · cases h
def kdRel (K : PySem.W.Frag) : List DictEntry → List (Int × PV) → Bool
  | [], [] => true
  | e :: es, p :: D => (match e.key with
    | .int j _ => j == p.1
    | _ => false) && valB K p.2 e.val && kdRel K es D
  | _, _ => false
theorem kdRel_ok : ∀ {es : List DictEntry} {D : List (Int × PV)} (k : Int), kdRel g.K es D = true → (kdGet es k = none ∧ D.lookup k = none) ∨ ∃ u v, kdGet es k = some u ∧ D.lookup k = some v ∧ valB g.K v u = true
  | [], [], _, _ => .inl ⟨rfl, rfl⟩
  | [], _ :: _, _, h => by cases h
  | _ :: _, [], _, h => by cases h
  | e :: es, p :: D, k, h => by
    unfold kdRel at h
    rw [Bool.and_eq_true, Bool.and_eq_true] at h
    obtain ⟨⟨h1, h2⟩, h3⟩ := h
    split at h1
    · rename_i j t hk
      have e1 := eq_of_beq h1
      obtain ⟨p1, p2⟩ := p
      dsimp only at e1 h2
      subst e1
      have g1 : kdGet (e :: es) k = if (j == k) = true then some e.val else kdGet es k := by
        show (if (match e.key with
          | .int j _ => j == k
          | _ => false) = true then some e.val else kdGet es k) = _
        rw [hk]
      rw [g1, List.lookup_cons]
      by_cases z : (j == k) = true
      · have z2 : (k == j) = true := by rw [eq_of_beq z]; exact beq_self_eq_true k
        rw [if_pos z, z2]
        exact .inr ⟨_, _, rfl, rfl, h2⟩
      · have z2 : (k == j) = false := Bool.eq_false_iff.mpr fun q => z (by rw [eq_of_beq q]; exact beq_self_eq_true j)
        rw [if_neg z, z2]
        exact kdRel_ok k h3
    · cases h1
structure KDc (g : Gm) (x : Str) (D : List (Int × PV)) : Prop where
  ex : ∃ (d : Addr) (es : Array DictEntry) (n : Nat), g.mg x = some (.ref d) ∧ KInt g.K d es n ∧ kdRel g.K es.toList D = true
def dKIn (neg : Bool) (D : List (Int × PV)) (d : Den) : Den := fun ρ st => (d ρ st).bind fun v st => match v with
  | .int i => .ok (.bl (if neg then !(D.lookup i).isSome else (D.lookup i).isSome)) st
  | _ => .stuck 130
theorem kin_eq {es : List DictEntry} {D : List (Int × PV)} (h : kdRel g.K es D = true) (k : Int) : (kdGet es k).isSome = (D.lookup k).isSome := by
  rcases kdRel_ok k h with ⟨h1, h2⟩ | ⟨u, v, h1, h2, _⟩ <;> rw [h1, h2] <;> rfl
theorem ed_kIn {neg : Bool} {D : List (Int × PV)} {x : Str} {d : Den} {a : Expr} {p pos : Pos} {op : CmpOp} (hop : op = if neg then .NotIn else .In) (T : KDc g x D) (hg : l.sc.names.lookup x = some .globalImplicit) (hdb : (x == ("__debug__" : Str)) = false) (ha : ED g l d a) (hm : behindInMarks op (.Name x p) = false) :
    ED g l (dKIn neg D d) (.Compare a [op] [.Name x p] pos) := fun X W J tk => by
  obtain ⟨dd, es, n, e1, e2, e3⟩ := T.ex
  have e2' : KInt X.K dd es n := by rw [J.k]; exact e2
  have ho : OpR X (compareOp op) (rKin dd es neg) := by
    subst hop
    cases neg with
    | false => exact op_in_ki e2'
    | true => exact op_notIn_ki e2'
  refine PE.imp (pe_cmpR ho (ha X W J tk) (pe_glob (v := .ref dd) (gl_of J hg) (by rw [J.m]; exact e1) rfl hdb) hm) fun σ H Q ⟨ρ, st, κ, L, h⟩ => ⟨ρ, st, κ, L, (Run.bind h).mono fun y H1 ⟨v, st1, κ1, x1, r1, h1⟩ => ?_⟩
  cases v with
  | int i =>
    refine ⟨i, r1, rfl, ?_⟩
    rw [kin_eq e3 i]
    exact Run.ret x1.sr h1 rfl
  | non => exact h1.elim
  | bl _ => exact h1.elim
  | str _ => exact h1.elim
  | tup _ => exact h1.elim
  | lst _ => exact h1.elim
  | ref _ => exact h1.elim
  | obj _ _ => exact h1.elim
theorem td_kIn {neg : Bool} {D : List (Int × PV)} {x : Str} {d : Den} {a : Expr} {p pos : Pos} {op : CmpOp} (hop : op = if neg then .NotIn else .In) (T : KDc g x D) (hg : l.sc.names.lookup x = some .globalImplicit) (hdb : (x == ("__debug__" : Str)) = false) (ha : ED g l d a) (hm : behindInMarks op (.Name x p) = false) :
    TD g l (dB (dKIn neg D d)) (.Compare a [op] [.Name x p] pos) := fun X W J tk => by
  obtain ⟨dd, es, n, e1, e2, e3⟩ := T.ex
  have e2' : KInt X.K dd es n := by rw [J.k]; exact e2
  have ho : OpR X (compareOp op) (rKin dd es neg) := by
    subst hop
    cases neg with
    | false => exact op_in_ki e2'
    | true => exact op_notIn_ki e2'
  refine PT.imp (pt_cmpR ho (ha X W J tk) (pe_glob (v := .ref dd) (gl_of J hg) (by rw [J.m]; exact e1) rfl hdb) hm) fun σ H Q h0 => ?_
  obtain ⟨ρ, st, κ, L, h⟩ := runB h0
  refine ⟨ρ, st, κ, L, (Run.bind h).mono fun y H1 ⟨v, st1, κ1, x1, r1, h1⟩ => ?_⟩
  cases v with
  | int i =>
    refine ⟨i, r1, rfl, ?_⟩
    rw [kin_eq e3 i]
    exact Run.ret x1.sr h1 rfl
  | non => exact h1.elim
  | bl _ => exact h1.elim
  | str _ => exact h1.elim
  | tup _ => exact h1.elim
  | lst _ => exact h1.elim
  | ref _ => exact h1.elim
  | obj _ _ => exact h1.elim
def dKGet (D : List (Int × PV)) (d : Den) : Den := fun ρ st => (d ρ st).bind fun v st => match v with
  | .int i => (match D.lookup i with
    | some u => .ok u st
    | none => .stuck 131)
  | _ => .stuck 132
theorem ed_kGet {D : List (Int × PV)} {x : Str} {d : Den} {b : Expr} {p pos : Pos} (T : KDc g x D) (hg : l.sc.names.lookup x = some .globalImplicit) (hdb : (x == ("__debug__" : Str)) = false) (hb : ED g l d b) (hp : PlainIx b) : ED g l (dKGet D d) (.Subscript (.Name x p) b pos) := fun X W J tk => by
  obtain ⟨dd, es, n, e1, e2, e3⟩ := T.ex
  have e2' : KInt X.K dd es n := by rw [J.k]; exact e2
  refine PE.imp (pe_ix (ix_ki e2') (pe_glob (v := .ref dd) (gl_of J hg) (by rw [J.m]; exact e1) rfl hdb) (hb X W J tk) hp) fun σ H Q ⟨ρ, st, κ, L, h⟩ => ?_
  refine ⟨ρ, st, κ, L, (Run.bind h).mono fun y H1 ⟨v, st1, κ1, x1, r1, h1⟩ => ?_⟩
  cases v with
  | int i =>
    dsimp only at h1
    rcases kdRel_ok i e3 with ⟨q1, q2⟩ | ⟨u, v, q1, q2, q3⟩
    · rw [q2] at h1; exact h1.elim
    · rw [q2] at h1
      obtain ⟨z, z1, z2⟩ := valB_ok q3
      exact ⟨i, u, z, rfl, r1, q1, z1, Run.ret x1.sr h1 (RepX.ofV (z2 _))⟩
  | non => exact h1.elim
  | bl _ => exact h1.elim
  | str _ => exact h1.elim
  | tup _ => exact h1.elim
  | lst _ => exact h1.elim
  | ref _ => exact h1.elim
  | obj _ _ => exact h1.elim
def dKGetD (D : List (Int × PV)) (da : DenA) : Den := fun ρ st => (da ρ st).bind fun vs st => match vs with
  | [.int i, w] => (match D.lookup i with
    | some u => .ok u st
    | none => .ok w st)
  | _ => .stuck 133
theorem ed_kGetD {D : List (Int × PV)} {x : Str} {da : DenA} {e f : Expr} {p apos cpos : Pos} (T : KDc g x D) (B : BmE (.Name x p) "get" [e, f] cpos apos) (hg : l.sc.names.lookup x = some .globalImplicit) (hdb : (x == ("__debug__" : Str)) = false) (ha : AD g l da [e, f])
    (hs : ∀ env, starEach [e, f] env = (false, eval e env) :: starEach [f] env) (hpl : ∀ env, (backTo cpos (starEach [f] env)).any (·.1) = false) : ED g l (dKGetD D da) (.Call (.Attribute (.Name x p) "get" apos) [e, f] [] cpos) := fun X W J tk => by
  obtain ⟨dd, es, n, e1, e2, e3⟩ := T.ex
  have e2' : KInt X.K dd es n := by rw [J.k]; exact e2
  refine PE.imp (pe_bmx PySem.F.plainAttrs_dict PySem.F.slot_dict_get PySem.F.type_dict_get (mt_get_ki e2') (isTy_kint e2') (pe_glob (v := .ref dd) (gl_of J hg) (by rw [J.m]; exact e1) rfl hdb) (ha X W J tk) (B.base _) (B.few _) B.line (hs _) (hpl _)) fun σ H Q ⟨ρ, st, κ, L, h⟩ => ?_
  refine ⟨rfl, ρ, st, κ, L, (Run.bind (R' := RX g) (R := RXs g) h).mono fun ys H1 ⟨vs, st1, κ1, x1, r1, h1⟩ => ?_⟩
  split at h1
  · rename_i i w
    obtain ⟨y1, y2, rfl, q1, q2⟩ := rxs2 r1
    cases (show y1 = .int i from q1)
    refine ⟨i, y2, rfl, rfl, ?_⟩
    rcases kdRel_ok i e3 with ⟨z1, z2⟩ | ⟨u, v, z1, z2, z3⟩
    · rw [z2] at h1; rw [z1]; exact Run.ret x1.sr h1 q2
    · rw [z2] at h1; rw [z1]
      obtain ⟨z, t1, t2⟩ := valB_ok z3
      exact ⟨z, t1, Run.ret x1.sr h1 (RepX.ofV (t2 _))⟩
  · exact h1.elim
end
end Wi

/-! Wi30: divmod, chains, tuple.index, tuple(range(..)), isinstance with a class of the text, == by an own __eq__. -/
namespace L2
open PySem PySem.Spec PyProof.Rows
/-- divmod(..), its tuple laid with its object -/
theorem call_divmodX {X : Cx} : CallR X (.builtin "divmod") (fun xs H Q => ∃ i j, xs = [.int i, .int j] ∧ CDiv i j ∧ ∀ p ob, ob.dict = none → H p = none → Q (.ref p) (upd H p (.frz ob (.tup [.int (i / j), .int (i % j)])))) := by
  intro pins s σ H xs us Q I r h
  obtain ⟨i, j, rfl, ⟨h1, h2⟩, q⟩ := h
  obtain ⟨u, w', rfl, ⟨t, rfl⟩, ⟨t', rfl⟩⟩ := vals2 r
  refine divmod_int (by omega) ?_ (.inl (PyProof.noPylong_small (by omega)))
  rw [Int.fdiv_eq_ediv_of_nonneg i (by omega), Int.fmod_eq_emod_of_nonneg i (by omega)]
  exact ⟨.ref s.heap.objs.size, _, I.layT (xs := [.int (i / j), .int (i % j)]) (us := [.int (i / j) s.toks, .int (i % j) (s.toks + 1)]) (.cons ⟨_, rfl⟩ (.cons ⟨_, rfl⟩ .nil)) (by show 2 ≤ sizeLine; decide), rfl, q _ _ rfl (I.hok.fresh (Nat.le_refl _))⟩
end L2
namespace Wi
open PySem L2
section
variable {g : Gm} {l : Lc}
def cDivmod : List PV → Store → Res PV := fun vs st => match vs with
  | [.int i, .int j] => if decide (0 < j) && decide (j < 1073741824) then .ok (.tup [.int (i / j), .int (i % j)]) st else .stuck 140
  | _ => .stuck 141
theorem fn_divmod (tb : TbOk g) : Fn g (fun xs H Q => ∃ i j, xs = [.int i, .int j] ∧ CDiv i j ∧ ∀ p ob, ob.dict = none → H p = none → Q (.ref p) (upd H p (.frz ob (.tup [.int (i / j), .int (i % j)])))) cDivmod := fun vs st κ H xs W σ Q s r h => by
  unfold cDivmod at h
  split at h
  · rename_i i j
    obtain ⟨y1, y2, rfl, q1, q2⟩ := rxs2 r
    cases (show y1 = .int i from q1)
    cases (show y2 = .int j from q2)
    split at h
    · rename_i c
      rw [Bool.and_eq_true, decide_eq_true_eq, decide_eq_true_eq] at c
      exact ⟨i, j, rfl, c, fun p ob hd hp => h _ _ _ (StR.upd_new tb s hp) (rep_tup_new tb s hd hp ⟨_, _, rfl, rfl, _, _, rfl, rfl, rfl⟩)⟩
    · exact h.elim
  · exact h.elim
theorem boot_divmod' : bootBuiltins "divmod" = some (.builtin "divmod") := by decide +kernel
theorem c_divmod {da : DenA} {a b : Expr} {p pos : Pos} (B : Bl g) (h : glB l "divmod" = true) (ha : AD g l da [a, b]) (hs : ∀ env, starEach [a, b] env = (false, eval a env) :: starEach [b] env) (hpl : ∀ env, (backTo pos (starEach [b] env)).any (·.1) = false) : ED g l (dFn cDivmod da) (.Call (.Name "divmod" p) [a, b] [] pos) :=
  ed_callB (fun _ _ => call_divmodX) (fn_divmod B.tb) (B.b h (by decide +kernel) boot_divmod') ha (by decide) (by decide) hs hpl
/-! ### a < b < c -/
def dChain (f f' : PV → PV → Store → Res PV) (da db dc : Den) : Den := fun ρ st => (da ρ st).bind fun v st => (db ρ st).bind fun w st => (f v w st).bind fun z st => match z with
  | .bl true => (dc ρ st).bind fun u st => f' w u st
  | .bl false => .ok (.bl false) st
  | _ => .stuck 142
theorem run_chain {r r' : R2} {f f' : PV → PV → Store → Res PV} {da db dc : Den} (hf : Op2 g r f) (hf' : Op2 g r' f') {W : WX} {σ : L2.St} {H : Hp} {Q : VK} (h : tD g W (dChain f f' da db dc) σ H Q) : tChain r r' (tD g W da) (tD g W db) (tD g W dc) σ H Q := by
  obtain ⟨ρ, st, κ, L, h⟩ := h
  refine ⟨ρ, st, κ, L, (Run.bind h).mono fun x H1 ⟨v, st1, κ1, e1, r1, h1⟩ => ⟨ρ, st1, κ1, L.xt e1, (Run.bind h1).mono fun y H2 ⟨w, st2, κ2, e2, r2, h2⟩ => ?_⟩⟩
  refine hf v w st2 κ2 H2 x y W σ _ e2.sr (r1.mono e2.pre e2.same) r2 ((Run.bind h2).mono fun z H3 ⟨k, st3, κ3, e3, r3, h3⟩ => ?_)
  cases k with
  | bl b =>
    refine ⟨b, r3, ?_⟩
    cases b with
    | true =>
      rw [if_pos rfl]
      exact ⟨ρ, st3, κ3, ((L.xt e1).xt e2).xt e3, (Run.bind h3).mono fun u H4 ⟨k, st4, κ4, e4, r4, h4⟩ => hf' w k st4 κ4 H4 y u W σ Q e4.sr ((r2.mono e3.pre e3.same).mono e4.pre e4.same) r4 h4⟩
    | false =>
      rw [if_neg (by decide)]
      exact Run.ret e3.sr h3 rfl
  | non => exact h3.elim
  | int _ => exact h3.elim
  | str _ => exact h3.elim
  | tup _ => exact h3.elim
  | lst _ => exact h3.elim
  | ref _ => exact h3.elim
  | obj _ _ => exact h3.elim
theorem ed_chain {op op' : CmpOp} {r r' : R2} {f f' : PV → PV → Store → Res PV} {da db dc : Den} {a b c : Expr} {pos : Pos} (ho : ∀ X, Jx g l X → OpR X (compareOp op) r) (hf : Op2 g r f) (ho' : ∀ X, Jx g l X → OpR X (compareOp op') r') (hf' : Op2 g r' f') (ha : ED g l da a) (hb : ED g l db b) (hc : ED g l dc c)
    (hm : lastMarks [op, op'] [b, c] = false) : ED g l (dChain f f' da db dc) (.Compare a [op, op'] [b, c] pos) := fun X W J tk =>
  PE.imp (pe_chain (ho X J) (ho' X J) (ha X W J tk) (hb X W J tk) (hc X W J tk) hm) fun σ H Q h => run_chain hf hf' h
theorem td_chain {op op' : CmpOp} {r r' : R2} {f f' : PV → PV → Store → Res PV} {da db dc : Den} {a b c : Expr} {pos : Pos} (ho : ∀ X, Jx g l X → OpR X (compareOp op) r) (hf : Op2 g r f) (ho' : ∀ X, Jx g l X → OpR X (compareOp op') r') (hf' : Op2 g r' f') (ha : ED g l da a) (hb : ED g l db b) (hc : ED g l dc c)
    (hm : lastMarks [op, op'] [b, c] = false) : TD g l (dB (dChain f f' da db dc)) (.Compare a [op, op'] [b, c] pos) := fun X W J tk =>
  PT.imp (pt_chain (ho X J) (ho' X J) (ha X W J tk) (hb X W J tk) (hc X W J tk) hm) fun σ H Q h => run_chain hf hf' (runB h)
/-! ### t.index(i), a tuple of whole numbers -/
def intsP : List PV → Option (List Int)
  | [] => some []
  | .int i :: xs => (intsP xs).map (i :: ·)
  | _ => none
theorem intsP_eq : ∀ {xs : List PV} {ns : List Int}, intsP xs = some ns → xs = ns.map PV.int
  | [], _, h => by cases h; rfl
  | x :: xs, ns, h => by
    cases x <;> first | (cases h; done) | skip
    rename_i i
    unfold intsP at h
    cases e : intsP xs with
    | none => rw [e] at h; cases h
    | some ms =>
      rw [e] at h
      cases h
      rw [intsP_eq e, List.map_cons]
theorem rep_ints2 {F : Hp} : ∀ {ns : List Int} {vs : List V}, RepVs g.K g.T F (ns.map PV.int) vs → vs = ns.map V.int
  | [], _, h => h
  | n :: ns, _, ⟨y, r, q, h, t⟩ => by
    subst q
    cases (show y = .int n from h)
    rw [rep_ints2 t, List.map_cons]
def findI (z : Int) : List Int → Nat → Option Nat
  | [], _ => none
  | n :: ns, k => if n == z then some k else findI z ns (k + 1)
theorem findI_ok {z : Int} : ∀ {ns : List Int} {k j : Nat}, findI z ns k = some j → ∃ m, j = k + m ∧ ns[m]? = some z ∧ ∀ i, i < m → ns[i]? ≠ some z
  | [], _, _, h => by cases h
  | n :: ns, k, j, h => by
    unfold findI at h
    split at h
    · rename_i e
      cases h
      exact ⟨0, rfl, by rw [eq_of_beq e]; rfl, fun i hi => absurd hi (Nat.not_lt_zero _)⟩
    · rename_i e
      obtain ⟨m, h1, h2, h3⟩ := findI_ok h
      refine ⟨m + 1, by omega, by simpa using h2, fun i hi => ?_⟩
      cases i with
      | zero => simpa using e
      | succ i => simpa using h3 i (by omega)
def dTIdx (dO d : Den) : Den := fun ρ st => (dO ρ st).bind fun o st => match o with
  | .tup xs => (d ρ st).bind fun v st => (match v, intsP xs with
    | .int z, some ns => (match findI z ns 0 with
      | some j => .ok (.int (j : Nat)) st
      | none => .stuck 143)
    | _, _ => .stuck 144)
  | _ => .stuck 145
theorem ed_tIdx {o e : Expr} {apos cpos : Pos} {dO d : Den} (B : BmE o "index" [e] cpos apos) (ho : ED g l dO o) (he : ED g l d e) (hs : ∀ env, starEach [e] env = (false, eval e env) :: starEach [] env) : ED g l (dTIdx dO d) (.Call (.Attribute o "index" apos) [e] [] cpos) := fun X W J tk =>
  PE.imp (pe_bmx PySem.F.plainAttrs_tuple PySem.F.slot_tuple_index PySem.F.type_tuple_index mt_tup_indexI isTy_tup (ho X W J tk) (pa_cons (he X W J tk) pa_nil (hs _)) (B.base _) (B.few _) B.line (hs _) rfl) fun σ H Q ⟨ρ, st, κ, L, h⟩ => ⟨ρ, st, κ, L, (Run.bind h).mono fun x H1 ⟨o', st1, κ1, e1, r1, h1⟩ => by
    cases o' with
    | tup xs =>
      dsimp only at h1
      obtain ⟨a, vs, rfl, q1, q2⟩ := id r1
      refine ⟨⟨a, vs, rfl, by rw [J.k]; exact q1.mono fun b o e => fz_some e⟩, ρ, st1, κ1, L.xt e1, (Run.bind h1).mono fun y H2 ⟨v, st2, κ2, e2, r2, h2⟩ => ?_⟩
      split at h2
      · rename_i z ns e
        split at h2
        · rename_i j ej
          obtain ⟨m, hm, h3, h4⟩ := findI_ok ej
          cases (show y = .int z from r2)
          have : j = m := by omega
          subst this
          have xe := intsP_eq e
          subst xe
          obtain ⟨a', vs', ea, p1, p2⟩ := r1.mono e2.pre e2.same
          cases ea
          have ve := rep_ints2 p2
          subst ve
          exact ⟨a, ns, z, j, rfl, rfl, by rw [J.k]; exact TupR.of_fz p1, h3, h4, Run.ret e2.sr h2 rfl⟩
        · exact h2.elim
      · exact h2.elim
    | non => exact h1.elim
    | bl _ => exact h1.elim
    | int _ => exact h1.elim
    | str _ => exact h1.elim
    | lst _ => exact h1.elim
    | ref _ => exact h1.elim
    | obj _ _ => exact h1.elim⟩
/-! ### tuple(range(n)) -/
def dTupRg (d : Den) : Den := fun ρ st => (d ρ st).bind fun v st => match v with
  | .int j => if decide (0 ≤ j) && decide (j ≤ 16777216) then .ok (.tup (rgP 0 j.toNat)) st else .stuck 146
  | _ => .stuck 147
theorem rep_rg {F : Hp} (n : Nat) : RepVs g.K g.T F (rgP 0 n) (rgV 0 (n : Nat)) := by
  unfold rgP rgV
  have : ((n : Int) - 0).toNat = n := by omega
  rw [this]
  generalize List.range n = L
  induction L with
  | nil => rfl
  | cons a L ih => exact ⟨_, _, rfl, rfl, ih⟩
theorem ed_tupRg {a : Expr} {d : Den} {p p2 pos pos2 : Pos} (B : Bl g) (h1 : glB l "tuple" = true) (h2 : glB l "range" = true) (ha : ED g l d a) (hs : ∀ env, starEach [a] env = (false, eval a env) :: starEach [] env)
    (hs2 : ∀ env, starEach [.Call (.Name "range" p2) [a] [] pos2] env = (false, eval (.Call (.Name "range" p2) [a] [] pos2) env) :: starEach [] env) : ED g l (dTupRg d) (.Call (.Name "tuple" p) [.Call (.Name "range" p2) [a] [] pos2] [] pos) := fun X W J tk => by
  have b1 := B.b (v := .type "tuple") h1 (by decide +kernel) (by decide +kernel)
  have b2 := B.b (v := .type "range") h2 (by decide +kernel) boot_range'
  refine PE.imp (pe_tupRgX J.calm (gl_of J b1.gl) (by rw [J.m]; exact b1.mg) (prg_1 (gl_of J b2.gl) (by rw [J.m]; exact b2.mg) (ha X W J tk) (hs _)) (hs2 _)) fun σ H Q ⟨ρ, st, κ, L, h⟩ => ⟨ρ, st, κ, L, (Run.bind h).mono fun x H1 ⟨v, st1, κ1, e1, r1, h1⟩ => ?_⟩
  cases v with
  | int j =>
    dsimp only at h1
    split at h1
    · rename_i c
      rw [Bool.and_eq_true, decide_eq_true_eq, decide_eq_true_eq] at c
      obtain ⟨n, rfl⟩ : ∃ n : Nat, j = n := ⟨j.toNat, by omega⟩
      refine ⟨n, r1, RgOk.of_le (by decide) (by omega) (by decide) (by omega), fun q ob hd hq => h1 _ _ _ (StR.upd_new B.tb e1.sr hq) (rep_tup_new B.tb e1.sr hd hq ?_)⟩
      exact rep_rg n
    · exact h1.elim
  | non => exact h1.elim
  | bl _ => exact h1.elim
  | str _ => exact h1.elim
  | tup _ => exact h1.elim
  | lst _ => exact h1.elim
  | ref _ => exact h1.elim
  | obj _ _ => exact h1.elim
end
end Wi

/-! Wi31: isinstance with a class of the text, == by an own __eq__. -/
namespace Wi
open PySem L2
section
variable {g : Gm} {l : Lc}
def six : List String := ["NoneType", "bool", "int", "str", "tuple", "list"]
theorem tyP_six {v : PV} {st : Store} {t : String} (h : tyP v st = some t) : t ∈ six := by
  unfold tyP at h
  split at h <;> first | (cases h; done) | (cases h; decide) | skip
  split at h <;> first | (cases h; done) | (cases h; decide)
/-- what isinstance and == ask of the class of an object -/
structure InsT (g : Gm) (c : Nat) : Prop where
  cl : Cls g.K (g.T.ca c)
  ha : PySem.W.findIn g.K (.ref (g.T.ca c)) "__class__" = some (some (.builtin "object.__class__"))
  hn : PySem.W.specialIn g.K (.builtin "object.__class__") "__get__" = some (some (.builtin "getset_descriptor.__get__"))
  ht : PySem.W.takesIn g.K (.builtin "object.__class__") = some true
  hm : PySem.W.mroIn g.K (g.T.ca c) (.type "object") = some true
theorem tyx_obj {c : Nat} {xs : List PV} {L : List Addr} {H : Hp} {x : V} (T : InsT g c) (r : RepV g.K g.T (fz L H) (.obj c xs) x) : TyX g.K H x (.ref (g.T.ca c)) := by
  obtain ⟨a, dx, vs, h1, h2, h3, h4⟩ := r
  subst h1
  exact .base (.ins (fz_some h2) T.cl T.ha T.hn T.ht T.hm)
structure KitO (g : Gm) (x : Str) (c : Nat) (ts : List (Nat × Bool)) : Prop where
  gC : g.mg x = some (.ref (g.T.ca c))
  ty : ∀ t ∈ six, PySem.W.kitOne g.K (.type t) (.ref (g.T.ca c)) = some false
  own : ∀ c' b, ts.lookup c' = some b → PySem.W.kitOne g.K (.ref (g.T.ca c')) (.ref (g.T.ca c)) = some b ∧ InsT g c'
def dIsC (ts : List (Nat × Bool)) (d : Den) : Den := fun ρ st => (d ρ st).bind fun v st => match v with
  | .obj c' _ => (match ts.lookup c' with
    | some b => .ok (.bl b) st
    | none => .stuck 150)
  | v => (match tyP v st with
    | some _ => .ok (.bl false) st
    | none => .stuck 151)
theorem ed_isC {e : Expr} {d : Den} {c : Nat} {ts : List (Nat × Bool)} {t : Str} {p p2 pos : Pos} (b : Blt g l "isinstance" (.builtin "isinstance")) (T : KitO g t c ts) (hg : l.sc.names.lookup t = some .globalImplicit) (he : ED g l d e) (hdb : (t == ("__debug__" : Str)) = false)
    (hs : ∀ env, starEach [e, .Name t p2] env = (false, eval e env) :: starEach [.Name t p2] env) (hs2 : ∀ env, starEach [.Name t p2] env = (false, eval (.Name t p2) env) :: starEach [] env) (hpl : ∀ env, (backTo pos (starEach [.Name t p2] env)).any (·.1) = false) : ED g l (dIsC ts d) (.Call (.Name "isinstance" p) [e, .Name t p2] [] pos) := fun X W J tk =>
  PE.imp (pe_callB call_isi (gl_of J b.gl) (by rw [J.m]; exact b.mg) b.bt (pa_cons (he X W J tk) (pa_cons (pe_glob (v := .ref (g.T.ca c)) (gl_of J hg) (by rw [J.m]; exact T.gC) rfl hdb) pa_nil (hs2 _)) (hs _)) (by decide) (by decide) (hs _) (hpl _)) fun σ H Q ⟨ρ, st, κ, L, h⟩ => ⟨ρ, st, κ, L, (Run.bind h).mono fun x H1 ⟨v, st1, κ1, e1, r1, h1⟩ => by
    have low : ∀ t', tyP v st1 = some t' → Run g (RX g) W (.ok (.bl false) st1) st1 κ1 σ H1 Q → rIsi X.K [x, .ref (g.T.ca c)] H1 Q := fun t' q h2 => by
      refine ⟨x, .ref (g.T.ca c), .type t', .ref (g.T.ca c), false, rfl, .own _, ?_, ?_, Run.ret e1.sr h2 rfl⟩
      · rw [J.k]; exact tyP_ok e1.sr r1 q
      · rw [J.k]; exact T.ty t' (tyP_six q)
    have go : ∀ t', tyP v st1 = t' → Run g (RX g) W (match t' with | some _ => .ok (.bl false) st1 | none => .stuck 151) st1 κ1 σ H1 Q → rIsi X.K [x, .ref (g.T.ca c)] H1 Q := fun t' q h2 => by
      cases t' with
      | none => exact h2.elim
      | some t' => exact low t' q h2
    cases v with
    | obj c' xs =>
      dsimp only at h1
      split at h1
      · rename_i bb q
        obtain ⟨o1, o2⟩ := T.own c' bb q
        refine ⟨x, .ref (g.T.ca c), .ref (g.T.ca c'), .ref (g.T.ca c), bb, rfl, .own _, ?_, ?_, Run.ret e1.sr h1 rfl⟩
        · rw [J.k]; exact tyx_obj o2 r1
        · rw [J.k]; exact o1
      · exact h1.elim
    | non => exact go _ rfl h1
    | bl _ => exact go _ rfl h1
    | int _ => exact go _ rfl h1
    | str _ => exact go _ rfl h1
    | tup _ => exact go _ rfl h1
    | lst _ => exact go _ rfl h1
    | ref _ => exact go _ rfl h1⟩
theorem c_isC {e : Expr} {d : Den} {c : Nat} {ts : List (Nat × Bool)} {t : Str} {p p2 pos : Pos} (B : Bl g) (h : glB l "isinstance" = true) (T : KitO g t c ts) (hg : l.sc.names.lookup t = some .globalImplicit) (he : ED g l d e) (hdb : (t == ("__debug__" : Str)) = false)
    (hs : ∀ env, starEach [e, .Name t p2] env = (false, eval e env) :: starEach [.Name t p2] env) : ED g l (dIsC ts d) (.Call (.Name "isinstance" p) [e, .Name t p2] [] pos) :=
  ed_isC (B.b h (by decide +kernel) boot_isinstance') T hg he hdb hs (fun _ => rfl) (fun _ => rfl)
/-! ### == by an own __eq__ -/
structure EqO (g : Gm) (n c : Nat) (f : FnS) (os : List Nat) : Prop where
  ex : ∃ (fa : Addr) (fd : FuncData) (ps : List Str), ps.length = 2 ∧ PySem.W.findIn g.K (.ref (g.T.ca c)) "__eq__" = some (some (.ref fa)) ∧ PySem.W.isFn g.K (.ref fa) = true ∧ Binds g.K fd ps [] ∧ FnOk g.P g.w g.K g.mg g.base (L2.CX g.P g.w) n fa fd ps (spM g 2 f)
  ty : ∀ t ∈ six, PySem.W.notFirst g.K (g.T.ca c) (.type t) = true
  own : ∀ c' ∈ os, PySem.W.notFirst g.K (g.T.ca c) (.ref (g.T.ca c')) = true ∧ InsT g c'
def okR (os : List Nat) (w : PV) (st : Store) : Bool := match w with
  | .obj c' _ => os.contains c'
  | w => (tyP w st).isSome
def onlyBl (r : Res PV) : Res PV := match r with
  | .ok (.bl b) st => .ok (.bl b) st
  | _ => .stuck 152
def oEqO (c : Nat) (f : FnS) (os : List Nat) : PV → PV → Store → Res PV := fun v w st => match v with
  | .obj c' xs => if c' == c && okR os w st then onlyBl (f [.obj c' xs, w] st) else .stuck 153
  | _ => .stuck 154
def rEqO (g : Gm) (c : Nat) (f : FnS) : R2 := fun x y H Q => ∃ a dx fs t, x = .ref a ∧ H a = some (.ins (g.T.ca c) dx fs) ∧ TyX g.K H y t ∧ PySem.W.notFirst g.K (g.T.ca c) t = true ∧ spM g 2 f [x, y] H (fun z H' => ∃ b, z = .bl b ∧ Q (.bl b) H') (fun _ _ _ => False)
theorem okR_ty {n c : Nat} {f : FnS} {os : List Nat} (T : EqO g n c f os) {w : PV} {st : Store} {κ : List Addr} {H : Hp} {y : V} (s : StR g.K g.T g.Tb st κ H) (r : RepX g.K g.T κ (Fz st κ H) w y) (h : okR os w st = true) : ∃ t, TyX g.K H y t ∧ PySem.W.notFirst g.K (g.T.ca c) t = true := by
  have low : ∀ q, tyP w st = q → q.isSome = true → ∃ t, TyX g.K H y t ∧ PySem.W.notFirst g.K (g.T.ca c) t = true := fun q e h => by
    cases q with
    | none => cases h
    | some t => exact ⟨.type t, tyP_ok s r e, T.ty t (tyP_six e)⟩
  cases w with
  | obj c' xs =>
    have hm : c' ∈ os := List.contains_iff_mem.mp h
    obtain ⟨h1, h2⟩ := T.own c' hm
    exact ⟨_, tyx_obj h2 r, h1⟩
  | non => exact low _ rfl h
  | bl _ => exact low _ rfl h
  | int _ => exact low _ rfl h
  | str _ => exact low _ rfl h
  | tup _ => exact low _ rfl h
  | lst _ => exact low _ rfl h
  | ref _ => exact low _ rfl h
theorem op2_eqO {n c : Nat} {f : FnS} {os : List Nat} (T : EqO g n c f os) : Op2 g (rEqO g c f) (oEqO c f os) := fun v w st κ H x y W σ Q s r1 r2 h => by
  unfold oEqO at h
  split at h
  · rename_i c' xs
    split at h
    · rename_i z
      rw [Bool.and_eq_true] at z
      obtain rfl := eq_of_beq z.1
      obtain ⟨t, t1, t2⟩ := okR_ty T s r2 z.2
      obtain ⟨a, dx, vs, q1, q2, q3, q4⟩ := id r1
      refine ⟨a, dx, _, t, q1, fz_some q2, t1, t2, rfl, [.obj c' xs, w], st, κ, s, ⟨x, _, rfl, r1, y, _, rfl, r2, rfl⟩, ?_⟩
      cases e : f [.obj c' xs, w] st with
      | ok u st' =>
        rw [e] at h
        cases u with
        | bl b => exact fun κ' H' x e r => ⟨b, r, h κ' H' (.bl b) e rfl⟩
        | non => exact h.elim
        | int _ => exact h.elim
        | str _ => exact h.elim
        | tup _ => exact h.elim
        | lst _ => exact h.elim
        | ref _ => exact h.elim
        | obj _ _ => exact h.elim
      | exc _ _ _ => rw [e] at h; exact h.elim
      | stuck _ => rw [e] at h; exact h.elim
    · exact h.elim
  · exact h.elim
theorem ho_eqO {n c : Nat} {f : FnS} {os : List Nat} (T : EqO g n c f os) (hn : n ≤ l.n) : ∀ X, Jx g l X → OpR X (compareOp .Eq) (rEqO g c f) := fun X J => by
  obtain ⟨fa, fd, ps, hps, h1, h2, hb, F⟩ := T.ex
  have F' : FnOk X.prog X.w X.K X.mg X.base (L2.CX X.prog X.w) n fa fd ps (spM g 2 f) := by rw [J.p, J.w, J.k, J.m, J.b]; exact F
  intro pins s σ H x y v u Q I rx ry hq
  obtain ⟨a, dx, fs, t, rfl, ha, ty, nf, hsp⟩ := hq
  obtain rfl : v = Value.ref a := rx
  show wpAny (model X.prog X.w) X.A (richCompare .Eq (.ref a) u) (EP X pins σ Q) X.xe s
  obtain ⟨mA, Jo, _⟩ := ins_get I.hok ha
  obtain ⟨od, Jo, _⟩ := Jo.look
  obtain ⟨m, hF⟩ := I.fr
  have ty' : TyX X.K H y t := by rw [J.k]; exact ty
  obtain ⟨P, Z, p, _⟩ := kit_of I ry ty'
  refine PySem.W.cmp_K (op := .Eq) (tb := t) J.room.units0 hF I.ok.mod.kin Jo (Z.ty _ _ I.kIn p) (by rw [J.k]; exact nf) (by rw [J.k]; exact h1) (by rw [J.k]; exact h2) ?_
  refine wpAny_mono (run_fn (us := [.ref a, u]) (vs := [.ref a, y]) (dvs := []) (ds := []) (E := fun _ _ _ => False) F' (J.room.mono hn) (by rw [J.k]; exact hb) .nil passL I (.cons rfl (.cons ry .nil)) hsp) (fun w s' hw => ?_) fun _ _ x => x
  obtain ⟨z, H', I', rz, b, ez, q⟩ := hw
  subst ez
  cases rz
  exact ⟨.bl b, H', I', rfl, q⟩
end
end Wi

/-! Wi32: except suites. -/
namespace Wi
open PySem L2
section
variable {g : Gm} {l : Lc}
/-! ### suites that don't look at the exception -/
theorem su_ret {e : Expr} {v : PV} {x : V} {pos : Pos} (h : ∀ X : Cx, PE X e (tC x)) (r : ∀ F, RepV g.K g.T F v x) : SuN g l (sRet (dC v)) [.Return (some e) pos] := fun X a oe pn J =>
  PSs.imp (pss_one (ps_ret (h _))) fun D σ H ⟨ρ, st, κ, L, q⟩ => q κ H x (Ext.refl L.sr) (RepX.ofV (r _))
theorem su_bl {b : Bool} {j pos pos'} : SuN g l (sRet (dC (.bl b))) [.Return (some (.Constant (.bool b) j pos)) pos'] := su_ret (fun _ => pe_bl) fun _ => rfl
theorem su_str {s : Str} {j pos pos'} : SuN g l (sRet (dC (.str s))) [.Return (some (.Constant (.str s) j pos)) pos'] := su_ret (fun _ => pe_str) fun _ => rfl
/-! ### expressions that look at it -/
def tX (g : Gm) (i c : Nat) (a : Addr) (d : Option Addr) (v : List PV → Option PV) : TE := fun σ H Q => ∃ lv ρ st κ, Lies g ρ st κ σ H ∧ σ[i]? = some (some (.ref a)) ∧ ExcR g (Fz st κ H) H c lv d ∧ ∃ u, v lv = some u ∧ ∀ y, RepV g.K g.T (Fz st κ H) u y → Q y H
def XD (g : Gm) (l : Lc) (i c : Nat) (v : List PV → Option PV) (e : Expr) : Prop := ∀ (X : Cx) (a : Addr) (oe : Obj) (d : Option Addr) (pn : List (Addr × Obj)), Jx g l X → Zc (.ref (g.T.ca c)) d oe → (∃ vs, oe.data = .fields vs) → PE (X.suite a ((a, oe) :: pn)) e (tX g i c a d v)
/-- .. where new things may be laid beside -/
def tY (g : Gm) (i c : Nat) (a : Addr) (d : Option Addr) (v : List PV → Option PV) : TE := fun σ H Q => ∃ lv ρ st κ, Lies g ρ st κ σ H ∧ σ[i]? = some (some (.ref a)) ∧ ExcR g (Fz st κ H) H c lv d ∧ ∃ u, v lv = some u ∧ ∀ H' y, Xt g st κ H st κ H' → RepV g.K g.T (Fz st κ H') u y → Q y H'
def YD (g : Gm) (l : Lc) (i c : Nat) (v : List PV → Option PV) (e : Expr) : Prop := ∀ (X : Cx) (a : Addr) (oe : Obj) (d : Option Addr) (pn : List (Addr × Obj)), Jx g l X → Zc (.ref (g.T.ca c)) d oe → (∃ vs, oe.data = .fields vs) → PE (X.suite a ((a, oe) :: pn)) e (tY g i c a d v)
theorem XD.y {i c : Nat} {v : List PV → Option PV} {e : Expr} (h : XD g l i c v e) : YD g l i c v e := fun X a oe d pn J hz hf =>
  PE.imp (h X a oe d pn J hz hf) fun σ H Q ⟨lv, ρ, st, κ, L, hi, er, u, e, q⟩ => ⟨lv, ρ, st, κ, L, hi, er, u, e, fun y r => q H y (Ext.refl L.sr) r⟩
def sRetX (v : List PV → Option PV) (lv : List PV) : DenS := fun _ st => match v lv with
  | some u => .rt u st
  | none => .stuck 160
theorem su_retX {i c : Nat} {v : List PV → Option PV} {e : Expr} {pos : Pos} (h : YD g l i c v e) : SuD g l i c (sRetX v) [.Return (some e) pos] := fun X a oe d pn J hz hf =>
  PSs.imp (pss_one (ps_ret (h X a oe d pn J hz hf))) fun D σ H ⟨lv, ρ, st, κ, L, hi, er, q⟩ => by
    unfold sRetX at q
    cases e : v lv with
    | none => rw [e] at q; exact q.elim
    | some u =>
      rw [e] at q
      exact ⟨lv, ρ, st, κ, L, hi, er, u, e, fun H' y xt r => q κ H' y xt (RepX.ofV r)⟩
/-- e.f -/
def xFld : List PV → Option PV := fun lv => match lv with
  | [v] => some v
  | _ => none
theorem xd_fld {i c : Nat} {n x f : Str} {p pos : Pos} (T : ExB g c x f) (hi : l.N[i]? = some n) (hv : visB l.sc n = true) (h1 : (n == ("__debug__" : Str)) = false) (h2 : (n == ("__classdict__" : Str)) = false) (hb : ∀ env, attributeBase (.Name n p) f env (eval (.Name n p) env) = eval (.Name n p) env) : XD g l i c xFld (.Attribute (.Name n p) f pos) := fun X a oe d pn J hz hf =>
  PE.imp (pe_xf (C := g.T.ca c) (by rw [J.k]; exact T.xf) (by rw [J.k]; exact T.noF) hz hf (pe_var (i := i) (show X.N[i]? = some n by rw [J.N]; exact hi) (show Vis X.env.scope n by rw [J.sc]; exact vis_of hv) h1 h2) (hb _)) fun σ H Q ⟨lv, ρ, st, κ, L, hs, er, u, e, q⟩ => by
    unfold ExcR at er
    rw [T.lay] at er
    obtain ⟨dd, vs, e1, e2, e3⟩ := er
    unfold xFld at e
    split at e
    · cases e
      obtain ⟨y, r, rfl, ry, hr⟩ := e3
      cases (show r = [] from hr)
      exact ⟨_, hs, rfl, rfl, dd, [(f, y)], y, e1, e2, by simp [List.lookup_cons], q y ry⟩
    · cases e
/-- e == 'm' -/
def xEqS (m : Str) (v : List PV → Option PV) : List PV → Option PV := fun lv => match v lv with
  | some (.str s) => some (.bl (decide (s = m)))
  | _ => none
theorem xd_eqS {i c : Nat} {m : Str} {v : List PV → Option PV} {e : Expr} {j : Nat} {p pos : Pos} {kk} (h : XD g l i c v e) (hm : behindInMarks .Eq (.Constant (.str m) kk p) = false) : XD g l i c (xEqS m v) (.Compare e [.Eq] [.Constant (.str m) kk p] pos) := fun X a oe d pn J hz hf =>
  PE.imp (pe_cmpR op_eq (h X a oe d pn J hz hf) pe_str hm) fun σ H Q ⟨lv, ρ, st, κ, L, hs, er, u, e, q⟩ => by
    unfold xEqS at e
    split at e
    · rename_i s es
      cases e
      refine ⟨lv, ρ, st, κ, L, hs, er, .str s, es, fun y ry => ?_⟩
      cases (show y = .str s from ry)
      refine ⟨rfl, ?_⟩
      have : decide (V.str s = V.str m) = decide (s = m) := by by_cases z : s = m <;> simp [z]
      rw [this]
      exact q _ rfl
    · cases e
/-- a and b -/
def xAnd (v w : List PV → Option PV) : List PV → Option PV := fun lv => match v lv with
  | some (.bl true) => w lv
  | some (.bl false) => some (.bl false)
  | _ => none
theorem xd_one {i c : Nat} {v : List PV → Option PV} {e : Expr} {op : BoolOp} {pos : Pos} (h : YD g l i c v e) : YD g l i c v (.BoolOp op [e] pos) := fun X a oe d pn J hz hf => pe_one (h X a oe d pn J hz hf)
theorem xd_and {i c : Nat} {v w : List PV → Option PV} {a b : Expr} {r : List Expr} {pos : Pos} (ha : XD g l i c v a) (hb : YD g l i c w (.BoolOp .And (b :: r) pos)) : YD g l i c (xAnd v w) (.BoolOp .And (a :: b :: r) pos) := fun X ad oe d pn J hz hf =>
  PE.imp (pe_and (ha X ad oe d pn J hz hf) (hb X ad oe d pn J hz hf)) fun σ H Q ⟨lv, ρ, st, κ, L, hs, er, u, e, q⟩ => by
    unfold xAnd at e
    split at e
    · rename_i ev
      exact ⟨lv, ρ, st, κ, L, hs, er, .bl true, ev, fun y ry => ⟨true, ry, lv, ρ, st, κ, L, hs, er, u, e, q⟩⟩
    · rename_i ev
      cases e
      exact ⟨lv, ρ, st, κ, L, hs, er, .bl false, ev, fun y ry => ⟨false, ry, q _ _ (Ext.refl L.sr) rfl⟩⟩
    · cases e
def xNot (v : List PV → Option PV) : List PV → Option PV := fun lv => match v lv with
  | some (.bl b) => some (.bl (!b))
  | _ => none
theorem xd_not {i c : Nat} {v : List PV → Option PV} {a : Expr} {pos : Pos} (ha : YD g l i c v a) : YD g l i c (xNot v) (.UnaryOp .Not a pos) := fun X ad oe d pn J hz hf =>
  PE.imp (pe_not (ha X ad oe d pn J hz hf)) fun σ H Q ⟨lv, ρ, st, κ, L, hs, er, u, e, q⟩ => by
    unfold xNot at e
    split at e
    · rename_i b ev
      cases e
      exact ⟨lv, ρ, st, κ, L, hs, er, .bl b, ev, fun H' y xt ry => ⟨b, ry, q _ _ xt rfl⟩⟩
    · cases e
/-! ### isinstance(e, C) -/
structure ExI (g : Gm) (c : Nat) : Prop where
  cl : (PySem.W.clsIn g.K (g.T.ca c)).isSome = true
  ga : PySem.W.findIn g.K (.ref (g.T.ca c)) "__getattribute__" = some (some (.builtin "BaseException.__getattribute__"))
  gt : PySem.W.findIn g.K (.ref (g.T.ca c)) "__getattr__" = some none
  sb : PySem.W.subIn g.K (.ref (g.T.ca c)) (.type "BaseException") = some true
  ha : PySem.W.findIn g.K (.ref (g.T.ca c)) "__class__" = some (some (.builtin "object.__class__"))
  hn : PySem.W.specialIn g.K (.builtin "object.__class__") "__get__" = some (some (.builtin "getset_descriptor.__get__"))
  ht : PySem.W.takesIn g.K (.builtin "object.__class__") = some true
  hm : PySem.W.mroIn g.K (g.T.ca c) (.type "object") = some true
/-- where the exception's own dict stands -/
def ExcD (H : Hp) (d : Option Addr) : Prop := match d with
  | none => True
  | some dd => ∃ fs, H dd = some (.xd fs)
theorem excD_of {F H : Hp} {c : Nat} {lv : List PV} {d : Option Addr} (er : ExcR g F H c lv d) : ExcD H d := by
  unfold ExcR at er
  split at er
  · subst er; trivial
  · obtain ⟨dx, vs, rfl, h, _⟩ := er
    exact ⟨_, h⟩
theorem exc_at {X : Cx} {c : Nat} {a : Addr} {oe : Obj} {d : Option Addr} {pins : List (Addr × Obj)} {σ : L2.St} {H : Hp} {s : Shared} (I : Inv X pins σ H s) (hp : s.heap.get? a = some oe) (hz : Zc (.ref (g.T.ca c)) d oe) (hf : ∃ vs, oe.data = .fields vs) (hd : ExcD H d) : ∃ od, PySem.W.InstAt s.heap a oe (g.T.ca c) od := by
  obtain ⟨vs, hv⟩ := hf
  have nc : PySem.W.notCls oe := by unfold PySem.W.notCls; rw [hv] <;> rfl
  cases d with
  | none => exact ⟨none, hp, hz.1, nc, by rw [hz.2]; trivial⟩
  | some dd =>
    obtain ⟨fs, hx⟩ := hd
    obtain ⟨mA, hns, _⟩ := (show ObjOk X.prog X.w H s.heap dd (.xd fs) from I.hok dd _ hx)
    obtain ⟨od, ho, _⟩ := lookIn_ns hns
    exact ⟨some od, hp, hz.1, nc, by rw [hz.2]; exact ho⟩
theorem call_isX {X : Cx} {a : Addr} {c : Nat} {oe : Obj} {d : Option Addr} {pn : List (Addr × Obj)} (hk : X.K = g.K) (T : ExI g c) (hz : Zc (.ref (g.T.ca c)) d oe) (hf : ∃ vs, oe.data = .fields vs) : CallR (X.suite a ((a, oe) :: pn)) (.builtin "isinstance") (fun xs H Q => ∃ (cv : V) (u : Value) (b : Bool), xs = [.ref a, cv] ∧ ClsV cv u ∧ ExcD H d ∧ PySem.W.kitOne g.K (.ref (g.T.ca c)) u = some b ∧ Q (.bl b) H) := by
  intro pins s σ H xs us Q I r h
  obtain ⟨cv, u, b, rfl, k, hd, e, q⟩ := h
  obtain ⟨u1, u2, rfl, r1, r2⟩ := vals2 r
  cases r1
  obtain rfl := k.eq r2
  obtain ⟨hp, _⟩ := I.pin (a, oe) (List.mem_append_left _ List.mem_cons_self)
  obtain ⟨od, J⟩ := exc_at I hp hz hf hd
  have kin : g.K.In s.heap := by rw [← hk]; exact I.kIn
  exact PySem.W.kia_one (PySem.W.kitx_exc (od := od) (ox := oe) (x := a) T.cl T.ga T.gt T.sb T.ha T.hn T.ht T.hm) kin J e (fun z => nomatch z) fun tk => ⟨.bl b, H, I.tok tk, rfl, q⟩
theorem call_isXT {X : Cx} {a : Addr} {c : Nat} {oe : Obj} {d : Option Addr} {pn : List (Addr × Obj)} (hk : X.K = g.K) (T : ExI g c) (hz : Zc (.ref (g.T.ca c)) d oe) (hf : ∃ vs, oe.data = .fields vs) : CallR (X.suite a ((a, oe) :: pn)) (.builtin "isinstance") (fun xs H Q => ∃ (tp : Addr) (cs : List V) (us : List Value) (b : Bool), xs = [.ref a, .ref tp] ∧ H tp = some (.tup cs) ∧ Paired ClsV cs us ∧ ExcD H d ∧ PySem.W.kitAny g.K (.ref (g.T.ca c)) us = some b ∧ Q (.bl b) H) := by
  intro pins s σ H xs us Q I r h
  obtain ⟨tp, cs, ws, b, rfl, hT, k, hd, e, q⟩ := h
  obtain ⟨u1, u2, rfl, r1, r2⟩ := vals2 r
  cases r1
  cases (show u2 = Value.ref tp from r2)
  obtain ⟨hp, _⟩ := I.pin (a, oe) (List.mem_append_left _ List.mem_cons_self)
  obtain ⟨od, J⟩ := exc_at I hp hz hf hd
  have kin : g.K.In s.heap := by rw [← hk]; exact I.kIn
  obtain ⟨_, its, rv, ⟨oc, odd, dt, sl⟩, h1, h2, n, h3⟩ := (show ObjOk X.prog X.w H s.heap tp (.tup cs) from I.hok tp _ hT)
  obtain rfl := ClsV.all k rv
  simp only at h2 h3
  subst h2 h3
  exact PySem.W.kia_tup (PySem.W.kitx_exc (od := od) (ox := oe) (x := a) T.cl T.ga T.gt T.sb T.ha T.hn T.ht T.hm) kin J h1 e (fun z => nomatch z) fun tk => ⟨.bl b, H, I.tok tk, rfl, q⟩
def xBl (b : Bool) : List PV → Option PV := fun _ => some (.bl b)
/-- isinstance(e, C), C a class of the text -/
theorem xd_isC {i c : Nat} {n x : Str} {C : Addr} {b : Bool} {p p2 p3 pos : Pos} (bt : Blt g l "isinstance" (.builtin "isinstance")) (T : ExI g c) (gC : g.mg x = some (.ref C)) (hk : PySem.W.kitOne g.K (.ref (g.T.ca c)) (.ref C) = some b) (hg : l.sc.names.lookup x = some .globalImplicit) (hdb : (x == ("__debug__" : Str)) = false)
    (hi : l.N[i]? = some n) (hv : visB l.sc n = true) (h1 : (n == ("__debug__" : Str)) = false) (h2 : (n == ("__classdict__" : Str)) = false)
    (hs : ∀ env, starEach [.Name n p2, .Name x p3] env = (false, eval (.Name n p2) env) :: starEach [.Name x p3] env) (hs2 : ∀ env, starEach [.Name x p3] env = (false, eval (.Name x p3) env) :: starEach [] env) (hpl : ∀ env, (backTo pos (starEach [.Name x p3] env)).any (·.1) = false) :
    XD g l i c (xBl b) (.Call (.Name "isinstance" p) [.Name n p2, .Name x p3] [] pos) := fun X a oe d pn J hz hf =>
  PE.imp (pe_callB (call_isX J.k T hz hf) (gl_of J bt.gl) (show X.mg _ = none by rw [J.m]; exact bt.mg) bt.bt (pa_cons (pe_var (i := i) (show X.N[i]? = some n by rw [J.N]; exact hi) (show Vis X.env.scope n by rw [J.sc]; exact vis_of hv) h1 h2) (pa_cons (pe_glob (v := .ref C) (gl_of J hg) (show X.mg x = _ by rw [J.m]; exact gC) rfl hdb) pa_nil (hs2 _)) (hs _)) (by decide) (by decide) (hs _) (hpl _))
    fun σ H Q ⟨lv, ρ, st, κ, L, hi', er, u, e, q⟩ => by
    cases e
    exact ⟨_, hi', .ref C, .ref C, b, rfl, .own C, excD_of er, hk, q _ rfl⟩
/-- isinstance(e, ValueError) -/
theorem xd_isB {i c : Nat} {n x : Str} {Ty : String} {b : Bool} {p p2 p3 pos : Pos} (bt : Blt g l "isinstance" (.builtin "isinstance")) (T : ExI g c) (gC : g.mg x = none) (hbx : bootBuiltins x = some (.type Ty)) (hnx : x ≠ "__name__") (hk : PySem.W.kitOne g.K (.ref (g.T.ca c)) (.type Ty) = some b) (hg : l.sc.names.lookup x = some .globalImplicit) (hdb : (x == ("__debug__" : Str)) = false)
    (hi : l.N[i]? = some n) (hv : visB l.sc n = true) (h1 : (n == ("__debug__" : Str)) = false) (h2 : (n == ("__classdict__" : Str)) = false)
    (hs : ∀ env, starEach [.Name n p2, .Name x p3] env = (false, eval (.Name n p2) env) :: starEach [.Name x p3] env) (hs2 : ∀ env, starEach [.Name x p3] env = (false, eval (.Name x p3) env) :: starEach [] env) (hpl : ∀ env, (backTo pos (starEach [.Name x p3] env)).any (·.1) = false) :
    XD g l i c (xBl b) (.Call (.Name "isinstance" p) [.Name n p2, .Name x p3] [] pos) := fun X a oe d pn J hz hf =>
  PE.imp (pe_callB (call_isX J.k T hz hf) (gl_of J bt.gl) (show X.mg _ = none by rw [J.m]; exact bt.mg) bt.bt (pa_cons (pe_var (i := i) (show X.N[i]? = some n by rw [J.N]; exact hi) (show Vis X.env.scope n by rw [J.sc]; exact vis_of hv) h1 h2) (pa_cons (pe_bltn (v := .ty Ty) (gl_of J hg) (show X.mg x = _ by rw [J.m]; exact gC) hbx rfl hnx hdb) pa_nil (hs2 _)) (hs _)) (by decide) (by decide) (hs _) (hpl _))
    fun σ H Q ⟨lv, ρ, st, κ, L, hi', er, u, e, q⟩ => by
    cases e
    exact ⟨_, hi', .ty Ty, .type Ty, b, rfl, .ty Ty, excD_of er, hk, q _ rfl⟩
/-- isinstance(e, (C, D)) -/
theorem xd_isT (tb : TbOk g) {i c : Nat} {n x y : Str} {C D : Addr} {b : Bool} {p p2 p3 p4 p5 pos : Pos} {x1} (bt : Blt g l "isinstance" (.builtin "isinstance")) (T : ExI g c) (gC : g.mg x = some (.ref C)) (gD : g.mg y = some (.ref D)) (hk : PySem.W.kitAny g.K (.ref (g.T.ca c)) [.ref C, .ref D] = some b) (hg : l.sc.names.lookup x = some .globalImplicit) (hdb : (x == ("__debug__" : Str)) = false) (hg' : l.sc.names.lookup y = some .globalImplicit) (hdb' : (y == ("__debug__" : Str)) = false)
    (hi : l.N[i]? = some n) (hv : visB l.sc n = true) (h1 : (n == ("__debug__" : Str)) = false) (h2 : (n == ("__classdict__" : Str)) = false)
    (hs : ∀ env, starEach [.Name n p2, .Tuple [.Name x p3, .Name y p4] x1 p5] env = (false, eval (.Name n p2) env) :: starEach [.Tuple [.Name x p3, .Name y p4] x1 p5] env) (hs2 : ∀ env, starEach [.Tuple [.Name x p3, .Name y p4] x1 p5] env = (false, eval (.Tuple [.Name x p3, .Name y p4] x1 p5) env) :: starEach [] env)
    (hs3 : ∀ env, starEach [.Name x p3, .Name y p4] env = (false, eval (.Name x p3) env) :: starEach [.Name y p4] env) (hs4 : ∀ env, starEach [.Name y p4] env = (false, eval (.Name y p4) env) :: starEach [] env) (hpl : ∀ env, (backTo pos (starEach [.Tuple [.Name x p3, .Name y p4] x1 p5] env)).any (·.1) = false) :
    YD g l i c (xBl b) (.Call (.Name "isinstance" p) [.Name n p2, .Tuple [.Name x p3, .Name y p4] x1 p5] [] pos) := fun X a oe d pn J hz hf => by
  refine PE.imp (pe_callB (call_isXT J.k T hz hf) (gl_of J bt.gl) (show X.mg _ = none by rw [J.m]; exact bt.mg) bt.bt (pa_cons (pe_var (i := i) (show X.N[i]? = some n by rw [J.N]; exact hi) (show Vis X.env.scope n by rw [J.sc]; exact vis_of hv) h1 h2)
    (pa_cons (pe_tup (pa_cons (pe_glob (v := .ref C) (gl_of J hg) (show X.mg x = _ by rw [J.m]; exact gC) rfl hdb) (pa_cons (pe_glob (v := .ref D) (gl_of J hg') (show X.mg y = _ by rw [J.m]; exact gD) rfl hdb') pa_nil (hs4 _)) (hs3 _))) pa_nil (hs2 _)) (hs _)) (by decide) (by decide) (hs _) (hpl _)) fun σ H Q ⟨lv, ρ, st, κ, L, hi', er, u, e, q⟩ => ?_
  cases e
  refine ⟨_, hi', (show 2 ≤ sizeLine from by decide), fun tp htp => ?_⟩
  have xt := StR.upd_new tb (o := .tup [.ref C, .ref D]) L.sr htp
  refine ⟨tp, [.ref C, .ref D], [.ref C, .ref D], b, rfl, upd_same, .cons (.own C) (.cons (.own D) .nil), ?_, hk, q _ _ xt rfl⟩
  have hd := excD_of er
  unfold ExcD at hd ⊢
  cases d with
  | none => trivial
  | some dd =>
    obtain ⟨fs, h⟩ := hd
    exact ⟨fs, by rw [upd_ne (ne_of_none h htp)]; exact h⟩
end
end Wi

/-! Wi33: from the text's top to the law, with classes and tables. -/
namespace Wi
open PySem L2
def inS (s : Stmt) (j : Nat) : Stmt := match s with
  | .ClassDef _ _ _ b _ _ _ _ _ _ _ => b.getD j (.Pass ⟨0, 0, 0, 0⟩)
  | _ => .Pass ⟨0, 0, 0, 0⟩
/-- a method of the text stands in the written part -/
def Dm (K : PySem.W.Frag) (C : Addr) (m qual : Str) (st : Stmt) : Prop :=
  ∃ (f : Addr) (oc : Value) (od : Option Addr) (kV doc pm : Value) (an : Option Addr) (cd ct : Value) (sl : Array (Option Value)), PySem.W.findIn K (.ref C) m = some (some (.ref f)) ∧
    K.lookup f = some ⟨oc, od, .func (PySem.W.fnOf m qual (defArgs st) (defBody st) (defScope st) .none kV doc pm an cd ct), sl⟩ ∧ PySem.W.codeIn K cd qual = true ∧ PySem.W.keepIn K (.ref f) = true ∧ PySem.W.isFn K (.ref f) = true
theorem dm_mk {K : PySem.W.Frag} {C : Addr} {m qual : Str} {st : Stmt} {f : Addr} {oc : Value} {od : Option Addr} {kV doc pm : Value} {an : Option Addr} {cd ct : Value} {sl : Array (Option Value)} (h1 : PySem.W.findIn K (.ref C) m = some (some (.ref f)))
    (h2 : K.lookup f = some ⟨oc, od, .func (PySem.W.fnOf m qual (defArgs st) (defBody st) (defScope st) .none kV doc pm an cd ct), sl⟩) (h3 : PySem.W.codeIn K cd qual = true) (h4 : PySem.W.keepIn K (.ref f) = true) (h5 : PySem.W.isFn K (.ref f) = true) : Dm K C m qual st := ⟨f, oc, od, kV, doc, pm, an, cd, ct, sl, h1, h2, h3, h4, h5⟩
/-- the code of the def at f has a table -/
def tabB (K : PySem.W.Frag) (f : Addr) : Bool := match K.lookup f with
  | some ⟨_, _, .func fd, _⟩ => !(tabOf K fd.code).isEmpty
  | _ => false
def gAt (K : PySem.W.Frag) (x : Str) : Addr := match PySem.W.nsIn K mainGlobals x with
  | some (some (.ref f)) => f
  | _ => 0
def mAt (K : PySem.W.Frag) (C : Addr) (x : Str) : Addr := match PySem.W.findIn K (.ref C) x with
  | some (some (.ref f)) => f
  | _ => 0
theorem tabB_of {K : PySem.W.Frag} {f : Addr} {oc : Value} {od : Option Addr} {fd : FuncData} {sl : Array (Option Value)} (h : K.lookup f = some ⟨oc, od, .func fd, sl⟩) (t : tabB K f = true) : (tabOf K fd.code).isEmpty = false := by
  unfold tabB at t
  rw [h] at t
  simpa using t
def BindM (x qual : Str) (st : Stmt) (ps : List Str) : Prop := ∀ (kV doc pm : Value) (an : Option Addr) (cdv ct : Value) (us : List Value), us.length = ps.length → bindArgs (PySem.W.fnOf x qual (defArgs st) (defBody st) (defScope st) .none kV doc pm an cdv ct) ⟨us, []⟩ = pure (ps.zip us)
section
variable {g : Gm} {D : Nat}
/-- a def, its table D deep -/
theorem df_ofT {h : Heap} (KX : g.K.In h) (G : h.Ns mainGlobals g.mg) (Gd : 0 < D → ∃ D', D ≤ D' ∧ Gt g D') {x : Str} {st : Stmt} {N ps : List Str} {k : Nat} {b : DenS} (d : Dd g.K x st) (ht : 0 < D → tabB g.K (gAt g.K x) = true) (S : FnScope N ps (defScope st)) (bi : BindM x x st ps)
    (sd : SsD g { N := N, sc := defScope st, n := k, tab := D } b (defBody st)) : Df g (k + 1) x ps.length (mkFn N.length b) := by
  obtain ⟨f, oc, od, kV, doc, pm, an, cd, ct, sl, h1, h2, h3, h4⟩ := d
  have e : gAt g.K x = f := by unfold gAt; rw [h1]
  refine ⟨f, _, ps, rfl, PySem.W.mg_of KX G h1, h4, .all fun us hu => bi kV doc pm an cd ct us hu, ok_fnT Gd h2 h3 S (fun z => ?_) sd⟩
  have := ht z
  rw [e] at this
  exact tabB_of h2 this
/-- a method -/
theorem mf_of (Gd : 0 < D → ∃ D', D ≤ D' ∧ Gt g D') {c : Nat} {fs : List Str} {m qual : Str} {st : Stmt} {N ps : List Str} {k : Nat} {b : DenS} (C : ClsAt g c fs) (hm : m ∉ fs) (d : Dm g.K (g.T.ca c) m qual st) (ht : 0 < D → tabB g.K (mAt g.K (g.T.ca c) m) = true) (S : FnScope N ps (defScope st)) (bi : BindM m qual st ps)
    (sd : SsD g { N := N, sc := defScope st, n := k, tab := D } b (defBody st)) : Mf g (k + 1) c m ps.length (mkFn N.length b) := by
  obtain ⟨f, oc, od, kV, doc, pm, an, cd, ct, sl, h1, h2, h3, h4, h5⟩ := d
  have e : mAt g.K (g.T.ca c) m = f := by unfold mAt; rw [h1]
  refine ⟨⟨f, _, ps, rfl, ⟨h1, h5, h4⟩, .all fun us hu => bi kV doc pm an cd ct us hu, ok_fnT Gd h2 h3 S (fun z => ?_) sd⟩, by rw [C.lay]; exact hm⟩
  have := ht z
  rw [e] at this
  exact tabB_of h2 this
/-- the class by its __init__ -/
theorem mc_of (Gd : 0 < D → ∃ D', D ≤ D' ∧ Gt g D') {c : Nat} {x qual : Str} {st : Stmt} {N ps : List Str} {k : Nat} {b : DenS} (gC : g.mg x = some (.ref (g.T.ca c))) (mk : PySem.W.makesIn g.K (g.T.ca c) = true) (kp : PySem.W.keepIn g.K (.ref (g.T.ca c)) = true) (d : Dm g.K (g.T.ca c) "__init__" qual st) (ht : 0 < D → tabB g.K (mAt g.K (g.T.ca c) "__init__") = true) (S : FnScope N ps (defScope st)) (bi : BindM "__init__" qual st ps)
    (sd : SsD g { N := N, sc := defScope st, n := k, tab := D } b (defBody st)) : Mc g (k + 1) c x ps.length (mkFn N.length b) := by
  obtain ⟨f, oc, od, kV, doc, pm, an, cd, ct, sl, h1, h2, h3, h4, h5⟩ := d
  have e : mAt g.K (g.T.ca c) "__init__" = f := by unfold mAt; rw [h1]
  refine ⟨f, _, ps, rfl, gC, ⟨mk, h1, h5, kp⟩, .all fun us hu => bi kV doc pm an cd ct us hu, ok_fnT Gd h2 h3 S (fun z => ?_) sd⟩
  have := ht z
  rw [e] at this
  exact tabB_of h2 this
/-- its == -/
theorem eq_of (Gd : 0 < D → ∃ D', D ≤ D' ∧ Gt g D') {c : Nat} {os : List Nat} {qual : Str} {st : Stmt} {N ps : List Str} {k : Nat} {b : DenS} (h2' : ps.length = 2) (d : Dm g.K (g.T.ca c) "__eq__" qual st) (ht : 0 < D → tabB g.K (mAt g.K (g.T.ca c) "__eq__") = true) (S : FnScope N ps (defScope st)) (bi : BindM "__eq__" qual st ps)
    (sd : SsD g { N := N, sc := defScope st, n := k, tab := D } b (defBody st)) (ty : ∀ t ∈ six, PySem.W.notFirst g.K (g.T.ca c) (.type t) = true) (own : ∀ c' ∈ os, PySem.W.notFirst g.K (g.T.ca c) (.ref (g.T.ca c')) = true ∧ InsT g c') : EqO g (k + 1) c (mkFn N.length b) os := by
  obtain ⟨f, oc, od, kV, doc, pm, an, cd, ct, sl, h1, h2, h3, h4, h5⟩ := d
  have e : mAt g.K (g.T.ca c) "__eq__" = f := by unfold mAt; rw [h1]
  refine ⟨⟨f, _, ps, h2', h1, h5, .all fun us hu => bi kV doc pm an cd ct us hu, h2' ▸ ok_fnT Gd h2 h3 S (fun z => ?_) sd⟩, ty, own⟩
  have := ht z
  rw [e] at this
  exact tabB_of h2 this
end
/-! ### what is asked of the written part, as tests -/
def exaB (K : PySem.W.Frag) (C : Addr) : Bool := PySem.W.excIn K C [.type "ValueError", .type "Exception", .type "BaseException", .type "object"] "ValueError.__new__" && PySem.W.keepIn K (.ref C) && decide (PySem.W.subIn K (.ref C) (.type "BaseException") = some true) && decide (PySem.W.typeIn K (.ref C) = some (.type "type"))
theorem exA_of {g : Gm} {c : Nat} {x : Str} (gC : g.mg x = some (.ref (g.T.ca c))) (lay : g.T.lay c = []) (h : exaB g.K (g.T.ca c) = true) : ExA g c x := by
  unfold exaB at h
  simp only [Bool.and_eq_true, decide_eq_true_eq] at h
  obtain ⟨⟨⟨h1, h2⟩, h3⟩, h4⟩ := h
  exact ⟨gC, h1, h2, h3, h4, lay⟩
def exiB (K : PySem.W.Frag) (C : Addr) : Bool := (PySem.W.clsIn K C).isSome && decide (PySem.W.findIn K (.ref C) "__getattribute__" = some (some (.builtin "BaseException.__getattribute__"))) && decide (PySem.W.findIn K (.ref C) "__getattr__" = some none) &&
  decide (PySem.W.subIn K (.ref C) (.type "BaseException") = some true) && decide (PySem.W.findIn K (.ref C) "__class__" = some (some (.builtin "object.__class__"))) && decide (PySem.W.specialIn K (.builtin "object.__class__") "__get__" = some (some (.builtin "getset_descriptor.__get__"))) &&
  decide (PySem.W.takesIn K (.builtin "object.__class__") = some true) && decide (PySem.W.mroIn K C (.type "object") = some true)
theorem exI_of {g : Gm} {c : Nat} (h : exiB g.K (g.T.ca c) = true) : ExI g c := by
  unfold exiB at h
  simp only [Bool.and_eq_true, decide_eq_true_eq] at h
  obtain ⟨⟨⟨⟨⟨⟨⟨h1, h2⟩, h3⟩, h4⟩, h5⟩, h6⟩, h7⟩, h8⟩ := h
  exact ⟨h1, h2, h3, h4, h5, h6, h7, h8⟩
def exbB (K : PySem.W.Frag) (C : Addr) (f : Str) : Bool := decide (PySem.W.findIn K (.ref C) "__setattr__" = some (some (.builtin "object.__setattr__"))) && decide (PySem.W.subIn K (.ref C) (.type "BaseException") = some true) && decide (PySem.W.typeIn K (.ref C) = some (.type "type")) && PySem.W.keepIn K (.ref C) &&
  decide (PySem.W.findIn K (.ref C) "__getattribute__" = some (some (.builtin "BaseException.__getattribute__"))) && decide (PySem.W.findIn K (.ref C) "__getattr__" = some none) && PySem.W.hasDictIn K C && decide (PySem.W.findIn K (.ref C) f = some none) && decide (PySem.W.typeIn K (.ref (mAt K C "__init__")) = some (.type "function"))
/-- an exception class's own object -/
def ExcO (K : PySem.W.Frag) (C : Addr) : Prop := ∃ nm q N bs bm sn sub ab col dd k0 k1 k2 k3 k5, K.lookup C = some (excClassObj nm q C N bs bm true sn sub ab col dd k0 k1 k2 k3 k5 "ValueError.__new__") ∧ PySem.HandSPX.refsVE bm = true
theorem exB_of {g : Gm} {c : Nat} {x f s n : Str} {qual : Str} {st : Stmt} {p1 p2 p3 p4 : Pos} (gC : g.mg x = some (.ref (g.T.ca c))) (lay : g.T.lay c = [f]) (o : ExcO g.K (g.T.ca c)) (h : exbB g.K (g.T.ca c) f = true) (d : Dm g.K (g.T.ca c) "__init__" qual st) (S : FnScope [s, n] [s, n] (defScope st)) (bi : BindM "__init__" qual st [s, n])
    (hb : defBody st = [.Assign [.Attribute (.Name s p1) f p2] (.Name n p3) p4]) (v1 : visB (defScope st) s = true) (v2 : visB (defScope st) n = true) (d1 : (s == ("__debug__" : Str)) = false) (d2 : (n == ("__debug__" : Str)) = false) (e1 : (s == ("__classdict__" : Str)) = false) (e2 : (n == ("__classdict__" : Str)) = false)
    (hs : ∀ env, swapsWith (.Name n p3) (some (.Attribute (.Name s p1) f p2)) p4.line env = pure false) : ExB g c x f := by
  unfold exbB at h
  simp only [Bool.and_eq_true, decide_eq_true_eq] at h
  obtain ⟨⟨⟨⟨⟨⟨⟨⟨h1, h2⟩, h3⟩, h4⟩, h5⟩, h6⟩, h7⟩, h8⟩, h9⟩ := h
  have O : OexC g.K (g.T.ca c) := ⟨o, h1, h2, h3, h4⟩
  obtain ⟨fa, oc, od, kV, doc, pm, an, cd, ct, sl, q1, q2, q3, q4, q5⟩ := d
  have e : mAt g.K (g.T.ca c) "__init__" = fa := by unfold mAt; rw [q1]
  rw [e] at h9
  exact ⟨gC, O, ⟨h5, h6, h2, h7⟩, lay, h8, fa, _, [s, n], q1, h9, rfl, .all fun us hu => bi kV doc pm an cd ct us hu, oex_init q2 q3 S hb v1 v2 d1 d2 e1 e2 hs O h8⟩
def clsB (K : PySem.W.Frag) (C : Addr) (fs : List Str) : Bool := PySem.W.plainGet K C Str.empty && PySem.W.hasDictIn K C && PySem.W.plainOver K C && decide (PySem.W.findIn K (.ref C) "__setattr__" = some (some (.builtin "object.__setattr__"))) && fs.all (fun f => decide (PySem.W.findIn K (.ref C) f = some none)) &&
  decide (PySem.W.findIn K (.ref C) "__class__" = some (some (.builtin "object.__class__"))) && decide (PySem.W.specialIn K (.builtin "object.__class__") "__get__" = some (some (.builtin "getset_descriptor.__get__"))) && decide (PySem.W.takesIn K (.builtin "object.__class__") = some true) && decide (PySem.W.mroIn K C (.type "object") = some true) &&
  PySem.W.makesIn K C && PySem.W.keepIn K (.ref C) && six.all (fun t => decide (PySem.W.kitOne K (.type t) (.ref C) = some false)) && six.all (fun t => PySem.W.notFirst K C (.type t))
structure ClsX (K : PySem.W.Frag) (C : Addr) (fs : List Str) : Prop where
  cls : Cls K C
  no : ∀ f ∈ fs, NoAttr K C f
  ha : PySem.W.findIn K (.ref C) "__class__" = some (some (.builtin "object.__class__"))
  hn : PySem.W.specialIn K (.builtin "object.__class__") "__get__" = some (some (.builtin "getset_descriptor.__get__"))
  ht : PySem.W.takesIn K (.builtin "object.__class__") = some true
  hm : PySem.W.mroIn K C (.type "object") = some true
  mkC : PySem.W.makesIn K C = true
  kp : PySem.W.keepIn K (.ref C) = true
  six : ∀ t ∈ six, PySem.W.kitOne K (.type t) (.ref C) = some false
  nf : ∀ t ∈ Wi.six, PySem.W.notFirst K C (.type t) = true
theorem clsX_of {K : PySem.W.Frag} {C : Addr} {fs : List Str} (h : clsB K C fs = true) : ClsX K C fs := by
  unfold clsB at h
  simp only [Bool.and_eq_true, decide_eq_true_eq, List.all_eq_true] at h
  obtain ⟨⟨⟨⟨⟨⟨⟨⟨⟨⟨⟨⟨h1, h2⟩, h3⟩, h4⟩, h5⟩, h6⟩, h7⟩, h8⟩, h9⟩, h10⟩, h11⟩, h12⟩, h13⟩ := h
  exact ⟨⟨h1, h2, h3, h4⟩, h5, h6, h7, h8, h9, h10, h11, h12, h13⟩
theorem clsAt_of {g : Gm} {c : Nat} {fs : List Str} (X : ClsX g.K (g.T.ca c) fs) (lay : g.T.lay c = fs) (nd : fs.Nodup) : ClsAt g c fs := ⟨X.cls, lay, nd, X.no⟩
theorem insT_of {g : Gm} {c : Nat} {fs : List Str} (X : ClsX g.K (g.T.ca c) fs) : InsT g c := ⟨X.cls, X.ha, X.hn, X.ht, X.hm⟩
def kdB (K : PySem.W.Frag) (d : Addr) (D : List (Int × PV)) : Bool := match K.lookup d with
  | some ⟨.type "dict", none, .dict es _, sl⟩ => kdKeys es.toList && !(d == sysModules) && kdRel K es.toList D && sl.toList.isEmpty
  | _ => false
theorem kdc_of {g : Gm} {x : Str} {d : Addr} {D : List (Int × PV)} (gD : g.mg x = some (.ref d)) (h : kdB g.K d D = true) : KDc g x D := by
  unfold kdB at h
  split at h
  · rename_i es n sl e
    simp only [Bool.and_eq_true, Bool.not_eq_true'] at h
    obtain ⟨sl⟩ := sl
    have : sl = [] := List.isEmpty_iff.mp h.2
    subst this
    exact ⟨d, es, n, gD, ⟨e, h.1.1.1, h.1.1.2⟩, h.1.2⟩
  · cases h
/-! ### the law's own end -/
def spLawT (K : PySem.W.Frag) : Sp := fun vs H Q _ => ∃ (a : Addr) (ns : List Int), vs = [.ref a] ∧ SqL K H a (ns.map V.int) ∧ ns.length ≤ 63 ∧ (∀ p ∈ csOf K, H p.2 = some (.tbl #[])) ∧ ∀ H', Q (.bl true) H'
theorem law_endT {P : Program} {w : World} {K : PySem.W.Frag} {mg : Str → Option Value} {h : Heap} {fa : Addr} {T : CT} {D D' : Nat} {st : Stmt} {N : List Str} {k : Nat} {b : DenS} (KX : K.In h) (G : h.Ns mainGlobals mg) (hm : mg "law" = some (.ref fa)) (d : Dd K "law" st) (hD : D' ≤ D) (ht : 0 < D' → tabB K (gAt K "law") = true)
    (S : FnScope N ["script"] (defScope st)) (bi : BindM "law" "law" st ["script"]) (sd : ∀ base : Heap, K.In base → base.Ns mainGlobals mg → Gt ⟨P, w, K, mg, base, T, tbOf K D⟩ D → SsD ⟨P, w, K, mg, base, T, tbOf K D⟩ { N := N, sc := defScope st, n := k, tab := D' } b (defBody st))
    (hf : ∀ ns : List Int, ns.length ≤ 63 → ∃ s', mkFn N.length b [.lst (ns.map PV.int)] [] = .ok (.bl true) s') :
    ∃ fd : FuncData, (∀ (s : Shared) (u : Value), BindsTo s fd ⟨[u], []⟩ [("script", u)]) ∧ ∀ base : Heap, K.In base → base.Ns mainGlobals mg → (∀ p ∈ csOf K, LamX.TabB base mg p.1 p.2) → FnOk P w K mg base (L2.CX P w) (k + 1) fa fd ["script"] (spLawT K) := by
  obtain ⟨f, oc, od, kV, doc, pm, an, cd, ct, sl, h1, h2, h3, h4⟩ := d
  have e := PySem.W.mg_of KX G h1
  rw [hm] at e
  cases e
  refine ⟨_, fun s u => .of_eq (bi kV doc pm an cd ct [u] rfl), fun base kb nb TB => ?_⟩
  have Gg : Gt ⟨P, w, K, mg, base, T, tbOf K D⟩ D := ⟨rfl, TB⟩
  refine (ok_fnT (g := ⟨P, w, K, mg, base, T, tbOf K D⟩) (D := D') (fun _ => ⟨D, hD, Gg⟩) h2 h3 S (fun z => ?_) (sd base kb nb Gg)).imp fun vs H Q E ⟨a, ns, e, hS, hl, hT, k⟩ => ?_
  · have q := ht z
    have e : gAt K "law" = fa := by unfold gAt; rw [h1]
    rw [e] at q
    exact tabB_of h2 q
  · subst e
    obtain ⟨st, e⟩ := hf ns hl
    refine ⟨rfl, [.lst (ns.map PV.int)], [], [], ⟨rfl, List.nodup_nil, (fun _ z => by cases z), tbOf_start hT⟩, ⟨.ref a, [], rfl, ⟨a, _, rfl, SqL.to_fz hS, rep_ints ns⟩, rfl⟩, ?_⟩
    rw [e]
    intro κ' H' x xt r
    cases r
    exact k H'
/-- the law's row by its def -/
theorem walkT {l : PySem.W.OpenLaw} {n : Nat} {q : Program} {loose : List Str} {XP : (Str → Option Value) → Heap → Prop} {d : DefRec} {K : Params → PySem.W.Frag} {as ts : List Addr} {ex : ∀ P, as = (K P).map (·.1)} (hn : l.most = some 63) (hdf : d.params.defaults = []) (hr : Room n callerA) (hts : ∀ P, ∀ p ∈ csOf (K P), p.2 ∈ ts)
    (F : ∀ (w : World) (mg : Str → Option Value) (fa : Addr) (h : Heap), (K w.params).In h → h.Ns mainGlobals mg → mg d.name = some (.ref fa) →
      ∃ fd : FuncData, (∀ (s : Shared) (u : Value), BindsTo s fd ⟨[u], []⟩ [("script", u)]) ∧ ∀ base : Heap, (K w.params).In base → base.Ns mainGlobals mg → (∀ p ∈ csOf (K w.params), LamX.TabB base mg p.1 p.2) → FnOk l.prog w (K w.params) mg base (L2.CX l.prog w) n fa fd ["script"] (spLawT (K w.params))) :
    PySem.W.WalkO q loose XP (PySem.W.kmHook K as ex ts).says l.row.toRowW d [] (fun f vs => PySem.call f vs) :=
  LamX.walk_ofTs (n := 63) (k := n) (x := "script") (CX := fun w => L2.CX l.prog w) hn (by decide) hdf hr (fun w h Y => PySem.W.km_in_of Y) (fun w mg fa h Y KX G hm => by
    obtain ⟨fd, hb, hF⟩ := F w mg fa h KX G hm
    exact ⟨fd, csOf (K w.params), spLawT (K w.params), fun p hp => PySem.W.km_tabs_of Y _ (hts _ p hp), fun p hp => (csOf_ok hp).1, fun p hp => PySem.W.codeHd_of_K KX (csOf_ok hp).2, hb, fun H a ns hl _ hT hS => ⟨a, ns, rfl, hS, hl, hT, fun _ => rfl⟩, hF⟩) fun w H s e s' h => by
    obtain ⟨_, _, _, _, _, _, _, _, _, _, _, _, z⟩ := h
    exact z
theorem one_lookup {c c' : Nat} {b b' : Bool} (e : ([(c, b)] : List (Nat × Bool)).lookup c' = some b') : ∃ _ : c' = c, b' = b := by
  rw [List.lookup_cons] at e
  split at e
  · rename_i z
    cases e
    exact ⟨eq_of_beq z, rfl⟩
  · cases e
theorem exo_mk {K : PySem.W.Frag} {C : Addr} {nm : Str} {q N} {bs bm : List Value} {sn sub ab col dd k0 k1 k2 k3 k5} (h : K.lookup C = some (excClassObj nm q C N bs bm true sn sub ab col dd k0 k1 k2 k3 k5 "ValueError.__new__")) (r : PySem.HandSPX.refsVE bm = true) : ExcO K C := ⟨nm, q, N, bs, bm, sn, sub, ab, col, dd, k0, k1, k2, k3, k5, h, r⟩
theorem mem_all {cs : List (Addr × Addr)} {ts : List Addr} (h : (cs.all fun p => ts.contains p.2) = true) : ∀ p ∈ cs, p.2 ∈ ts := fun p hp => List.contains_iff_mem.mp (List.all_eq_true.mp h p hp)
end Wi

/-! Wi34: a comprehension whose element or test raises. -/
namespace Wi
open PySem L2
/-- the block's context, with what a raise in it owes -/
abbrev blkE (X : Cx) (s : Shared) (H : Hp) (scope : Scope) (ce : Env) (fp : List Addr) : Cx :=
  { X.blk s H scope ce fp with xe := notedBy (model X.prog X.w) X.A ce (CompFails (model X.prog X.w) X.A X.xe ce) }
theorem ok_xe {X : Cx} (ok : X.Ok) (E : Value → Shared → Prop) : Cx.Ok { X with xe := E } :=
  { mod := ok.mod, kind := ok.kind, glob := ok.glob, blt := ok.blt, above := ok.above, inj := ok.inj, has := ok.has, cab := ok.cab, hd := ok.hd, frames := ok.frames, stk := ok.stk, exf := ok.exf, bs := ok.bs, bsz := ok.bsz, noex := ok.noex, exfs := ok.exfs, funs := ok.funs, frf := ok.frf }
theorem inv_xe {X : Cx} {pins : List (Addr × Obj)} {σ : St} {H : Hp} {s : Shared} (I : Inv X pins σ H s) (E : Value → Shared → Prop) : Inv { X with xe := E } pins σ H s :=
  ⟨ok_xe I.ok E, I.os, I.bare, I.base, I.loc, I.cell, I.free, I.freeC, I.pin, I.hok, I.len⟩
/-- noted by a frame, the flight being some other's -/
theorem noted_other {M : Model} {A : Around} {E : Value → Shared → Prop} {s : Shared} {base : Heap} {env : Env} {outer : List Env} {e L C : Addr} {Z : Obj → Prop} {Q : Unit → Shared → Prop} (hZ : HandSPX.Steady Z)
    (hfr : A.frames = some (env :: outer)) (hf : env.frame = some L) (hCL : C ≠ L) (hh : HandSPX.HeldZ base (env :: outer) e Z C s.heap)
    (hQ : ∀ h', HandSPX.HeldZ base (env :: outer) e Z L h' → s.heap.UpToSlots h' → Q () { s with heap := h' }) : wpAny M A (noteFrame (.ref e) env) Q E s := by
  obtain ⟨stays, gone, frames, oe, vs, T, oT, ts, ge, ze, de, e1, bT, Te, gT, dT, e3⟩ := hh
  have nq : ¬ ((rawInt C == rawInt L) = true) := by
    intro z
    have z : rawInt C = rawInt L := by simpa using z
    unfold rawInt at z
    injection z with z _
    exact hCL (by exact_mod_cast z)
  have oth : ∀ b, b ≠ T → (s.heap.update T (Obj.mapFields (·.setIfInBounds 3 Value.none))).get? b = s.heap.get? b := fun b hb => Heap.get?_update_other _ _ hb.symm
  have notT : ∀ b o, s.heap.get? b = some o → (∀ vs, o.data ≠ .fields vs) → b ≠ T := by
    intro b o hb no z
    subst z
    rw [gT] at hb
    cases hb
    exact no ts dT
  unfold noteFrame
  rw [hf]
  dsimp only
  refine wpAny_bind (wpAny_field ge de e1 ?_)
  rw [if_pos (by simp : ((Value.ref T != Value.none) = true))]
  refine wpAny_bind (wpAny_field gT dT e3 ?_)
  rw [if_neg nq]
  refine wpAny_bind (wpAny_setField gT dT (Array.getElem?_eq_some_iff.mp e3).1 ?_)
  have g0 := (oth e Te.symm).trans ge
  have fr0 := frames.of_keeps fun b o hb no => ⟨o, (oth b (notT b o hb no)).trans hb, rfl⟩
  have st0 : base.StaysIn (s.heap.update T (Obj.mapFields (·.setIfInBounds 3 Value.none))) := by
    intro b o hb
    refine (oth b ?_).trans (stays b o hb)
    intro z
    rw [z, bT] at hb
    cases hb
  refine HandSPX.wpAny_entryZ hZ hfr fr0 hf g0 st0 gone de (Array.getElem?_eq_some_iff.mp e1).1 ze ?_
  intro h' n
  refine hQ h' ⟨n.1, gone, n.2.1, n.2.2.1⟩ ?_
  intro b o hb no
  exact n.2.2.2 b o ((oth b (notT b o hb no)).trans hb) no
theorem traced_but {h h' base base' : Heap} {e C : Addr} {Z : Obj → Prop} {fl : Value} {m : Str → Option Value} (hn : h.Ns C m) (hs : Heap.SameBut C h h') (hb : ∀ b, base.get? b = none → base'.get? b = none) (t : HandSPX.TracedZ h base e Z fl) : HandSPX.TracedZ h' base' e Z fl := by
  obtain ⟨oe, vs, T, oT, ts, ge, ze, de, e1, bT, Te, gT, dT, e3⟩ := t
  obtain ⟨oC, es, ep, gC, dC, _⟩ := hn
  have nC : ∀ b o ws, h.get? b = some o → o.data = .fields ws → b ≠ C := by
    intro b o ws g d z
    subst z
    rw [gC] at g
    cases g
    rw [dC] at d
    cases d
  exact ⟨oe, vs, T, oT, ts, (hs.2 e (nC e oe vs ge de)).trans ge, ze, de, e1, hb T bT, Te, (hs.2 T (nC T oT ts gT dT)).trans gT, dT, e3⟩
/-- what is raised in the block goes on in the frame -/
theorem takes_blkE {X : Cx} {W : WX} {pins : List (Addr × Obj)} {σ : St} {s3 : Shared} {H3 : Hp} {scope : Scope} {ce : Env} {fp : List Addr} (hs : X.stack = X.env :: X.outer) (hf : X.env.frame = some X.env.locals) (tk : Takes X W) (hcf : ce.frame = X.env.frame) (hcL : ce.locals = s3.heap.objs.size)
    (I3 : Inv X pins σ H3 s3) (hfp : ∀ b ∈ fp, FpOk X pins H3 b) : Takes (blkE X s3 H3 scope ce fp) (fun c d _ H => W c d σ H) := by
  rintro u s' ⟨a, B, sI, pb, σb, H, cls, d, rfl, Ib, nb, up, sky, na, os, ag, w⟩
  have hfr : X.A.frames = some (X.env :: X.outer) := by rw [I3.ok.frames, hs]
  have CL : ce.locals ≠ X.env.locals := by rw [hcL]; exact Nat.ne_of_gt I3.lt
  obtain ⟨m, hnI, _⟩ := Ib.loc
  have hnI : sI.heap.Ns ce.locals m := hnI
  have hn' := hnI.upToSlots up
  show wpAny _ X.A (noteFrame (.ref a) ce) _ _ s'
  rw [noteFrame_env _ hcf]
  have fin : ∀ h1, HandSPX.HeldZ B (X.env :: X.outer) a (Zc cls d) X.env.locals h1 → s'.heap.UpToSlots h1 → CompFails (model X.prog X.w) X.A X.xe ce (.ref a) { s' with heap := h1 } := by
    intro h1 hh up1
    have hn1 := hn'.upToSlots up1
    refine ⟨m, hn1, fun h2 m2 hn2 sb => ?_⟩
    obtain ⟨B', p1, p2⟩ := restrict B fun b => decide (b ≠ ce.locals)
    obtain ⟨G, r1, r2⟩ := restrict sI.heap fun b => decide (b ≠ ce.locals)
    have pN : ∀ b, B.get? b = none → B'.get? b = none := by
      intro b hb
      by_cases q : b = ce.locals
      · exact p2 b (by simp [q])
      · rw [p1 b (by simp [q]), hb]
    have pS : ∀ b o, B'.get? b = some o → b ≠ ce.locals ∧ B.get? b = some o := by
      intro b o hb
      by_cases q : b = ce.locals
      · rw [p2 b (by simp [q])] at hb; cases hb
      · exact ⟨q, (p1 b (by simp [q])).symm.trans hb⟩
    have rS : ∀ b o, G.get? b = some o → b ≠ ce.locals ∧ sI.heap.get? b = some o := by
      intro b o hb
      by_cases q : b = ce.locals
      · rw [r2 b (by simp [q])] at hb; cases hb
      · exact ⟨q, (r1 b (by simp [q])).symm.trans hb⟩
    have hh2 : HandSPX.HeldZ B' (X.env :: X.outer) a (Zc cls d) X.env.locals h2 := by
      refine ⟨?_, pN a hh.2.1, ?_, traced_but hn1 sb pN hh.2.2.2⟩
      · intro b o hb
        obtain ⟨q, hb⟩ := pS b o hb
        exact (sb.2 b q).trans (hh.1 b o hb)
      · have f := Heap.FunFrames.sameBut sb hn2 hh.2.2.1
        exact funFrames_none f fun L hL => pN L (f.mem hL).1
    unfold passOn
    obtain ⟨oe, vs, T, oT, ts, ge, ze, de, e1, r⟩ := hh2.2.2.2
    refine wpAny_bind (wpAny_field ge de e1 ?_)
    rw [if_neg (by simp : ¬ ((Value.ref T == Value.none) = true)), hcf, hf]
    refine wpAny_bind (HandSPX.setFlight_onZ hh2 fun h3 hh3 up3 => wpAny_throw (tk _ _ ?_))
    have nC : H ce.locals = none := Ib.free
    have I1 : Inv X pins σ H sI := I3.call' (ch := fp) Ib.os Ib.base Ib.hok Ib.bare fun b hb => ⟨(hfp b hb).2.2.2.1, (hfp b hb).2.1, (hfp b hb).2.2.2.2.1, (hfp b hb).2.2.2.2.2⟩
    obtain ⟨f0, f1, f2, f3, f4, f5⟩ := I3.fpOk (H' := H) (b := ce.locals) (by rw [hcL]; exact Nat.le_refl _) nC
    refine ⟨a, B', { sI with heap := G, toks := sI.toks }, pins, σ, H, cls, d, rfl, I1.turned (it := ce.locals) (fun b o q g => (r1 b (by simp [q])).trans g) f0 f1 f3 f4 f5, ?_, ?_, ?_, na, os, ag, w⟩
    · intro b o g nf
      obtain ⟨q, g⟩ := rS b o g
      exact (p1 b (by simp [q])).trans (nb b o g nf)
    · intro b o g no
      obtain ⟨q, g⟩ := rS b o g
      obtain ⟨s1, g1⟩ := up b o g no
      obtain ⟨s2, g2⟩ := up1 b _ g1 no
      have g3 := (sb.2 b q).trans g2
      obtain ⟨s4, g4⟩ := up3 b { o with slots := s2 } g3 no
      exact ⟨s4, g4⟩
    · rw [hs]
      exact .inr (.inr hh3)
  have sky : Sky B (X.env :: X.outer) a (Zc cls d) ce.locals s'.heap := hs ▸ sky
  rcases sky with ⟨hB, hno, hl, oe, vs, he, hz, hd, h1⟩ | fl | hd
  · exact HandSPX.look_newZ Zc.steady hfr hl hf he hB hno hd h1 hz fin
  · exact HandSPX.looks_onZ Zc.steady hfr hf fl fin
  · exact noted_other Zc.steady hfr hf CL hd fin
/-- [elt for tg in iter if ..], what it raises going on in the frame -/
theorem pe_lcE {X : Cx} {W : WX} {elt tg iter : Expr} {ifs : List Expr} {scope : Scope} {own : List (Str × Nat)} {pos : Pos} {wi : TI} {g : TG} {tt : St → TT} {te : St → TE} (hc : X.calm = true) (hN : X.N.Nodup) (hst : X.stack = X.env :: X.outer) (hf : X.env.frame = some X.env.locals) (tk : Takes X W)
    (hi : PI X tg iter wi) (ok : BlkOk X.N X.env.scope scope own) (hg : ∀ s H C cl fp, PG (blkE X s H scope (compEnvC scope cl C X.env) fp) tg g)
    (ht : ∀ σ s H C cl fp, Takes (blkE X s H scope (compEnvC scope cl C X.env) fp) (fun c d _ H => W c d σ H) → PTs (blkE X s H scope (compEnvC scope cl C X.env) fp) ifs (tt σ))
    (he : ∀ σ s H C cl fp, Takes (blkE X s H scope (compEnvC scope cl C X.env) fp) (fun c d _ H => W c d σ H) → PE (blkE X s H scope (compEnvC scope cl C X.env) fp) elt (te σ)) (hs : ∀ x, foldedSetIterable iter X.env x = pure x) :
    PE X (.ListComp elt [⟨tg, iter, ifs, 0⟩] scope pos) (fun σ H Q => tLc wi g (tt σ) (te σ) (own.map (·.2)) σ H Q) := by
  refine ⟨fun pins s σ H Q I h => ?_⟩
  have clo := closure_ok (scope := scope) (env := X.env) fun y hy e => (ok.free y hy e).elim (fun k => I.ok.has _ (.inl k)) (fun k => I.ok.has _ (.inr k))
  rw [eval_ListComp]
  refine comprehension_at (use := none) rfl hs clo ok.kind (fun y hy e => (ok.uniq y hy).trans (congrArg some e)) (thn (hi.run pins s σ H _ I h) fun _ s1 h1 => thn h1 fun _ s2 h2 => ?_)
  obtain ⟨it, fp, tn, J, H2, rfl, I2, T, t2, f2, q⟩ := h2
  refine wpAny_newObj_type (newEnv_comp ?_) (Nat.zero_le _)
  -- the new list at D, the names at C
  obtain ⟨D, eD⟩ : ∃ D, D = s2.heap.objs.size := ⟨_, rfl⟩
  obtain ⟨Wt, ⟨m0, w0⟩, turn⟩ := q D (I2.hok.fresh (Nat.le_of_eq eD.symm))
  obtain ⟨s3, e3⟩ : ∃ s3 : Shared, s3 = { s2 with heap := s2.heap.push { cls := .type "list", data := .seq ([] : List Value).toArray } } := ⟨_, rfl⟩
  have old3 : ∀ b o, s2.heap.get? b = some o → s3.heap.get? b = some o := by
    intro b o g
    rw [e3]
    exact Heap.get?_push_of_some _ g
  have I3 : Inv X pins σ (upd H2 D (.lst [])) s3 := by
    rw [e3]
    refine I2.laid (t' := s2.toks) (fun b o g => Heap.get?_push_of_some _ g) (Nat.le_of_eq eD.symm) ⟨Nat.zero_le _, [], 0, .nil, ?_⟩
    rw [eD]
    exact Heap.get?_push_size _ rfl
  have f3 : ∀ b ∈ fp, FpOk X pins (upd H2 D (.lst [])) b ∧ b < s3.heap.objs.size := by
    intro b hb
    obtain ⟨o, g, _⟩ := T.obj _ _ t2 b hb
    have lt := Heap.lt_size g
    have ne : b ≠ D := by rw [eD]; exact Nat.ne_of_lt lt
    exact ⟨⟨by rw [upd_ne ne]; exact (f2 b hb).1, (f2 b hb).2⟩, Heap.lt_size (old3 b o g)⟩
  have t3 : tn 0 s3.heap := T.keep _ _ _ t2 fun b _ o g => old3 b o g
  obtain ⟨H3, eH⟩ : ∃ H3, H3 = upd H2 D (.lst []) := ⟨_, rfl⟩
  rw [← eH] at I3 f3 w0
  obtain ⟨cl, ecl⟩ : ∃ cl, cl = cellsFrom (s3.heap.objs.size + 1) scope.names (cloFrom X.env.cells scope.names []) := ⟨_, rfl⟩
  obtain ⟨s4, e4⟩ : ∃ s4 : Shared, s4 = { s3 with heap := pushCells (s3.heap.push { cls := .type "dict", data := .dict #[] }) scope.names } := ⟨_, rfl⟩
  have I4 := block_start I3 ok hN f3
  rw [← ecl, ← e4] at I4
  have t4 : tn 0 s4.heap := T.keep _ _ _ t3 fun b _ o g => by
    rw [e4]
    exact pushCells_keeps _ _ _ _ (Heap.get?_push_of_some _ g)
  have tkb : Takes (blkE X s3 H3 scope (compEnvC scope cl s3.heap.objs.size X.env) fp) (fun c d _ H => W c d σ H) := takes_blkE hst hf tk rfl rfl I3 fun b hb => (f3 b hb).1
  have goal4 : codeAny (model X.prog X.w) X.A (.compStart (.ListComp elt [⟨tg, iter, ifs, 0⟩] scope pos) 0 (.ref it) (.ref D) (compEnvC scope cl s3.heap.objs.size X.env))
      (compEnds (model X.prog X.w) X.A X.xe none (EP X pins σ Q) (.ref D) (compEnvC scope cl s3.heap.objs.size X.env)) s4 := by
    have pg := hg s3 H3 s3.heap.objs.size cl fp
    have pt := ht σ s3 H3 s3.heap.objs.size cl fp tkb
    have pe := he σ s3 H3 s3.heap.objs.size cl fp tkb
    have cL : (compEnvC scope cl s3.heap.objs.size X.env).locals = s3.heap.objs.size := rfl
    generalize compEnvC scope cl s3.heap.objs.size X.env = ce at *
    have fpB : ∀ {σ' : St} {H' : Hp} {s' : Shared}, Inv (blkE X s3 H3 scope ce fp) [] σ' H' s' → (∀ b ∈ fp, H' b = none) → ∀ b ∈ fp, FpOk (blkE X s3 H3 scope ce fp) [] H' b := by
      intro σ' H' s' I' n b hb
      exact ⟨n b hb, (I'.ok.exf b hb).1, I'.ok.exfs b hb, .inl hb, fun x c e => (I'.ok.exf b hb).2 x c e, fun p hp => (List.not_mem_nil hp).elim⟩
    have loop : codeAny (model X.prog X.w) X.A (.compLoop (.ListComp elt [⟨tg, iter, ifs, 0⟩] scope pos) 0 (.ref it) (.ref D) ce) (compEnds (model X.prog X.w) X.A X.xe none (EP X pins σ Q) (.ref D) ce) s4 := by
      refine compLoop_any (fun n s' => ∃ i H', Inv (blkE X s3 H3 scope ce fp) [] (wipe σ (own.map (·.2))) H' s' ∧ tn i s'.heap ∧ (∀ b ∈ fp, H' b = none) ∧ Wt i n H') ?_ m0 ⟨0, H3, inv_xe I4 _, t4, fun b hb => (f3 b hb).1.1, w0⟩
      rintro n s5 ⟨i, H5, I5, t5, n5, w5⟩
      rcases turn i n H5 w5 with ⟨stop, qq⟩ | ⟨go, Nx, hNx, step⟩
      · refine thn (T.done (blkE X s3 H3 scope ce fp) rfl rfl rfl hc i [] s5 _ H5 _ I5 (fpB I5 n5) t5 stop) ?_
        rintro r s6 ⟨rfl, I6⟩
        have nC : H5 ce.locals = none := I6.free
        obtain ⟨m, hn, _⟩ := I6.loc
        have I7 : Inv X pins σ H5 s6 := I3.call' (ch := fp) I6.os I6.base I6.hok I6.bare fun b hb => ⟨(f3 b hb).1.2.2.2.1, (f3 b hb).1.2.1, (f3 b hb).1.2.2.2.2.1, (f3 b hb).1.2.2.2.2.2⟩
        obtain ⟨g0, g1, g2, g3, g4, g5⟩ := I3.fpOk (H' := H5) (b := ce.locals) (Nat.le_of_eq cL.symm) nC
        refine ⟨m, hn, fun h' sb => ⟨.ref D, H5, ?_, rfl, qq⟩⟩
        exact I7.turned (t' := s6.toks) (fun b o ne g => (sb.2 b ne).trans g) g0 g1 g3 g4 g5
      · refine thn (T.item (blkE X s3 H3 scope ce fp) rfl rfl rfl hc i [] s5 _ H5 _ I5 (fpB I5 n5) t5 go) ?_
        rintro r s6 ⟨u, rfl, h6⟩
        refine thn h6 ?_
        rintro _ s7 ⟨x, H7, I7, r7, y7, t7, n7⟩
        have J7 := I7.pinned (fpB I7 n7) (T.obj _ _ t7)
        refine thn (pg.run _ s7 _ H7 x u _ J7 r7 (step x H7 y7)) ?_
        rintro _ s8 ⟨σ8, H8, I8, hw8, q8⟩
        have again : ∀ {s' : Shared} {H' : Hp}, Inv (blkE X s3 H3 scope ce fp) ([] ++ pinsAt fp s7.heap) σ8 H' s' → Nx H' → ∃ m, m < n ∧ ∃ i H', Inv (blkE X s3 H3 scope ce fp) [] (wipe σ (own.map (·.2))) H' s' ∧ tn i s'.heap ∧ (∀ b ∈ fp, H' b = none) ∧ Wt i m H' := by
          intro s' H' I' nx
          obtain ⟨m', lt, w'⟩ := hNx H' nx
          have pin : ∀ b ∈ fp, ∀ o, s7.heap.get? b = some o → s'.heap.get? b = some o ∧ H' b = none := by
            intro b hb o g
            have z := I'.pin (b, o) (List.mem_append_right _ (List.mem_append_right _ (mem_pinsAt hb g)))
            exact ⟨z.1, z.2.1⟩
          refine ⟨m', lt, i + 1, H', (I'.unpinned (pins := [])).weak (by rw [← hw8, wipe_length]) ?_, T.keep _ _ _ t7 fun b hb o g => (pin b hb o g).1, ?_, w'⟩
          · intro j v e
            rw [← hw8] at e
            exact (wipe_some e).1
          · intro b hb
            obtain ⟨o, g, _⟩ := T.obj _ _ t7 b hb
            exact (pin b hb o g).2
        refine thn (pt.run _ s8 σ8 H8 _ I8 q8) ?_
        rintro b s9 ⟨H9, I9, q9⟩
        cases b with
        | false =>
          rw [if_neg Bool.false_ne_true] at q9 ⊢
          exact again I9 q9
        | true =>
          rw [if_pos rfl] at q9 ⊢
          refine thn (pe.run _ s9 σ8 H9 _ I9 q9) ?_
          rintro z s10 ⟨yv, H10, I10, r10, acc, hD, hz, nx⟩
          exact app_ok (X := blkE X s3 H3 scope ce fp) I10 hD hz r10 fun s11 I11 => again I11 nx
    exact codeAny_compStart_list loop (T.self X.A 0 _ _ _ t4 loop)
  rw [e4, e3, eD, ecl, e3] at goal4
  exact goal4
end Wi

/-! Wi35: comprehensions that raise, plainly. -/
namespace Wi
open PySem L2
section
variable {g : Gm} {l : Lc}
/-- the wish for raises, the slots being those of the start -/
def Wat (W : WX) (σ : L2.St) : WX := fun c d _ H => W c d σ H
theorem Run.at_ {α β : Type} {R : List Addr → Hp → α → β → Prop} {W : WX} {r : Res α} {st : Store} {κ : List Addr} {σ σ2 : L2.St} {H : Hp} {Q : β → Hp → Prop} (h : Run g R W r st κ σ H Q) : Run g R (Wat W σ) r st κ σ2 H Q := by
  cases r with
  | ok v st' => exact h
  | exc c l st' => exact h
  | stuck w => exact h
def compLE (t : Pt) (c : DenT) (e : Den) (own : List Nat) (k : Nat) : List PV → Sl → Store → Res (List PV)
  | [], _, st => match st[k]? with
    | some (.lst acc) => .ok acc (st.take k)
    | _ => .stuck 71
  | x :: xs, ρ, st => match bindPt t x (wipeP ρ own) with
    | some ρ1 => (c ρ1 st).bind fun b st => if b then (e ρ1 st).bind fun y st => match st[k]? with
        | some (.lst acc) => if isTree y && Nat.blt acc.length 16777216 then compLE t c e own k xs ρ (st.set k (.lst (acc ++ [y]))) else .stuck 72
        | _ => .stuck 73
      else compLE t c e own k xs ρ st
    | none => .stuck 74
def lCompE (i : DenI) (t : Pt) (c : DenT) (e : Den) (own : List Nat) : DenL := fun ρ st => (i ρ st).bind fun xs st => compLE t c e own st.length xs ρ (st ++ [.lst []])
theorem jx_blkE {X : Cx} (J : Jx g l X) (s : Shared) (H : Hp) (scope : Scope) (C : Addr) (cl : List (Str × Addr)) (fp : List Addr) (hk : scope.kind = .function) : Jx g { l with top := false, sc := relS scope l.sc, fn := (fun x => scope.names.lookup x == some .cell), tab := 0 } (blkE X s H scope (compEnvC scope cl C X.env) fp) :=
  let B := jx_blk J s H scope C cl fp hk
  { p := B.p, w := B.w, k := B.k, m := B.m, b := B.b, N := B.N, sc := B.sc, nd := B.nd, calm := B.calm, room := B.room, own := PassesOwn.looking, kind := B.kind, fn := B.fn, code := fun z => absurd z (Nat.lt_irrefl _), stk := fun z => nomatch z }
theorem lc_okE (tb : TbOk g) {own : List (Str × Nat)} {i : DenI} {t : Pt} {c : DenT} {e : Den} {W : WX} (ho : ∀ j ∈ t.own, j ∈ own.map (·.2)) : ∀ σ H Q, tL g W (lCompE i t c e (own.map (·.2))) σ H Q → tLc (tI g W i) (gP g.K t) (tT g (Wat W σ) c) (tD g (Wat W σ) e) (own.map (·.2)) σ H Q :=
  fun σ H Q ⟨ρ, st, κ, L, h⟩ => ⟨ρ, st, κ, L, (RunL.bindI h).mono fun I H1 ⟨xs, st1, κ1, e1, w1, h1⟩ D hD => by
    have n0 := NewL.of_upd tb (vs := []) (xs := []) (Ext.refl e1.sr) hD rfl
    have x0 := n0.cell
    have nD : D ∉ κ1 := n0.na
    have hk1 : st1.length = κ1.length := e1.sr.cells.length
    have atD : ∀ {κ' : List Addr}, κ1 ++ [D] <+: κ' → κ'[st1.length]? = some D := fun {κ'} p => by
      obtain ⟨r, rfl⟩ := p
      rw [hk1, List.append_assoc, List.getElem?_append_right (Nat.le_refl _)]
      simp
    refine ⟨fun j m H' => ∃ st' κ', j + m = xs.length ∧ Xt g (st1 ++ [.lst []]) (κ1 ++ [D]) (upd H1 D (.lst [])) st' κ' H' ∧ RunL g W (compLE t c e (own.map (·.2)) st1.length (xs.drop j) ρ st') st κ σ H Q,
      ⟨xs.length, st1 ++ [.lst []], κ1 ++ [D], by omega, Ext.refl x0.sr, by rw [List.drop_zero]; exact h1⟩, fun j m H' ⟨st', κ', hm, x1, h'⟩ => ?_⟩
    have xa : Xt g st1 κ1 H1 st' κ' H' := x0.trans x1
    by_cases hj : j < xs.length
    · refine .inr ⟨w1.go j st' κ' H' xa hj, fun H2 => ∃ m', m' < m ∧ ∃ st2 κ2, j + 1 + m' = xs.length ∧ Xt g (st1 ++ [.lst []]) (κ1 ++ [D]) (upd H1 D (.lst [])) st2 κ2 H2 ∧ RunL g W (compLE t c e (own.map (·.2)) st1.length (xs.drop (j + 1)) ρ st2) st κ σ H Q, fun H2 q => q, fun x H2 hy => ?_⟩
      obtain ⟨x2, r2⟩ := w1.yld j st' κ' H' x H2 _ xa (List.getElem?_eq_getElem hj) hy
      have xb := xa.trans x2
      have L2 : Lies g ρ st' κ' σ H2 := (L.xt e1).xt xb
      rw [List.drop_eq_getElem_cons hj] at h'
      unfold compLE at h'
      cases q : bindPt t xs[j] (wipeP ρ (own.map (·.2))) with
      | none => rw [q] at h'; exact h'.elim
      | some ρ1 =>
        rw [q] at h'
        dsimp only at h'
        refine bindPt_ok q r2 (SlR.wipe L2.sl _) ho fun σ2 s2 hw => ⟨hw.trans wipe_wipe, ?_⟩
        have rb := RunL.bind2 (R := RB) (e1.trans xb) h'
        refine ⟨ρ1, st', κ', ⟨L2.sr, s2⟩, (Run.at_ rb).mono fun b H3 ⟨b', st3, κ3, e3, r3, h3⟩ => ?_⟩
        have r3 : b' = b := r3
        subst r3
        have xc := xb.trans e3
        cases b' with
        | false => exact ⟨xs.length - (j + 1), by omega, st3, κ3, by omega, (x1.trans x2).trans e3, h3⟩
        | true =>
          rw [if_pos rfl] at h3 ⊢
          have re := RunL.bind2 (R := RX g) (e1.trans xc) h3
          refine ⟨ρ1, st3, κ3, (show Lies g ρ1 st' κ' σ2 H2 from ⟨L2.sr, s2⟩).xt e3, (Run.at_ re).mono fun y H4 ⟨y', st4, κ4, e4, r4, h4⟩ => ?_⟩
          cases q4 : st4[st1.length]? with
          | none => rw [q4] at h4; exact h4.elim
          | some cc =>
            rw [q4] at h4
            cases cc with
            | lst acc =>
              dsimp only at h4
              by_cases cnd : (isTree y' && Nat.blt acc.length 16777216) = true
              · rw [if_pos cnd] at h4
                rw [Bool.and_eq_true] at cnd
                obtain ⟨a, q5, vs, q6, q7⟩ := cell_at e4.sr.cells q4
                have xd := (x1.trans x2).trans (e3.trans e4)
                rw [atD xd.pre] at q5
                cases q5
                have xe := cell_upd tb e4.sr q4 (atD xd.pre) (q7.append (RepVs.one (r4.tree cnd.1)))
                refine ⟨vs, q6, ?_, xs.length - (j + 1), by omega, st4.set st1.length (.lst (acc ++ [y'])), κ4, by omega, xd.trans xe, h4⟩
                rw [← q7.length]
                exact Nat.lt_of_succ_le (Nat.le_of_ble_eq_true cnd.2)
              · rw [if_neg cnd] at h4
                exact h4.elim
            | frz _ => exact h4.elim
            | ins _ _ => exact h4.elim
    · refine .inl ⟨w1.stop j st' κ' H' xa (by omega), ?_⟩
      rw [List.drop_eq_nil_of_le (by omega)] at h'
      unfold compLE at h'
      cases q : st'[st1.length]? with
      | none => rw [q] at h'; exact h'.elim
      | some cc =>
        rw [q] at h'
        cases cc with
        | lst acc =>
          obtain ⟨vs, n⟩ := NewL.of_cell e1 xa hk1.symm q (atD x1.pre) nD
          exact h' _ _ _ _ n
        | frz _ => exact h'.elim
        | ins _ _ => exact h'.elim⟩
theorem ld_compE (tb : TbOk g) (htop : l.top = true) {elt tg iter : Expr} {ifs : List Expr} {scope : Scope} {own : List (Str × Nat)} {pos : Pos} {i : DenI} {t : Pt} {c : DenT} {e : Den} (hi : ID g l i tg iter) (ok : blkC l.N l.sc scope own = true) (hk : scope.kind = .function)
    (hp : PtD g { l with top := false, sc := relS scope l.sc, fn := (fun x => scope.names.lookup x == some .cell), tab := 0 } t tg) (hc : TsD g { l with top := false, sc := relS scope l.sc, fn := (fun x => scope.names.lookup x == some .cell), tab := 0 } c ifs) (he : ED g { l with top := false, sc := relS scope l.sc, fn := (fun x => scope.names.lookup x == some .cell), tab := 0 } e elt)
    (ho : ∀ j ∈ t.own, j ∈ own.map (·.2)) (hs : ∀ env x, foldedSetIterable iter env x = pure x) : LD g l (lCompE i t c e (own.map (·.2))) (.ListComp elt [⟨tg, iter, ifs, 0⟩] scope pos) := fun X W J tk => by
  obtain ⟨s1, s2⟩ := J.stk htop
  exact PE.imp (pe_lcE J.calm (by rw [J.N]; exact J.nd) s1 s2 tk (hi X W J tk) (by rw [J.N, J.sc]; exact blkOk_by ok) (fun s H C cl fp => hp _ (jx_blkE J s H scope C cl fp hk)) (fun σ s H C cl fp tkb => hc _ (Wat W σ) (jx_blkE J s H scope C cl fp hk) tkb)
    (fun σ s H C cl fp tkb => he _ (Wat W σ) (jx_blkE J s H scope C cl fp hk) tkb) (hs _)) (lc_okE tb ho)
end
end Wi

/-! Wi36: zip of two tuples, the pairs laid exactly. -/
namespace Wi
open PySem L2 PySem.Spec PyProof.Rows HT
/-- as the library's, the pair's object known -/
def ItzX (K : PySem.W.Frag) (a b : Addr) : It :=
  { RZ.ItzT K a b with yld := fun i H v H' => ∃ T x y ob, v = .ref T ∧ ob.dict = none ∧ H T = none ∧ H' = upd H T (.frz ob (.tup [x, y])) ∧ (∀ xs, SqT K H a xs → xs[i]? = some x) ∧ ∀ ys, SqT K H b ys → ys[i]? = some y }
theorem turn_zipX {P : Program} {w : World} {K : PySem.W.Frag} {elts : List Expr} {kk : Nat} {tpos : Pos} {a b z TI TO i1 i2 : Addr} (D : ZipApart z TI TO i1 i2 a b) :
    Turn P w K (.Tuple elts kk tpos) (ItzX K a b) [z, TI, TO, i1, i2] z (fun i h => IsZip h z TI TO .none ∧ PySem.IsPair h TI (.ref i1) (.ref i2) ∧ (∃ x y, PySem.IsPair h TO x y) ∧ h.IsTupleIter i1 a i ∧ h.IsTupleIter i2 b i) :=
  let T0 := RZ.turn_zipT (P := P) (w := w) (K := K) (elts := elts) (kk := kk) (tpos := tpos) D
  { mem := T0.mem, obj := T0.obj, keep := T0.keep, self := T0.self, done := T0.done
    item := by
      rintro X rfl rfl rfl hc i pins s σ H E I hf ⟨hz, hTI, ⟨x0, y0, hTO⟩, h1, h2⟩ ⟨xs, ys, x, y, qx, qy, gx, gy⟩
      obtain ⟨us, rx, px, _⟩ := I.tuple qx
      obtain ⟨ws, ry, py, _⟩ := I.tuple qy
      obtain ⟨u, gu, ru⟩ := rx.get gx
      obtain ⟨v, gv, rv⟩ := ry.get gy
      refine RZ.pyNext_zipT_item D hz hTI hTO h1 h2 px py (x := u) (y := v) (by simpa using gu) (by simpa using gv) ?_
      intro h' z' TO' i1' i2' hT hsz hk
      have lz : z < s.heap.objs.size := Heap.lt_size hz
      refine ⟨_, rfl, wpAny_letOwnedTupleGo_zip (s := { s with heap := h' }) z' ?_⟩
      intro h'' z'' sb
      obtain ⟨T, eT⟩ : ∃ T, T = s.heap.objs.size := ⟨_, rfl⟩
      have gT : h''.get? T = some (tobj [u, v]) := by
        rw [eT]
        exact (sb.2 _ (Nat.ne_of_gt lz)).trans hT
      have new : ObjOk X.prog X.w (upd H T (.frz (tobj [u, v]) (.tup [x, y]))) h'' T (.frz (tobj [u, v]) (.tup [x, y])) := ⟨gT, (by show 2 ≤ sizeLine; decide), [u, v], .cons ru (.cons rv .nil), ⟨_, gT, rfl, _, rfl⟩⟩
      have kept : ∀ c o, c ∉ [z, TI, TO, i1, i2] → s.heap.get? c = some o → h''.get? c = some o := by
        intro c o hn g
        simp only [List.mem_cons, List.not_mem_nil, or_false, not_or] at hn
        exact (sb.2 c hn.1).trans (hk c o hn.1 hn.2.2.1 hn.2.2.2.1 hn.2.2.2.2 g)
      have I1 := I.turnedNew (t' := s.toks) (ch := [z, TI, TO, i1, i2]) kept hf (Nat.le_of_eq eT.symm) new
      refine ⟨.ref T, _, I1, by rw [eT]; rfl, ⟨T, x, y, _, rfl, rfl, I.hok.fresh (Nat.le_of_eq eT.symm), rfl, ?_, ?_⟩, ⟨z'', (sb.2 _ D.TIz).trans (hk _ _ D.TIz D.TITO D.TIi1 D.TIi2 hTI), ⟨u, v, (sb.2 _ D.TOz).trans TO'⟩, i1'.at fun o q => (sb.2 _ D.i1z).trans q, i2'.at fun o q => (sb.2 _ D.i2z).trans q⟩, ?_⟩
      · intro l hl
        rw [I.tuple_inj hl qx]
        exact gx
      · intro l hl
        rw [I.tuple_inj hl qy]
        exact gy
      · intro c hm
        obtain ⟨o, g, _⟩ := T0.obj i s.heap ⟨hz, hTI, ⟨x0, y0, hTO⟩, h1, h2⟩ c hm
        have lc := Heap.lt_size g
        rw [upd_ne (by rw [eT]; exact Nat.ne_of_lt lc)]
        exact (hf c hm).1 }
def tZipX (K : PySem.W.Frag) (ta : TA) : TI := fun σ H R => ta σ H fun vs H1 => ∃ a b xs ys, vs = [.ref a, .ref b] ∧ SqT K H1 a xs ∧ SqT K H1 b ys ∧ R (ItzX K a b) H1
theorem pi_zipX {X : Cx} {e e2 : Expr} {ta : TA} {p pos tpos : Pos} {elts : List Expr} {kk : Nat} (hg : Gl X "zip") (hm : X.mg "zip" = none) (ha : PA X [e, e2] ta)
    (hs : starEach [e, e2] X.env = (false, eval e X.env) :: starEach [e2] X.env) (hpl : (backTo pos (starEach [e2] X.env)).any (·.1) = false) :
    PI X (.Tuple elts kk tpos) (.Call (.Name "zip" p) [e, e2] [] pos) (tZipX X.K ta) := by
  refine ⟨fun pins s σ H R I h => Call_ (ld_blt I hg hm PyProof.Rows.boot_zip (PyProof.Rows.callWith_type1 (thn (ha.run pos pins s σ H _ I h) ?_) hs hpl))⟩
  rintro us s1 ⟨vs, H1, I1, r1, a, b, xs, ys, rfl, qx, qy, q⟩
  obtain ⟨u, w, rfl, ra, rb⟩ : ∃ u w, us = [u, w] ∧ RelV (.ref a) u ∧ RelV (.ref b) w := by
    cases r1 with
    | cons r rr =>
      cases rr with
      | cons r' rr => cases rr; exact ⟨_, _, rfl, r, r'⟩
  cases ra
  cases rb
  obtain ⟨its, _, px, _⟩ := I1.tuple qx
  obtain ⟨its2, _, py, _⟩ := I1.tuple qy
  obtain ⟨ox, gx, _⟩ := id px
  obtain ⟨oy, gy, _⟩ := id py
  refine RZ.call_zipT (show s1.heap.IsTuple a its.toArray from px) (show s1.heap.IsTuple b its2.toArray from py) ?_
  intro h' hz hTI hTO h1 h2 hsz hk
  refine wpAny_pyIter_zip hz ?_
  have I2 : Inv X pins σ H1 { s1 with heap := h' } := I1.kept (t' := s1.toks) hk
  refine ⟨_, [s1.heap.objs.size + 4, s1.heap.objs.size + 2, s1.heap.objs.size + 3, s1.heap.objs.size, s1.heap.objs.size + 1], _, _, H1, rfl, I2, turn_zipX (PySem.W.ktu_apart s1.heap.objs.size a b (Heap.lt_size gx) (Heap.lt_size gy)), ⟨hz, hTI, ⟨_, _, hTO⟩, h1, h2⟩, ?_, q⟩
  intro c hc
  have le : s1.heap.objs.size ≤ c := by
    simp only [List.mem_cons, List.not_mem_nil, or_false] at hc
    rcases hc with e | e | e | e | e <;> rw [e]
    all_goals first | exact Nat.le_add_right _ _ | exact Nat.le_refl _
  exact I1.fpOk le (I1.hok.fresh le)
section
variable {g : Gm} {l : Lc}
def zipP : List PV → List PV → List PV
  | x :: xs, y :: ys => .tup [x, y] :: zipP xs ys
  | _, _ => []
theorem zipP_len : ∀ xs ys : List PV, (zipP xs ys).length = min xs.length ys.length
  | [], _ => by simp [zipP]
  | _ :: _, [] => by simp [zipP]
  | x :: xs, y :: ys => by simp [zipP, zipP_len xs ys]
theorem zipP_get : ∀ {xs ys : List PV} {i : Nat} {v : PV}, (zipP xs ys)[i]? = some v → ∃ x y, xs[i]? = some x ∧ ys[i]? = some y ∧ v = .tup [x, y]
  | [], _, _, _, h => by simp [zipP] at h
  | _ :: _, [], _, _, h => by simp [zipP] at h
  | x :: xs, y :: ys, 0, v, h => by
    simp only [zipP, List.getElem?_cons_zero] at h
    exact ⟨x, y, by simp, by simp, by injection h with h; exact h.symm⟩
  | x :: xs, y :: ys, i + 1, v, h => by
    simp only [zipP, List.getElem?_cons_succ] at h
    obtain ⟨a, b, h1, h2, h3⟩ := zipP_get h
    exact ⟨a, b, by simpa using h1, by simpa using h2, h3⟩
theorem wk_zip (tb : TbOk g) {st : Store} {κ : List Addr} {H : Hp} {a b : Addr} {vs ws : List V} {xs ys : List PV} (ha : SqT g.K (Fz st κ H) a vs) (hb : SqT g.K (Fz st κ H) b ws) (ra : RepVs g.K g.T (Fz st κ H) xs vs) (rb : RepVs g.K g.T (Fz st κ H) ys ws) : Wk g (ItzX g.K a b) (zipP xs ys) st κ H where
  go i st' κ' H' e hi := by
    rw [zipP_len] at hi
    obtain ⟨x, q1, _⟩ := (ra.mono e.same).get (List.getElem?_eq_getElem (show i < xs.length by omega))
    obtain ⟨y, q2, _⟩ := (rb.mono e.same).get (List.getElem?_eq_getElem (show i < ys.length by omega))
    exact ⟨vs, ws, x, y, SqT.of_fz (Same.seqT e.same ha), SqT.of_fz (Same.seqT e.same hb), q1, q2⟩
  stop i st' κ' H' e hi := by
    rw [zipP_len, ra.length, rb.length] at hi
    exact ⟨vs, ws, SqT.of_fz (Same.seqT e.same ha), SqT.of_fz (Same.seqT e.same hb), by omega⟩
  yld i st' κ' H' x H'' v e hv hy := by
    obtain ⟨p, q, rfl⟩ : ∃ p q, v = .tup [p, q] := by obtain ⟨p, q, _, _, z⟩ := zipP_get hv; exact ⟨p, q, z⟩
    obtain ⟨p', q', h1, h2, z⟩ := zipP_get hv
    injection z with z
    injection z with z1 z
    injection z with z2 _
    subst z1 z2
    obtain ⟨T, y1, y2, ob, rfl, hd, hn, rfl, g1, g2⟩ := hy
    obtain ⟨u1, k1, r1⟩ := (ra.mono e.same).get h1
    obtain ⟨u2, k2, r2⟩ := (rb.mono e.same).get h2
    have e1 := g1 vs (SqT.of_fz (Same.seqT e.same ha))
    have e2 := g2 ws (SqT.of_fz (Same.seqT e.same hb))
    rw [k1] at e1
    rw [k2] at e2
    cases e1
    cases e2
    exact ⟨StR.upd_new tb e.sr hn, rep_tup_new tb e.sr hd hn ⟨_, _, rfl, r1, _, _, rfl, r2, rfl⟩⟩
def iZip (da : DenA) : DenI := fun ρ st => (da ρ st).bind fun vs st => match vs with
  | [.tup xs, .tup ys] => .ok (zipP xs ys) st
  | _ => .stuck 160
theorem id_zip (B : Bl g) {e e2 : Expr} {da : DenA} {p pos tpos : Pos} {elts : List Expr} {kk : Nat} (h : glB l "zip" = true) (ha : AD g l da [e, e2])
    (hs : ∀ env, starEach [e, e2] env = (false, eval e env) :: starEach [e2] env) (hpl : ∀ env, (backTo pos (starEach [e2] env)).any (·.1) = false) : ID g l (iZip da) (.Tuple elts kk tpos) (.Call (.Name "zip" p) [e, e2] [] pos) := fun X W J tk =>
  PI.imp (pi_zipX (gl_of J (glB_ok h).1) (by rw [J.m]; exact B.n "zip" (by decide +kernel)) (ha X W J tk) (hs _) (hpl _)) fun σ H Q ⟨ρ, st, κ, L, h⟩ => ⟨ρ, st, κ, L, (RunI.bind h).mono fun x H1 ⟨v, st1, κ1, e1, r1, h1⟩ => by
    rw [J.k]
    split at h1
    · rename_i xs ys
      obtain ⟨x1, x2, rfl, q1, q2⟩ := rxs2 r1
      obtain ⟨a, vs, rfl, p1, p2⟩ := q1
      obtain ⟨b, ws, rfl, p3, p4⟩ := q2
      exact ⟨a, b, vs, ws, rfl, TupR.of_fz p1, TupR.of_fz p3, h1 κ1 H1 _ e1 (wk_zip B.tb p1.sq p3.sq p2 p4)⟩
    · exact h1.elim⟩
end
end Wi

/-! Wi37: any, all of a list or tuple of bools, whole numbers, Nones. -/
namespace Wi
open PySem L2 PySem.Spec PyProof.Rows
def TrV (w : V) (b : Bool) : Prop := w = .bl b ∨ (∃ i : Int, w = .int i ∧ b = (i != 0)) ∨ (w = .non ∧ b = false)
def TrVs : List V → List Bool → Prop
  | [], bs => bs = []
  | w :: ws, bs => ∃ b r, bs = b :: r ∧ TrV w b ∧ TrVs ws r
theorem TrVs.get : ∀ {ws : List V} {bs : List Bool} {i : Nat} {w : V}, TrVs ws bs → ws[i]? = some w → ∃ b, bs[i]? = some b ∧ TrV w b
  | [], _, _, _, _, h => by simp at h
  | w :: ws, _, 0, _, ⟨b, r, rfl, t, _⟩, h => by
    simp only [List.getElem?_cons_zero] at h
    injection h with h
    subst h
    exact ⟨b, by simp, t⟩
  | w :: ws, _, i + 1, _, ⟨b, r, rfl, _, t⟩, h => by
    simp only [List.getElem?_cons_succ] at h
    obtain ⟨c, h1, h2⟩ := t.get h
    exact ⟨c, by simpa using h1, h2⟩
theorem TrVs.len : ∀ {ws : List V} {bs : List Bool}, TrVs ws bs → ws.length = bs.length
  | [], _, h => by subst h; rfl
  | _ :: _, _, ⟨_, _, rfl, _, t⟩ => by simp [t.len]
theorem truth_of {prog : Program} {w : World} {A : Around} {ws : List V} {bs : List Bool} {its : List Value} (r : Vals ws its) (t : TrVs ws bs) : TruthOf prog w A (fun i v => its.toArray[i]? = some v) (fun i => bs.getD i false) := by
  intro i v s Q E hv hq
  have hv : its[i]? = some v := by simpa using hv
  have hi : i < ws.length := by
    rw [r.length]
    exact (List.getElem?_eq_some_iff.mp hv).1
  obtain ⟨u, gu, ru⟩ := r.get (List.getElem?_eq_getElem hi)
  rw [hv] at gu
  cases gu
  obtain ⟨b, hb, k⟩ := t.get (List.getElem?_eq_getElem hi)
  have e : bs.getD i false = b := by rw [List.getD_eq_getElem?_getD, hb]; rfl
  have hq : Q (bs.getD i false) s := hq
  rw [e] at hq
  rcases k with k | ⟨j, k, z⟩ | ⟨k, z⟩
  · rw [k] at ru; cases ru; exact fun _ _ _ => hq
  · rw [k] at ru
    obtain ⟨q, rfl⟩ := ru
    rw [z] at hq
    exact PySem.P.truthy_int hq
  · rw [k] at ru; cases ru; rw [z] at hq; exact fun _ _ _ => hq
def rTr (K : PySem.W.Frag) (f : List Bool → Bool) : List V → Hp → VK → Prop := fun vs H Q => ∃ a ws bs, vs = [V.ref a] ∧ (SqL K H a ws ∨ SqT K H a ws) ∧ TrVs ws bs ∧ Q (.bl (f bs)) H
section
variable {X : Cx}
theorem walk_tr {pins : List (Addr × Obj)} {σ : L2.St} {H : Hp} {s : Shared} {E : Value → Shared → Prop} (hc : X.calm = true) (I : Inv X pins σ H s) {a : Addr} {ws : List V} {bs : List Bool} (h : SqL X.K H a ws ∨ SqT X.K H a ws) (t : TrVs ws bs) {f : (List Nat) → (Nat → Bool) → Bool} {Q : Value → Shared → Prop}
    (hQ : ∀ s', Inv X pins σ H s' → Q (.bool (f (List.range bs.length) fun i => bs.getD i false)) s') :
    wpAny (model X.prog X.w) X.A.in1 (pyIter (.ref a)) (fun it s₂ => ∃ I fp wr n P Sx tr, it = .ref I ∧ Walks X.prog X.w X.A.in1 I fp wr n P Sx ∧ Sx 0 s₂.heap ∧ TruthOf X.prog X.w X.A.in1 P tr ∧
      ∀ h' tk, (∀ b o, b ∉ wr → s₂.heap.get? b = some o → h'.get? b = some o) → Q (.bool (f (List.range n) tr)) { s₂ with heap := h', toks := tk }) E s := by
  have back : ∀ {s₂ : Shared} {o : Obj}, s₂ = { s with heap := s.heap.push o } → ∀ h' tk, (∀ b ob, b ∉ [s.heap.objs.size] → s₂.heap.get? b = some ob → h'.get? b = some ob) → Q (.bool (f (List.range bs.length) fun i => bs.getD i false)) { s₂ with heap := h', toks := tk } := by
    rintro s₂ o rfl h' tk hk
    refine hQ _ (I.kept (t' := tk) fun b ob eo => hk b ob ?_ (Heap.get?_push_of_some _ eo))
    intro hm
    have z : b = s.heap.objs.size := by simpa using hm
    exact absurd (z ▸ Heap.lt_size eo) (Nat.lt_irrefl _)
  rcases h with hs | hs
  · obtain ⟨its, rv, pl, _⟩ := I.list hs
    have hn : its.toArray.size = bs.length := by rw [List.size_toArray, ← rv.length, t.len]
    refine iter_any pl.isList fun s₂ e2 st hne => ?_
    refine ⟨_, _, _, _, _, _, _, rfl, Walks.list (A := X.A.in1) (I.ok.hd hc) _ a hne its.toArray, by rw [e2] at st ⊢; exact st, truth_of rv t, ?_⟩
    rw [hn]
    exact back e2
  · obtain ⟨its, rv, pl, _⟩ := I.tuple hs
    have hn : its.toArray.size = bs.length := by rw [List.size_toArray, ← rv.length, t.len]
    have pt : s.heap.IsTuple a its.toArray := pl
    have lt : a < s.heap.objs.size := by obtain ⟨_, e, _⟩ := id pt; exact Heap.lt_size e
    refine wpAny_pyIter_tuple pt ?_
    refine ⟨_, _, _, _, _, _, _, rfl, Walks.tuple (A := X.A.in1) (I.ok.hd hc) _ a (Nat.ne_of_lt lt) its.toArray, ⟨⟨_, Heap.get?_push_size _ rfl, rfl, rfl⟩, pt.at fun o g => Heap.get?_push_of_some _ g⟩, truth_of rv t, ?_⟩
    rw [hn]
    exact back rfl
theorem cr_anyT (hc : X.calm = true) : CallR X (.builtin "any") (rTr X.K (·.any id)) := by
  rintro pins s σ H vs us Q I r ⟨a, ws, bs, rfl, hs, t, q⟩
  rw [Vals.ref1 r]
  refine call_any_walk (walk_tr hc I hs t (f := fun l p => l.any p) fun s' I' => ?_)
  refine ⟨.bl _, H, I', ?_, q⟩
  exact congrArg Value.bool (L2.any_range bs)
theorem cr_allT (hc : X.calm = true) : CallR X (.builtin "all") (rTr X.K (·.all id)) := by
  rintro pins s σ H vs us Q I r ⟨a, ws, bs, rfl, hs, t, q⟩
  rw [Vals.ref1 r]
  refine call_all_walk (walk_tr hc I hs t (f := fun l p => l.all p) fun s' I' => ?_)
  refine ⟨.bl _, H, I', ?_, q⟩
  exact congrArg Value.bool (L2.all_range bs)
end
section
variable {g : Gm} {l : Lc}
def trP : PV → Option Bool
  | .bl b => some b
  | .int i => some (i != 0)
  | .non => some false
  | _ => none
def trPs : List PV → Option (List Bool)
  | [] => some []
  | x :: xs => match trP x, trPs xs with
    | some b, some bs => some (b :: bs)
    | _, _ => none
theorem trPs_ok {F : Hp} : ∀ {xs : List PV} {ws : List V} {bs : List Bool}, RepVs g.K g.T F xs ws → trPs xs = some bs → TrVs ws bs
  | [], ws, bs, r, e => by
    cases (show ws = [] from r)
    simp only [trPs] at e
    injection e with e
    exact e.symm
  | x :: xs, ws, bs, ⟨y, ys, q, r, t⟩, e => by
    subst q
    unfold trPs at e
    cases q1 : trP x with
    | none => rw [q1] at e; cases e
    | some b =>
      cases q2 : trPs xs with
      | none => rw [q1, q2] at e; cases e
      | some cs =>
        rw [q1, q2] at e
        injection e with e
        subst e
        refine ⟨b, cs, rfl, ?_, trPs_ok t q2⟩
        cases x with
        | bl c => cases q1; exact .inl r
        | int i => cases q1; exact .inr (.inl ⟨i, r, rfl⟩)
        | non => cases q1; exact .inr (.inr ⟨r, rfl⟩)
        | str _ => cases q1
        | tup _ => cases q1
        | lst _ => cases q1
        | ref _ => cases q1
        | obj _ _ => cases q1
def cTr (f : List Bool → Bool) : List PV → Store → Res PV := fun vs st => match vs with
  | [v] => match seqOf v st with
    | some (_, xs) => match trPs xs with
      | some bs => .ok (.bl (f bs)) st
      | none => .stuck 161
    | none => .stuck 162
  | _ => .stuck 163
theorem fn_tr (f : List Bool → Bool) : Fn g (rTr g.K f) (cTr f) := fun vs st κ H xs W σ Q s r h => by
  unfold cTr at h
  split at h
  · rename_i v
    obtain ⟨x, rfl, r1⟩ := rxs1 r
    split at h
    · rename_i b ys e
      obtain ⟨a, ws, rfl, q1, q2⟩ := seq_rep s r1 e
      split at h
      · rename_i bs e2
        refine ⟨a, ws, bs, rfl, ?_, trPs_ok q2 e2, Run.ret s h rfl⟩
        cases b with
        | true => exact .inl q1
        | false => exact .inr q1
      · exact h.elim
    · exact h.elim
  · exact h.elim
abbrev cAny := cTr (·.any id)
abbrev cAll := cTr (·.all id)
theorem boot_any' : bootBuiltins "any" = some (.builtin "any") := by decide +kernel
theorem boot_all' : bootBuiltins "all" = some (.builtin "all") := by decide +kernel
theorem c_any {e : Expr} {d : Den} {p pos : Pos} (B : Bl g) (h : glB l "any" = true) (he : ED g l d e) (hs : ∀ env, starEach [e] env = (false, eval e env) :: starEach [] env) : ED g l (dFn cAny (aCons d aNil)) (.Call (.Name "any" p) [e] [] pos) :=
  ed_callB (fun X J => J.k ▸ cr_anyT J.calm) (fn_tr _) (B.b h (by decide +kernel) boot_any') (ad_cons he ad_nil hs) (by decide) (by decide) hs (fun _ => rfl)
theorem c_all {e : Expr} {d : Den} {p pos : Pos} (B : Bl g) (h : glB l "all" = true) (he : ED g l d e) (hs : ∀ env, starEach [e] env = (false, eval e env) :: starEach [] env) : ED g l (dFn cAll (aCons d aNil)) (.Call (.Name "all" p) [e] [] pos) :=
  ed_callB (fun X J => J.k ▸ cr_allT J.calm) (fn_tr _) (B.b h (by decide +kernel) boot_all') (ad_cons he ad_nil hs) (by decide) (by decide) hs (fun _ => rfl)
end
end Wi

/-! Wi38: l.pop(i). -/
namespace Wi
open PySem L2
section
variable {g : Gm} {l : Lc}
theorem rep_erase {F : Hp} : ∀ {xs : List PV} {vs : List V} (j : Nat), RepVs g.K g.T F xs vs → RepVs g.K g.T F (xs.eraseIdx j) (vs.eraseIdx j)
  | [], vs, j, r => by cases (show vs = [] from r); simp [RepVs]
  | x :: xs, vs, 0, ⟨y, ys, q, r, t⟩ => by subst q; exact t
  | x :: xs, vs, j + 1, ⟨y, ys, q, r, t⟩ => by
    subst q
    rw [List.eraseIdx_cons_succ, List.eraseIdx_cons_succ]
    exact ⟨y, _, rfl, r, rep_erase j t⟩
def mPop : List PV → List PV → Store → Nat → Res PV := fun xs vs st k => match vs with
  | [.int i] => if decide (-9223372036854775808 ≤ i) && decide (i < 9223372036854775808) then (match seqIndex? i xs.length with
    | some j => (match xs[j]? with
      | some y => .ok y (st.set k (.lst (xs.eraseIdx j)))
      | none => .stuck 164)
    | none => .stuck 165) else .stuck 166
  | _ => .stuck 167
theorem ed_pop (tb : TbOk g) {o e : Expr} {apos cpos : Pos} {dO d : Den} (B : BmE o "pop" [e] cpos apos) (ho : ED g l dO o) (he : ED g l d e) (hs : ∀ env, starEach [e] env = (false, eval e env) :: starEach [] env) : ED g l (dLm mPop dO (aCons d aNil)) (.Call (.Attribute o "pop" apos) [e] [] cpos) := fun X W J tk =>
  PE.imp (pe_bm PySem.F.plainAttrs_list PySem.F.slot_list_pop PySem.F.type_list_pop mt_popAt (ho X W J tk) (ad_cons he ad_nil hs X W J tk) (B.base _) (B.few _) B.line (hs _) rfl) fun σ H Q h => by
    rw [J.k]
    refine run_lm (fun xs vs st κ H k a ws ys W σ Q s e hk ha r rx q => ?_) h
    unfold mPop at q
    split at q
    · rename_i i
      obtain ⟨y, rfl, r1⟩ := rxs1 rx
      cases (show y = .int i from r1)
      by_cases c : (decide (-9223372036854775808 ≤ i) && decide (i < 9223372036854775808)) = true
      · rw [if_pos c] at q
        rw [Bool.and_eq_true] at c
        split at q
        · rename_i j hj
          split at q
          · rename_i v hv
            obtain ⟨w, g1, g2⟩ := r.get hv
            have x := cell_upd tb s e hk (rep_erase j r)
            rw [r.length] at hj
            exact ⟨a, ws, i, j, w, rfl, rfl, ha, by have := of_decide_eq_true c.1; omega, by have := of_decide_eq_true c.2; omega, hj, g1, q _ _ _ x (RepX.ofV (g2.mono x.same))⟩
          · exact q.elim
        · exact q.elim
      · rw [if_neg c] at q
        exact q.elim
    · exact q.elim
end
end Wi

namespace Wi
open PySem L2
def b__law_state : DenS :=
 (sSeq (sSet 1 (dC (.int 0)))
 (sSeq (sSet 2 (dC (.int 1)))
 (sSeq (sFor (iSeq (dCut (dVar 0) oNo (oSome (dC (.int 63))))) (gN 3)
 (sSeq (sSet 1 (dOp2 oAdd (dOp2 (opInt fMul) (dVar 1) (dC (.int 1000003))) (dFn cAbs (aCons (dVar 3) aNil))))
 (sSet 2 (dOp2 (opInt fMod) (dFn cInt (aCons (dOp2 oAdd (dOp2 (opInt fMul) (dVar 2) (dC (.int 48271))) (dVar 3)) aNil)) (dC (.int 2147483647))))))
 (sRet (dNew (lDisp (aCons (dVar 1) (aCons (dVar 2) aNil))))))))
def f__law_state : FnS := mkFn 4 b__law_state
def b__law_take : DenS :=
 (sSeq (sIf (dB (dOp2 (opInt fGt) (dOp2 oIx (dVar 0) (dC (.int 0))) (dC (.int 0))))
 (sSeq (sSet 2 (dOp2 (opInt fMod) (dFn cInt (aCons (dOp2 oIx (dVar 0) (dC (.int 0))) aNil)) (dVar 1)))
 (sSeq (sAsg (dOp2 (opInt fDiv) (dOp2 oIx (dVar 0) (dC (.int 0))) (dVar 1)) (gSubD (dVar 0) (dC (.int 0))))
 (sRet (dVar 2))))
 sSkip)
 (sSeq (sAsg (dOp2 (opInt fMod) (dFn cInt (aCons (dOp2 oAdd (dOp2 (opInt fMul) (dOp2 oIx (dVar 0) (dC (.int 1))) (dC (.int 48271))) (dC (.int 11))) aNil)) (dC (.int 2147483647))) (gSubD (dVar 0) (dC (.int 1))))
 (sRet (dOp2 (opInt fMod) (dFn cInt (aCons (dOp2 (opInt fDiv) (dOp2 oIx (dVar 0) (dC (.int 1))) (dC (.int 7))) aNil)) (dVar 1)))))
def f__law_take : FnS := mkFn 3 b__law_take

theorem small_k {j : Int} (h : smallB j = true) (i : Int) : fMul i j = some (.int (i * j)) := by unfold fMul; rw [h, Bool.or_true, Bool.true_or, if_pos rfl]
theorem fMod_pos {j : Int} (h : 0 < j) (i : Int) : fMod i j = some (.int (i % j)) := by unfold fMod; rw [if_pos (by simpa using h)]
theorem log_small {j : Int} (h : 0 < j) (h2 : j < 1073741824) : j.natAbs.log2 < 9000 := by
  have h3 : (2 : Nat) ^ 30 = 1073741824 := by decide
  have := PySem.Flt.log2_lt_of (n := j.natAbs) (k := 30) (by decide) (by omega)
  omega
theorem fDiv_pos {j : Int} (h : 0 < j) (h2 : j < 1073741824) (i : Int) : fDiv i j = some (.int (i / j)) := by unfold fDiv; rw [if_pos (by simp [h, log_small h h2])]
theorem state_turn (a : Option PV) (ns : List Int) (st : Store) : ∀ (s t : Int) (c : Option PV), 0 ≤ s → 0 ≤ t → ∃ s' t' c', 0 ≤ s' ∧ 0 ≤ t' ∧
    forL (gN 3) (sSeq (sSet 1 (dOp2 oAdd (dOp2 (opInt fMul) (dVar 1) (dC (.int 1000003))) (dFn cAbs (aCons (dVar 3) aNil))))
 (sSet 2 (dOp2 (opInt fMod) (dFn cInt (aCons (dOp2 oAdd (dOp2 (opInt fMul) (dVar 2) (dC (.int 48271))) (dVar 3)) aNil)) (dC (.int 2147483647))))) (ns.map PV.int) [a, some (.int s), some (.int t), c] st = .nx [a, some (.int s'), some (.int t'), c'] st := by
  induction ns with
  | nil => intro s t c h1 h2; exact ⟨s, t, c, h1, h2, rfl⟩
  | cons n ns ih =>
    intro s t c h1 h2
    obtain ⟨s', t', c', q1, q2, q3⟩ := ih (s * 1000003 + (if n < 0 then -n else n)) ((t * 48271 + n) % 2147483647) (some (.int n)) (by split <;> omega) (by omega)
    refine ⟨s', t', c', q1, q2, ?_⟩
    rw [← q3]
    simp [forL, gN, sSeq, sSet, dOp2, dVar, dC, dFn, aCons, aNil, Res.bind, Res.thenS, norm, opInt, cAbs, cInt, oAdd, isI, fAdd, small_k (show smallB 1000003 = true by decide), small_k (show smallB 48271 = true by decide), fMod_pos (show (0 : Int) < 2147483647 by decide)]
theorem cut_63 (xs : List PV) (h : xs.length ≤ 63) : cutP xs none (some 63) = xs := by
  unfold cutP
  rw [HT.sIx_none]
  have : HT.sIx xs.length xs.length (some 63) = xs.length := by
    rw [show (63 : Int) = ((63 : Nat) : Int) from rfl, HT.sIx_nat]
    omega
  rw [this, List.drop_zero, Nat.sub_zero, List.take_length]
theorem law_state_ok (ns : List Int) (hl : ns.length ≤ 63) (st : Store) : ∃ s t : Int, 0 ≤ s ∧ 0 ≤ t ∧ f__law_state [.lst (ns.map PV.int)] st = .ok (.ref st.length) (st ++ [.lst [.int s, .int t]]) := by
  obtain ⟨s, t, c, h1, h2, h3⟩ := state_turn (some (.lst (ns.map PV.int))) ns st 0 1 none (by decide) (by decide)
  refine ⟨s, t, h1, h2, ?_⟩
  have hc := cut_63 (ns.map PV.int) (by simpa using hl)
  simp only [f__law_state, mkFn, b__law_state, startP]
  simp [sSeq, sSet, sFor, iSeq, dFreeze, frzV, dCut, oNo, oSome, seqOf, dVar, dC, Res.bind, Res.thenS, norm, hc, List.replicate] 
  rw [h3]
  simp [sRet, dNew, lDisp, aCons, aNil, dVar, norm, Res.bind, Res.thenS, isTree, lineB, retV]
/-- the state of the draws lies in the cell k -/
structure StAt (st : Store) (k : Nat) (s t : Int) : Prop where
  at_ : st[k]? = some (.lst [.int s, .int t])
  s0 : 0 ≤ s
  t0 : 0 ≤ t
theorem law_take_ok {st : Store} {k : Nat} {s t : Int} (h : StAt st k s t) {m : Int} (h1 : 0 < m) (h2 : m < 1073741824) :
    ∃ v s' t' : Int, 0 ≤ v ∧ v < m ∧ StAt (st.set k (.lst [.int s', .int t'])) k s' t' ∧ f__law_take [.ref k, .int m] st = .ok (.int v) (st.set k (.lst [.int s', .int t'])) := by
  obtain ⟨e, hs, ht⟩ := h
  have hk : k < st.length := (List.getElem?_eq_some_iff.mp e).1
  have at2 : ∀ c : Cell, (st.set k c)[k]? = some c := fun c => by rw [List.getElem?_set_self hk]
  have e0 : ∀ (u : Int), (st.set k (.lst [.int s, .int u]))[k]? = some (.lst [.int s, .int u]) := fun u => at2 _
  by_cases c : 0 < s
  · refine ⟨s % m, s / m, t, Int.emod_nonneg _ (by omega), Int.emod_lt_of_pos _ h1, ⟨at2 _, Int.ediv_nonneg hs (by omega), ht⟩, ?_⟩
    simp [f__law_take, mkFn, b__law_take, startP, sSeq, sIf, dB, dOp2, dVar, dC, Res.bind, Res.thenS, norm, oIx, seqOf, e, atI, ixN, opInt, fGt, c, sSet, dFn, cInt, aCons, aNil, fMod_pos h1, sAsg, fDiv_pos h1 h2, gSubD, isTree, sRet, retV, List.take_of_length_le]
  · have hs0 : s = 0 := by omega
    subst hs0
    refine ⟨(t * 48271 + 11) % 2147483647 / 7 % m, 0, (t * 48271 + 11) % 2147483647, Int.emod_nonneg _ (by omega), Int.emod_lt_of_pos _ h1, ⟨at2 _, by omega, by omega⟩, ?_⟩
    simp [f__law_take, mkFn, b__law_take, startP, sSeq, sIf, dB, dOp2, dVar, dC, Res.bind, Res.thenS, norm, oIx, seqOf, e, atI, ixN, opInt, fGt, sSkip, sSet, dFn, cInt, aCons, aNil, fMod_pos h1, sAsg, fDiv_pos (show (0 : Int) < 7 by decide) (by decide), fMod_pos (show (0 : Int) < 2147483647 by decide), small_k (show smallB 48271 = true by decide), oAdd, isI, fAdd, gSubD, isTree, sRet, retV, List.take_of_length_le, at2]
end Wi
namespace Wi
open PySem L2
theorem fDiv_mid {j : Int} (h : 0 < j) (h2 : j < 1073741824 * 1073741824) (i : Int) : fDiv i j = some (.int (i / j)) := by
  have h3 : (2 : Nat) ^ 60 = 1073741824 * 1073741824 := by decide
  have := PySem.Flt.log2_lt_of (n := j.natAbs) (k := 60) (by decide) (by omega)
  unfold fDiv
  rw [if_pos (by rw [Bool.and_eq_true, decide_eq_true_eq, decide_eq_true_eq]; omega)]
theorem op_div {i j : Int} (h : 0 < j) (h2 : j < 1073741824 * 1073741824) (st : Store) : opInt fDiv (.int i) (.int j) st = .ok (.int (i / j)) st := by unfold opInt; simp only [fDiv_mid h h2]
theorem op_mod {i j : Int} (h : 0 < j) (st : Store) : opInt fMod (.int i) (.int j) st = .ok (.int (i % j)) st := by unfold opInt; simp only [fMod_pos h]
theorem op_mul_l {i : Int} (h : smallB i = true) (j : Int) (st : Store) : opInt fMul (.int i) (.int j) st = .ok (.int (i * j)) st := by unfold opInt; simp only [fMul_l h]
theorem op_mul_r {j : Int} (h : smallB j = true) (i : Int) (st : Store) : opInt fMul (.int i) (.int j) st = .ok (.int (i * j)) st := by unfold opInt; simp only [fMul_r h]
theorem pow2_lt {i : Nat} (h : i < 60) : (2 : Int) ^ i < 1073741824 * 1073741824 := by
  have : (2 : Nat) ^ i ≤ 2 ^ 59 := Nat.pow_le_pow_right (by decide) (by omega)
  have h3 : ((2 ^ i : Nat) : Int) = (2 : Int) ^ i := by simp
  rw [← h3]
  have h4 : (2 : Nat) ^ 59 < 1073741824 * 1073741824 := by decide
  omega
end Wi

namespace Wi
open PySem L2
def b__law_power : DenS :=
 (sSeq (sSet 2 (dC (.int 1)))
 (sSeq (sFor (iRng (dVar 1)) (gN 3)
 (sSet 2 (dOp2 (opInt fMul) (dVar 2) (dVar 0))))
 (sRet (dVar 2))))
def f__law_power : FnS := mkFn 4 b__law_power
def b_power : DenS :=
 (sSeq (sSet 2 (dC (.int 1)))
 (sSeq (sWhile (dB (dOp2 (opInt fGt) (dVar 1) (dC (.int 0))))
 (sSeq (sIf (dB (dOp2 oEq (dOp2 (opInt fMod) (dVar 1) (dC (.int 2))) (dC (.int 1))))
 (sSet 2 (dOp2 (opInt fMul) (dVar 2) (dVar 0)))
 sSkip)
 (sSeq (sSet 0 (dOp2 (opInt fMul) (dVar 0) (dVar 0)))
 (sSet 1 (dOp2 (opInt fDiv) (dVar 1) (dC (.int 2)))))))
 (sRet (dVar 2))))
def f_power : FnS := mkFn 3 b_power
def b_is_integer : DenS :=
 (sRet (dAndV (dIsi "int" (dVar 0)) (dNotV (dIsi "bool" (dVar 0)))))
def f_is_integer : FnS := mkFn 1 b_is_integer
def b_gauss : DenS :=
 (sSeq (sIf (tOrD (dB (dOp2 (opInt fLt) (dVar 1) (dC (.int 0)))) (dB (dOp2 (opInt fGt) (dVar 1) (dVar 0))))
 (sRet (dC (.int 0)))
 sSkip)
 (sSeq (sSet 3 (dC (.int 1)))
 (sSeq (sFor (Wi.iRng2 (aCons (dC (.int 1)) (aCons (dOp2 oAdd (dVar 1) (dC (.int 1))) aNil))) (gN 4)
 (sSet 3 (dOp2 (opInt fDiv) (dOp2 (opInt fMul) (dVar 3) (dOp2 (opInt fSub) (dCall 2 f_power (aCons (dVar 2) (aCons (dOp2 oAdd (dOp2 (opInt fSub) (dVar 0) (dVar 4)) (dC (.int 1))) aNil))) (dC (.int 1)))) (dOp2 (opInt fSub) (dCall 2 f_power (aCons (dVar 2) (aCons (dVar 4) aNil))) (dC (.int 1))))))
 (sRet (dVar 3)))))
def f_gauss : FnS := mkFn 5 b_gauss
def b_invertible_count : DenS :=
 (sSeq (sSet 2 (dCall 2 f_power (aCons (dVar 1) (aCons (dVar 0) aNil))))
 (sSeq (sSet 3 (dC (.int 1)))
 (sSeq (sFor (iRng (dVar 0)) (gN 4)
 (sSet 3 (dOp2 (opInt fMul) (dVar 3) (dOp2 (opInt fSub) (dVar 2) (dCall 2 f_power (aCons (dVar 1) (aCons (dVar 4) aNil)))))))
 (sRet (dVar 3)))))
def f_invertible_count : FnS := mkFn 5 b_invertible_count
def b__law_prime : DenS :=
 (sRet (dOp2 oIx (dFrz (lDisp (aCons (dC (.int 2)) (aCons (dC (.int 3)) (aCons (dC (.int 2)) (aCons (dC (.int 5)) (aCons (dC (.int 7)) (aCons (dC (.int 3)) aNil)))))))) (dIndex (dFrz (lDisp (aCons (dC (.int 2)) (aCons (dC (.int 3)) (aCons (dC (.int 4)) (aCons (dC (.int 5)) (aCons (dC (.int 7)) (aCons (dC (.int 9)) aNil)))))))) (dVar 0))))
def f__law_prime : FnS := mkFn 1 b__law_prime
def b__law_joined : DenS :=
 (sSeq (sSet 3 (dCall 1 f__law_prime (aCons (dVar 0) aNil)))
 (sSeq (sIf (dB (dOp2 oEq (dVar 3) (dVar 0)))
 (sRet (dOp2 (opInt fMod) (dFn cInt (aCons (dVar 1) aNil)) (dVar 3)))
 sSkip)
 (sRet (dOp2 oAdd (dOp2 (opInt fMod) (dFn cInt (aCons (dVar 1) aNil)) (dVar 3)) (dOp2 (opInt fMul) (dVar 3) (dOp2 (opInt fMod) (dFn cInt (aCons (dVar 2) aNil)) (dVar 3)))))))
def f__law_joined : FnS := mkFn 4 b__law_joined
def b__law_field : DenS :=
 (sSeq (sSet 1 (dCall 1 f__law_prime (aCons (dVar 0) aNil)))
 (sSeq (sSet 2 (dNew (lDisp aNil)))
 (sSeq (sSet 3 (dNew (lDisp aNil)))
 (sSeq (sFor (iRng (dVar 0)) (gN 4)
 (sSeq (sSet 5 (dNew (lDisp aNil)))
 (sSeq (sSet 6 (dNew (lDisp aNil)))
 (sSeq (sFor (iRng (dVar 0)) (gN 7)
 (sSeq (sAsg (dTup (aCons (dOp2 (opInt fMod) (dFn cInt (aCons (dVar 4) aNil)) (dVar 1)) (aCons (dOp2 (opInt fDiv) (dVar 4) (dVar 1)) (aCons (dOp2 (opInt fMod) (dFn cInt (aCons (dVar 7) aNil)) (dVar 1)) (aCons (dOp2 (opInt fDiv) (dVar 7) (dVar 1)) aNil))))) (gTupD 4 (gsCons (gN 9) (gsCons (gN 10) (gsCons (gN 11) (gsCons (gN 12) gsNil))))))
 (sSeq (sExpr (dLm mAppend (dVar 5) (aCons (dCall 3 f__law_joined (aCons (dVar 0) (aCons (dOp2 oAdd (dVar 9) (dVar 11)) (aCons (dOp2 oAdd (dVar 10) (dVar 12)) aNil)))) aNil)))
 (sSeq (sSet 8 (dOp2 oAdd (dOp2 (opInt fMul) (dVar 9) (dVar 12)) (dOp2 (opInt fMul) (dVar 10) (dVar 11))))
 (sIf (dB (dOp2 oEq (dVar 0) (dC (.int 4))))
 (sExpr (dLm mAppend (dVar 6) (aCons (dCall 3 f__law_joined (aCons (dVar 0) (aCons (dOp2 oAdd (dOp2 (opInt fMul) (dVar 9) (dVar 11)) (dOp2 (opInt fMul) (dVar 10) (dVar 12))) (aCons (dOp2 oAdd (dVar 8) (dOp2 (opInt fMul) (dVar 10) (dVar 12))) aNil)))) aNil)))
 (sIf (dB (dOp2 oEq (dVar 0) (dC (.int 9))))
 (sExpr (dLm mAppend (dVar 6) (aCons (dCall 3 f__law_joined (aCons (dVar 0) (aCons (dOp2 oAdd (dOp2 (opInt fMul) (dVar 9) (dVar 11)) (dOp2 (opInt fMul) (dOp2 (opInt fMul) (dC (.int 2)) (dVar 10)) (dVar 12))) (aCons (dVar 8) aNil)))) aNil)))
 (sExpr (dLm mAppend (dVar 6) (aCons (dOp2 (opInt fMod) (dFn cInt (aCons (dOp2 (opInt fMul) (dVar 4) (dVar 7)) aNil)) (dVar 0)) aNil)))))))))
 (sSeq (sExpr (dLm mAppend (dVar 2) (aCons (dFreeze (dVar 5)) aNil)))
 (sExpr (dLm mAppend (dVar 3) (aCons (dFreeze (dVar 6)) aNil))))))))
 (sRet (dTup (aCons (dVar 0) (aCons (dFreeze (dVar 2)) (aCons (dFreeze (dVar 3)) aNil)))))))))
def f__law_field : FnS := mkFn 13 b__law_field
def b__law_sum : DenS :=
 (sRet (dFn cTup (aCons (dFrz (lComp (iRng (dFn cLen (aCons (dVar 1) aNil))) (.n 3) tYesD (dOp2 oIx (dOp2 oIx (dOp2 oIx (dVar 0) (dC (.int 1))) (dOp2 oIx (dVar 1) (dVar 3))) (dOp2 oIx (dVar 2) (dVar 3))) [3])) aNil)))
def f__law_sum : FnS := mkFn 4 b__law_sum
def b__law_times : DenS :=
 (sRet (dFn cTup (aCons (dFrz (lComp (iSeq (dVar 1)) (.n 3) tYesD (dOp2 oIx (dOp2 oIx (dOp2 oIx (dVar 0) (dC (.int 2))) (dVar 3)) (dVar 2)) [3])) aNil)))
def f__law_times : FnS := mkFn 4 b__law_times
def b__law_rows : DenS :=
 (sSeq (sSet 2 (dFrz (lDisp (aCons (dTup aNil) aNil))))
 (sSeq (sFor (iRng (dVar 1)) (gN 3)
 (sSeq (sSet 4 (dFrz (lDisp aNil)))
 (sSeq (sFor (iSeq (dVar 2)) (gN 5)
 (sSet 4 (dFrz (lCat (dVar 4) (dFrz (lComp (iRng (dOp2 oIx (dVar 0) (dC (.int 0)))) (.n 6) tYesD (dOp2 oAdd (dVar 5) (dTup (aCons (dVar 6) aNil))) [6]))))))
 (sSet 2 (dFrz (lList (dVar 4)))))))
 (sRet (dVar 2))))
def f__law_rows : FnS := mkFn 7 b__law_rows
def b__law_spanned : DenS :=
 (sSeq (sSet 3 (dFrz (lDisp (aCons (dFn cTup (aCons (dFrz (lComp (iRng (dVar 2)) (.n 7) tYesD (dC (.int 0)) [7])) aNil)) aNil))))
 (sSeq (sFor (iSeq (dVar 1)) (gN 4)
 (sIf (dB (dOp2 (oIn true) (dVar 4) (dVar 3)))
 (sSeq (sSet 5 (dFrz (lDisp aNil)))
 (sSeq (sFor (iSeq (dVar 3)) (gN 6)
 (sSet 5 (dFrz (lCat (dVar 5) (dFrz (lComp (iRng (dOp2 oIx (dVar 0) (dC (.int 0)))) (.n 8) tYesD (dCall 3 f__law_sum (aCons (dVar 0) (aCons (dVar 6) (aCons (dCall 3 f__law_times (aCons (dVar 0) (aCons (dVar 4) (aCons (dVar 8) aNil)))) aNil)))) [8]))))))
 (sSet 3 (dFrz (lList (dVar 5))))))
 sSkip))
 (sRet (dVar 3))))
def f__law_spanned : FnS := mkFn 9 b__law_spanned
def b__law_is_free : DenS :=
 (sSeq (sSet 3 (dC (.int 1)))
 (sSeq (sFor (iSeq (dVar 1)) (gN 4)
 (sSet 3 (dOp2 (opInt fMul) (dVar 3) (dOp2 oIx (dVar 0) (dC (.int 0))))))
 (sRet (dOp2 oEq (dFn cLen (aCons (dCall 3 f__law_spanned (aCons (dVar 0) (aCons (dVar 1) (aCons (dVar 2) aNil)))) aNil)) (dVar 3)))))
def f__law_is_free : FnS := mkFn 5 b__law_is_free
def b__law_tables : DenS :=
 (sSeq (sSet 3 (dC (.int 0)))
 (sSeq (sFor (iRng (dCall 2 f__law_power (aCons (dC (.int 2)) (aCons (dVar 0) aNil)))) (gN 4)
 (sSeq (sSet 5 (dFrz (lComp (iRng (dVar 0)) (.n 8) (dB (dOp2 oEq (dOp2 (opInt fMod) (dOp2 (opInt fDiv) (dVar 4) (dCall 2 f__law_power (aCons (dC (.int 2)) (aCons (dVar 8) aNil)))) (dC (.int 2))) (dC (.int 1)))) (dVar 8) [8])))
 (sIf (dB (dOp2 oEq (dFn cLen (aCons (dVar 5) aNil)) (dVar 1)))
 (sSeq (sSet 6 (dC (.int 0)))
 (sSeq (sFor (iSeq (dVar 5)) (gN 7)
 (sSet 6 (dOp2 oAdd (dVar 6) (dFn cLen (aCons (dFrz (lComp (Wi.iRng2 (aCons (dVar 7) (aCons (dVar 0) aNil))) (.n 8) (dB (dOp2 (oIn true) (dVar 8) (dVar 5))) (dVar 8) [8])) aNil)))))
 (sSet 3 (dOp2 oAdd (dVar 3) (dCall 2 f__law_power (aCons (dVar 2) (aCons (dVar 6) aNil)))))))
 sSkip)))
 (sRet (dVar 3))))
def f__law_tables : FnS := mkFn 9 b__law_tables
def b__law_walked : DenS :=
 (sSeq (sSet 2 (dCall 1 f__law_field (aCons (dVar 0) aNil)))
 (sSeq (sSet 3 (dFrz (lDisp (aCons (dTup aNil) aNil))))
 (sSeq (sSet 4 (dCall 2 f__law_rows (aCons (dVar 2) (aCons (dVar 1) aNil))))
 (sSeq (sFor (iRng (dVar 1)) (gN 5)
 (sSeq (sSet 6 (dFrz (lDisp aNil)))
 (sSeq (sFor (iSeq (dVar 3)) (gN 7)
 (sSet 6 (dFrz (lCat (dVar 6) (dFrz (lComp (iSeq (dVar 4)) (.n 9) tYesD (dOp2 oAdd (dVar 7) (dTup (aCons (dVar 9) aNil))) [9]))))))
 (sSet 3 (dFrz (lList (dVar 6)))))))
 (sRet (dFn cLen (aCons (dFrz (lComp (iSeq (dVar 3)) (.n 8) (dTru (dCall 3 f__law_is_free (aCons (dVar 2) (aCons (dVar 8) (aCons (dVar 1) aNil))))) (dVar 8) [8])) aNil)))))))
def f__law_walked : FnS := mkFn 10 b__law_walked
end Wi

namespace Wi
open PySem L2
theorem lp1 (a : Int) (ha : smallB a = true) (k : Nat) (st : Store) : ∃ ρ', forL (gN 3) (sSet 2 (dOp2 (opInt fMul) (dVar 2) (dVar 0))) (ups 0 k) [some (.int a), some (.int (k : Nat)), some (.int 1), none] st = .nx ρ' st ∧ ∃ c, ρ' = [some (.int a), some (.int (k : Nat)), some (.int (a ^ k)), c] := by
  have := for_nx (b := sSet 2 (dOp2 (opInt fMul) (dVar 2) (dVar 0))) (i := 3) (st := st) (fun xs ρ => ∃ c t, ρ = [some (.int a), some (.int (k : Nat)), some (.int t), c] ∧ t * a ^ xs.length = a ^ k) (by
    rintro x xs ρ ⟨c, t, rfl, e⟩
    refine ⟨_, .inl ?_, some x, t * a, rfl, by rw [← e, List.length_cons, Int.pow_succ']; grind⟩
    simp [sSet, dOp2, dVar, Res.bind, Res.thenS, norm, opInt, fMul_r ha]) (ups 0 k) [some (.int a), some (.int (k : Nat)), some (.int 1), none] ⟨none, 1, rfl, by simp [ups]⟩
  obtain ⟨ρ', e, c, t, rfl, e2⟩ := this
  simp only [List.length_nil, Int.pow_zero, Int.mul_one] at e2
  subst e2
  exact ⟨_, e, c, rfl⟩
theorem law_power_ok (a : Int) (ha : smallB a = true) (k : Nat) (hk : k < 4611686018427387904) (st : Store) : f__law_power [.int a, .int (k : Nat)] st = .ok (.int (a ^ k)) st := by
  obtain ⟨ρ', e, c, rfl⟩ := lp1 a ha k st
  refine mkFn_ok0 ?_ rfl
  refine (sSeq_nx (sSet_ok rfl)).trans ((sSeq_nx ((sFor_ok (iRng_nat (n := k) rfl hk)).trans e)).trans (sRet_ok rfl))
/-! ### the tables, plainly -/
def piv (n b : Nat) : List Nat := (List.range' 0 n).filter fun i => b / 2 ^ i % 2 == 1
def fre (n : Nat) (p : List Nat) (i : Nat) : Nat := ((List.range' i (n - i)).filter fun j => !decide (j ∈ p)).length
def frees (n : Nat) (p : List Nat) (s : Nat) (ats : List Nat) : Nat := ats.foldl (fun s i => s + fre n p i) s
def tabs (n : Nat) (k q : Int) (t : Int) (bs : List Nat) : Int := bs.foldl (fun t b => if ((piv n b).length : Int) = k then t + q ^ frees n (piv n b) 0 (piv n b) else t) t
theorem pivots_ok {n b : Nat} (hn : n < 60) {ρ : Sl} {st : Store} (h0 : (wipeP ρ [8])[0]? = some (some (.int (n : Nat)))) (h4 : (wipeP ρ [8])[4]? = some (some (.int (b : Nat)))) (hl : ρ.length = 9) :
    (dFrz (lComp (iRng (dVar 0)) (.n 8) (dB (dOp2 oEq (dOp2 (opInt fMod) (dOp2 (opInt fDiv) (dVar 4) (dCall 2 f__law_power (aCons (dC (.int 2)) (aCons (dVar 8) aNil)))) (dC (.int 2))) (dC (.int 1)))) (dVar 8) [8])) ρ st = .ok (.lst (pns (piv n b))) st := by
  have hw : (wipeP ρ [8]).length = 9 := by simpa [wipeP] using hl
  have h0' : ρ[0]? = some (some (.int (n : Nat))) := by
    simp only [wipeP] at h0
    rw [List.getElem?_set_ne (by decide)] at h0
    exact h0
  unfold dFrz
  rw [comp_ok (xs := pns (List.range' 0 n)) (fun x => match x with | .int i => (b : Int) / 2 ^ i.toNat % 2 == 1 | _ => false) (fun x => x) ((iRng_nat h0' (by omega)).trans rfl) ?_ ?_ ?_ ?_]
  · rw [filter_pns (p := fun i => b / 2 ^ i % 2 == 1), map_id_pns]
    · rfl
    · intro i _
      show ((b : Int) / 2 ^ i % 2 == 1) = _
      rw [show (b : Int) / 2 ^ i % 2 = ((b / 2 ^ i % 2 : Nat) : Int) from by simp]
      by_cases h : b / 2 ^ i % 2 = 1
      · rw [h]; rfl
      · rw [beq_eq_false_iff_ne.mpr h, beq_eq_false_iff_ne.mpr (by omega)]
  · intro x hx st'
    obtain ⟨i, hi, rfl⟩ := mem_pns hx
    have hi2 : i < n := by simpa using hi
    have e4 : ((wipeP ρ [8]).set 8 (some (.int (i : Nat))))[4]? = some (some (.int (b : Nat))) := by rw [List.getElem?_set_ne (by decide)]; exact h4
    have e8 : ((wipeP ρ [8]).set 8 (some (.int (i : Nat))))[8]? = some (some (.int (i : Nat))) := List.getElem?_set_self (by omega)
    have d4 : dVar 4 ((wipeP ρ [8]).set 8 (some (.int (i : Nat)))) st' = .ok (.int (b : Nat)) st' := by unfold dVar; rw [e4]; rfl
    have d8 : dVar 8 ((wipeP ρ [8]).set 8 (some (.int (i : Nat)))) st' = .ok (.int (i : Nat)) st' := by unfold dVar; rw [e8]; rfl
    have hp0 : (0 : Int) < 2 ^ i := Int.pow_pos (by decide)
    have f1 := (dCall_ok (np := 2) (f := f__law_power) (a2_ok (dC_ok (.int 2) _ _) d8) rfl).trans (law_power_ok 2 (by decide) i (by omega) st')
    have f2 := dOp2_ok d4 f1 (op_div (i := (b : Nat)) hp0 (pow2_lt (by omega)) st')
    have f3 := dOp2_ok f2 (dC_ok (.int 2) _ _) (op_mod (by decide) st')
    exact dB_ok (dOp2_ok f3 (dC_ok (.int 1) _ _) ((eq_int _ _ _).trans rfl))
  · intro x hx _ st'
    unfold dVar
    rw [List.getElem?_set_self (by omega)]
    obtain ⟨i, hi, rfl⟩ := mem_pns hx
    rfl
  · intro x hx
    obtain ⟨i, hi, rfl⟩ := mem_pns hx
    rfl
  · rw [pns_len]; simp; omega
theorem rgP_nat (i m : Nat) : rgP (i : Nat) m = pns (List.range' i m) := by
  unfold rgP pns
  rw [List.range'_eq_map_range, List.map_map]
  exact List.map_congr_left fun a _ => by show PV.int _ = PV.int _; simp
theorem fre_ok {n i : Nat} {p : List Nat} (hn : n < 60) (hi : i ≤ n) {a b c d : Option PV} {f : Int} {x : Option PV} {st : Store} :
    sSet 6 (dOp2 oAdd (dVar 6) (dFn cLen (aCons (dFrz (lComp (Wi.iRng2 (aCons (dVar 7) (aCons (dVar 0) aNil))) (.n 8) (dB (dOp2 (oIn true) (dVar 8) (dVar 5))) (dVar 8) [8])) aNil)))
      [some (.int (n : Nat)), a, b, c, d, some (.lst (pns p)), some (.int f), some (.int (i : Nat)), x] st = .nx [some (.int (n : Nat)), a, b, c, d, some (.lst (pns p)), some (.int (f + (fre n p i : Nat))), some (.int (i : Nat)), x] st := by
  have e1 := comp_ok (i := Wi.iRng2 (aCons (dVar 7) (aCons (dVar 0) aNil))) (n := 8) (c := dB (dOp2 (oIn true) (dVar 8) (dVar 5))) (e := dVar 8) (own := [8]) (st := st)
    (ρ := [some (.int (n : Nat)), a, b, c, d, some (.lst (pns p)), some (.int f), some (.int (i : Nat)), x]) (xs := pns (List.range' i (n - i)))
    (fun x => match x with | .int j => !decide (j.toNat ∈ p) | _ => false) (fun x => x)
    ((iRng2_ok (a2_ok (dVar_ok rfl rfl) (dVar_ok rfl rfl)) (midB_nat (by omega)) (midB_nat (by omega))).trans (by rw [show ((n : Int) - (i : Int)).toNat = n - i from by omega, rgP_nat]))
    (fun x hx st' => by
      obtain ⟨j, hj, rfl⟩ := mem_pns hx
      exact dB_ok (dOp2_ok (dVar_ok rfl rfl) (dVar_ok rfl rfl) (in_ints true j p st')))
    (fun x hx _ st' => by
      obtain ⟨j, hj, rfl⟩ := mem_pns hx
      exact dVar_ok rfl rfl)
    (fun x hx => by
      obtain ⟨j, hj, rfl⟩ := mem_pns hx
      rfl) (by rw [pns_len]; simp; omega)
  rw [map_id_pns_of (filter_pns _ (fun j => !decide (j ∈ p)) _ fun j _ => rfl)] at e1
  refine (sSet_ok (dOp2_ok (dVar_ok rfl rfl) (dFn_ok (a1_ok (dFrz_ok e1)) (len_lst _ st)) rfl)).trans ?_
  rw [pns_len]
  rfl
theorem fres_ok {n : Nat} {p : List Nat} (hn : n < 60) {a b c d : Option PV} {x : Option PV} {st : Store} : ∀ (ats : List Nat) (f : Nat) (y : Option PV), (∀ i ∈ ats, i ≤ n) →
    ∃ y', forL (gN 7) (sSet 6 (dOp2 oAdd (dVar 6) (dFn cLen (aCons (dFrz (lComp (Wi.iRng2 (aCons (dVar 7) (aCons (dVar 0) aNil))) (.n 8) (dB (dOp2 (oIn true) (dVar 8) (dVar 5))) (dVar 8) [8])) aNil))))
      (pns ats) [some (.int (n : Nat)), a, b, c, d, some (.lst (pns p)), some (.int (f : Nat)), y, x] st = .nx [some (.int (n : Nat)), a, b, c, d, some (.lst (pns p)), some (.int (frees n p f ats : Nat)), y', x] st
  | [], f, y, _ => ⟨y, rfl⟩
  | i :: ats, f, y, h => by
    obtain ⟨y', e⟩ := fres_ok hn (a := a) (b := b) (c := c) (d := d) (x := x) (p := p) (st := st) ats (f + fre n p i) (some (.int (i : Nat))) (fun j hj => h j (List.mem_cons_of_mem _ hj))
    refine ⟨y', ?_⟩
    have e1 := fre_ok (p := p) (a := a) (b := b) (c := c) (d := d) (f := f) (x := x) (st := st) hn (h i List.mem_cons_self)
    rw [show ((f : Int) + (fre n p i : Nat)) = ((f + fre n p i : Nat) : Int) from by simp] at e1
    show forL (gN 7) _ (PV.int (i : Nat) :: pns ats) [some (.int (n : Nat)), a, b, c, d, some (.lst (pns p)), some (.int (f : Nat)), y, x] st = _
    rw [for_one (i := 7) (ρ := [some (.int (n : Nat)), a, b, c, d, some (.lst (pns p)), some (.int (f : Nat)), y, x]) (x := .int (i : Nat)) e1]
    exact e
theorem fre_le (n : Nat) (p : List Nat) (i : Nat) : fre n p i ≤ n := by
  unfold fre
  refine Nat.le_trans (List.length_filter_le _ _) ?_
  simp
theorem frees_le (n : Nat) (p : List Nat) : ∀ (ats : List Nat) (s : Nat), frees n p s ats ≤ s + n * ats.length
  | [], s => by simp [frees]
  | i :: ats, s => by
    have h1 := frees_le n p ats (s + fre n p i)
    have h2 := fre_le n p i
    show frees n p (s + fre n p i) ats ≤ _
    rw [List.length_cons, Nat.mul_succ]
    omega
theorem frees_lt {n : Nat} (hn : n < 60) (b : Nat) : frees n (piv n b) 0 (piv n b) < 4611686018427387904 := by
  have h1 := frees_le n (piv n b) (piv n b) 0
  have h2 : (piv n b).length ≤ n := Nat.le_trans (List.length_filter_le _ _) (by simp)
  have h3 : n * (piv n b).length ≤ 60 * 60 := Nat.mul_le_mul (by omega) (by omega)
  omega
theorem tabs_ok {n : Nat} {k q : Int} (hn : n < 60) (hq : smallB q = true) {st : Store} : ∀ (bs : List Nat) (t : Int) (x4 x5 x6 x7 x8 : Option PV),
    ∃ y4 y5 y6 y7 y8, forL (gN 4) (sSeq (sSet 5 (dFrz (lComp (iRng (dVar 0)) (.n 8) (dB (dOp2 oEq (dOp2 (opInt fMod) (dOp2 (opInt fDiv) (dVar 4) (dCall 2 f__law_power (aCons (dC (.int 2)) (aCons (dVar 8) aNil)))) (dC (.int 2))) (dC (.int 1)))) (dVar 8) [8])))
 (sIf (dB (dOp2 oEq (dFn cLen (aCons (dVar 5) aNil)) (dVar 1)))
 (sSeq (sSet 6 (dC (.int 0)))
 (sSeq (sFor (iSeq (dVar 5)) (gN 7)
 (sSet 6 (dOp2 oAdd (dVar 6) (dFn cLen (aCons (dFrz (lComp (Wi.iRng2 (aCons (dVar 7) (aCons (dVar 0) aNil))) (.n 8) (dB (dOp2 (oIn true) (dVar 8) (dVar 5))) (dVar 8) [8])) aNil)))))
 (sSet 3 (dOp2 oAdd (dVar 3) (dCall 2 f__law_power (aCons (dVar 2) (aCons (dVar 6) aNil)))))))
 sSkip)) (pns bs) [some (.int (n : Nat)), some (.int k), some (.int q), some (.int t), x4, x5, x6, x7, x8] st = .nx [some (.int (n : Nat)), some (.int k), some (.int q), some (.int (tabs n k q t bs)), y4, y5, y6, y7, y8] st
  | [], t, x4, x5, x6, x7, x8 => ⟨x4, x5, x6, x7, x8, rfl⟩
  | b :: bs, t, x4, x5, x6, x7, x8 => by
    have e1 := sSeq_nx (b := (sIf (dB (dOp2 oEq (dFn cLen (aCons (dVar 5) aNil)) (dVar 1)))
 (sSeq (sSet 6 (dC (.int 0)))
 (sSeq (sFor (iSeq (dVar 5)) (gN 7)
 (sSet 6 (dOp2 oAdd (dVar 6) (dFn cLen (aCons (dFrz (lComp (Wi.iRng2 (aCons (dVar 7) (aCons (dVar 0) aNil))) (.n 8) (dB (dOp2 (oIn true) (dVar 8) (dVar 5))) (dVar 8) [8])) aNil)))))
 (sSet 3 (dOp2 oAdd (dVar 3) (dCall 2 f__law_power (aCons (dVar 2) (aCons (dVar 6) aNil)))))))
 sSkip)) (sSet_ok (i := 5) (pivots_ok (n := n) (b := b) (st := st) (ρ := [some (.int (n : Nat)), some (.int k), some (.int q), some (.int t), some (.int (b : Nat)), x5, x6, x7, x8]) hn rfl rfl rfl))
    have c1 : dB (dOp2 oEq (dFn cLen (aCons (dVar 5) aNil)) (dVar 1)) [some (.int (n : Nat)), some (.int k), some (.int q), some (.int t), some (.int (b : Nat)), some (.lst (pns (piv n b))), x6, x7, x8] st = .ok (decide (((piv n b).length : Int) = k)) st :=
      dB_ok (dOp2_ok (dFn_ok (a1_ok (dVar_ok rfl rfl)) (len_lst _ st)) (dVar_ok rfl rfl) ((eq_int _ _ _).trans (by rw [pns_len])))
    by_cases hc : ((piv n b).length : Int) = k
    · obtain ⟨y7, e2⟩ := fres_ok hn (a := some (.int k)) (b := some (.int q)) (c := some (.int t)) (d := some (.int (b : Nat))) (x := x8) (p := piv n b) (st := st) (piv n b) 0 x7 (fun i hi => by have := (List.mem_filter.mp hi).1; simp at this; omega)
      have hf : frees n (piv n b) 0 (piv n b) < 4611686018427387904 := frees_lt hn _
      have e3 : sSet 3 (dOp2 oAdd (dVar 3) (dCall 2 f__law_power (aCons (dVar 2) (aCons (dVar 6) aNil)))) [some (.int (n : Nat)), some (.int k), some (.int q), some (.int t), some (.int (b : Nat)), some (.lst (pns (piv n b))), some (.int (frees n (piv n b) 0 (piv n b) : Nat)), y7, x8] st = .nx _ st :=
        sSet_ok (dOp2_ok (dVar_ok rfl rfl) ((dCall_ok (np := 2) (f := f__law_power) (a2_ok (dVar_ok rfl rfl) (dVar_ok rfl rfl)) rfl).trans (law_power_ok q hq _ hf st)) (show oAdd _ _ st = .ok (.int _) st from rfl))
      obtain ⟨y4, y5, y6, y7', y8, e4⟩ := tabs_ok hn hq (k := k) (st := st) bs (t + q ^ frees n (piv n b) 0 (piv n b)) (some (.int (b : Nat))) (some (.lst (pns (piv n b)))) (some (.int (frees n (piv n b) 0 (piv n b) : Nat))) y7 x8
      refine ⟨y4, y5, y6, y7', y8, ?_⟩
      show forL (gN 4) _ (PV.int (b : Nat) :: pns bs) _ st = _
      rw [for_one (i := 4) (ρ := [some (.int (n : Nat)), some (.int k), some (.int q), some (.int t), x4, x5, x6, x7, x8]) (x := .int (b : Nat)) (e1.trans ((sIf_ok c1).trans ((if_pos (decide_eq_true hc)).trans
        ((sSeq_nx (sSet_ok (dC_ok _ _ _))).trans ((sSeq_nx ((sFor_ok (iSeq_ok (dVar_ok rfl rfl))).trans e2)).trans e3)))))]
      rw [show tabs n k q t (b :: bs) = tabs n k q (t + q ^ frees n (piv n b) 0 (piv n b)) bs from by unfold tabs; rw [List.foldl_cons, if_pos hc]]
      exact e4
    · obtain ⟨y4, y5, y6, y7', y8, e4⟩ := tabs_ok hn hq (k := k) (st := st) bs t (some (.int (b : Nat))) (some (.lst (pns (piv n b)))) x6 x7 x8
      refine ⟨y4, y5, y6, y7', y8, ?_⟩
      show forL (gN 4) _ (PV.int (b : Nat) :: pns bs) _ st = _
      rw [for_one (i := 4) (ρ := [some (.int (n : Nat)), some (.int k), some (.int q), some (.int t), x4, x5, x6, x7, x8]) (x := .int (b : Nat)) (e1.trans ((sIf_ok c1).trans ((if_neg (by rw [decide_eq_false hc]; decide)).trans rfl)))]
      rw [show tabs n k q t (b :: bs) = tabs n k q t bs from by unfold tabs; rw [List.foldl_cons, if_neg hc]]
      exact e4
theorem law_tables_ok {n : Nat} {k q : Int} (hn : n < 60) (hq : smallB q = true) (st : Store) : f__law_tables [.int (n : Nat), .int k, .int q] st = .ok (.int (tabs n k q 0 (List.range' 0 (2 ^ n)))) st := by
  obtain ⟨y4, y5, y6, y7, y8, e⟩ := tabs_ok (k := k) (st := st) hn hq (List.range' 0 (2 ^ n)) 0 none none none none none
  refine mkFn_ok0 ?_ rfl
  have hp : ((2 ^ n : Nat) : Int) = (2 : Int) ^ n := by simp
  have hlt := pow2_lt hn
  have e1 : iRng (dCall 2 f__law_power (aCons (dC (.int 2)) (aCons (dVar 0) aNil))) [some (.int (n : Nat)), some (.int k), some (.int q), some (.int 0), none, none, none, none, none] st = .ok (pns (List.range' 0 (2 ^ n))) st := by
    refine (iRng_ok ((dCall_ok (np := 2) (f := f__law_power) (a2_ok (dC_ok _ _ _) (dVar_ok rfl rfl)) rfl).trans (law_power_ok 2 (by decide) n (by omega) st)) ?_).trans ?_
    · rw [← hp]; exact midB_nat (by omega)
    · rw [← hp, Int.toNat_natCast, rgP_up]; rfl
  refine (sSeq_nx (sSet_ok (dC_ok _ _ _))).trans ((sSeq_nx ((sFor_ok e1).trans e)).trans (sRet_ok (dVar_ok rfl rfl)))
end Wi

namespace Wi
open PySem L2
abbrev cPow : DenT := dB (dOp2 (opInt fGt) (dVar 1) (dC (.int 0)))
abbrev bPow : DenS :=
 (sSeq (sIf (dB (dOp2 oEq (dOp2 (opInt fMod) (dVar 1) (dC (.int 2))) (dC (.int 1))))
 (sSet 2 (dOp2 (opInt fMul) (dVar 2) (dVar 0)))
 sSkip)
 (sSeq (sSet 0 (dOp2 (opInt fMul) (dVar 0) (dVar 0)))
 (sSet 1 (dOp2 (opInt fDiv) (dVar 1) (dC (.int 2))))))
theorem pow_half (a : Int) (k : Nat) : (a * a) ^ (k / 2) = a ^ (2 * (k / 2)) := by
  generalize k / 2 = n
  induction n with
  | zero => simp
  | succ n ih => rw [Int.pow_succ, ih, Nat.mul_succ, Int.pow_add]; congr 1; rw [Int.pow_succ, Int.pow_succ, Int.pow_zero, Int.one_mul]
theorem power_turn {st : Store} (F C : Nat) (hC : C < 400000) : ∀ (N : Nat) (k : Nat) (r a : Int) (R m : Nat), k < 2 ^ N → r.natAbs ≤ 2 ^ R → a.natAbs ≤ 2 ^ m → R + m * k ≤ C →
    ∃ a', whileL cPow bPow (N + F + 1) [some (.int a), some (.int (k : Nat)), some (.int r)] st = .nx [some (.int a'), some (.int 0), some (.int (r * a ^ k))] st := by
  have stop : ∀ (M : Nat) (r a : Int), ∃ a', whileL cPow bPow (M + 1) [some (.int a), some (.int ((0 : Nat) : Int)), some (.int r)] st = .nx [some (.int a'), some (.int 0), some (.int (r * a ^ 0))] st := fun M r a =>
    ⟨a, (while_end (dB_ok rfl)).trans (by rw [Int.pow_zero, Int.mul_one]; rfl)⟩
  intro N
  induction N with
  | zero =>
    intro k r a R m hk _ _ _
    obtain rfl : k = 0 := by simpa using hk
    exact stop _ r a
  | succ N ih =>
    intro k r a R m hk hr ha hc
    by_cases k0 : k = 0
    · subst k0
      exact stop _ r a
    · have hk2 : k / 2 < 2 ^ N := by rw [Nat.pow_succ] at hk; omega
      have hm : m ≤ m * k := Nat.le_mul_of_pos_right _ (by omega)
      have haa : (a * a).natAbs ≤ 2 ^ (m + m) := by rw [Int.natAbs_mul, Nat.pow_add]; exact Nat.mul_le_mul ha ha
      have hdm : k = 2 * (k / 2) + k % 2 := by omega
      have c0 : dB (dOp2 (opInt fGt) (dVar 1) (dC (.int 0))) [some (.int a), some (.int (k : Nat)), some (.int r)] st = .ok true st :=
        dB_ok (dOp2_ok (dVar_ok rfl rfl) (dC_ok _ _ _) (by show Res.ok (PV.bl (decide ((k : Int) > 0))) st = _; rw [decide_eq_true (by omega)]))
      have s2 : ∀ r' : Int, sSeq (sSet 0 (dOp2 (opInt fMul) (dVar 0) (dVar 0))) (sSet 1 (dOp2 (opInt fDiv) (dVar 1) (dC (.int 2)))) [some (.int a), some (.int (k : Nat)), some (.int r')] st = .nx [some (.int (a * a)), some (.int ((k / 2 : Nat) : Int)), some (.int r')] st := fun r' =>
        (sSeq_nx (sSet_ok (dOp2_ok (dVar_ok rfl rfl) (dVar_ok rfl rfl) (op_mul_w ha ha (by omega) st)))).trans (sSet_ok (dOp2_ok (dVar_ok rfl rfl) (dC_ok _ _ _) (op_div (by decide) (by decide) st)))
      have c1 : dB (dOp2 oEq (dOp2 (opInt fMod) (dVar 1) (dC (.int 2))) (dC (.int 1))) [some (.int a), some (.int (k : Nat)), some (.int r)] st = .ok (decide ((k : Int) % 2 = 1)) st :=
        dB_ok (dOp2_ok (dOp2_ok (dVar_ok rfl rfl) (dC_ok _ _ _) (op_mod (by decide) st)) (dC_ok _ _ _) (eq_int _ _ _))
      have h2 : m * k = (m + m) * (k / 2) + m * (k % 2) := by
        rw [Nat.add_mul, ← Nat.mul_add, ← Nat.mul_add]
        congr 1
        omega
      by_cases od : (k : Int) % 2 = 1
      · have od' : k % 2 = 1 := by omega
        have hra : (r * a).natAbs ≤ 2 ^ (R + m) := by rw [Int.natAbs_mul, Nat.pow_add]; exact Nat.mul_le_mul hr ha
        rw [od'] at h2
        obtain ⟨a', e⟩ := ih (k / 2) (r * a) (a * a) (R + m) (m + m) hk2 hra haa (by omega)
        refine ⟨a', ?_⟩
        rw [show N + 1 + F + 1 = (N + F + 1) + 1 from by omega, while_go (c := cPow) (b := bPow) c0 ((sSeq_nx ((sIf_ok c1).trans ((if_pos (decide_eq_true od)).trans (sSet_ok (dOp2_ok (dVar_ok rfl rfl) (dVar_ok rfl rfl) (op_mul_w hr ha (by omega) st)))))).trans (s2 (r * a)))]
        rw [e, pow_half, Int.mul_assoc, ← Int.pow_succ', show 2 * (k / 2) + 1 = k from by omega]
      · have od' : k % 2 = 0 := by omega
        rw [od'] at h2
        obtain ⟨a', e⟩ := ih (k / 2) r (a * a) R (m + m) hk2 hr haa (by omega)
        refine ⟨a', ?_⟩
        rw [show N + 1 + F + 1 = (N + F + 1) + 1 from by omega, while_go (c := cPow) (b := bPow) c0 ((sSeq_nx ((sIf_ok c1).trans ((if_neg (by rw [decide_eq_false od]; decide)).trans rfl))).trans (s2 r))]
        rw [e, pow_half, show 2 * (k / 2) = k from by omega]
theorem power_ok {a : Int} {k : Nat} (m : Nat) (ha : a.natAbs ≤ 2 ^ m) (hk : m * k < 400000) (hk2 : k < 1024) (st : Store) : f_power [.int a, .int (k : Nat)] st = .ok (.int (a ^ k)) st := by
  obtain ⟨a', e⟩ := power_turn (st := st) (99999 - 10) (m * k) hk 10 k 1 a 0 m hk2 (by decide) ha (by omega)
  refine mkFn_ok0 ?_ rfl
  rw [← sWhile_at 10 (by decide)] at e
  rw [Int.one_mul] at e
  exact (sSeq_nx (sSet_ok (dC_ok _ _ _))).trans ((sSeq_nx e).trans (sRet_ok (dVar_ok rfl rfl)))
/-! ### gauss, plainly -/
theorem ipow1 (q : Int) : q ^ 1 = q := by rw [Int.pow_succ, Int.pow_zero, Int.one_mul]
theorem pw_pos {q : Int} (h : 2 ≤ q) (n : Nat) : 0 < q ^ n := Int.pow_pos (by omega)
theorem pw_le {q : Int} (h : 2 ≤ q) {i n : Nat} (hi : i ≤ n) : q ^ i ≤ q ^ n := by
  obtain ⟨d, rfl⟩ := Nat.exists_eq_add_of_le hi
  rw [Int.pow_add]
  have := Int.mul_le_mul_of_nonneg_left (show 1 ≤ q ^ d from pw_pos h d) (Int.le_of_lt (pw_pos h i))
  rwa [Int.mul_one] at this
theorem pw_two {q : Int} (h : 2 ≤ q) : ∀ n : Nat, (n : Int) < q ^ n
  | 0 => by simp
  | n + 1 => by
    have := pw_two h n
    rw [Int.pow_succ]
    have := Int.mul_le_mul_of_nonneg_left h (Int.le_of_lt (pw_pos h n))
    have := pw_pos h n
    omega
theorem pw_one {q : Int} (h : 2 ≤ q) {n : Nat} (hn : 0 < n) : 1 < q ^ n := by
  have := pw_two h n
  have := pw_le h (show 1 ≤ n from hn)
  rw [ipow1] at this
  omega
structure Qn (q : Int) (n : Nat) : Prop where
  two : 2 ≤ q
  lim : q ^ n < 1073741824 * 1073741824
  n60 : n < 60
theorem Qn.qlt {q : Int} {n : Nat} (h : Qn q n) (hn : 0 < n) : q < 1073741824 * 1073741824 := by
  have := pw_le h.two (show 1 ≤ n from hn)
  rw [ipow1] at this
  have := h.lim
  omega
theorem Qn.power {q : Int} {n i : Nat} (h : Qn q n) (hi : i ≤ n) (st : Store) : f_power [.int q, .int (i : Nat)] st = .ok (.int (q ^ i)) st := by
  by_cases h0 : n = 0
  · subst h0
    obtain rfl : i = 0 := by omega
    refine power_ok (q.natAbs) (Nat.le_of_lt Nat.lt_two_pow_self) (by rw [Nat.mul_zero]; decide) (by decide) st
  · have := h.qlt (by omega)
    have := h.two
    have := h.n60
    have e : (2 : Nat) ^ 60 = 1073741824 * 1073741824 := by decide
    exact power_ok 60 (by rw [e]; omega) (by omega) (by omega) st
theorem Qn.lp {q : Int} {n i : Nat} (h : Qn q n) (hi : i ≤ n) (hq : smallB q = true) (st : Store) : f__law_power [.int q, .int (i : Nat)] st = .ok (.int (q ^ i)) st :=
  law_power_ok q hq i (by have := h.n60; omega) st
def gaus (n : Nat) (q r : Int) (is : List Nat) : Int := is.foldl (fun r i => r * (q ^ (n - i + 1) - 1) / (q ^ i - 1)) r
def gau (n : Nat) (k q : Int) : Int := if k < 0 ∨ (n : Int) < k then 0 else gaus n q 1 (List.range' 1 k.toNat)
theorem gaus_ok {n : Nat} {k q : Int} (h : Qn q n) {st : Store} : ∀ (is : List Nat) (r : Int) (x : Option PV), (∀ i ∈ is, 1 ≤ i ∧ i ≤ n) →
    ∃ x', forL (gN 4) (sSet 3 (dOp2 (opInt fDiv) (dOp2 (opInt fMul) (dVar 3) (dOp2 (opInt fSub) (dCall 2 f_power (aCons (dVar 2) (aCons (dOp2 oAdd (dOp2 (opInt fSub) (dVar 0) (dVar 4)) (dC (.int 1))) aNil))) (dC (.int 1)))) (dOp2 (opInt fSub) (dCall 2 f_power (aCons (dVar 2) (aCons (dVar 4) aNil))) (dC (.int 1)))))
      (pns is) [some (.int (n : Nat)), some (.int k), some (.int q), some (.int r), x] st = .nx [some (.int (n : Nat)), some (.int k), some (.int q), some (.int (gaus n q r is)), x'] st
  | [], r, x, _ => ⟨x, rfl⟩
  | i :: is, r, x, hi => by
    obtain ⟨h1, h2⟩ := hi i List.mem_cons_self
    obtain ⟨x', e⟩ := gaus_ok h (k := k) (st := st) is (r * (q ^ (n - i + 1) - 1) / (q ^ i - 1)) (some (.int (i : Nat))) (fun j hj => hi j (List.mem_cons_of_mem _ hj))
    refine ⟨x', ?_⟩
    have q1 := pw_one h.two (show 0 < i from h1)
    have q2 := pw_le h.two h2
    have q3 := pw_le h.two (show n - i + 1 ≤ n from by omega)
    have q4 := pw_one h.two (show 0 < n - i + 1 from by omega)
    have q5 := h.lim
    have ev : oAdd (.int ((n : Int) - (i : Int))) (.int 1) st = .ok (.int ((n - i + 1 : Nat) : Int)) st := by
      show Res.ok (PV.int ((n : Int) - (i : Int) + 1)) st = _
      rw [show ((n - i + 1 : Nat) : Int) = (n : Int) - (i : Int) + 1 from by omega]
    have p1 := (dCall_ok (np := 2) (f := f_power) (a2_ok (dVar_ok (i := 2) (ρ := [some (.int (n : Nat)), some (.int k), some (.int q), some (.int r), some (.int (i : Nat))]) (st := st) rfl rfl) (dOp2_ok (dOp2_ok (dVar_ok (i := 0) rfl rfl) (dVar_ok (i := 4) rfl rfl) (show opInt fSub (.int (n : Nat)) (.int (i : Nat)) st = _ from rfl)) (dC_ok (.int 1) _ _) ev)) rfl).trans (h.power (show n - i + 1 ≤ n from by omega) st)
    have p2 := (dCall_ok (np := 2) (f := f_power) (a2_ok (dVar_ok (i := 2) (ρ := [some (.int (n : Nat)), some (.int k), some (.int q), some (.int r), some (.int (i : Nat))]) (st := st) rfl rfl) (dVar_ok (i := 4) rfl rfl)) rfl).trans (h.power h2 st)
    have p3 := dOp2_ok (dOp2_ok (dVar_ok (i := 3) rfl rfl) (dOp2_ok p1 (dC_ok (.int 1) _ _) (show opInt fSub (.int _) (.int 1) st = _ from rfl)) (op_mul_r (small_of (by omega) (by omega)) r st)) (dOp2_ok p2 (dC_ok (.int 1) _ _) (show opInt fSub (.int _) (.int 1) st = _ from rfl)) (op_div (by omega) (by omega) st)
    show forL (gN 4) _ (PV.int (i : Nat) :: pns is) [some (.int (n : Nat)), some (.int k), some (.int q), some (.int r), x] st = _
    rw [for_one (i := 4) (ρ := [some (.int (n : Nat)), some (.int k), some (.int q), some (.int r), x]) (x := .int (i : Nat)) (sSet_ok (i := 3) p3)]
    exact e
theorem gauss_ok {n : Nat} {k q : Int} (h : Qn q n) (st : Store) : f_gauss [.int (n : Nat), .int k, .int q] st = .ok (.int (gau n k q)) st := by
  refine mkFn_ok0 ?_ rfl
  have c0 : tOrD (dB (dOp2 (opInt fLt) (dVar 1) (dC (.int 0)))) (dB (dOp2 (opInt fGt) (dVar 1) (dVar 0))) [some (.int (n : Nat)), some (.int k), some (.int q), none, none] st = .ok (decide (k < 0) || decide ((n : Int) < k)) st := by
    show (if decide (k < 0) = true then _ else _) = _
    by_cases c : k < 0
    · rw [if_pos (decide_eq_true c), decide_eq_true c]; rfl
    · rw [if_neg (by rw [decide_eq_false c]; decide), decide_eq_false c]; rfl
  by_cases c : k < 0 ∨ (n : Int) < k
  · rw [show gau n k q = 0 from if_pos c]
    exact sSeq_rt ((sIf_ok c0).trans ((if_pos (by simpa using c)).trans (sRet_ok (dC_ok _ _ _))))
  · have hk : 0 ≤ k ∧ k ≤ n := by omega
    rw [show gau n k q = gaus n q 1 (List.range' 1 k.toNat) from if_neg c]
    obtain ⟨x', e⟩ := gaus_ok h (k := k) (st := st) (List.range' 1 k.toNat) 1 none (fun i hi => by simp at hi; omega)
    have q5 := h.n60
    have i0 : Wi.iRng2 (aCons (dC (.int 1)) (aCons (dOp2 oAdd (dVar 1) (dC (.int 1))) aNil)) [some (.int (n : Nat)), some (.int k), some (.int q), some (.int 1), none] st = .ok (pns (List.range' 1 k.toNat)) st := by
      refine (iRng2_ok (i := 1) (j := k + 1) (a2_ok (dC_ok _ _ _) (dOp2_ok (dVar_ok rfl rfl) (dC_ok _ _ _) rfl)) (by decide) (by rw [show k + 1 = ((k.toNat + 1 : Nat) : Int) from by omega]; exact midB_nat (by omega))).trans ?_
      rw [show (k + 1 - 1).toNat = k.toNat from by omega]
      exact congrArg (fun z => Res.ok z st) (rgP_nat 1 k.toNat)
    exact (sSeq_nx ((sIf_ok c0).trans ((if_neg (by simpa using c)).trans rfl))).trans ((sSeq_nx (sSet_ok (dC_ok _ _ _))).trans ((sSeq_nx ((sFor_ok i0).trans e)).trans (sRet_ok (dVar_ok rfl rfl))))
def invs (n : Nat) (q r : Int) (is : List Nat) : Int := is.foldl (fun r i => r * (q ^ n - q ^ i)) r
theorem invs_ok {n : Nat} {q : Int} (h : Qn q n) {st : Store} : ∀ (is : List Nat) (r : Int) (x : Option PV), (∀ i ∈ is, i < n) →
    ∃ x', forL (gN 4) (sSet 3 (dOp2 (opInt fMul) (dVar 3) (dOp2 (opInt fSub) (dVar 2) (dCall 2 f_power (aCons (dVar 1) (aCons (dVar 4) aNil))))))
      (pns is) [some (.int (n : Nat)), some (.int q), some (.int (q ^ n)), some (.int r), x] st = .nx [some (.int (n : Nat)), some (.int q), some (.int (q ^ n)), some (.int (invs n q r is)), x'] st
  | [], r, x, _ => ⟨x, rfl⟩
  | i :: is, r, x, hi => by
    have h2 := hi i List.mem_cons_self
    obtain ⟨x', e⟩ := invs_ok h (st := st) is (r * (q ^ n - q ^ i)) (some (.int (i : Nat))) (fun j hj => hi j (List.mem_cons_of_mem _ hj))
    refine ⟨x', ?_⟩
    have q2 := pw_le h.two (Nat.le_of_lt h2)
    have q3 := pw_pos h.two i
    have q5 := h.lim
    have p2 := (dCall_ok (np := 2) (f := f_power) (a2_ok (dVar_ok (i := 1) (ρ := [some (.int (n : Nat)), some (.int q), some (.int (q ^ n)), some (.int r), some (.int (i : Nat))]) (st := st) rfl rfl) (dVar_ok (i := 4) rfl rfl)) rfl).trans (h.power (Nat.le_of_lt h2) st)
    have p3 := dOp2_ok (dVar_ok (i := 3) rfl rfl) (dOp2_ok (dVar_ok (i := 2) rfl rfl) p2 (show opInt fSub (.int _) (.int _) st = _ from rfl)) (op_mul_r (small_of (by omega) (by omega)) r st)
    show forL (gN 4) _ (PV.int (i : Nat) :: pns is) [some (.int (n : Nat)), some (.int q), some (.int (q ^ n)), some (.int r), x] st = _
    rw [for_one (i := 4) (ρ := [some (.int (n : Nat)), some (.int q), some (.int (q ^ n)), some (.int r), x]) (x := .int (i : Nat)) (sSet_ok (i := 3) p3)]
    exact e
theorem invertible_ok {n : Nat} {q : Int} (h : Qn q n) (st : Store) : f_invertible_count [.int (n : Nat), .int q] st = .ok (.int (invs n q 1 (List.range' 0 n))) st := by
  obtain ⟨x', e⟩ := invs_ok h (st := st) (List.range' 0 n) 1 none (fun i hi => by simpa using hi)
  refine mkFn_ok0 ?_ rfl
  have p2 := (dCall_ok (np := 2) (f := f_power) (a2_ok (dVar_ok (i := 1) (ρ := [some (.int (n : Nat)), some (.int q), none, none, none]) (st := st) rfl rfl) (dVar_ok (i := 0) rfl rfl)) rfl).trans (h.power (Nat.le_refl n) st)
  exact (sSeq_nx (sSet_ok p2)).trans ((sSeq_nx (sSet_ok (dC_ok _ _ _))).trans ((sSeq_nx ((sFor_ok (iRng_nat (n := n) rfl (by have := h.n60; omega))).trans e)).trans (sRet_ok (dVar_ok rfl rfl))))
end Wi

namespace Wi
open PySem L2
/-! plain texts of the fields' defs -/
def b__sum_of : DenS :=
 (sRet (dOp2 oAdd (dOp2 (opInt fMod) (dOp2 oAdd (dVar 1) (dVar 2)) (dVar 0)) (dOp2 (opInt fMul) (dOp2 (opInt fMod) (dOp2 oAdd (dOp2 (opInt fDiv) (dVar 1) (dVar 0)) (dOp2 (opInt fDiv) (dVar 2) (dVar 0))) (dVar 0)) (dVar 0))))
def f__sum_of : FnS := mkFn 3 b__sum_of
def b__product_of : DenS :=
 (sSeq (sAsg (dFn cDivmod (aCons (dVar 2) (aCons (dVar 0) aNil))) (gTupD 2 (gsCons (gN 7) (gsCons (gN 8) gsNil))))
 (sSeq (sAsg (dFn cDivmod (aCons (dVar 3) (aCons (dVar 0) aNil))) (gTupD 2 (gsCons (gN 9) (gsCons (gN 10) gsNil))))
 (sSeq (sSet 4 (dOp2 (opInt fMul) (dVar 7) (dVar 9)))
 (sSeq (sSet 5 (dOp2 oAdd (dOp2 (opInt fMul) (dVar 8) (dVar 10)) (dOp2 (opInt fMul) (dVar 4) (dOp2 oIx (dVar 1) (dC (.int 0))))))
 (sSeq (sSet 6 (dOp2 oAdd (dOp2 oAdd (dOp2 (opInt fMul) (dVar 8) (dVar 9)) (dOp2 (opInt fMul) (dVar 7) (dVar 10))) (dOp2 (opInt fMul) (dVar 4) (dOp2 oIx (dVar 1) (dC (.int 1))))))
 (sRet (dOp2 oAdd (dOp2 (opInt fMod) (dVar 5) (dVar 0)) (dOp2 (opInt fMul) (dOp2 (opInt fMod) (dVar 6) (dVar 0)) (dVar 0)))))))))
def f__product_of : FnS := mkFn 11 b__product_of
def b_Field___init__ : DenS :=
 (sSeq (sIf (tOrD (tNotD (dTru (dCall 1 f_is_integer (aCons (dVar 1) aNil)))) (dB (dKIn true [(2, .int 2), (3, .int 3), (4, .int 2), (5, .int 5), (7, .int 7), (9, .int 3)] (dVar 1))))
 (sRaise0 1)
 sSkip)
 (sSeq (sSet 2 (dKGet [(2, .int 2), (3, .int 3), (4, .int 2), (5, .int 5), (7, .int 7), (9, .int 3)] (dVar 1)))
 (sSeq (sSet 3 (dKGetD [(4, .tup [.int 1, .int 1]), (9, .tup [.int 2, .int 0])] (aCons (dVar 1) (aCons (dTup (aCons (dC (.int 0)) (aCons (dC (.int 0)) aNil))) aNil))))
 (sSeq (sFldS 4 0 (dVar 0) (dVar 1))
 (sSeq (sFldS 4 1 (dVar 0) (dVar 2))
 (sSeq (sFldS 4 2 (dVar 0) (dTupG (iRng (dVar 1)) (.n 4) tYesD (dTupG (iRng (dVar 1)) (.n 5) tYesD (dCall 3 f__sum_of (aCons (dVar 2) (aCons (dVar 4) (aCons (dVar 5) aNil)))) [5]) [4]))
 (sFldS 4 3 (dVar 0) (dTupG (iRng (dVar 1)) (.n 4) tYesD (dTupG (iRng (dVar 1)) (.n 5) tYesD (dCall 4 f__product_of (aCons (dVar 2) (aCons (dVar 3) (aCons (dVar 4) (aCons (dVar 5) aNil))))) [5]) [4]))))))))
def f_Field___init__ : FnS := mkFn 6 b_Field___init__
def b_Field___eq__ : DenS :=
 (sRet (dAndV (dIsC [(4, true)] (dVar 1)) (dOp2 oEq (dFld 4 0 (dVar 0)) (dFld 4 0 (dVar 1)))))
def f_Field___eq__ : FnS := mkFn 2 b_Field___eq__
def b_Field_is_number : DenS :=
 (sRet (dAndV (dCall 1 f_is_integer (aCons (dVar 1) aNil)) (dChain (opInt fLe) (opInt fLt) (dC (.int 0)) (dVar 1) (dFld 4 0 (dVar 0)))))
def f_Field_is_number : FnS := mkFn 2 b_Field_is_number
def b_Field_numbers : DenS :=
 (sRet (dTupRg (dFld 4 0 (dVar 0))))
def f_Field_numbers : FnS := mkFn 1 b_Field_numbers
def b_Field_add : DenS :=
 (sRet (dOp2 oIx (dOp2 oIx (dFld 4 2 (dVar 0)) (dVar 1)) (dVar 2)))
def f_Field_add : FnS := mkFn 3 b_Field_add
def b_Field_negative : DenS :=
 (sRet (dTIdx (dOp2 oIx (dFld 4 2 (dVar 0)) (dVar 1)) (dC (.int 0))))
def f_Field_negative : FnS := mkFn 2 b_Field_negative
def b_Field_subtract : DenS :=
 (sRet (dMeth 4 3 f_Field_add (dVar 0) (aCons (dVar 1) (aCons (dMeth 4 2 f_Field_negative (dVar 0) (aCons (dVar 2) aNil)) aNil))))
def f_Field_subtract : FnS := mkFn 3 b_Field_subtract
def b_Field_multiply : DenS :=
 (sRet (dOp2 oIx (dOp2 oIx (dFld 4 3 (dVar 0)) (dVar 1)) (dVar 2)))
def f_Field_multiply : FnS := mkFn 3 b_Field_multiply
def b_Field_inverse : DenS :=
 (sSeq (sIf (dB (dOp2 oEq (dVar 1) (dC (.int 0))))
 (sRaise1 2 (dC (.str "zero")))
 sSkip)
 (sRet (dTIdx (dOp2 oIx (dFld 4 3 (dVar 0)) (dVar 1)) (dC (.int 1)))))
def f_Field_inverse : FnS := mkFn 2 b_Field_inverse
def b_Field_power : DenS :=
 (sSeq (sSet 3 (dC (.int 1)))
 (sSeq (sWhile (dB (dOp2 (opInt fGt) (dVar 2) (dC (.int 0))))
 (sSeq (sIf (dB (dOp2 oEq (dOp2 (opInt fMod) (dVar 2) (dC (.int 2))) (dC (.int 1))))
 (sSet 3 (dMeth 4 3 f_Field_multiply (dVar 0) (aCons (dVar 3) (aCons (dVar 1) aNil))))
 sSkip)
 (sSeq (sSet 1 (dMeth 4 3 f_Field_multiply (dVar 0) (aCons (dVar 1) (aCons (dVar 1) aNil))))
 (sSet 2 (dOp2 (opInt fDiv) (dVar 2) (dC (.int 2)))))))
 (sRet (dVar 3))))
def f_Field_power : FnS := mkFn 4 b_Field_power
def b__law_add : DenS :=
 (sRet (dOp2 oIx (dOp2 oIx (dOp2 oIx (dVar 0) (dC (.int 1))) (dVar 1)) (dVar 2)))
def f__law_add : FnS := mkFn 3 b__law_add
def b__law_mul : DenS :=
 (sRet (dOp2 oIx (dOp2 oIx (dOp2 oIx (dVar 0) (dC (.int 2))) (dVar 1)) (dVar 2)))
def f__law_mul : FnS := mkFn 3 b__law_mul
def b__law_negative : DenS :=
 (sRet (dIndex (dOp2 oIx (dOp2 oIx (dVar 0) (dC (.int 1))) (dVar 1)) (dC (.int 0))))
def f__law_negative : FnS := mkFn 2 b__law_negative
def b__law_inverse : DenS :=
 (sRet (dIndex (dOp2 oIx (dOp2 oIx (dVar 0) (dC (.int 2))) (dVar 1)) (dC (.int 1))))
def f__law_inverse : FnS := mkFn 2 b__law_inverse
def b__law_told : DenS :=
 (sSeq (sTryA 1 [false, true, false, false]
 (sExpr (dMake 4 4 2 f_Field___init__ (aCons (dVar 0) aNil)))
 (sRetX (xAnd (xBl true) (xAnd (xBl true) (xNot (xBl false))))))
 (sRet (dC (.bl false))))
def f__law_told : FnS := mkFn 2 b__law_told
def b__law_is_zero_refused : DenS :=
 (sSeq (sTryA 1 [false, false, true, false]
 (sExpr (dMeth 4 2 f_Field_inverse (dVar 0) (aCons (dC (.int 0)) aNil)))
 (sRetX (xAnd (xBl true) (xEqS "zero" xFld))))
 (sRet (dC (.bl false))))
def f__law_is_zero_refused : FnS := mkFn 2 b__law_is_zero_refused
end Wi

/-! the fields, plainly -/
namespace Wi
open PySem L2
def qs : List Nat := [2, 3, 4, 5, 7, 9]
def prmN (q : Nat) : Nat := match q with
  | 4 => 2
  | 9 => 3
  | q => q
def addN (q a b : Nat) : Nat := (a + b) % prmN q + (a / prmN q + b / prmN q) % prmN q * prmN q
def sqN (q : Nat) : Nat × Nat := match q with
  | 4 => (1, 1)
  | 9 => (2, 0)
  | _ => (0, 0)
def mulN (q a b : Nat) : Nat :=
  (a % prmN q * (b % prmN q) + a / prmN q * (b / prmN q) * (sqN q).1) % prmN q + (a % prmN q * (b / prmN q) + a / prmN q * (b % prmN q) + a / prmN q * (b / prmN q) * (sqN q).2) % prmN q * prmN q
def rowsN (f : Nat → Nat → Nat) (q : Nat) : List (List Nat) := (List.range q).map fun a => (List.range q).map (f a)
/-- the tables of the law -/
def Fl (q : Nat) : PV := .tup [.int (q : Nat), .lst ((rowsN (addN q) q).map fun r => .lst (pns r)), .lst ((rowsN (mulN q) q).map fun r => .lst (pns r))]
def FoF (q : Nat) : List PV := [.int (q : Nat), .int (prmN q : Nat), .tup ((rowsN (addN q) q).map fun r => .tup (pns r)), .tup ((rowsN (mulN q) q).map fun r => .tup (pns r))]
/-- the field -/
def Fo (q : Nat) : PV := .obj 4 (FoF q)
theorem lawf_all (x : Cell) : qs.map (fun q => f__law_field [.int (q : Nat)] [x]) = qs.map fun q => .ok (Fl q) [x] := by kernel_rfl
theorem fo_all (x : Cell) : qs.map (fun q => f_Field___init__ [.ref 1, .int (q : Nat)] [x, .ins 4 []]) = qs.map fun q => .ok .non [x, .ins 4 (FoF q)] := by kernel_rfl
theorem lawf_ok {q : Nat} (hq : q ∈ qs) (x : Cell) : f__law_field [.int (q : Nat)] [x] = .ok (Fl q) [x] := List.map_inj_left.mp (lawf_all x) q hq
theorem fo_ok {q : Nat} (hq : q ∈ qs) (x : Cell) : f_Field___init__ [.ref 1, .int (q : Nat)] [x, .ins 4 []] = .ok .non [x, .ins 4 (FoF q)] := List.map_inj_left.mp (fo_all x) q hq
theorem dMake_ok {c nf np : Nat} {f : FnS} {da : DenA} {ρ : Sl} {st st1 st2 : Store} {vs xs : List PV} (h : da ρ st = .ok vs st1) (hl : vs.length + 1 = np) (hf : f (.ref st1.length :: vs) (st1 ++ [.ins c []]) = .ok .non st2) (hx : st2[st1.length]? = some (.ins c xs)) (hn : xs.length = nf) :
    dMake c nf np f da ρ st = .ok (.obj c xs) (st2.take st1.length) := by
  unfold dMake
  rw [h]
  show (if vs.length + 1 == np then _ else _) = _
  rw [if_pos (by simpa using hl), hf]
  show madeOf c nf st1.length .non st2 = _
  unfold madeOf
  dsimp only
  rw [hx]
  dsimp only
  rw [if_pos (by simp [hn])]
/-- Field(q) -/
theorem mkField_ok {q : Nat} (hq : q ∈ qs) {x : Cell} {d : Den} {ρ : Sl} {st : Store} (h : d ρ st = .ok (.int (q : Nat)) [x]) : dMake 4 4 2 f_Field___init__ (aCons d aNil) ρ st = .ok (Fo q) [x] :=
  dMake_ok (st2 := [x, .ins 4 (FoF q)]) (xs := FoF q) (a1_ok h) rfl (fo_ok hq x) rfl rfl
/-- one of the six -/
theorem pick6 {v : Int} (h0 : 0 ≤ v) (h1 : v < 6) (st : Store) : ∃ q ∈ qs, oIx (.lst [.int 2, .int 3, .int 4, .int 5, .int 7, .int 9]) (.int v) st = .ok (.int (q : Nat)) st := by
  rcases (show v = 0 ∨ v = 1 ∨ v = 2 ∨ v = 3 ∨ v = 4 ∨ v = 5 by omega) with rfl | rfl | rfl | rfl | rfl | rfl
  · exact ⟨2, by decide, rfl⟩
  · exact ⟨3, by decide, rfl⟩
  · exact ⟨4, by decide, rfl⟩
  · exact ⟨5, by decide, rfl⟩
  · exact ⟨7, by decide, rfl⟩
  · exact ⟨9, by decide, rfl⟩
theorem qs_lt {q : Nat} (h : q ∈ qs) : 2 ≤ q ∧ q ≤ 9 := by
  have : ∀ q ∈ qs, 2 ≤ q ∧ q ≤ 9 := by decide
  exact this q h
/-- a draw -/
theorem take_den {ρ : Sl} {s t m : Int} {dm : Den} (i : Nat) (hr : ρ[i]? = some (some (.ref 0))) (hs : 0 ≤ s) (ht : 0 ≤ t) (h1 : 0 < m) (h2 : m < 1073741824) (hm : ∀ st, dm ρ st = .ok (.int m) st) :
    ∃ v s' t' : Int, 0 ≤ v ∧ v < m ∧ 0 ≤ s' ∧ 0 ≤ t' ∧ dCall 2 f__law_take (aCons (dVar i) (aCons dm aNil)) ρ [.lst [.int s, .int t]] = .ok (.int v) [.lst [.int s', .int t']] := by
  obtain ⟨v, s', t', a, b, c, e⟩ := law_take_ok (st := [.lst [.int s, .int t]]) (k := 0) ⟨rfl, hs, ht⟩ h1 h2
  refine ⟨v, s', t', a, b, c.s0, c.t0, ?_⟩
  exact (dCall_ok (a2_ok (by unfold dVar; rw [hr]; rfl) (hm _)) rfl).trans e
end Wi

/-! the fields' methods, plainly -/
namespace Wi
open PySem L2
def prs1 : List (Nat × Nat) := qs.flatMap fun q => (List.range q).map fun a => (q, a)
def prs2 : List (Nat × Nat × Nat) := qs.flatMap fun q => (List.range q).flatMap fun a => (List.range q).map fun b => (q, a, b)
theorem mem1 {q a : Nat} (hq : q ∈ qs) (ha : a < q) : (q, a) ∈ prs1 := List.mem_flatMap.mpr ⟨q, hq, List.mem_map.mpr ⟨a, List.mem_range.mpr ha, rfl⟩⟩
theorem mem2 {q a b : Nat} (hq : q ∈ qs) (ha : a < q) (hb : b < q) : (q, a, b) ∈ prs2 := List.mem_flatMap.mpr ⟨q, hq, List.mem_flatMap.mpr ⟨a, List.mem_range.mpr ha, List.mem_map.mpr ⟨b, List.mem_range.mpr hb, rfl⟩⟩⟩
theorem map1 {α : Type} {F G : Nat × Nat → α} (h : prs1.map F = prs1.map G) {q a : Nat} (hq : q ∈ qs) (ha : a < q) : F (q, a) = G (q, a) := List.map_inj_left.mp h _ (mem1 hq ha)
theorem map2 {α : Type} {F G : Nat × Nat × Nat → α} (h : prs2.map F = prs2.map G) {q a b : Nat} (hq : q ∈ qs) (ha : a < q) (hb : b < q) : F (q, a, b) = G (q, a, b) := List.map_inj_left.mp h _ (mem2 hq ha hb)
def negN (q a : Nat) : Nat := ((List.range q).find? fun b => addN q a b == 0).getD 0
def invN (q a : Nat) : Nat := ((List.range q).find? fun b => mulN q a b == 1).getD 0
theorem add_b (st : Store) : prs2.map (fun p => b_Field_add [some (Fo p.1), some (.int (p.2.1 : Nat)), some (.int (p.2.2 : Nat))] st) = prs2.map fun p => .rt (.int (addN p.1 p.2.1 p.2.2 : Nat)) st := by kernel_rfl
theorem mul_b (st : Store) : prs2.map (fun p => b_Field_multiply [some (Fo p.1), some (.int (p.2.1 : Nat)), some (.int (p.2.2 : Nat))] st) = prs2.map fun p => .rt (.int (mulN p.1 p.2.1 p.2.2 : Nat)) st := by kernel_rfl
theorem ladd_b (st : Store) : prs2.map (fun p => b__law_add [some (Fl p.1), some (.int (p.2.1 : Nat)), some (.int (p.2.2 : Nat))] st) = prs2.map fun p => .rt (.int (addN p.1 p.2.1 p.2.2 : Nat)) st := by kernel_rfl
theorem lmul_b (st : Store) : prs2.map (fun p => b__law_mul [some (Fl p.1), some (.int (p.2.1 : Nat)), some (.int (p.2.2 : Nat))] st) = prs2.map fun p => .rt (.int (mulN p.1 p.2.1 p.2.2 : Nat)) st := by kernel_rfl
theorem neg_b (st : Store) : prs1.map (fun p => b_Field_negative [some (Fo p.1), some (.int (p.2 : Nat))] st) = prs1.map fun p => .rt (.int (negN p.1 p.2 : Nat)) st := by kernel_rfl
theorem lneg_b (st : Store) : prs1.map (fun p => b__law_negative [some (Fl p.1), some (.int (p.2 : Nat))] st) = prs1.map fun p => .rt (.int (negN p.1 p.2 : Nat)) st := by kernel_rfl
end Wi

/-! the fields' methods as equations; short words for steps -/
namespace Wi
open PySem L2
/-! ### steps -/
theorem dMeth_ok {c np : Nat} {f : FnS} {dO : Den} {da : DenA} {ρ : Sl} {st st1 st2 : Store} {xs vs : List PV} (h : dO ρ st = .ok (.obj c xs) st1) (h2 : da ρ st1 = .ok vs st2) (hl : vs.length + 1 = np) : dMeth c np f dO da ρ st = f (.obj c xs :: vs) st2 := by
  unfold dMeth
  rw [h]
  show (if c == c then _ else _) = _
  rw [if_pos (beq_self_eq_true c), h2]
  show (if vs.length + 1 == np then _ else _) = _
  rw [if_pos (by simpa using hl)]
theorem or_ff {a b : DenT} {ρ : Sl} {st st1 st2 : Store} (h1 : a ρ st = .ok false st1) (h2 : b ρ st1 = .ok false st2) : tOrD a b ρ st = .ok false st2 := by unfold tOrD; rw [h1]; exact h2
theorem and_f {a b : DenT} {ρ : Sl} {st st1 : Store} (h1 : a ρ st = .ok false st1) : tAndD a b ρ st = .ok false st1 := by unfold tAndD; rw [h1]; rfl
theorem and_t {a b : DenT} {ρ : Sl} {st st1 : Store} {r : Res Bool} (h1 : a ρ st = .ok true st1) (h2 : b ρ st1 = r) : tAndD a b ρ st = r := by unfold tAndD; rw [h1]; exact h2
theorem not_ok {a : DenT} {b : Bool} {ρ : Sl} {st st1 : Store} (h1 : a ρ st = .ok b st1) : tNotD a ρ st = .ok (!b) st1 := by unfold tNotD; rw [h1]; rfl
theorem if_f {c : DenT} {a b : DenS} {ρ : Sl} {st st1 : Store} (h : c ρ st = .ok false st1) : sIf c a b ρ st = b ρ st1 := (sIf_ok h).trans rfl
theorem if_t {c : DenT} {a b : DenS} {ρ : Sl} {st st1 : Store} (h : c ρ st = .ok true st1) : sIf c a b ρ st = a ρ st1 := (sIf_ok h).trans rfl
theorem ne_same {a b : Den} {ρ : Sl} {st st1 st2 : Store} {i : Int} (h1 : a ρ st = .ok (.int i) st1) (h2 : b ρ st1 = .ok (.int i) st2) : dB (dOp2 oNe a b) ρ st = .ok false st2 :=
  dB_ok (dOp2_ok h1 h2 ((ne_int i i st2).trans (by rw [decide_eq_false (by simp)])))
theorem ne_bl (a b : Bool) (st : Store) : oNe (.bl a) (.bl b) st = .ok (.bl (a != b)) st := by cases a <;> cases b <;> rfl
theorem eq_bl (a b : Bool) (st : Store) : oEq (.bl a) (.bl b) st = .ok (.bl (a == b)) st := by cases a <;> cases b <;> rfl
theorem dTru_bl {d : Den} {b : Bool} {ρ : Sl} {st st1 : Store} (h : d ρ st = .ok (.bl b) st1) : dTru d ρ st = .ok b st1 := by unfold dTru; rw [h]; rfl
/-! ### the methods -/
variable {q a b : Nat} (hq : q ∈ qs) (ha : a < q) (hb : b < q) (st : Store)
include hq ha in
theorem neg_ok : f_Field_negative [Fo q, .int (a : Nat)] st = .ok (.int (negN q a : Nat)) st := mkFn_ok0 (map1 (neg_b st) hq ha) rfl
include hq ha in
theorem lneg_ok : f__law_negative [Fl q, .int (a : Nat)] st = .ok (.int (negN q a : Nat)) st := mkFn_ok0 (map1 (lneg_b st) hq ha) rfl
include hq ha hb in
theorem add_ok : f_Field_add [Fo q, .int (a : Nat), .int (b : Nat)] st = .ok (.int (addN q a b : Nat)) st := mkFn_ok0 (map2 (add_b st) hq ha hb) rfl
include hq ha hb in
theorem mul_ok : f_Field_multiply [Fo q, .int (a : Nat), .int (b : Nat)] st = .ok (.int (mulN q a b : Nat)) st := mkFn_ok0 (map2 (mul_b st) hq ha hb) rfl
include hq ha hb in
theorem ladd_ok : f__law_add [Fl q, .int (a : Nat), .int (b : Nat)] st = .ok (.int (addN q a b : Nat)) st := mkFn_ok0 (map2 (ladd_b st) hq ha hb) rfl
include hq ha hb in
theorem lmul_ok : f__law_mul [Fl q, .int (a : Nat), .int (b : Nat)] st = .ok (.int (mulN q a b : Nat)) st := mkFn_ok0 (map2 (lmul_b st) hq ha hb) rfl
theorem closed : ∀ q ∈ qs, ∀ a < q, negN q a < q ∧ invN q a < q ∧ ∀ b < q, addN q a b < q ∧ mulN q a b < q ∧ mulN q a b = mulN q b a ∧ addN q a b = addN q b a := by decide +kernel
theorem assoc : ∀ q ∈ qs, ∀ a < q, ∀ b < q, ∀ c < q, mulN q (mulN q a b) c = mulN q a (mulN q b c) ∧ addN q (addN q a b) c = addN q a (addN q b c) ∧ mulN q a (addN q b c) = addN q (mulN q a b) (mulN q a c) := by decide +kernel
theorem units : ∀ q ∈ qs, ∀ a < q, mulN q 1 a = a ∧ mulN q a 1 = a ∧ addN q 0 a = a ∧ addN q a 0 = a ∧ mulN q 0 a = 0 ∧ addN q a (negN q a) = 0 ∧ (a ≠ 0 → mulN q a (invN q a) = 1) := by decide +kernel
include hq ha hb in
theorem sub_ok : f_Field_subtract [Fo q, .int (a : Nat), .int (b : Nat)] st = .ok (.int (addN q a (negN q b) : Nat)) st := by
  refine mkFn_ok0 ?_ rfl
  exact sRet_ok ((dMeth_ok (ρ := [some (Fo q), some (.int (a : Nat)), some (.int (b : Nat))]) (dVar_ok (i := 0) rfl rfl) (a2_ok (dVar_ok (i := 1) rfl rfl) ((dMeth_ok (dVar_ok (i := 0) rfl rfl) (a1_ok (dVar_ok (i := 2) rfl rfl)) rfl).trans (neg_ok hq hb st))) rfl).trans (add_ok hq ha (closed q hq b hb).1 st))
def prs3 : List (Nat × Nat) := prs1.filter fun p => p.2 != 0
theorem inv_b (st : Store) : prs3.map (fun p => b_Field_inverse [some (Fo p.1), some (.int (p.2 : Nat))] st) = prs3.map fun p => .rt (.int (invN p.1 p.2 : Nat)) st := by kernel_rfl
theorem linv_b (st : Store) : prs3.map (fun p => b__law_inverse [some (Fl p.1), some (.int (p.2 : Nat))] st) = prs3.map fun p => .rt (.int (invN p.1 p.2 : Nat)) st := by kernel_rfl
theorem inv0_b (st : Store) : qs.map (fun q => b_Field_inverse [some (Fo q), some (.int 0)] st) = qs.map fun q => .exc 2 [.str "zero"] [some (Fo q), some (.int 0)] st := by kernel_rfl
include hq ha in
theorem mem3 (h0 : a ≠ 0) : (q, a) ∈ prs3 := List.mem_filter.mpr ⟨mem1 hq ha, bne_iff_ne.mpr h0⟩
theorem map3 {α : Type} {F G : Nat × Nat → α} (h : prs3.map F = prs3.map G) {q a : Nat} (hq : q ∈ qs) (ha : a < q) (h0 : a ≠ 0) : F (q, a) = G (q, a) := List.map_inj_left.mp h _ (mem3 hq ha h0)
include hq ha in
theorem inv_ok (h0 : a ≠ 0) : f_Field_inverse [Fo q, .int (a : Nat)] st = .ok (.int (invN q a : Nat)) st := mkFn_ok0 (map3 (inv_b st) hq ha h0) rfl
include hq ha in
theorem linv_ok (h0 : a ≠ 0) : f__law_inverse [Fl q, .int (a : Nat)] st = .ok (.int (invN q a : Nat)) st := by
  have e : b__law_inverse [some (Fl q), some (.int (a : Nat))] st = .rt (.int (invN q a : Nat)) st := map3 (linv_b st) hq ha h0
  exact mkFn_ok0 e rfl
theorem isnum_b (x : Cell) : prs1.map (fun p => f_Field_is_number [Fo p.1, .int (p.2 : Nat)] [x]) = prs1.map fun _ => .ok (.bl true) [x] := by kernel_rfl
theorem eqf_b (st : Store) : (qs.flatMap fun q => qs.map fun o => (q, o)).map (fun p => b_Field___eq__ [some (Fo p.1), some (Fo p.2)] st) = (qs.flatMap fun q => qs.map fun o => (q, o)).map fun p => .rt (.bl (decide (((p.1 : Nat) : Int) = ((p.2 : Nat) : Int)))) st := by kernel_rfl
include hq in
theorem eqf_ok {o : Nat} (ho : o ∈ qs) : f_Field___eq__ [Fo q, Fo o] st = .ok (.bl (decide (((q : Nat) : Int) = ((o : Nat) : Int)))) st :=
  mkFn_ok0 (List.map_inj_left.mp (eqf_b st) (q, o) (List.mem_flatMap.mpr ⟨q, hq, List.mem_map.mpr ⟨o, ho, rfl⟩⟩)) rfl
/-! ### powers -/
def powN (q a : Nat) : Nat → Nat
  | 0 => 1
  | k + 1 => mulN q (powN q a k) a
include hq ha in
theorem powN_lt (k : Nat) : powN q a k < q := by
  induction k with
  | zero => exact (qs_lt hq).1
  | succ k ih => exact ((closed q hq _ ih).2.2 a ha).2.1
include hq ha in
theorem powN_sq (j : Nat) : powN q (mulN q a a) j = powN q a (2 * j) := by
  induction j with
  | zero => rfl
  | succ j ih =>
    have h := powN_lt hq ha (2 * j)
    show mulN q (powN q (mulN q a a) j) (mulN q a a) = mulN q (mulN q (powN q a (2 * j)) a) a
    rw [ih, (assoc q hq _ h a ha a ha).1]
abbrev cPw : DenT := dB (dOp2 (opInt fGt) (dVar 2) (dC (.int 0)))
abbrev bPw : DenS := (sSeq (sIf (dB (dOp2 oEq (dOp2 (opInt fMod) (dVar 2) (dC (.int 2))) (dC (.int 1))))
 (sSet 3 (dMeth 4 3 f_Field_multiply (dVar 0) (aCons (dVar 3) (aCons (dVar 1) aNil))))
 sSkip)
 (sSeq (sSet 1 (dMeth 4 3 f_Field_multiply (dVar 0) (aCons (dVar 1) (aCons (dVar 1) aNil))))
 (sSet 2 (dOp2 (opInt fDiv) (dVar 2) (dC (.int 2))))))
include hq in
theorem fpow_turn (F : Nat) : ∀ (N k r a : Nat), k < 2 ^ N → r < q → a < q →
    ∃ a' : Nat, whileL cPw bPw (N + F + 1) [some (Fo q), some (.int (a : Nat)), some (.int (k : Nat)), some (.int (r : Nat))] st = .nx [some (Fo q), some (.int (a' : Nat)), some (.int 0), some (.int (mulN q r (powN q a k) : Nat))] st := by
  have stop : ∀ (M r a : Nat), r < q → ∃ a' : Nat, whileL cPw bPw (M + 1) [some (Fo q), some (.int (a : Nat)), some (.int ((0 : Nat) : Int)), some (.int (r : Nat))] st = .nx [some (Fo q), some (.int (a' : Nat)), some (.int 0), some (.int (mulN q r (powN q a 0) : Nat))] st := fun M r a hr =>
    ⟨a, (while_end (dB_ok rfl)).trans (by show _ = RS.nx [_, _, _, some (PV.int ((mulN q r 1 : Nat) : Int))] st; rw [(units q hq r hr).2.1]; rfl)⟩
  intro N
  induction N with
  | zero =>
    intro k r a hk hr ha
    obtain rfl : k = 0 := by simpa using hk
    exact stop _ r a hr
  | succ N ih =>
    intro k r a hk hr ha
    by_cases k0 : k = 0
    · subst k0; exact stop _ r a hr
    · have hk2 : k / 2 < 2 ^ N := by rw [Nat.pow_succ] at hk; omega
      have haa := ((closed q hq a ha).2.2 a ha).2.1
      have c0 : cPw [some (Fo q), some (.int (a : Nat)), some (.int (k : Nat)), some (.int (r : Nat))] st = .ok true st :=
        dB_ok (dOp2_ok (dVar_ok rfl rfl) (dC_ok _ _ _) (by show Res.ok (PV.bl (decide ((k : Int) > 0))) st = _; rw [decide_eq_true (by omega)]))
      have s2 : ∀ r' : Nat, sSeq (sSet 1 (dMeth 4 3 f_Field_multiply (dVar 0) (aCons (dVar 1) (aCons (dVar 1) aNil)))) (sSet 2 (dOp2 (opInt fDiv) (dVar 2) (dC (.int 2)))) [some (Fo q), some (.int (a : Nat)), some (.int (k : Nat)), some (.int (r' : Nat))] st = .nx [some (Fo q), some (.int (mulN q a a : Nat)), some (.int ((k / 2 : Nat) : Int)), some (.int (r' : Nat))] st := fun r' =>
        (sSeq_nx (sSet_ok ((dMeth_ok (dVar_ok (i := 0) rfl rfl) (a2_ok (dVar_ok (i := 1) rfl rfl) (dVar_ok (i := 1) rfl rfl)) rfl).trans (mul_ok hq ha ha st)))).trans (sSet_ok (dOp2_ok (dVar_ok rfl rfl) (dC_ok _ _ _) (op_div (by decide) (by decide) st)))
      have c1 : dB (dOp2 oEq (dOp2 (opInt fMod) (dVar 2) (dC (.int 2))) (dC (.int 1))) [some (Fo q), some (.int (a : Nat)), some (.int (k : Nat)), some (.int (r : Nat))] st = .ok (decide ((k : Int) % 2 = 1)) st :=
        dB_ok (dOp2_ok (dOp2_ok (dVar_ok rfl rfl) (dC_ok _ _ _) (op_mod (by decide) st)) (dC_ok _ _ _) (eq_int _ _ _))
      have hp := powN_lt hq ha (2 * (k / 2))
      by_cases od : (k : Int) % 2 = 1
      · have od' : k % 2 = 1 := by omega
        have hra := ((closed q hq r hr).2.2 a ha).2.1
        obtain ⟨a', e⟩ := ih (k / 2) (mulN q r a) (mulN q a a) hk2 hra haa
        refine ⟨a', ?_⟩
        rw [show N + 1 + F + 1 = (N + F + 1) + 1 from by omega, while_go (c := cPw) (b := bPw) c0 ((sSeq_nx ((sIf_ok c1).trans ((if_pos (decide_eq_true od)).trans (sSet_ok ((dMeth_ok (dVar_ok (i := 0) rfl rfl) (a2_ok (dVar_ok (i := 3) rfl rfl) (dVar_ok (i := 1) rfl rfl)) rfl).trans (mul_ok hq hr ha st)))))).trans (s2 (mulN q r a)))]
        rw [e, powN_sq hq ha, (assoc q hq r hr a ha _ hp).1, ((closed q hq a ha).2.2 _ hp).2.2.1]
        have : k = 2 * (k / 2) + 1 := by omega
        rw [show powN q a k = mulN q (powN q a (2 * (k / 2))) a from by rw [this]; show mulN q (powN q a (2 * (k / 2))) a = mulN q (powN q a (2 * ((2 * (k / 2) + 1) / 2))) a; rw [show (2 * (k / 2) + 1) / 2 = k / 2 from by omega]]
      · have od' : k % 2 = 0 := by omega
        obtain ⟨a', e⟩ := ih (k / 2) r (mulN q a a) hk2 hr haa
        refine ⟨a', ?_⟩
        rw [show N + 1 + F + 1 = (N + F + 1) + 1 from by omega, while_go (c := cPw) (b := bPw) c0 ((sSeq_nx ((sIf_ok c1).trans ((if_neg (by rw [decide_eq_false od]; decide)).trans rfl))).trans (s2 r))]
        rw [e, powN_sq hq ha, show 2 * (k / 2) = k from by omega]
include hq ha in
theorem fpow_ok {k : Nat} (hk : k < 1024) : f_Field_power [Fo q, .int (a : Nat), .int (k : Nat)] st = .ok (.int (powN q a k : Nat)) st := by
  obtain ⟨a', e⟩ := fpow_turn hq st (99999 - 10) 10 k 1 a hk (by have := (qs_lt hq).1; omega) ha
  refine mkFn_ok0 ?_ rfl
  rw [← sWhile_at 10 (by decide), (units q hq _ (powN_lt hq ha k)).1] at e
  exact (sSeq_nx (sSet_ok (dC_ok _ _ _))).trans ((sSeq_nx e).trans (sRet_ok (dVar_ok rfl rfl)))
end Wi

/-! plain worths of k01's functions -/
namespace Wi
open PySem L2
def b_Field_mirrored : DenS :=
 (sSeq (sIf (dB (dOp2 oEq (dFld 4 0 (dVar 0)) (dFld 4 1 (dVar 0))))
 (sRet (dVar 1))
 sSkip)
 (sRet (dMeth 4 3 f_Field_power (dVar 0) (aCons (dVar 1) (aCons (dFld 4 1 (dVar 0)) aNil)))))
def f_Field_mirrored : FnS := mkFn 2 b_Field_mirrored
def b_Field_is_fixed : DenS :=
 (sRet (dOp2 oEq (dMeth 4 2 f_Field_mirrored (dVar 0) (aCons (dVar 1) aNil)) (dVar 1)))
def f_Field_is_fixed : FnS := mkFn 2 b_Field_is_fixed
def b_Field_trace : DenS :=
 (sRet (dMeth 4 3 f_Field_add (dVar 0) (aCons (dVar 1) (aCons (dMeth 4 2 f_Field_mirrored (dVar 0) (aCons (dVar 1) aNil)) aNil))))
def f_Field_trace : FnS := mkFn 2 b_Field_trace
def b_Field_norm : DenS :=
 (sRet (dMeth 4 3 f_Field_multiply (dVar 0) (aCons (dVar 1) (aCons (dMeth 4 2 f_Field_mirrored (dVar 0) (aCons (dVar 1) aNil)) aNil))))
def f_Field_norm : FnS := mkFn 2 b_Field_norm
def b_Field__roots : DenS :=
 (sRet (dFrz (lComp (iSeq (dMeth 4 1 f_Field_numbers (dVar 0) aNil)) (.n 2) (dB (dOp2 oEq (dMeth 4 3 f_Field_multiply (dVar 0) (aCons (dVar 2) (aCons (dVar 2) aNil))) (dVar 1))) (dVar 2) [2])))
def f_Field__roots : FnS := mkFn 3 b_Field__roots
def b_Field_is_square : DenS :=
 (sRet (dOp2 (opInt fGt) (dFn cLen (aCons (dMeth 4 2 f_Field__roots (dVar 0) (aCons (dVar 1) aNil)) aNil)) (dC (.int 0))))
def f_Field_is_square : FnS := mkFn 2 b_Field_is_square
def b__law_bar : DenS :=
 (sSeq (sIf (dB (dOp2 oEq (dOp2 oIx (dVar 0) (dC (.int 0))) (dC (.int 4))))
 (sRet (dOp2 oIx (dOp2 oIx (dOp2 oIx (dVar 0) (dC (.int 2))) (dVar 1)) (dVar 1)))
 sSkip)
 (sSeq (sIf (dB (dOp2 oEq (dOp2 oIx (dVar 0) (dC (.int 0))) (dC (.int 9))))
 (sRet (dOp2 oIx (dOp2 oIx (dOp2 oIx (dVar 0) (dC (.int 2))) (dVar 1)) (dOp2 oIx (dOp2 oIx (dOp2 oIx (dVar 0) (dC (.int 2))) (dVar 1)) (dVar 1))))
 sSkip)
 (sRet (dVar 1))))
def f__law_bar : FnS := mkFn 2 b__law_bar
def b_Field_root : DenS :=
 (sSeq (sSet 2 (dMeth 4 2 f_Field__roots (dVar 0) (aCons (dVar 1) aNil)))
 (sSeq (sIf (dB (dOp2 oEq (dFn cLen (aCons (dVar 2) aNil)) (dC (.int 0))))
 (sRaise1 2 (dC (.str "square")))
 sSkip)
 (sRet (dOp2 oIx (dVar 2) (dC (.int 0))))))
def f_Field_root : FnS := mkFn 3 b_Field_root
def b_Field_least_nonsquare : DenS :=
 (sSeq (sIf (dB (dOp2 oEq (dFld 4 1 (dVar 0)) (dC (.int 2))))
 (sRaise1 2 (dC (.str "two")))
 sSkip)
 (sRet (dOp2 oIx (dFrz (lComp (iSeq (dMeth 4 1 f_Field_numbers (dVar 0) aNil)) (.n 1) (tNotD (dTru (dMeth 4 2 f_Field_is_square (dVar 0) (aCons (dVar 1) aNil)))) (dVar 1) [1])) (dC (.int 0)))))
def f_Field_least_nonsquare : FnS := mkFn 2 b_Field_least_nonsquare
def b_Field_half_root : DenS :=
 (sSeq (sIf (dB (dOp2 oNe (dFld 4 1 (dVar 0)) (dC (.int 2))))
 (sRaise1 2 (dC (.str "odd")))
 sSkip)
 (sSeq (sFor (iSeq (dMeth 4 1 f_Field_numbers (dVar 0) aNil)) (gN 2)
 (sIf (dB (dOp2 oEq (dMeth 4 3 f_Field_add (dVar 0) (aCons (dMeth 4 3 f_Field_multiply (dVar 0) (aCons (dVar 2) (aCons (dVar 2) aNil))) (aCons (dVar 2) aNil))) (dVar 1)))
 (sRet (dVar 2))
 sSkip))
 (sRet (dC .non))))
def f_Field_half_root : FnS := mkFn 3 b_Field_half_root
def b_Field_least_without_root : DenS :=
 (sRet (dOp2 oIx (dFrz (lCompE (iSeq (dMeth 4 1 f_Field_numbers (dVar 0) aNil)) (.n 1) (dB (dOp2 (oIs false) (dMeth 4 2 f_Field_half_root (dVar 0) (aCons (dVar 1) aNil)) (dC .non))) (dVar 1) [1])) (dC (.int 0))))
def f_Field_least_without_root : FnS := mkFn 2 b_Field_least_without_root
def b__law_asked : DenS :=
 (sTryA 3 [false, false, true]
 (sSeq (sIf (dB (dOp2 oEq (dVar 1) (dC (.int 0))))
 (sRet (dMeth 4 2 f_Field_root (dVar 0) (aCons (dVar 2) aNil)))
 sSkip)
 (sSeq (sIf (dB (dOp2 oEq (dVar 1) (dC (.int 1))))
 (sRet (dMeth 4 1 f_Field_least_nonsquare (dVar 0) aNil))
 sSkip)
 (sSeq (sIf (dB (dOp2 oEq (dVar 1) (dC (.int 2))))
 (sRet (dMeth 4 2 f_Field_half_root (dVar 0) (aCons (dVar 2) aNil)))
 sSkip)
 (sRet (dMeth 4 1 f_Field_least_without_root (dVar 0) aNil)))))
 (sRetX xFld))
def f__law_asked : FnS := mkFn 4 b__law_asked
end Wi

/-! a comprehension over whole numbers -/
namespace Wi
open PySem L2
theorem filtm_pns {f : Nat → Bool} {F : PV → Bool} {g : Nat → PV} {G : PV → PV} (hF : ∀ n : Nat, F (.int (n : Nat)) = f n) (hG : ∀ n : Nat, G (.int (n : Nat)) = g n) : ∀ ns : List Nat, ((pns ns).filter F).map G = (ns.filter f).map g
  | [] => rfl
  | n :: ns => by
    show (((PV.int (n : Nat)) :: pns ns).filter F).map G = _
    rw [List.filter_cons, List.filter_cons, hF]
    cases f n with
    | false => exact filtm_pns hF hG ns
    | true =>
      show G (.int (n : Nat)) :: ((pns ns).filter F).map G = g n :: (ns.filter f).map g
      rw [hG, filtm_pns hF hG ns]
theorem comp_pns {i : DenI} {n : Nat} {c : DenT} {e : Den} {own : List Nat} {ρ : Sl} {st : Store} {ns : List Nat} (f : Nat → Bool) (g : Nat → PV) (hi : i ρ st = .ok (pns ns) st)
    (hc : ∀ k ∈ ns, ∀ st', c ((wipeP ρ own).set n (some (.int (k : Nat)))) st' = .ok (f k) st') (he : ∀ k ∈ ns, f k = true → ∀ st', e ((wipeP ρ own).set n (some (.int (k : Nat)))) st' = .ok (g k) st') (ht : ∀ k, isTree (g k) = true) (hl : ns.length ≤ 16777216) :
    lComp i (.n n) c e own ρ st = .ok ((ns.filter f).map g) st := by
  refine (comp_ok (xs := pns ns) (fun x => match x with | .int j => f j.toNat | _ => false) (fun x => match x with | .int j => g j.toNat | _ => .non) hi ?_ ?_ ?_ (by simpa [pns] using hl)).trans ?_
  · intro x hx st'
    obtain ⟨k, hk, rfl⟩ := List.mem_map.mp hx
    exact hc k hk st'
  · intro x hx h st'
    obtain ⟨k, hk, rfl⟩ := List.mem_map.mp hx
    exact he k hk h st'
  · intro x hx
    obtain ⟨k, hk, rfl⟩ := List.mem_map.mp hx
    exact ht k
  · exact congrArg (Res.ok · st) (filtm_pns (fun _ => rfl) (fun _ => rfl) ns)
/-- without a condition -/
theorem comp_pns1 {i : DenI} {n : Nat} {e : Den} {own : List Nat} {ρ : Sl} {st : Store} {ns : List Nat} (g : Nat → PV) (hi : i ρ st = .ok (pns ns) st)
    (he : ∀ k ∈ ns, ∀ st', e ((wipeP ρ own).set n (some (.int (k : Nat)))) st' = .ok (g k) st') (ht : ∀ k, isTree (g k) = true) (hl : ns.length ≤ 16777216) :
    lComp i (.n n) tYesD e own ρ st = .ok (ns.map g) st := by
  refine (comp_pns (fun _ => true) g hi (fun _ _ _ => rfl) (fun k hk _ => he k hk) ht hl).trans ?_
  rw [List.filter_eq_self.mpr (fun _ _ => rfl)]
end Wi

/-! plain worths of k02's functions -/
namespace Wi
open PySem L2
def b_is_row : DenS :=
 (sRet (dAndV (dIsi "tuple" (dVar 1)) (dAndV (dOp2 oEq (dFn cLen (aCons (dVar 1) aNil)) (dVar 2)) (dFn cAll (aCons (dFrz (lComp (iSeq (dVar 1)) (.n 3) tYesD (dMeth 4 2 f_Field_is_number (dVar 0) (aCons (dVar 3) aNil)) [3])) aNil)))))
def f_is_row : FnS := mkFn 4 b_is_row
def b_unit_row : DenS :=
 (sRet (dTupG (iRng (dVar 0)) (.n 2) tYesD (dIf (dB (dOp2 oEq (dVar 2) (dVar 1))) (dC (.int 1)) (dC (.int 0))) [2]))
def f_unit_row : FnS := mkFn 3 b_unit_row
def b_scaled : DenS :=
 (sSeq (sSet 3 (dOp2 oIx (dFld 4 3 (dVar 0)) (dVar 2)))
 (sRet (dTupG (iSeq (dVar 1)) (.n 4) tYesD (dOp2 oIx (dVar 3) (dVar 4)) [4])))
def f_scaled : FnS := mkFn 5 b_scaled
def b_add : DenS :=
 (sSeq (sSet 3 (dFld 4 2 (dVar 0)))
 (sRet (dTupG (iZip (aCons (dVar 1) (aCons (dVar 2) aNil))) (.t [4, 5]) tYesD (dOp2 oIx (dOp2 oIx (dVar 3) (dVar 4)) (dVar 5)) [4, 5])))
def f_add : FnS := mkFn 6 b_add
def b_add_multiple : DenS :=
 (sRet (dCall 3 f_add (aCons (dVar 0) (aCons (dVar 1) (aCons (dCall 3 f_scaled (aCons (dVar 0) (aCons (dVar 3) (aCons (dVar 2) aNil)))) aNil)))))
def f_add_multiple : FnS := mkFn 4 b_add_multiple
def b__cleared : DenS :=
 (sSeq (sSet 4 (dFrz (lComp (iSeq (dVar 1)) (.n 5) tYesD (dCall 4 f_add_multiple (aCons (dVar 0) (aCons (dVar 5) (aCons (dMeth 4 2 f_Field_negative (dVar 0) (aCons (dOp2 oIx (dVar 5) (dVar 3)) aNil)) (aCons (dVar 2) aNil))))) [5])))
 (sRet (dFrz (lComp (iSeq (dVar 4)) (.n 5) (dTru (dFn cAny (aCons (dVar 5) aNil))) (dVar 5) [5]))))
def f__cleared : FnS := mkFn 6 b__cleared
def b_reduced : DenS :=
 (sSeq (sSet 3 (dFrz (lList (dVar 1))))
 (sSeq (sSet 4 (dFrz (lDisp aNil)))
 (sSeq (sSet 5 (dNew (lDisp aNil)))
 (sSeq (sFor (iRng (dVar 2)) (gN 6)
 (sSeq (sSet 7 (dFrz (lComp (iSeq (dVar 3)) (.n 9) (dB (dOp2 oNe (dOp2 oIx (dVar 9) (dVar 6)) (dC (.int 0)))) (dVar 9) [9])))
 (sIf (dTru (dVar 7))
 (sSeq (sSet 8 (dCall 3 f_scaled (aCons (dVar 0) (aCons (dOp2 oIx (dVar 7) (dC (.int 0))) (aCons (dMeth 4 2 f_Field_inverse (dVar 0) (aCons (dOp2 oIx (dOp2 oIx (dVar 7) (dC (.int 0))) (dVar 6)) aNil)) aNil)))))
 (sSeq (sSet 3 (dCall 4 f__cleared (aCons (dVar 0) (aCons (dVar 3) (aCons (dVar 8) (aCons (dVar 6) aNil))))))
 (sSeq (sSet 4 (dFrz (lCat (dCall 4 f__cleared (aCons (dVar 0) (aCons (dVar 4) (aCons (dVar 8) (aCons (dVar 6) aNil))))) (dFrz (lDisp (aCons (dVar 8) aNil))))))
 (sExpr (dLm mAppend (dVar 5) (aCons (dVar 6) aNil))))))
 sSkip)))
 (sRet (dTup (aCons (dFn cTup (aCons (dVar 4) aNil)) (aCons (dFn cTup (aCons (dVar 5) aNil)) aNil))))))))
def f_reduced : FnS := mkFn 10 b_reduced
def b_span : DenS :=
 (sRet (dOp2 oIx (dCall 3 f_reduced (aCons (dVar 0) (aCons (dVar 1) (aCons (dVar 2) aNil)))) (dC (.int 0))))
def f_span : FnS := mkFn 3 b_span
def b_is_space : DenS :=
 (sSeq (sIf (tOrD (tNotD (dTru (dIsi "tuple" (dVar 1)))) (tNotD (dTru (dFn cAll (aCons (dFrz (lComp (iSeq (dVar 1)) (.n 3) tYesD (dCall 3 f_is_row (aCons (dVar 0) (aCons (dVar 3) (aCons (dVar 2) aNil)))) [3])) aNil)))))
 (sRet (dC (.bl false)))
 sSkip)
 (sRet (dOp2 oEq (dCall 3 f_span (aCons (dVar 0) (aCons (dVar 1) (aCons (dVar 2) aNil)))) (dVar 1))))
def f_is_space : FnS := mkFn 4 b_is_space
def b__law_combined : DenS :=
 (sSeq (sSet 4 (dFn cTup (aCons (dFrz (lComp (iRng (dVar 3)) (.n 5) tYesD (dC (.int 0)) [5])) aNil)))
 (sSeq (sFor (iRng (dFn cLen (aCons (dVar 2) aNil))) (gN 5)
 (sSet 4 (dCall 3 f__law_sum (aCons (dVar 0) (aCons (dVar 4) (aCons (dCall 3 f__law_times (aCons (dVar 0) (aCons (dOp2 oIx (dVar 1) (dVar 5)) (aCons (dOp2 oIx (dVar 2) (dVar 5)) aNil)))) aNil))))))
 (sRet (dVar 4))))
def f__law_combined : FnS := mkFn 6 b__law_combined
def b__law_unit : DenS :=
 (sRet (dFn cTup (aCons (dFrz (lComp (iRng (dVar 0)) (.n 2) tYesD (dFn cInt (aCons (dOp2 oEq (dVar 2) (dVar 1)) aNil)) [2])) aNil)))
def f__law_unit : FnS := mkFn 3 b__law_unit
def b__law_cleared : DenS :=
 (sSeq (sSet 4 (dCall 3 f__law_mul (aCons (dVar 0) (aCons (dOp2 oIx (dVar 1) (dVar 3)) (aCons (dCall 2 f__law_inverse (aCons (dVar 0) (aCons (dOp2 oIx (dVar 2) (dVar 3)) aNil))) aNil)))))
 (sRet (dCall 3 f__law_sum (aCons (dVar 0) (aCons (dVar 1) (aCons (dCall 3 f__law_times (aCons (dVar 0) (aCons (dVar 2) (aCons (dCall 2 f__law_negative (aCons (dVar 0) (aCons (dVar 4) aNil))) aNil)))) aNil))))))
def f__law_cleared : FnS := mkFn 5 b__law_cleared
def b__law_rank : DenS :=
 (sSeq (sSet 3 (dNew (lList (dVar 1))))
 (sSeq (sSet 4 (dC (.int 0)))
 (sSeq (sFor (iRng (dVar 2)) (gN 5)
 (sSeq (sSet 6 (dFrz (lComp (iRng (dFn cLen (aCons (dVar 3) aNil))) (.n 8) (dB (dOp2 oNe (dOp2 oIx (dOp2 oIx (dVar 3) (dVar 8)) (dVar 5)) (dC (.int 0)))) (dVar 8) [8])))
 (sIf (dB (dOp2 (opInt fGt) (dFn cLen (aCons (dVar 6) aNil)) (dC (.int 0))))
 (sSeq (sSet 7 (dLm mPop (dVar 3) (aCons (dOp2 oIx (dVar 6) (dC (.int 0))) aNil)))
 (sSeq (sSet 3 (dNew (lComp (iSeq (dVar 3)) (.n 9) tYesD (dCall 4 f__law_cleared (aCons (dVar 0) (aCons (dVar 9) (aCons (dVar 7) (aCons (dVar 5) aNil))))) [9])))
 (sSet 4 (dOp2 oAdd (dVar 4) (dC (.int 1))))))
 sSkip)))
 (sRet (dVar 4)))))
def f__law_rank : FnS := mkFn 10 b__law_rank
def b__law_any_row : DenS :=
 (sRet (dFn cTup (aCons (dFrz (lComp (iRng (dVar 2)) (.n 3) tYesD (dCall 2 f__law_take (aCons (dVar 0) (aCons (dOp2 oIx (dVar 1) (dC (.int 0))) aNil))) [3])) aNil)))
def f__law_any_row : FnS := mkFn 4 b__law_any_row
def b__law_lines : DenS :=
 (sSeq (sSet 4 (dNew (lComp (iRng (dVar 2)) (.n 5) tYesD (dCall 3 f__law_any_row (aCons (dVar 0) (aCons (dVar 1) (aCons (dVar 3) aNil)))) [5])))
 (sSeq (sIf (tAndD (dB (dOp2 (opInt fGt) (dVar 2) (dC (.int 2)))) (dB (dOp2 oEq (dCall 2 f__law_take (aCons (dVar 0) (aCons (dC (.int 2)) aNil))) (dC (.int 0)))))
 (sAsg (dCall 3 f__law_sum (aCons (dVar 1) (aCons (dOp2 oIx (dVar 4) (dC (.int 0))) (aCons (dCall 3 f__law_times (aCons (dVar 1) (aCons (dOp2 oIx (dVar 4) (dC (.int 1))) (aCons (dCall 2 f__law_take (aCons (dVar 0) (aCons (dOp2 oIx (dVar 1) (dC (.int 0))) aNil))) aNil)))) aNil)))) (gSubD (dVar 4) (dC (.int 2))))
 sSkip)
 (sSeq (sIf (tAndD (dB (dOp2 (opInt fGt) (dVar 2) (dC (.int 0)))) (dB (dOp2 oEq (dCall 2 f__law_take (aCons (dVar 0) (aCons (dC (.int 5)) aNil))) (dC (.int 0)))))
 (sAsg (dFn cTup (aCons (dFrz (lComp (iRng (dVar 3)) (.n 5) tYesD (dC (.int 0)) [5])) aNil)) (gSubD (dVar 4) (dC (.int 0))))
 sSkip)
 (sRet (dFn cTup (aCons (dVar 4) aNil))))))
def f__law_lines : FnS := mkFn 6 b__law_lines
def b__law_some_field : DenS :=
 (sRet (dCall 1 f__law_field (aCons (dOp2 oIx (dFrz (lDisp (aCons (dC (.int 2)) (aCons (dC (.int 3)) (aCons (dC (.int 4)) (aCons (dC (.int 5)) (aCons (dC (.int 7)) (aCons (dC (.int 9)) aNil)))))))) (dCall 2 f__law_take (aCons (dVar 0) (aCons (dC (.int 6)) aNil)))) aNil)))
def f__law_some_field : FnS := mkFn 1 b__law_some_field
def b__law_is_reduced : DenS :=
 (sSeq (sSet 3 (dNeg (dC (.int 1))))
 (sSeq (sFor (iRng (dFn cLen (aCons (dVar 0) aNil))) (gN 4)
 (sSeq (sSet 5 (dOp2 oIx (dVar 1) (dVar 4)))
 (sSeq (sIf (tOrD (dB (dOp2 (opInt fLe) (dVar 5) (dVar 3))) (tOrD (dB (dOp2 oNe (dFn cLen (aCons (dOp2 oIx (dVar 0) (dVar 4)) aNil)) (dVar 2))) (tOrD (dB (dOp2 oNe (dOp2 oIx (dOp2 oIx (dVar 0) (dVar 4)) (dVar 5)) (dC (.int 1)))) (dTru (dFn cAny (aCons (dCut (dOp2 oIx (dVar 0) (dVar 4)) oNo (oSome (dVar 5))) aNil))))))
 (sRet (dC (.bl false)))
 sSkip)
 (sSeq (sFor (iRng (dFn cLen (aCons (dVar 0) aNil))) (gN 6)
 (sIf (tAndD (dB (dOp2 oNe (dVar 6) (dVar 4))) (dB (dOp2 oNe (dOp2 oIx (dOp2 oIx (dVar 0) (dVar 6)) (dVar 5)) (dC (.int 0)))))
 (sRet (dC (.bl false)))
 sSkip))
 (sSet 3 (dVar 5))))))
 (sRet (dC (.bl true)))))
def f__law_is_reduced : FnS := mkFn 7 b__law_is_reduced
end Wi

/-! rows of numbers: tuples out of generator expressions, sums, multiples -/
namespace Wi
open PySem L2
/-- tuple(e for t in i): every item has its worth, the store stays -/
theorem gGo_ok {t : Pt} {e : Den} {own : List Nat} {ρ : Sl} {st : Store} (g : PV → PV) : ∀ (xs acc : List PV),
    (∀ x ∈ xs, ∃ ρ1, bindPt t x (wipeP ρ own) = some ρ1 ∧ e ρ1 st = .ok (g x) st ∧ isTree (g x) = true) → acc.length + xs.length ≤ 16777216 → gGo t tYesD e own xs acc ρ st = .ok (acc ++ xs.map g) st
  | [], acc, _, _ => by simp [gGo]
  | x :: xs, acc, h, hl => by
    obtain ⟨ρ1, h1, h2, h3⟩ := h x List.mem_cons_self
    have hb : Nat.blt acc.length 16777216 = true := by simp only [Nat.blt_eq]; simp at hl; omega
    have ih := gGo_ok (e := e) (t := t) (own := own) (ρ := ρ) (st := st) g xs (acc ++ [g x]) (fun y hy => h y (List.mem_cons_of_mem _ hy)) (by simp at hl ⊢; omega)
    unfold gGo
    simp only [h1, tYesD, noexc, Res.bind, if_true, h2, h3, hb, Bool.and_self]
    rw [ih, List.map_cons, List.append_assoc]
    rfl
theorem tupG_ok {i : DenI} {t : Pt} {e : Den} {own : List Nat} {ρ : Sl} {st : Store} {xs : List PV} (g : PV → PV) (hi : i ρ st = .ok xs st)
    (h : ∀ x ∈ xs, ∃ ρ1, bindPt t x (wipeP ρ own) = some ρ1 ∧ e ρ1 st = .ok (g x) st ∧ isTree (g x) = true) (hl : xs.length ≤ 16777216) : dTupG i t tYesD e own ρ st = .ok (.tup (xs.map g)) st := by
  unfold dTupG
  rw [hi]
  show (gGo t tYesD e own xs [] ρ st).bind _ = _
  rw [gGo_ok g xs [] h (by simpa using hl)]
  rfl
/-- over whole numbers -/
theorem tupG_pns {i : DenI} {n : Nat} {e : Den} {own : List Nat} {ρ : Sl} {st : Store} {ns : List Nat} (g : Nat → Nat) (hi : i ρ st = .ok (pns ns) st) (h : ∀ k ∈ ns, e ((wipeP ρ own).set n (some (.int (k : Nat)))) st = .ok (.int (g k : Nat)) st) (hl : ns.length ≤ 16777216) :
    dTupG i (.n n) tYesD e own ρ st = .ok (.tup (pns (ns.map g))) st := by
  refine (tupG_ok (xs := pns ns) (fun x => match x with | .int j => .int (g j.toNat : Nat) | _ => .non) hi ?_ (by simpa [pns] using hl)).trans ?_
  · intro x hx
    obtain ⟨k, hk, rfl⟩ := List.mem_map.mp hx
    exact ⟨_, rfl, h k hk, rfl⟩
  · rw [pns, pns, List.map_map, List.map_map]
    rfl
theorem zipP_pns : ∀ v w : List Nat, zipP (pns v) (pns w) = (v.zip w).map fun p => .tup [.int (p.1 : Nat), .int (p.2 : Nat)]
  | [], _ => by simp [zipP, pns]
  | _ :: _, [] => by simp [zipP, pns]
  | x :: v, y :: w => by
    show PV.tup [_, _] :: zipP (pns v) (pns w) = _
    rw [zipP_pns v w]
    rfl
/-- over pairs -/
theorem tupG_zip {da : DenA} {n m : Nat} {e : Den} {own : List Nat} {ρ : Sl} {st : Store} {v w : List Nat} (g : Nat → Nat → Nat) (hi : da ρ st = .ok [.tup (pns v), .tup (pns w)] st)
    (h : ∀ p ∈ v.zip w, e (((wipeP ρ own).set n (some (.int (p.1 : Nat)))).set m (some (.int (p.2 : Nat)))) st = .ok (.int (g p.1 p.2 : Nat)) st) (hl : v.length ≤ 16777216) :
    dTupG (iZip da) (.t [n, m]) tYesD e own ρ st = .ok (.tup (pns (List.zipWith g v w))) st := by
  have hz : iZip da ρ st = .ok ((v.zip w).map fun p => PV.tup [.int (p.1 : Nat), .int (p.2 : Nat)]) st := by
    unfold iZip
    rw [hi]
    show Res.ok (zipP (pns v) (pns w)) st = _
    rw [zipP_pns]
  refine (tupG_ok (fun x => match x with | .tup [.int a, .int b] => .int (g a.toNat b.toNat : Nat) | _ => .non) hz ?_ (by simp; omega)).trans ?_
  · intro x hx
    obtain ⟨p, hp, rfl⟩ := List.mem_map.mp hx
    exact ⟨_, rfl, h p hp, rfl⟩
  · rw [List.map_map, pns, ← List.map_uncurry_zip_eq_zipWith, List.map_map]
    rfl
/-! ### rows -/
def addR (q : Nat) (v w : List Nat) : List Nat := List.zipWith (addN q) v w
def sclR (q c : Nat) (v : List Nat) : List Nat := v.map (mulN q c)
/-- a row of n numbers of the field -/
def Rw (q n : Nat) (v : List Nat) : Prop := v.length = n ∧ ∀ x ∈ v, x < q
section
variable {q : Nat} (hq : q ∈ qs) (x : Cell)
def rowSums (q a : Nat) : PV := .tup (pns ((List.range q).map (addN q a)))
theorem sums_b (st : Store) : prs1.map (fun p => oIx (.tup ((rowsN (addN p.1) p.1).map fun r => .tup (pns r))) (.int (p.2 : Nat)) st) = prs1.map fun p => .ok (rowSums p.1 p.2) st := by kernel_rfl
theorem sum2_b (st : Store) : prs2.map (fun p => oIx (rowSums p.1 p.2.1) (.int (p.2.2 : Nat)) st) = prs2.map fun p => .ok (.int (addN p.1 p.2.1 p.2.2 : Nat)) st := by kernel_rfl
def rowProds (q a : Nat) : PV := .tup (pns ((List.range q).map (mulN q a)))
theorem prods_b (st : Store) : prs1.map (fun p => oIx (.tup ((rowsN (mulN p.1) p.1).map fun r => .tup (pns r))) (.int (p.2 : Nat)) st) = prs1.map fun p => .ok (rowProds p.1 p.2) st := by kernel_rfl
theorem prod2_b (st : Store) : prs2.map (fun p => oIx (rowProds p.1 p.2.1) (.int (p.2.2 : Nat)) st) = prs2.map fun p => .ok (.int (mulN p.1 p.2.1 p.2.2 : Nat)) st := by kernel_rfl
theorem fld3_ok {ρ : Sl} {st : Store} {d : Den} (h : d ρ st = .ok (Fo q) st) : dFld 4 3 d ρ st = .ok (.tup ((rowsN (mulN q) q).map fun r => .tup (pns r))) st := by unfold dFld; rw [h]; rfl
theorem fld2_ok {ρ : Sl} {st : Store} {d : Den} (h : d ρ st = .ok (Fo q) st) : dFld 4 2 d ρ st = .ok (.tup ((rowsN (addN q) q).map fun r => .tup (pns r))) st := by unfold dFld; rw [h]; rfl
theorem iSeq_tp {ρ : Sl} {st : Store} {d : Den} {xs : List PV} (h : d ρ st = .ok (.tup xs) st) : iSeq d ρ st = .ok xs st := by
  unfold iSeq dFreeze
  rw [h]
  rfl
include hq in
theorem scaled_ok {c : Nat} (hc : c < q) {v : List Nat} (hv : ∀ x ∈ v, x < q) (hl : v.length ≤ 16777216) (st : Store) : f_scaled [Fo q, .tup (pns v), .int (c : Nat)] st = .ok (.tup (pns (sclR q c v))) st := by
  refine mkFn_ok0 ?_ rfl
  refine (sSeq_nx (sSet_ok (i := 3) (dOp2_ok (fld3_ok (dVar_ok (i := 0) rfl rfl)) (dVar_ok (i := 2) rfl rfl) (map1 (prods_b st) hq hc)))).trans ?_
  refine sRet_ok (tupG_pns (mulN q c) (iSeq_tp (dVar_ok (i := 1) rfl rfl)) ?_ hl)
  intro k hk
  exact dOp2_ok (dVar_ok (i := 3) (v := rowProds q c) rfl rfl) (dVar_ok (i := 4) (v := .int (k : Nat)) rfl rfl) (map2 (prod2_b st) hq hc (hv k hk))
include hq in
theorem addr_ok {v w : List Nat} (hv : ∀ x ∈ v, x < q) (hw : ∀ x ∈ w, x < q) (hl : v.length ≤ 16777216) (st : Store) : f_add [Fo q, .tup (pns v), .tup (pns w)] st = .ok (.tup (pns (addR q v w))) st := by
  refine mkFn_ok0 ?_ rfl
  refine (sSeq_nx (sSet_ok (i := 3) (fld2_ok (dVar_ok (i := 0) rfl rfl)))).trans ?_
  refine sRet_ok (tupG_zip (addN q) (a2_ok (dVar_ok (i := 1) rfl rfl) (dVar_ok (i := 2) rfl rfl)) ?_ hl)
  rintro ⟨a, b⟩ hp
  obtain ⟨ha, hb⟩ := List.of_mem_zip hp
  exact dOp2_ok (dOp2_ok (dVar_ok (i := 3) rfl rfl) (dVar_ok (i := 4) (v := .int (a : Nat)) rfl rfl) (map1 (sums_b st) hq (hv a ha))) (dVar_ok (i := 5) (v := .int (b : Nat)) rfl rfl) (map2 (sum2_b st) hq (hv a ha) (hw b hb))
theorem sclR_lt (hq : q ∈ qs) {c : Nat} (hc : c < q) {v : List Nat} (hv : ∀ x ∈ v, x < q) : ∀ x ∈ sclR q c v, x < q := by
  intro y hy
  obtain ⟨a, ha, rfl⟩ := List.mem_map.mp hy
  exact ((closed q hq c hc).2.2 a (hv a ha)).2.1
theorem addR_lt (hq : q ∈ qs) : ∀ {v w : List Nat}, (∀ x ∈ v, x < q) → (∀ x ∈ w, x < q) → ∀ x ∈ addR q v w, x < q
  | [], _, _, _, y, hy => by simp [addR] at hy
  | _ :: _, [], _, _, y, hy => by simp [addR] at hy
  | a :: v, b :: w, hv, hw, y, hy => by
    rcases List.mem_cons.mp (show y ∈ addN q a b :: addR q v w from hy) with rfl | h
    · exact ((closed q hq a (hv a List.mem_cons_self)).2.2 b (hw b List.mem_cons_self)).1
    · exact addR_lt hq (fun x hx => hv x (List.mem_cons_of_mem _ hx)) (fun x hx => hw x (List.mem_cons_of_mem _ hx)) y h
include hq in
theorem addm_ok {c : Nat} (hc : c < q) {v w : List Nat} (hv : ∀ x ∈ v, x < q) (hw : ∀ x ∈ w, x < q) (hl : v.length ≤ 16777216) (hl2 : w.length ≤ 16777216) (st : Store) : f_add_multiple [Fo q, .tup (pns v), .int (c : Nat), .tup (pns w)] st = .ok (.tup (pns (addR q v (sclR q c w)))) st := by
  refine mkFn_ok0 ?_ rfl
  exact sRet_ok ((dCall_ok (a3_ok (dVar_ok (i := 0) rfl rfl) (dVar_ok (i := 1) rfl rfl) ((dCall_ok (a3_ok (dVar_ok (i := 0) rfl rfl) (dVar_ok (i := 3) rfl rfl) (dVar_ok (i := 2) rfl rfl)) rfl).trans (scaled_ok hq hc hw hl2 st))) rfl).trans (addr_ok hq hv (sclR_lt hq hc hw) hl st))
end
end Wi

/-! rows: the law's sums and multiples; clearing -/
namespace Wi
open PySem L2
theorem ix_at {xs : List PV} {b : Bool} {v u : PV} {k : Nat} {st : Store} (h : seqOf v st = some (b, xs)) (hk : xs[k]? = some u) : oIx v (.int (k : Nat)) st = .ok u st := by
  have lt : k < xs.length := (List.getElem?_eq_some_iff.mp hk).1
  have e : atI xs ((k : Nat) : Int) = some u := by
    unfold atI ixN
    rw [if_pos (by omega), if_pos (by omega)]
    simpa using hk
  unfold oIx
  dsimp only
  rw [h]
  dsimp only
  rw [e]
theorem ix_pns {v : List Nat} {k : Nat} (hk : k < v.length) (st : Store) : oIx (.tup (pns v)) (.int (k : Nat)) st = .ok (.int (v.getD k 0 : Nat)) st :=
  ix_at (b := false) rfl (by rw [pns, List.getElem?_map, List.getElem?_eq_getElem hk, List.getD_eq_getElem?_getD, List.getElem?_eq_getElem hk]; rfl)
/-- comprehensions over any coded things -/
theorem comp_go2 {α : Type} {n : Nat} {c : DenT} {e : Den} {own : List Nat} {ρ : Sl} {st : Store} (enc : α → PV) (f : α → Bool) (g : α → PV) : ∀ (as : List α) (acc : List PV),
    (∀ a ∈ as, ∀ st', c ((wipeP ρ own).set n (some (enc a))) st' = .ok (f a) st') → (∀ a ∈ as, f a = true → ∀ st', e ((wipeP ρ own).set n (some (enc a))) st' = .ok (g a) st') → (∀ a ∈ as, isTree (g a) = true) → acc.length + as.length ≤ 16777216 →
    compL (.n n) c e own st.length (as.map enc) ρ (st ++ [.lst acc]) = .ok (acc ++ (as.filter f).map g) st
  | [], acc, _, _, _, _ => by simp [compL]
  | a :: as, acc, hc, he, ht, hl => by
    have c1 := hc a List.mem_cons_self
    rw [List.map_cons]
    unfold compL
    simp only [bindPt, c1, noexc, Res.bind]
    cases q : f a with
    | false =>
      rw [if_neg (by simp), comp_go2 enc f g as acc (fun y h => hc y (List.mem_cons_of_mem _ h)) (fun y h => he y (List.mem_cons_of_mem _ h)) (fun y h => ht y (List.mem_cons_of_mem _ h)) (by simp at hl; omega), List.filter_cons, q, if_neg (by simp)]
    | true =>
      have hb : Nat.blt acc.length 16777216 = true := by simp only [Nat.blt_eq]; simp at hl; omega
      have := comp_go2 (st := st) enc f g as (acc ++ [g a]) (fun y h => hc y (List.mem_cons_of_mem _ h)) (fun y h => he y (List.mem_cons_of_mem _ h)) (fun y h => ht y (List.mem_cons_of_mem _ h)) (by simp at hl ⊢; omega)
      simp only [if_true, he a List.mem_cons_self q, noexc, Res.bind, List.getElem?_concat_length, ht a List.mem_cons_self, hb, Bool.and_self, List.set_append_right _ _ (Nat.le_refl _), Nat.sub_self, List.set_cons_zero]
      rw [this, List.filter_cons, q, if_pos rfl, List.map_cons, List.append_assoc]
      rfl
theorem comp2 {α : Type} {i : DenI} {n : Nat} {c : DenT} {e : Den} {own : List Nat} {ρ : Sl} {st : Store} {as : List α} (enc : α → PV) (f : α → Bool) (g : α → PV) (hi : i ρ st = .ok (as.map enc) st)
    (hc : ∀ a ∈ as, ∀ st', c ((wipeP ρ own).set n (some (enc a))) st' = .ok (f a) st') (he : ∀ a ∈ as, f a = true → ∀ st', e ((wipeP ρ own).set n (some (enc a))) st' = .ok (g a) st') (ht : ∀ a ∈ as, isTree (g a) = true) (hl : as.length ≤ 16777216) :
    lComp i (.n n) c e own ρ st = .ok ((as.filter f).map g) st := by
  unfold lComp
  rw [hi]
  show compL (.n n) c e own st.length (as.map enc) ρ (st ++ [.lst []]) = _
  rw [comp_go2 enc f g as [] hc he ht (by simpa using hl), List.nil_append]
theorem comp3 {α : Type} {i : DenI} {n : Nat} {e : Den} {own : List Nat} {ρ : Sl} {st : Store} {as : List α} (enc : α → PV) (g : α → PV) (hi : i ρ st = .ok (as.map enc) st)
    (he : ∀ a ∈ as, ∀ st', e ((wipeP ρ own).set n (some (enc a))) st' = .ok (g a) st') (ht : ∀ a ∈ as, isTree (g a) = true) (hl : as.length ≤ 16777216) :
    lComp i (.n n) tYesD e own ρ st = .ok (as.map g) st := by
  refine (comp2 enc (fun _ => true) g hi (fun _ _ _ => rfl) (fun a h _ => he a h) ht hl).trans ?_
  rw [List.filter_eq_self.mpr (fun _ _ => rfl)]
theorem map_range_zip {f : Nat → Nat → Nat} : ∀ {v w : List Nat}, v.length = w.length → (List.range' 0 v.length).map (fun k => f (v.getD k 0) (w.getD k 0)) = List.zipWith f v w := by
  intro v w h
  refine List.ext_getElem (by simp [h]) ?_
  intro i h1 h2
  have hi : i < v.length := by simpa using h1
  have hj : i < w.length := by omega
  simp [List.getD_eq_getElem?_getD, hi, hj]
theorem lenIs {ρ : Sl} {st : Store} {i : Nat} {v : List PV} (h : ρ[i]? = some (some (.tup v))) : dFn cLen (aCons (dVar i) aNil) ρ st = .ok (.int (v.length : Nat)) st := by
  have e : dVar i ρ st = .ok (.tup v) st := dVar_ok h rfl
  unfold dFn
  rw [a1_ok e]
  rfl
theorem iRng_len {ρ : Sl} {st : Store} {d : Den} {n : Nat} (h : d ρ st = .ok (.int (n : Nat)) st) (hn : n < 4611686018427387904) : iRng d ρ st = .ok (pns (List.range' 0 n)) st :=
  (iRng_ok h (midB_nat hn)).trans (by rw [Int.toNat_natCast, rgP_up]; rfl)
theorem cTup_lst {ρ : Sl} {st : Store} {d : Den} {xs : List PV} (h : d ρ st = .ok (.lst xs) st) : dFn cTup (aCons d aNil) ρ st = .ok (.tup xs) st := by
  unfold dFn
  rw [a1_ok h]
  rfl
section
variable {q : Nat} (hq : q ∈ qs)
def lrowS (q a : Nat) : PV := .lst (pns ((List.range q).map (addN q a)))
def lrowP (q a : Nat) : PV := .lst (pns ((List.range q).map (mulN q a)))
theorem lsums_b (st : Store) : prs1.map (fun p => oIx (.lst ((rowsN (addN p.1) p.1).map fun r => .lst (pns r))) (.int (p.2 : Nat)) st) = prs1.map fun p => .ok (lrowS p.1 p.2) st := by kernel_rfl
theorem lsum2_b (st : Store) : prs2.map (fun p => oIx (lrowS p.1 p.2.1) (.int (p.2.2 : Nat)) st) = prs2.map fun p => .ok (.int (addN p.1 p.2.1 p.2.2 : Nat)) st := by kernel_rfl
theorem lprods_b (st : Store) : prs1.map (fun p => oIx (.lst ((rowsN (mulN p.1) p.1).map fun r => .lst (pns r))) (.int (p.2 : Nat)) st) = prs1.map fun p => .ok (lrowP p.1 p.2) st := by kernel_rfl
theorem lprod2_b (st : Store) : prs2.map (fun p => oIx (lrowP p.1 p.2.1) (.int (p.2.2 : Nat)) st) = prs2.map fun p => .ok (.int (mulN p.1 p.2.1 p.2.2 : Nat)) st := by kernel_rfl
theorem getD_lt {v : List Nat} (h0 : 0 < q) (hv : ∀ x ∈ v, x < q) (k : Nat) : v.getD k 0 < q := by
  rw [List.getD_eq_getElem?_getD]
  cases e : v[k]? with
  | none => exact h0
  | some y => exact hv y (List.mem_of_getElem? e)
include hq in
theorem law_sum_ok {v w : List Nat} (hv : ∀ x ∈ v, x < q) (hw : ∀ x ∈ w, x < q) (hvw : v.length = w.length) (hl : v.length ≤ 16777216) (st : Store) : f__law_sum [Fl q, .tup (pns v), .tup (pns w)] st = .ok (.tup (pns (addR q v w))) st := by
  have h0 : 0 < q := by have := qs_lt hq; omega
  refine mkFn_ok0 ?_ rfl
  have hn : (pns v).length = v.length := by simp [pns]
  have c := comp_pns1 (n := 3) (own := [3]) (ns := List.range' 0 v.length) (i := iRng (dFn cLen (aCons (dVar 1) aNil))) (e := dOp2 oIx (dOp2 oIx (dOp2 oIx (dVar 0) (dC (.int 1))) (dOp2 oIx (dVar 1) (dVar 3))) (dOp2 oIx (dVar 2) (dVar 3))) (ρ := [some (Fl q), some (.tup (pns v)), some (.tup (pns w)), none]) (st := st)
    (fun k => .int (addN q (v.getD k 0) (w.getD k 0) : Nat)) (iRng_len ((lenIs (i := 1) rfl).trans (by rw [hn])) (by omega)) ?_ (fun _ => rfl) (by simpa using hl)
  · refine (sRet_ok (cTup_lst (dFrz_ok c))).trans ?_
    rw [show addR q v w = (List.range' 0 v.length).map (fun k => addN q (v.getD k 0) (w.getD k 0)) from (map_range_zip hvw).symm, pns, List.map_map]
    rfl
  · intro k hk st'
    have hk : k < v.length := by simpa using hk
    have a1 := getD_lt h0 hv k
    have a2 := getD_lt h0 hw k
    exact dOp2_ok (dOp2_ok (dOp2_ok (dVar_ok (i := 0) rfl rfl) (dC_ok _ _ _) rfl) (dOp2_ok (dVar_ok (i := 1) rfl rfl) (dVar_ok (i := 3) (v := .int (k : Nat)) rfl rfl) (ix_pns hk st')) (map1 (lsums_b st') hq a1)) (dOp2_ok (dVar_ok (i := 2) rfl rfl) (dVar_ok (i := 3) (v := .int (k : Nat)) rfl rfl) (ix_pns (by omega) st')) (map2 (lsum2_b st') hq a1 a2)
include hq in
theorem law_times_ok {c : Nat} (hc : c < q) {v : List Nat} (hv : ∀ x ∈ v, x < q) (hl : v.length ≤ 16777216) (st : Store) : f__law_times [Fl q, .tup (pns v), .int (c : Nat)] st = .ok (.tup (pns (sclR q c v))) st := by
  refine mkFn_ok0 ?_ rfl
  have k := comp_pns1 (n := 3) (own := [3]) (ns := v) (i := iSeq (dVar 1)) (e := dOp2 oIx (dOp2 oIx (dOp2 oIx (dVar 0) (dC (.int 2))) (dVar 3)) (dVar 2)) (ρ := [some (Fl q), some (.tup (pns v)), some (.int (c : Nat)), none]) (st := st)
    (fun x => .int (mulN q x c : Nat)) (iSeq_tp (dVar_ok rfl rfl)) ?_ (fun _ => rfl) hl
  · refine (sRet_ok (cTup_lst (dFrz_ok k))).trans ?_
    have e : v.map (fun x => PV.int (mulN q x c : Nat)) = pns (sclR q c v) := by
      rw [pns, sclR, List.map_map]
      refine List.map_congr_left fun x hx => ?_
      show PV.int (mulN q x c : Nat) = PV.int (mulN q c x : Nat)
      rw [((closed q hq x (hv x hx)).2.2 c hc).2.2.1]
    rw [e]
  · intro x hx st'
    exact dOp2_ok (dOp2_ok (dOp2_ok (dVar_ok (i := 0) rfl rfl) (dC_ok _ _ _) rfl) (dVar_ok (i := 3) (v := .int (x : Nat)) rfl rfl) (map1 (lprods_b st') hq (hv x hx))) (dVar_ok (i := 2) rfl rfl) (map2 (lprod2_b st') hq (hv x hx) hc)
/-! ### clearing -/
abbrev rowP (v : List Nat) : PV := .tup (pns v)
def nz (v : List Nat) : Bool := v.any (· != 0)
def clr1 (q : Nat) (h : List Nat) (p : Nat) (r : List Nat) : List Nat := addR q r (sclR q (negN q (r.getD p 0)) h)
def clrs (q : Nat) (h : List Nat) (p : Nat) (rs : List (List Nat)) : List (List Nat) := (rs.map (clr1 q h p)).filter nz
theorem trPs_pns : ∀ v : List Nat, trPs (pns v) = some (v.map fun n => ((n : Nat) : Int) != 0)
  | [] => rfl
  | n :: v => by
    show (match trP (.int (n : Nat)), trPs (pns v) with | some b, some bs => some (b :: bs) | _, _ => none) = _
    rw [trPs_pns v]
    rfl
theorem cAny_row (v : List Nat) (st : Store) : cAny [rowP v] st = .ok (.bl (nz v)) st := by
  show (match trPs (pns v) with | some bs => Res.ok (PV.bl (bs.any id)) st | none => Res.stuck 161) = _
  rw [trPs_pns]
  show Res.ok (PV.bl ((v.map fun n => ((n : Nat) : Int) != 0).any id)) st = _
  rw [List.any_map]
  have : (id ∘ fun n : Nat => ((n : Nat) : Int) != 0) = fun n : Nat => n != 0 := by
    funext n
    show (((n : Nat) : Int) != 0) = (n != 0)
    by_cases h : n = 0
    · subst h; rfl
    · rw [bne_iff_ne.mpr h, bne_iff_ne.mpr (by omega)]
  rw [this]
  rfl
theorem rw_len {n : Nat} {v : List Nat} (h : Rw q n v) : v.length = n := h.1
theorem rw_lt {n : Nat} {v : List Nat} (h : Rw q n v) : ∀ x ∈ v, x < q := h.2
include hq in
theorem clr1_rw {n p : Nat} {h r : List Nat} (hh : Rw q n h) (hr : Rw q n r) : Rw q n (clr1 q h p r) := by
  have h0 : 0 < q := by have := qs_lt hq; omega
  have hc := (closed q hq _ (getD_lt h0 hr.2 p)).1
  refine ⟨?_, addR_lt hq hr.2 (sclR_lt hq hc hh.2)⟩
  unfold clr1 addR sclR
  rw [List.length_zipWith, List.length_map, hr.1, hh.1, Nat.min_self]
include hq in
theorem cleared_ok {n p : Nat} {h : List Nat} {rs : List (List Nat)} (hn : n ≤ 1000000) (hp : p < n) (hh : Rw q n h) (hrs : ∀ r ∈ rs, Rw q n r) (hl : rs.length ≤ 16777216) (st : Store) :
    f__cleared [Fo q, .lst (rs.map rowP), rowP h, .int (p : Nat)] st = .ok (.lst ((clrs q h p rs).map rowP)) st := by
  have h0 : 0 < q := by have := qs_lt hq; omega
  refine mkFn_ok0 ?_ rfl
  have iS : ∀ {i : Nat} {ρ : Sl} {st : Store} {xs : List PV}, ρ[i]? = some (some (.lst xs)) → iSeq (dVar i) ρ st = .ok xs st := by
    intro i ρ st xs h
    have e : dVar i ρ st = .ok (.lst xs) st := dVar_ok h rfl
    unfold iSeq dFreeze
    rw [e]
    rfl
  have c1 := comp3 (n := 5) (own := [5]) (as := rs) (i := iSeq (dVar 1)) (ρ := [some (Fo q), some (.lst (rs.map rowP)), some (rowP h), some (.int (p : Nat)), none, none]) (st := st) (e := dCall 4 f_add_multiple (aCons (dVar 0) (aCons (dVar 5) (aCons (dMeth 4 2 f_Field_negative (dVar 0) (aCons (dOp2 oIx (dVar 5) (dVar 3)) aNil)) (aCons (dVar 2) aNil)))))
    rowP (fun r => rowP (clr1 q h p r)) (iS rfl) ?_ (fun _ _ => rfl) hl
  · refine (sSeq_nx (sSet_ok (i := 4) (dFrz_ok c1))).trans ?_
    have c2 := comp2 (n := 5) (own := [5]) (as := rs.map (clr1 q h p)) (i := iSeq (dVar 4)) (ρ := [some (Fo q), some (.lst (rs.map rowP)), some (rowP h), some (.int (p : Nat)), some (.lst (rs.map fun r => rowP (clr1 q h p r))), none]) (st := st) (c := dTru (dFn cAny (aCons (dVar 5) aNil))) (e := dVar 5)
      rowP nz rowP ((iS rfl).trans (by rw [List.map_map]; rfl)) ?_ (fun a _ _ st' => dVar_ok (i := 5) (v := rowP a) rfl rfl) (fun _ _ => rfl) (by simpa using hl)
    · exact sRet_ok (dFrz_ok c2)
    · intro a _ st'
      refine dTru_bl (b := nz a) ?_
      unfold dFn
      rw [a1_ok (dVar_ok (i := 5) (v := rowP a) rfl rfl)]
      exact cAny_row a st'
  · intro r hr st'
    have hr' := hrs r hr
    have ng := (closed q hq _ (getD_lt h0 hr'.2 p)).1
    have v0 : dVar 0 [some (Fo q), some (.lst (rs.map rowP)), some (rowP h), some (.int (p : Nat)), none, some (rowP r)] st' = .ok (Fo q) st' := dVar_ok rfl rfl
    have v5 : dVar 5 [some (Fo q), some (.lst (rs.map rowP)), some (rowP h), some (.int (p : Nat)), none, some (rowP r)] st' = .ok (rowP r) st' := dVar_ok rfl rfl
    have mn := (dMeth_ok v0 (a1_ok (dOp2_ok v5 (dVar_ok (i := 3) (v := .int (p : Nat)) rfl rfl) (ix_pns (by rw [hr'.1]; exact hp) st'))) rfl).trans (neg_ok hq (getD_lt h0 hr'.2 p) st')
    exact (dCall_ok (np := 4) (f := f_add_multiple) (aCons_ok v0 (a3_ok v5 mn (dVar_ok (i := 2) (v := rowP h) rfl rfl))) rfl).trans (addm_ok hq ng hr'.2 hh.2 (by rw [hr'.1]; omega) (by rw [hh.1]; omega) st')
end
end Wi

/-! reduced tables, plainly -/
namespace Wi
open PySem L2
theorem lCat_ok {da db : Den} {ρ : Sl} {st st1 st2 : Store} {xs ys : List PV} (h1 : da ρ st = .ok (.lst xs) st1) (h2 : db ρ st1 = .ok (.lst ys) st2) (hl : xs.length + ys.length ≤ 16777216) : lCat da db ρ st = .ok (xs ++ ys) st2 := by
  unfold lCat
  rw [h1]
  show (db ρ st1).bind _ = _
  rw [h2]
  show (if lineB (xs.length + ys.length) = true then Res.ok (xs ++ ys) st2 else Res.stuck 10) = _
  rw [if_pos (by unfold lineB; rw [Nat.ble_eq]; exact hl)]
theorem append_ok {dO d : Den} {ρ : Sl} {st0 : Store} {xs : List PV} {v : PV} (h1 : dO ρ (st0 ++ [.lst xs]) = .ok (.ref st0.length) (st0 ++ [.lst xs])) (h2 : d ρ (st0 ++ [.lst xs]) = .ok v (st0 ++ [.lst xs])) (ht : isTree v = true) (hl : xs.length < 16777216) :
    dLm mAppend dO (aCons d aNil) ρ (st0 ++ [.lst xs]) = .ok .non (st0 ++ [.lst (xs ++ [v])]) := by
  have g : (st0 ++ [Cell.lst xs])[st0.length]? = some (.lst xs) := List.getElem?_concat_length
  unfold dLm
  rw [h1]
  dsimp only [Res.bind]
  rw [g]
  dsimp only
  rw [a1_ok h2]
  dsimp only [Res.bind]
  rw [g]
  dsimp only [mAppend]
  rw [if_pos (by rw [ht, Bool.true_and, Nat.blt_eq]; exact hl), List.set_append_right _ _ (Nat.le_refl _), Nat.sub_self, List.set_cons_zero]
theorem dVar_ref {i k : Nat} {ρ : Sl} {st : Store} {xs : List PV} (h : ρ[i]? = some (some (.ref k))) (hk : st[k]? = some (.lst xs)) : dVar i ρ st = .ok (.ref k) st := by
  unfold dVar
  rw [h]
  dsimp only [norm]
  rw [hk]
theorem sExpr_ok {d : Den} {ρ : Sl} {st st1 : Store} {v : PV} (h : d ρ st = .ok v st1) : sExpr d ρ st = .nx ρ st1 := by unfold sExpr; rw [h]; rfl
def redStep (q : Nat) (s : List (List Nat) × List (List Nat) × List Nat) (p : Nat) : List (List Nat) × List (List Nat) × List Nat := match s.1.filter (fun r => r.getD p 0 != 0) with
  | [] => s
  | f :: _ => (clrs q (sclR q (invN q (f.getD p 0)) f) p s.1, clrs q (sclR q (invN q (f.getD p 0)) f) p s.2.1 ++ [sclR q (invN q (f.getD p 0)) f], s.2.2 ++ [p])
def red (q n : Nat) (rs : List (List Nat)) : List (List Nat) × List (List Nat) × List Nat := (List.range n).foldl (redStep q) (rs, [], [])
section
variable {q : Nat} (hq : q ∈ qs)
abbrev Rr (q n : Nat) (v : PV) (L T : List (List Nat)) (k : Nat) (a6 a7 a8 : Option PV) : Sl := [some (Fo q), some v, some (.int (n : Nat)), some (.lst (L.map rowP)), some (.lst (T.map rowP)), some (.ref k), a6, a7, a8, none]
abbrev bRed : DenS := (sSeq (sSet 7 (dFrz (lComp (iSeq (dVar 3)) (.n 9) (dB (dOp2 oNe (dOp2 oIx (dVar 9) (dVar 6)) (dC (.int 0)))) (dVar 9) [9])))
 (sIf (dTru (dVar 7))
 (sSeq (sSet 8 (dCall 3 f_scaled (aCons (dVar 0) (aCons (dOp2 oIx (dVar 7) (dC (.int 0))) (aCons (dMeth 4 2 f_Field_inverse (dVar 0) (aCons (dOp2 oIx (dOp2 oIx (dVar 7) (dC (.int 0))) (dVar 6)) aNil)) aNil)))))
 (sSeq (sSet 3 (dCall 4 f__cleared (aCons (dVar 0) (aCons (dVar 3) (aCons (dVar 8) (aCons (dVar 6) aNil))))))
 (sSeq (sSet 4 (dFrz (lCat (dCall 4 f__cleared (aCons (dVar 0) (aCons (dVar 4) (aCons (dVar 8) (aCons (dVar 6) aNil))))) (dFrz (lDisp (aCons (dVar 8) aNil))))))
 (sExpr (dLm mAppend (dVar 5) (aCons (dVar 6) aNil))))))
 sSkip))
theorem iSeq_lst {i : Nat} {ρ : Sl} {st : Store} {xs : List PV} (h : ρ[i]? = some (some (.lst xs))) : iSeq (dVar i) ρ st = .ok xs st := by
  have e : dVar i ρ st = .ok (.lst xs) st := dVar_ok h rfl
  unfold iSeq dFreeze
  rw [e]
  rfl
include hq in
theorem clrs_rw {n p : Nat} {h : List Nat} {rs : List (List Nat)} (hh : Rw q n h) (hrs : ∀ r ∈ rs, Rw q n r) : ∀ r ∈ clrs q h p rs, Rw q n r := by
  intro r hr
  obtain ⟨r', hr', rfl⟩ := List.mem_map.mp (List.mem_filter.mp hr).1
  exact clr1_rw hq hh (hrs r' hr')
theorem clrs_len {n p : Nat} {h : List Nat} {rs : List (List Nat)} : (clrs q h p rs).length ≤ rs.length := by
  unfold clrs
  exact Nat.le_trans (List.length_filter_le _ _) (by simp)
include hq in
theorem scl_rw {n c : Nat} (hc : c < q) {v : List Nat} (hv : Rw q n v) : Rw q n (sclR q c v) := ⟨by unfold sclR; rw [List.length_map, hv.1], sclR_lt hq hc hv.2⟩
include hq in
theorem red_turn {n p k : Nat} {v : PV} {L T : List (List Nat)} {P : List Nat} {st0 : Store} (hk : k = st0.length) (hn : n ≤ 1000) (hp : p < n) (hL : ∀ r ∈ L, Rw q n r) (hT : ∀ r ∈ T, Rw q n r) (lL : L.length ≤ 100000) (lT : T.length ≤ 100000) (lP : P.length ≤ 100000) (a7 a8 : Option PV) :
    ∃ b7 b8, bRed (Rr q n v L T k (some (.int (p : Nat))) a7 a8) (st0 ++ [.lst (pns P)]) = .nx (Rr q n v (redStep q (L, T, P) p).1 (redStep q (L, T, P) p).2.1 k (some (.int (p : Nat))) b7 b8) (st0 ++ [.lst (pns (redStep q (L, T, P) p).2.2)]) := by
  have h0 : 0 < q := by have := qs_lt hq; omega
  have c1 := comp2 (n := 9) (own := [9]) (as := L) (i := iSeq (dVar 3)) (ρ := Rr q n v L T k (some (.int (p : Nat))) a7 a8) (st := st0 ++ [.lst (pns P)]) (c := dB (dOp2 oNe (dOp2 oIx (dVar 9) (dVar 6)) (dC (.int 0)))) (e := dVar 9) rowP (fun r => r.getD p 0 != 0) rowP (iSeq_lst rfl) ?_ (fun a _ _ st' => dVar_ok (i := 9) (v := rowP a) rfl rfl) (fun _ _ => rfl) (by omega)
  · cases e : L.filter (fun r => r.getD p 0 != 0) with
    | nil =>
      rw [e] at c1
      have es : redStep q (L, T, P) p = (L, T, P) := by unfold redStep; rw [e]
      rw [es]
      refine ⟨some (.lst []), a8, (sSeq_nx (sSet_ok (i := 7) (dFrz_ok c1))).trans ?_⟩
      exact if_f (c := dTru (dVar 7)) rfl
    | cons f fs =>
      rw [e] at c1
      have hf : f ∈ L ∧ (f.getD p 0 != 0) = true := List.mem_filter.mp (by rw [e]; exact List.mem_cons_self)
      have rf := hL f hf.1
      have fp := getD_lt h0 rf.2 p
      have fnz : f.getD p 0 ≠ 0 := bne_iff_ne.mp hf.2
      have iv := (closed q hq _ fp).2.1
      have hh := scl_rw hq iv rf
      have es : redStep q (L, T, P) p = (clrs q (sclR q (invN q (f.getD p 0)) f) p L, clrs q (sclR q (invN q (f.getD p 0)) f) p T ++ [sclR q (invN q (f.getD p 0)) f], P ++ [p]) := by unfold redStep; rw [e]
      rw [es]
      generalize hH : sclR q (invN q (f.getD p 0)) f = H at *
      refine ⟨some (.lst (rowP f :: fs.map rowP)), some (rowP H), (sSeq_nx (sSet_ok (i := 7) (dFrz_ok c1))).trans ?_⟩
      refine (if_t (c := dTru (dVar 7)) rfl).trans ?_
      have v7 : ∀ st, dOp2 oIx (dVar 7) (dC (.int 0)) (Rr q n v L T k (some (.int (p : Nat))) (some (.lst (rowP f :: fs.map rowP))) a8) st = .ok (rowP f) st := fun st => dOp2_ok (dVar_ok (i := 7) rfl rfl) (dC_ok _ _ _) (ix_at (k := 0) (b := true) (xs := rowP f :: fs.map rowP) rfl rfl)
      have iv1 := (dMeth_ok (np := 2) (dVar_ok (i := 0) (ρ := Rr q n v L T k (some (.int (p : Nat))) (some (.lst (rowP f :: fs.map rowP))) a8) (st := st0 ++ [.lst (pns P)]) rfl rfl) (a1_ok (dOp2_ok (v7 _) (dVar_ok (i := 6) rfl rfl) (ix_pns (by rw [rf.1]; exact hp) _))) rfl).trans (inv_ok hq fp _ fnz)
      have s8 := (dCall_ok (np := 3) (f := f_scaled) (a3_ok (dVar_ok (i := 0) rfl rfl) (v7 _) iv1) rfl).trans (scaled_ok hq iv rf.2 (by rw [rf.1]; omega) _)
      rw [hH] at s8
      refine (sSeq_nx (sSet_ok (i := 8) s8)).trans ?_
      have s3 := (dCall_ok (np := 4) (f := f__cleared) (aCons_ok (dVar_ok (i := 0) (ρ := Rr q n v L T k (some (.int (p : Nat))) (some (.lst (rowP f :: fs.map rowP))) (some (rowP H))) (st := st0 ++ [.lst (pns P)]) rfl rfl) (a3_ok (dVar_ok (i := 3) rfl rfl) (dVar_ok (i := 8) rfl rfl) (dVar_ok (i := 6) rfl rfl))) rfl).trans (cleared_ok hq (by omega) hp hh hL (by omega) _)
      refine (sSeq_nx (sSet_ok (i := 3) s3)).trans ?_
      have s4 := (dCall_ok (np := 4) (f := f__cleared) (aCons_ok (dVar_ok (i := 0) (ρ := Rr q n v (clrs q H p L) T k (some (.int (p : Nat))) (some (.lst (rowP f :: fs.map rowP))) (some (rowP H))) (st := st0 ++ [.lst (pns P)]) rfl rfl) (a3_ok (dVar_ok (i := 4) rfl rfl) (dVar_ok (i := 8) rfl rfl) (dVar_ok (i := 6) rfl rfl))) rfl).trans (cleared_ok hq (by omega) hp hh hT (by omega) _)
      have s4' : dFrz (lCat (dCall 4 f__cleared (aCons (dVar 0) (aCons (dVar 4) (aCons (dVar 8) (aCons (dVar 6) aNil))))) (dFrz (lDisp (aCons (dVar 8) aNil)))) (Rr q n v (clrs q H p L) T k (some (.int (p : Nat))) (some (.lst (rowP f :: fs.map rowP))) (some (rowP H))) (st0 ++ [.lst (pns P)]) = .ok (.lst ((clrs q H p T ++ [H]).map rowP)) (st0 ++ [.lst (pns P)]) := by
        have lc := clrs_len (q := q) (n := n) (p := p) (h := H) (rs := T)
        refine (dFrz_ok (lCat_ok s4 (ys := [rowP H]) rfl (by rw [List.length_map]; show _ + 1 ≤ _; omega))).trans ?_
        rw [List.map_append]
        rfl
      refine (sSeq_nx (sSet_ok (i := 4) s4')).trans ?_
      have ap := append_ok (dO := dVar 5) (d := dVar 6) (ρ := Rr q n v (clrs q H p L) (clrs q H p T ++ [H]) k (some (.int (p : Nat))) (some (.lst (rowP f :: fs.map rowP))) (some (rowP H))) (st0 := st0) (xs := pns P) (by rw [hk]; exact dVar_ref (xs := pns P) rfl List.getElem?_concat_length) (dVar_ok rfl rfl) rfl (by rw [pns, List.length_map]; omega)
      refine (sExpr_ok ap).trans ?_
      rw [pns, pns, List.map_append]
      rfl
  · intro r hr st'
    refine dB_ok (dOp2_ok (dOp2_ok (dVar_ok (i := 9) (v := rowP r) rfl rfl) (dVar_ok (i := 6) (v := .int (p : Nat)) rfl rfl) (ix_pns (by rw [(hL r hr).1]; exact hp) st')) (dC_ok _ _ _) ((ne_int _ _ _).trans ?_))
    by_cases z : r.getD p 0 = 0
    · rw [z]; rfl
    · rw [decide_eq_true (by omega), bne_iff_ne.mpr z]
end
end Wi

/-! reduced: the loop -/
namespace Wi
open PySem L2
section
variable {q : Nat} (hq : q ∈ qs)
abbrev RedS := List (List Nat) × List (List Nat) × List Nat
structure Sz (q n b : Nat) (s : RedS) : Prop where
  L : ∀ r ∈ s.1, Rw q n r
  T : ∀ r ∈ s.2.1, Rw q n r
  l : s.1.length ≤ 1000
  t : s.2.1.length + b ≤ 2000
  p : s.2.2.length + b ≤ 2000
include hq in
theorem step_sz {n p b : Nat} {s : RedS} (h : Sz q n (b + 1) s) : Sz q n b (redStep q s p) := by
  have h0 : 0 < q := by have := qs_lt hq; omega
  unfold redStep
  cases e : s.1.filter (fun r => r.getD p 0 != 0) with
  | nil => exact ⟨h.L, h.T, h.l, (by have := h.t; show s.2.1.length + b ≤ 2000; omega), (by have := h.p; show s.2.2.length + b ≤ 2000; omega)⟩
  | cons f fs =>
    have hf : f ∈ s.1 ∧ (f.getD p 0 != 0) = true := List.mem_filter.mp (by rw [e]; exact List.mem_cons_self)
    have rf := h.L f hf.1
    have hh := scl_rw hq (closed q hq _ (getD_lt h0 rf.2 p)).2.1 rf
    have l1 := clrs_len (q := q) (n := n) (p := p) (h := sclR q (invN q (f.getD p 0)) f) (rs := s.1)
    have l2 := clrs_len (q := q) (n := n) (p := p) (h := sclR q (invN q (f.getD p 0)) f) (rs := s.2.1)
    refine ⟨clrs_rw hq hh h.L, fun r hr => ?_, Nat.le_trans l1 h.l, ?_, ?_⟩
    · rcases List.mem_append.mp hr with hr | hr
      · exact clrs_rw hq hh h.T r hr
      · rw [List.mem_singleton.mp hr]; exact hh
    · show (_ ++ [_]).length + b ≤ 2000
      rw [List.length_append]
      have := h.t
      show _ + 1 + b ≤ 2000
      omega
    · show (_ ++ [_]).length + b ≤ 2000
      rw [List.length_append]
      have := h.p
      show _ + 1 + b ≤ 2000
      omega
include hq in
theorem red_loop {n k : Nat} {v : PV} {st0 : Store} (hk : k = st0.length) (hn : n ≤ 1000) : ∀ (ps : List Nat) (s : RedS) (a6 a7 a8 : Option PV), (∀ p ∈ ps, p < n) → Sz q n ps.length s →
    ∃ b6 b7 b8, forL (gN 6) bRed (pns ps) (Rr q n v s.1 s.2.1 k a6 a7 a8) (st0 ++ [.lst (pns s.2.2)]) = .nx (Rr q n v (ps.foldl (redStep q) s).1 (ps.foldl (redStep q) s).2.1 k b6 b7 b8) (st0 ++ [.lst (pns (ps.foldl (redStep q) s).2.2)])
  | [], s, a6, a7, a8, _, _ => ⟨a6, a7, a8, rfl⟩
  | p :: ps, s, a6, a7, a8, h, hs => by
    obtain ⟨b7, b8, e⟩ := red_turn hq (L := s.1) (T := s.2.1) (P := s.2.2) (v := v) (st0 := st0) hk hn (h p List.mem_cons_self) hs.L hs.T (by have := hs.l; omega) (by have := hs.t; omega) (by have := hs.p; omega) a7 a8
    obtain ⟨c6, c7, c8, e2⟩ := red_loop (v := v) hk hn ps (redStep q s p) (some (.int (p : Nat))) b7 b8 (fun x hx => h x (List.mem_cons_of_mem _ hx)) (step_sz hq hs)
    refine ⟨c6, c7, c8, (for_one (ρ := Rr q n v s.1 s.2.1 k a6 a7 a8) (ρ' := Rr q n v (redStep q s p).1 (redStep q s p).2.1 k (some (.int (p : Nat))) b7 b8) (st' := st0 ++ [Cell.lst (pns (redStep q s p).2.2)]) ?_).trans e2⟩
    exact e
theorem lList_ok {d : Den} {ρ : Sl} {st : Store} {v : PV} {b : Bool} {xs : List PV} (h : d ρ st = .ok v st) (hs : seqOf v st = some (b, xs)) : lList d ρ st = .ok xs st := by
  unfold lList
  rw [h]
  show (match seqOf v st with | some (_, xs) => Res.ok xs st | none => .stuck 35) = _
  rw [hs]
abbrev tabP (T : List (List Nat)) : PV := .tup (T.map rowP)
include hq in
theorem reduced_ok {n : Nat} {v : PV} {rs : List (List Nat)} {b : Bool} (hn : n ≤ 1000) (hrs : ∀ r ∈ rs, Rw q n r) (hl : rs.length ≤ 1000) (st : Store) (tv : isTree v = true) (hv : seqOf v st = some (b, rs.map rowP)) :
    f_reduced [Fo q, v, .int (n : Nat)] st = .ok (.tup [tabP (red q n rs).2.1, .tup (pns (red q n rs).2.2)]) st := by
  have s0 : Sz q n (List.range' 0 n).length ((rs, [], []) : RedS) := ⟨hrs, by simp, hl, by simp; omega, by simp; omega⟩
  obtain ⟨b6, b7, b8, e⟩ := red_loop hq (v := v) (st0 := st) rfl hn (List.range' 0 n) (rs, [], []) none none none (fun p hp => by simpa using hp) s0
  have er : (List.range' 0 n).foldl (redStep q) (rs, [], []) = red q n rs := by unfold red; rw [List.range_eq_range']
  rw [er] at e
  refine mkFn_ok (xs := [.lst (pns (red q n rs).2.2)]) ?_ rfl
  refine (sSeq_nx (sSet_ok (i := 3) (dFrz_ok (lList_ok (dVar_ok (i := 1) rfl tv) hv)))).trans ?_
  refine (sSeq_nx (sSet_ok (i := 4) (v := .lst []) rfl)).trans ?_
  refine (sSeq_nx (sSet_ok (i := 5) (v := .ref st.length) (st' := st ++ [.lst []]) rfl)).trans ?_
  refine (sSeq_nx ((sFor_ok (iRng_nat (n := n) rfl (by omega))).trans e)).trans ?_
  have r5 : dVar 5 (Rr q n v (red q n rs).1 (red q n rs).2.1 st.length b6 b7 b8) (st ++ [.lst (pns (red q n rs).2.2)]) = .ok (.ref st.length) (st ++ [.lst (pns (red q n rs).2.2)]) := dVar_ref (xs := pns (red q n rs).2.2) rfl List.getElem?_concat_length
  have t5 : dFn cTup (aCons (dVar 5) aNil) (Rr q n v (red q n rs).1 (red q n rs).2.1 st.length b6 b7 b8) (st ++ [.lst (pns (red q n rs).2.2)]) = .ok (.tup (pns (red q n rs).2.2)) (st ++ [.lst (pns (red q n rs).2.2)]) := by
    unfold dFn
    rw [a1_ok r5]
    show (match seqOf (.ref st.length) (st ++ [Cell.lst (pns (red q n rs).2.2)]) with | some (_, xs) => Res.ok (PV.tup xs) (st ++ [Cell.lst (pns (red q n rs).2.2)]) | none => Res.stuck 34) = _
    unfold seqOf
    dsimp only
    rw [List.getElem?_concat_length]
  refine sRet_ok ?_
  unfold dTup
  rw [a2_ok (cTup_lst (dVar_ok (i := 4) rfl rfl)) t5]
  rfl
include hq in
theorem span_ok {n : Nat} {v : PV} {rs : List (List Nat)} {b : Bool} (hn : n ≤ 1000) (hrs : ∀ r ∈ rs, Rw q n r) (hl : rs.length ≤ 1000) (st : Store) (tv : isTree v = true) (hv : seqOf v st = some (b, rs.map rowP)) :
    f_span [Fo q, v, .int (n : Nat)] st = .ok (tabP (red q n rs).2.1) st := by
  refine mkFn_ok0 ?_ rfl
  exact sRet_ok (dOp2_ok ((dCall_ok (a3_ok (dVar_ok (i := 0) rfl rfl) (dVar_ok (i := 1) rfl tv) (dVar_ok (i := 2) rfl rfl)) rfl).trans (reduced_ok hq hn hrs hl st tv hv)) (dC_ok _ _ _) (ix_at (k := 0) (b := false) (xs := [tabP (red q n rs).2.1, .tup (pns (red q n rs).2.2)]) rfl rfl))
end
end Wi

/-! reduced tables: what they are -/
namespace Wi
open PySem L2
section
variable {q : Nat} (hq : q ∈ qs)
theorem fz1 : ∀ q ∈ qs, ∀ a < q, mulN q a 0 = 0 ∧ addN q a 0 = a ∧ addN q 0 a = a ∧ mulN q 0 a = 0 ∧ mulN q 1 a = a ∧ addN q a (mulN q (negN q a) 1) = 0 ∧ (a ≠ 0 → mulN q (invN q a) a = 1) ∧ addN q a (mulN q (negN q 1) a) = 0 := by decide +kernel
theorem neg0 : ∀ q ∈ qs, negN q 0 = 0 ∧ invN q 1 = 1 ∧ 1 < q := by decide +kernel
theorem getD_add {q j : Nat} {v w : List Nat} (h : v.length = w.length) (hj : j < v.length) : (addR q v w).getD j 0 = addN q (v.getD j 0) (w.getD j 0) := by
  have hw : j < w.length := by omega
  unfold addR
  rw [List.getD_eq_getElem?_getD, List.getElem?_eq_getElem (by rw [List.length_zipWith]; omega), List.getElem_zipWith]
  simp [List.getD_eq_getElem?_getD, hj, hw]
theorem getD_scl {q c j : Nat} {v : List Nat} (hj : j < v.length) : (sclR q c v).getD j 0 = mulN q c (v.getD j 0) := by
  unfold sclR
  simp [List.getD_eq_getElem?_getD, hj]
theorem clr_at {n p j : Nat} {h r : List Nat} (hh : Rw q n h) (hr : Rw q n r) (hj : j < n) : (clr1 q h p r).getD j 0 = addN q (r.getD j 0) (mulN q (negN q (r.getD p 0)) (h.getD j 0)) := by
  unfold clr1
  rw [getD_add (by unfold sclR; rw [List.length_map, hr.1, hh.1]) (by rw [hr.1]; exact hj), getD_scl (by rw [hh.1]; exact hj)]
theorem nz_false {n : Nat} {v : List Nat} (hv : v.length = n) : nz v = false ↔ ∀ j < n, v.getD j 0 = 0 := by
  unfold nz
  rw [List.any_eq_false]
  constructor
  · intro h j hj
    rw [List.getD_eq_getElem?_getD, List.getElem?_eq_getElem (by omega)]
    have := h _ (List.getElem_mem (l := v) (n := j) (by omega))
    simpa using this
  · intro h x hx
    obtain ⟨j, hj, rfl⟩ := List.mem_iff_getElem.mp hx
    have := h j (by omega)
    rw [List.getD_eq_getElem?_getD, List.getElem?_eq_getElem hj] at this
    simpa using this
theorem nz_of {n j : Nat} {v : List Nat} (hv : v.length = n) (hj : j < n) (h : v.getD j 0 ≠ 0) : nz v = true := by
  cases e : nz v with
  | true => rfl
  | false => exact absurd ((nz_false hv).mp e j hj) h
theorem row_ext {n : Nat} {v w : List Nat} (hv : v.length = n) (hw : w.length = n) (h : ∀ j < n, v.getD j 0 = w.getD j 0) : v = w := by
  refine List.ext_getElem (by omega) fun j h1 h2 => ?_
  have := h j (by omega)
  rw [List.getD_eq_getElem?_getD, List.getD_eq_getElem?_getD, List.getElem?_eq_getElem h1, List.getElem?_eq_getElem h2] at this
  exact this
/-- the state after the places below p -/
structure RI (q n p : Nat) (s : RedS) : Prop where
  L : ∀ r ∈ s.1, Rw q n r
  Lz : ∀ r ∈ s.1, ∀ j < p, r.getD j 0 = 0
  T : ∀ r ∈ s.2.1, Rw q n r
  len : s.2.1.length = s.2.2.length
  up : s.2.2.Pairwise (· < ·)
  lt : ∀ x ∈ s.2.2, x < p
  one : ∀ i < s.2.2.length, (s.2.1.getD i []).getD (s.2.2.getD i 0) 0 = 1
  zero : ∀ i < s.2.2.length, ∀ j < s.2.2.length, i ≠ j → (s.2.1.getD j []).getD (s.2.2.getD i 0) 0 = 0
  pre : ∀ i < s.2.2.length, ∀ c < s.2.2.getD i 0, (s.2.1.getD i []).getD c 0 = 0
theorem getD_mem {α : Type} {l : List α} {i : Nat} {d : α} (h : i < l.length) : l.getD i d ∈ l := by
  rw [List.getD_eq_getElem?_getD, List.getElem?_eq_getElem h]
  exact List.getElem_mem h
theorem getD_app_l {α : Type} {l m : List α} {i : Nat} {d : α} (h : i < l.length) : (l ++ m).getD i d = l.getD i d := by
  rw [List.getD_eq_getElem?_getD, List.getElem?_append_left h, ← List.getD_eq_getElem?_getD]
theorem getD_app_r {α : Type} {l : List α} {x d : α} : (l ++ [x]).getD l.length d = x := by
  rw [List.getD_eq_getElem?_getD, List.getElem?_concat_length]
  rfl
theorem getD_map' {α β : Type} {l : List α} {f : α → β} {i : Nat} {d : α} {d' : β} (h : i < l.length) : (l.map f).getD i d' = f (l.getD i d) := by
  rw [List.getD_eq_getElem?_getD, List.getD_eq_getElem?_getD, List.getElem?_map, List.getElem?_eq_getElem h]
  rfl
include hq in
theorem head_facts {n p : Nat} {f : List Nat} (hp : p < n) (rf : Rw q n f) (hz : ∀ j < p, f.getD j 0 = 0) (fnz : f.getD p 0 ≠ 0) :
    Rw q n (sclR q (invN q (f.getD p 0)) f) ∧ (sclR q (invN q (f.getD p 0)) f).getD p 0 = 1 ∧ ∀ j < p, (sclR q (invN q (f.getD p 0)) f).getD j 0 = 0 := by
  have h0 : 0 < q := by have := qs_lt hq; omega
  have fp := getD_lt h0 rf.2 p
  have iv := (closed q hq _ fp).2.1
  refine ⟨scl_rw hq iv rf, ?_, fun j hj => ?_⟩
  · rw [getD_scl (by rw [rf.1]; exact hp)]
    exact (fz1 q hq _ fp).2.2.2.2.2.2.1 fnz
  · rw [getD_scl (by rw [rf.1]; omega), hz j hj]
    exact (fz1 q hq _ iv).1
include hq in
/-- clearing by a head whose entry at p is 1 -/
theorem clr_facts {n p : Nat} {h r : List Nat} (hp : p < n) (hh : Rw q n h) (h1 : h.getD p 0 = 1) (hz : ∀ j < p, h.getD j 0 = 0) (hr : Rw q n r) :
    Rw q n (clr1 q h p r) ∧ (clr1 q h p r).getD p 0 = 0 ∧ ∀ j < p, (clr1 q h p r).getD j 0 = r.getD j 0 := by
  have h0 : 0 < q := by have := qs_lt hq; omega
  refine ⟨clr1_rw hq hh hr, ?_, fun j hj => ?_⟩
  · rw [clr_at hh hr hp, h1]
    exact (fz1 q hq _ (getD_lt h0 hr.2 p)).2.2.2.2.2.1
  · rw [clr_at hh hr (by omega), hz j hj, (fz1 q hq _ (closed q hq _ (getD_lt h0 hr.2 p)).1).1]
    exact (fz1 q hq _ (getD_lt h0 hr.2 j)).2.1
include hq in
theorem RI.none {n p : Nat} {s : RedS} (I : RI q n p s) (e : s.1.filter (fun r => r.getD p 0 != 0) = []) : RI q n (p + 1) (redStep q s p) := by
  have es : redStep q s p = s := by unfold redStep; rw [e]
  rw [es]
  refine ⟨I.L, fun r hr j hj => ?_, I.T, I.len, I.up, fun x hx => Nat.lt_succ_of_lt (I.lt x hx), I.one, I.zero, I.pre⟩
  rcases Nat.lt_succ_iff_lt_or_eq.mp hj with hj | rfl
  · exact I.Lz r hr j hj
  · have := List.filter_eq_nil_iff.mp e r hr
    simpa using this
include hq in
theorem RI.keepT {n p : Nat} {s : RedS} {h : List Nat} (I : RI q n p s) (hp : p < n) (hh : Rw q n h) (h1 : h.getD p 0 = 1) (hz : ∀ j < p, h.getD j 0 = 0) : clrs q h p s.2.1 = s.2.1.map (clr1 q h p) := by
  unfold clrs
  rw [List.filter_eq_self]
  intro r' hr'
  obtain ⟨r, hr, rfl⟩ := List.mem_map.mp hr'
  obtain ⟨i, hi, rfl⟩ := List.mem_iff_getElem.mp hr
  have hi' : i < s.2.2.length := by rw [← I.len]; exact hi
  have c := clr_facts hq hp hh h1 hz (I.T _ hr)
  have lp := I.lt _ (getD_mem (d := 0) hi')
  refine nz_of c.1.1 (show s.2.2.getD i 0 < n by omega) ?_
  rw [c.2.2 _ lp]
  have := I.one i hi'
  rw [List.getD_eq_getElem?_getD (l := s.2.1), List.getElem?_eq_getElem hi] at this
  have this : (s.2.1[i]).getD (s.2.2.getD i 0) 0 = 1 := this
  rw [this]
  decide
include hq in
theorem RI.some {n p : Nat} {s : RedS} {f : List Nat} {fs : List (List Nat)} (I : RI q n p s) (hp : p < n) (e : s.1.filter (fun r => r.getD p 0 != 0) = f :: fs) :
    RI q n (p + 1) (redStep q s p) ∧ redStep q s p = (clrs q (sclR q (invN q (f.getD p 0)) f) p s.1, s.2.1.map (clr1 q (sclR q (invN q (f.getD p 0)) f) p) ++ [sclR q (invN q (f.getD p 0)) f], s.2.2 ++ [p]) := by
  have hf : f ∈ s.1 ∧ (f.getD p 0 != 0) = true := List.mem_filter.mp (by rw [e]; exact List.mem_cons_self)
  obtain ⟨hh, h1, hz⟩ := head_facts hq hp (I.L f hf.1) (I.Lz f hf.1) (bne_iff_ne.mp hf.2)
  have es : redStep q s p = (clrs q (sclR q (invN q (f.getD p 0)) f) p s.1, s.2.1.map (clr1 q (sclR q (invN q (f.getD p 0)) f) p) ++ [sclR q (invN q (f.getD p 0)) f], s.2.2 ++ [p]) := by
    unfold redStep
    rw [e]
    dsimp only
    rw [I.keepT hq hp hh h1 hz]
  refine ⟨?_, es⟩
  rw [es]
  generalize sclR q (invN q (f.getD p 0)) f = h at *
  have lenM : (s.2.1.map (clr1 q h p)).length = s.2.2.length := by rw [List.length_map, I.len]
  have Ti : ∀ i < s.2.2.length, s.2.1.getD i [] ∈ s.2.1 := fun i hi => getD_mem (by rw [I.len]; exact hi)
  have rowI : ∀ i < s.2.2.length, (s.2.1.map (clr1 q h p) ++ [h]).getD i [] = clr1 q h p (s.2.1.getD i []) := fun i hi => by
    rw [getD_app_l (by rw [lenM]; exact hi), getD_map' (d := []) (by rw [I.len]; exact hi)]
  have rowN : (s.2.1.map (clr1 q h p) ++ [h]).getD s.2.2.length [] = h := by rw [← lenM]; exact getD_app_r
  have cf : ∀ i < s.2.2.length, _ := fun i hi => clr_facts hq hp hh h1 hz (I.T _ (Ti i hi))
  have pI : ∀ i < s.2.2.length, (s.2.2 ++ [p]).getD i 0 = s.2.2.getD i 0 := fun i hi => getD_app_l hi
  have pN : (s.2.2 ++ [p]).getD s.2.2.length 0 = p := getD_app_r
  have lp : ∀ i < s.2.2.length, s.2.2.getD i 0 < p := fun i hi => I.lt _ (getD_mem hi)
  have lenP : (s.2.2 ++ [p]).length = s.2.2.length + 1 := by rw [List.length_append]; rfl
  refine ⟨fun r hr => clrs_rw hq hh I.L r hr, fun r hr j hj => ?_, fun r hr => ?_, ?_, ?_, fun x hx => ?_, fun i hi => ?_, fun i hi j hj ij => ?_, fun i hi c hc => ?_⟩
  · obtain ⟨r', hr', rfl⟩ := List.mem_map.mp (List.mem_filter.mp hr).1
    have c := clr_facts hq hp hh h1 hz (I.L r' hr')
    rcases Nat.lt_succ_iff_lt_or_eq.mp hj with hj | rfl
    · rw [c.2.2 j hj]; exact I.Lz r' hr' j hj
    · exact c.2.1
  · rcases List.mem_append.mp hr with hr | hr
    · obtain ⟨r', hr', rfl⟩ := List.mem_map.mp hr
      exact clr1_rw hq hh (I.T r' hr')
    · rw [List.mem_singleton.mp hr]; exact hh
  · show (_ ++ [_]).length = (_ ++ [_]).length
    rw [List.length_append, List.length_append, lenM]
    rfl
  · exact List.pairwise_append.mpr ⟨I.up, List.pairwise_singleton .., fun a ha b hb => by rw [List.mem_singleton.mp hb]; exact I.lt a ha⟩
  · rcases List.mem_append.mp hx with hx | hx
    · exact Nat.lt_succ_of_lt (I.lt x hx)
    · rw [List.mem_singleton.mp hx]; exact Nat.lt_succ_self p
  · have hi : i < s.2.2.length + 1 := by rw [← lenP]; exact hi
    show ((s.2.1.map (clr1 q h p) ++ [h]).getD i []).getD ((s.2.2 ++ [p]).getD i 0) 0 = 1
    rcases Nat.lt_succ_iff_lt_or_eq.mp hi with hi | rfl
    · rw [rowI i hi, pI i hi, (cf i hi).2.2 _ (lp i hi)]; exact I.one i hi
    · rw [rowN, pN]; exact h1
  · have hi : i < s.2.2.length + 1 := by rw [← lenP]; exact hi
    have hj : j < s.2.2.length + 1 := by rw [← lenP]; exact hj
    show ((s.2.1.map (clr1 q h p) ++ [h]).getD j []).getD ((s.2.2 ++ [p]).getD i 0) 0 = 0
    rcases Nat.lt_succ_iff_lt_or_eq.mp hi with hi | rfl
    · rw [pI i hi]
      rcases Nat.lt_succ_iff_lt_or_eq.mp hj with hj | rfl
      · rw [rowI j hj, (cf j hj).2.2 _ (lp i hi)]; exact I.zero i hi j hj ij
      · rw [rowN]; exact hz _ (lp i hi)
    · rw [pN]
      rcases Nat.lt_succ_iff_lt_or_eq.mp hj with hj | rfl
      · rw [rowI j hj]; exact (cf j hj).2.1
      · exact absurd rfl ij
  · have hi : i < s.2.2.length + 1 := by rw [← lenP]; exact hi
    have hc : c < (s.2.2 ++ [p]).getD i 0 := hc
    show ((s.2.1.map (clr1 q h p) ++ [h]).getD i []).getD c 0 = 0
    rcases Nat.lt_succ_iff_lt_or_eq.mp hi with hi | rfl
    · rw [pI i hi] at hc
      rw [rowI i hi, (cf i hi).2.2 _ (by have := lp i hi; omega)]; exact I.pre i hi c hc
    · rw [pN] at hc
      rw [rowN]; exact hz c hc
include hq in
theorem RI.step {n p : Nat} {s : RedS} (I : RI q n p s) (hp : p < n) : RI q n (p + 1) (redStep q s p) := by
  cases e : s.1.filter (fun r => r.getD p 0 != 0) with
  | nil => exact I.none hq e
  | cons f fs => exact (I.some hq hp e).1
theorem range_fold {α : Type} (f : α → Nat → α) (a : α) (p : Nat) : (List.range (p + 1)).foldl f a = f ((List.range p).foldl f a) p := by
  rw [List.range_succ, List.foldl_append]
  rfl
theorem RI.start {n : Nat} {rs : List (List Nat)} (h : ∀ r ∈ rs, Rw q n r) : RI q n 0 (rs, [], []) :=
  ⟨h, fun _ _ j hj => absurd hj (Nat.not_lt_zero j), by simp, rfl, List.Pairwise.nil, by simp, fun i hi => absurd hi (Nat.not_lt_zero i), fun i hi => absurd hi (Nat.not_lt_zero i), fun i hi => absurd hi (Nat.not_lt_zero i)⟩
include hq in
theorem red_at {n : Nat} {rs : List (List Nat)} (h : ∀ r ∈ rs, Rw q n r) : ∀ p ≤ n, RI q n p ((List.range p).foldl (redStep q) (rs, [], []))
  | 0, _ => RI.start h
  | p + 1, hp => by
    rw [range_fold]
    exact (red_at h p (by omega)).step hq (by omega)
include hq in
theorem red_ri {n : Nat} {rs : List (List Nat)} (h : ∀ r ∈ rs, Rw q n r) : RI q n n (red q n rs) := red_at hq h n (Nat.le_refl n)
end
end Wi

/-! reduced tables: the rank, the combinations, once more -/
namespace Wi
open PySem L2
section
variable {q : Nat} (hq : q ∈ qs)
/-! ### rank -/
def lclr (q : Nat) (f : List Nat) (p : Nat) (r : List Nat) : List Nat := addR q r (sclR q (negN q (mulN q (r.getD p 0) (invN q (f.getD p 0)))) f)
def lrk (q : Nat) (s : List (List Nat) × Nat) (p : Nat) : List (List Nat) × Nat := match (List.range s.1.length).filter (fun k => (s.1.getD k []).getD p 0 != 0) with
  | [] => s
  | k :: _ => ((s.1.eraseIdx k).map (lclr q (s.1.getD k []) p), s.2 + 1)
theorem alg1 : ∀ q ∈ qs, ∀ r < q, ∀ i < q, ∀ x < q, mulN q (negN q (mulN q r i)) x = mulN q (negN q r) (mulN q i x) := by decide +kernel
include hq in
theorem lclr_eq {n p : Nat} {f r : List Nat} (rf : Rw q n f) (hr : Rw q n r) : lclr q f p r = clr1 q (sclR q (invN q (f.getD p 0)) f) p r := by
  have h0 : 0 < q := by have := qs_lt hq; omega
  unfold lclr clr1
  congr 1
  unfold sclR
  rw [List.map_map]
  refine List.map_congr_left fun x hx => ?_
  exact alg1 q hq _ (getD_lt h0 hr.2 p) _ (closed q hq _ (getD_lt h0 rf.2 p)).2.1 x (rf.2 x hx)
theorem idx_filter {α : Type} (X : List α) (d : α) (P : α → Bool) : X.filter P = ((List.range X.length).filter fun k => P (X.getD k d)).map fun k => X.getD k d := by
  have e : X = (List.range X.length).map fun k => X.getD k d := by
    refine List.ext_getElem (by simp) fun i h1 h2 => ?_
    simp [List.getD_eq_getElem?_getD, h1]
  conv => lhs; rw [e]
  rw [List.filter_map]
  rfl
theorem filter_drop0 {c : List Nat → List Nat} : ∀ {X : List (List Nat)}, (∀ r ∈ X, nz r = false → nz (c r) = false) → (X.map c).filter nz = ((X.filter nz).map c).filter nz
  | [], _ => rfl
  | r :: X, h => by
    have ih := filter_drop0 (c := c) (X := X) fun y hy => h y (List.mem_cons_of_mem _ hy)
    cases e : nz r with
    | true => rw [List.filter_cons_of_pos e, List.map_cons, List.map_cons, List.filter_cons, List.filter_cons, ih]
    | false => rw [List.filter_cons_of_neg (by rw [e]; decide), List.map_cons, List.filter_cons_of_neg (by rw [h r List.mem_cons_self e]; decide), ih]
theorem filter_erase {c : List Nat → List Nat} : ∀ {X : List (List Nat)} {k : Nat}, k < X.length → nz (c (X.getD k [])) = false → ((X.eraseIdx k).map c).filter nz = (X.map c).filter nz
  | [], _, hk, _ => absurd hk (Nat.not_lt_zero _)
  | r :: X, 0, _, h => by
    rw [List.eraseIdx_cons_zero, List.map_cons, List.filter_cons_of_neg (by rw [show nz (c r) = false from h]; decide)]
  | r :: X, k + 1, hk, h => by
    rw [List.eraseIdx_cons_succ, List.map_cons, List.map_cons, List.filter_cons, List.filter_cons, filter_erase (by simpa using hk) (by simpa using h)]
theorem filter_nz_at {n p : Nat} (hp : p < n) {X : List (List Nat)} (h : ∀ r ∈ X, r.length = n) : (X.filter nz).filter (fun r => r.getD p 0 != 0) = X.filter (fun r => r.getD p 0 != 0) := by
  rw [List.filter_filter]
  refine List.filter_congr fun r hr => ?_
  cases e : (r.getD p 0 != 0) with
  | false => rfl
  | true => rw [nz_of (h r hr) hp (bne_iff_ne.mp e)]; rfl
include hq in
theorem clr_zero {n p : Nat} {h r : List Nat} (hp : p < n) (hh : Rw q n h) (hr : Rw q n r) (hz : r.getD p 0 = 0) : clr1 q h p r = r := by
  have h0 : 0 < q := by have := qs_lt hq; omega
  refine row_ext (clr1_rw hq hh hr).1 hr.1 fun j hj => ?_
  rw [clr_at hh hr hj, hz, (neg0 q hq).1, (fz1 q hq _ (getD_lt h0 hh.2 j)).2.2.2.1]
  exact (fz1 q hq _ (getD_lt h0 hr.2 j)).2.1
theorem alg2 : ∀ q ∈ qs, ∀ a < q, ∀ x < q, a ≠ 0 → addN q x (mulN q (negN q a) (mulN q (invN q a) x)) = 0 := by decide +kernel
include hq in
theorem clr_self {n p : Nat} {f : List Nat} (rf : Rw q n f) (fnz : f.getD p 0 ≠ 0) : nz (clr1 q (sclR q (invN q (f.getD p 0)) f) p f) = false := by
  have h0 : 0 < q := by have := qs_lt hq; omega
  have iv := (closed q hq _ (getD_lt h0 rf.2 p)).2.1
  have hh := scl_rw hq iv rf
  rw [nz_false (clr1_rw hq hh rf).1]
  intro j hj
  rw [clr_at hh rf hj, getD_scl (by rw [rf.1]; exact hj)]
  exact alg2 q hq _ (getD_lt h0 rf.2 p) _ (getD_lt h0 rf.2 j) fnz
structure RkI (q n : Nat) (s : RedS) (t : List (List Nat) × Nat) : Prop where
  rw : ∀ r ∈ t.1, Rw q n r
  same : t.1.filter nz = s.1.filter nz
  rank : t.2 = s.2.2.length
include hq in
theorem rk_step {n p : Nat} {s : RedS} {t : List (List Nat) × Nat} (hp : p < n) (I : RI q n p s) (J : RkI q n s t) : RkI q n (redStep q s p) (lrk q t p) := by
  have h0 : 0 < q := by have := qs_lt hq; omega
  have key : t.1.filter (fun r => r.getD p 0 != 0) = s.1.filter (fun r => r.getD p 0 != 0) := by
    rw [← filter_nz_at hp (fun r hr => (J.rw r hr).1), J.same, filter_nz_at hp (fun r hr => (I.L r hr).1)]
  rw [idx_filter t.1 []] at key
  unfold lrk
  cases e : (List.range t.1.length).filter (fun k => (t.1.getD k []).getD p 0 != 0) with
  | nil =>
    rw [e] at key
    have es : redStep q s p = s := by unfold redStep; rw [← key]; rfl
    rw [es]
    exact J
  | cons k ks =>
    rw [e] at key
    have hk : k ∈ (List.range t.1.length).filter (fun k => (t.1.getD k []).getD p 0 != 0) := by rw [e]; exact List.mem_cons_self
    obtain ⟨hk1, hk2⟩ := List.mem_filter.mp hk
    have hk1 : k < t.1.length := by simpa using hk1
    have rf := J.rw _ (getD_mem (d := []) hk1)
    have fnz : (t.1.getD k []).getD p 0 ≠ 0 := bne_iff_ne.mp hk2
    have iv := (closed q hq _ (getD_lt h0 rf.2 p)).2.1
    have hh := scl_rw hq iv rf
    obtain ⟨_, es⟩ := I.some hq hp (f := t.1.getD k []) (fs := ks.map fun k => t.1.getD k []) key.symm
    rw [es]
    dsimp only
    have em : (t.1.eraseIdx k).map (lclr q (t.1.getD k []) p) = (t.1.eraseIdx k).map (clr1 q (sclR q (invN q ((t.1.getD k []).getD p 0)) (t.1.getD k [])) p) := List.map_congr_left fun r hr => lclr_eq hq rf (J.rw r (List.mem_of_mem_eraseIdx hr))
    refine ⟨fun r hr => ?_, ?_, ?_⟩
    · rw [em] at hr
      obtain ⟨r', hr', rfl⟩ := List.mem_map.mp hr
      exact clr1_rw hq hh (J.rw r' (List.mem_of_mem_eraseIdx hr'))
    · show ((t.1.eraseIdx k).map _).filter nz = (clrs q _ p s.1).filter nz
      have zz : ∀ {X : List (List Nat)}, (∀ r ∈ X, Rw q n r) → ∀ r ∈ X, nz r = false → nz (clr1 q (sclR q (invN q ((t.1.getD k []).getD p 0)) (t.1.getD k [])) p r) = false := fun hX r hr z => by
        rw [clr_zero hq hp hh (hX r hr) ((nz_false (hX r hr).1).mp z p hp)]; exact z
      rw [em, filter_erase hk1 (clr_self hq rf fnz), filter_drop0 (zz J.rw), J.same, ← filter_drop0 (zz I.L)]
      unfold clrs
      rw [List.filter_filter]
      exact (List.filter_congr fun _ _ => (Bool.and_self _).symm)
    · show t.2 + 1 = (_ ++ [_]).length
      rw [List.length_append, J.rank]
      rfl
include hq in
theorem rk_at {n : Nat} {rs : List (List Nat)} (h : ∀ r ∈ rs, Rw q n r) : ∀ p ≤ n, RkI q n ((List.range p).foldl (redStep q) (rs, [], [])) ((List.range p).foldl (lrk q) (rs, 0))
  | 0, _ => ⟨h, rfl, rfl⟩
  | p + 1, hp => by
    rw [range_fold, range_fold]
    exact rk_step hq (by omega) (red_at hq h p (by omega)) (rk_at h p (by omega))
/-! ### combinations -/
def dotc (q : Nat) (r : List Nat) (T : List (List Nat)) (P : List Nat) (m j : Nat) : Nat := (List.range m).foldl (fun t k => addN q t (mulN q (r.getD (P.getD k 0) 0) ((T.getD k []).getD j 0))) 0
theorem dotc_succ {q : Nat} {r : List Nat} {T : List (List Nat)} {P : List Nat} {m j : Nat} : dotc q r T P (m + 1) j = addN q (dotc q r T P m j) (mulN q (r.getD (P.getD m 0) 0) ((T.getD m []).getD j 0)) := range_fold _ _ _
theorem shuf : ∀ q ∈ qs, ∀ a < q, ∀ b < q, ∀ c < q, ∀ d < q, addN q (addN q a b) (addN q c d) = addN q (addN q a c) (addN q b d) := by decide +kernel
theorem alg3 : ∀ q ∈ qs, ∀ a < q, ∀ b < q, negN q (addN q a b) = addN q (negN q a) (negN q b) ∧ mulN q a (negN q b) = negN q (mulN q a b) ∧ addN q (mulN q a b) (mulN q (negN q a) b) = 0 := by decide +kernel
theorem alg4 : ∀ q ∈ qs, ∀ P < q, ∀ s < q, ∀ h < q, addN q (mulN q (negN q P) h) (mulN q (addN q P s) h) = mulN q s h ∧ mulN q (addN q P s) h = addN q (mulN q P h) (mulN q s h) ∧ mulN q P (mulN q (negN q s) h) = mulN q (negN q (mulN q P s)) h := by decide +kernel
include hq in
theorem dotc_lt {n : Nat} {r : List Nat} {T : List (List Nat)} {P : List Nat} (hr : ∀ x ∈ r, x < q) (hT : ∀ t ∈ T, Rw q n t) (m j : Nat) : dotc q r T P m j < q := by
  have h0 : 0 < q := by have := qs_lt hq; omega
  induction m with
  | zero => exact h0
  | succ m ih =>
    rw [dotc_succ]
    have ht : (T.getD m []).getD j 0 < q := by
      rw [List.getD_eq_getElem?_getD (l := T)]
      cases e : T[m]? with
      | none => exact h0
      | some t => exact getD_lt h0 (hT t (List.mem_of_getElem? e)).2 j
    exact ((closed q hq _ ih).2.2 _ ((closed q hq _ (getD_lt h0 hr _)).2.2 _ ht).2.1).1
include hq in
theorem dotc_clr {n p : Nat} {r h : List Nat} {T : List (List Nat)} {P : List Nat} (hp : p < n) (hr : ∀ x ∈ r, x < q) (hh : Rw q n h) (hT : ∀ t ∈ T, Rw q n t) {j : Nat} (hj : j < n) : ∀ m ≤ T.length,
    dotc q r (T.map (clr1 q h p) ++ [h]) (P ++ [p]) m j = addN q (dotc q r T (P ++ [p]) m j) (mulN q (negN q (dotc q r T (P ++ [p]) m p)) (h.getD j 0))
  | 0, _ => by
    have h0 : 0 < q := by have := qs_lt hq; omega
    show 0 = addN q 0 (mulN q (negN q 0) (h.getD j 0))
    rw [(neg0 q hq).1, (fz1 q hq _ (getD_lt h0 hh.2 j)).2.2.2.1]
    exact ((fz1 q hq 0 h0).2.1).symm
  | m + 1, hm => by
    have h0 : 0 < q := by have := qs_lt hq; omega
    have ih := dotc_clr (r := r) (P := P) hp hr hh hT hj m (by omega)
    have tm := hT _ (getD_mem (d := []) (show m < T.length by omega))
    rw [dotc_succ, dotc_succ, dotc_succ, ih, getD_app_l (l := T.map (clr1 q h p)) (by rw [List.length_map]; omega), getD_map' (d := []) (by omega), clr_at hh tm hj]
    have wA := dotc_lt (q := q) hq hr hT (P := P ++ [p]) m j
    have wB := dotc_lt (q := q) hq hr hT (P := P ++ [p]) m p
    generalize dotc q r T (P ++ [p]) m j = A at *
    generalize dotc q r T (P ++ [p]) m p = B at *
    have w1 := getD_lt h0 hr ((P ++ [p]).getD m 0)
    generalize r.getD ((P ++ [p]).getD m 0) 0 = w at *
    have t1 := getD_lt h0 tm.2 j
    have u1 := getD_lt h0 tm.2 p
    generalize (T.getD m []).getD j 0 = t at *
    generalize (T.getD m []).getD p 0 = u at *
    have x1 := getD_lt h0 hh.2 j
    generalize h.getD j 0 = x at *
    have nu := (closed q hq u u1).1
    have nB := (closed q hq B wB).1
    have wu := ((closed q hq w w1).2.2 u u1).2.1
    have nwu := (closed q hq _ wu).1
    have wt := ((closed q hq w w1).2.2 t t1).2.1
    have nux := ((closed q hq _ nu).2.2 x x1).2.1
    have nBx := ((closed q hq _ nB).2.2 x x1).2.1
    have nwux := ((closed q hq _ nwu).2.2 x x1).2.1
    rw [(assoc q hq w w1 t t1 _ nux).2.2, (alg4 q hq w w1 u u1 x x1).2.2, (alg3 q hq B wB _ wu).1, (alg4 q hq _ nB _ nwu x x1).2.1]
    exact shuf q hq A wA _ nBx _ wt _ nwux
structure CbI (q n : Nat) (s : RedS) (r u : List Nat) : Prop where
  ru : Rw q n u
  inL : u ∈ s.1 ∨ nz u = false
  sum : ∀ j < n, r.getD j 0 = addN q (dotc q r s.2.1 s.2.2 s.2.2.length j) (u.getD j 0)
include hq in
theorem cb_step {n p : Nat} {s : RedS} {r : List Nat} (hp : p < n) (hr : Rw q n r) (I : RI q n p s) (C : ∃ u, CbI q n s r u) : ∃ u, CbI q n (redStep q s p) r u := by
  have h0 : 0 < q := by have := qs_lt hq; omega
  obtain ⟨u, C⟩ := C
  cases e : s.1.filter (fun r => r.getD p 0 != 0) with
  | nil =>
    have es : redStep q s p = s := by unfold redStep; rw [e]
    rw [es]
    exact ⟨u, C⟩
  | cons f fs =>
    have hf : f ∈ s.1 ∧ (f.getD p 0 != 0) = true := List.mem_filter.mp (by rw [e]; exact List.mem_cons_self)
    obtain ⟨hh, h1, hz⟩ := head_facts hq hp (I.L f hf.1) (I.Lz f hf.1) (bne_iff_ne.mp hf.2)
    obtain ⟨_, es⟩ := I.some hq hp e
    rw [es]
    generalize sclR q (invN q (f.getD p 0)) f = h at *
    have cu := clr1_rw (p := p) hq hh C.ru
    refine ⟨clr1 q h p u, cu, ?_, fun j hj => ?_⟩
    · rcases C.inL with m | z
      · cases z : nz (clr1 q h p u) with
        | true => exact .inl (List.mem_filter.mpr ⟨List.mem_map.mpr ⟨u, m, rfl⟩, z⟩)
        | false => exact .inr rfl
      · rw [clr_zero hq hp hh C.ru ((nz_false C.ru.1).mp z p hp)]; exact .inr z
    · show r.getD j 0 = addN q (dotc q r (s.2.1.map (clr1 q h p) ++ [h]) (s.2.2 ++ [p]) (s.2.2 ++ [p]).length j) ((clr1 q h p u).getD j 0)
      have lenM : (s.2.1.map (clr1 q h p)).length = s.2.2.length := by rw [List.length_map, I.len]
      have stay : ∀ j, ∀ m ≤ s.2.2.length, dotc q r s.2.1 (s.2.2 ++ [p]) m j = dotc q r s.2.1 s.2.2 m j := by
        intro j m
        induction m with
        | zero => intro _; rfl
        | succ m ih =>
          intro hm
          rw [dotc_succ, dotc_succ, ih (by omega), getD_app_l (by omega)]
      have lenP : (s.2.2 ++ [p]).length = s.2.2.length + 1 := by rw [List.length_append]; rfl
      rw [lenP, dotc_succ, dotc_clr hq hp hr.2 hh I.T hj _ (by rw [I.len]; exact Nat.le_refl _), stay j _ (Nat.le_refl _), stay p _ (Nat.le_refl _), getD_app_r (l := s.2.2)]
      rw [show (s.2.1.map (clr1 q h p) ++ [h]).getD s.2.2.length [] = h from by rw [← lenM]; exact getD_app_r, clr_at hh C.ru hj, C.sum p hp, C.sum j hj]
      have wA := dotc_lt (q := q) hq hr.2 I.T (P := s.2.2) s.2.2.length j
      have wB := dotc_lt (q := q) hq hr.2 I.T (P := s.2.2) s.2.2.length p
      generalize dotc q r s.2.1 s.2.2 s.2.2.length j = A at *
      generalize dotc q r s.2.1 s.2.2 s.2.2.length p = B at *
      have x1 := getD_lt h0 hh.2 j
      generalize h.getD j 0 = x at *
      have u1 := getD_lt h0 C.ru.2 p
      have v1 := getD_lt h0 C.ru.2 j
      generalize u.getD p 0 = a at *
      generalize u.getD j 0 = b at *
      have nB := (closed q hq B wB).1
      have nBx := ((closed q hq _ nB).2.2 x x1).2.1
      have Ba := ((closed q hq B wB).2.2 a u1).1
      have Bax := ((closed q hq _ Ba).2.2 x x1).2.1
      have ax := ((closed q hq a u1).2.2 x x1).2.1
      have na := (closed q hq a u1).1
      have nax := ((closed q hq _ na).2.2 x x1).2.1
      have Ab := ((closed q hq A wA).2.2 b v1).1
      rw [(assoc q hq A wA _ nBx _ Bax).2.1, (alg4 q hq B wB a u1 x x1).1, shuf q hq A wA _ ax b v1 _ nax, (alg3 q hq a u1 x x1).2.2, (fz1 q hq _ Ab).2.1]
include hq in
theorem cb_at {n : Nat} {rs : List (List Nat)} (h : ∀ r ∈ rs, Rw q n r) {r : List Nat} (hr : r ∈ rs) : ∀ p ≤ n, ∃ u, CbI q n ((List.range p).foldl (redStep q) (rs, [], [])) r u
  | 0, _ => ⟨r, h r hr, .inl hr, fun j _ => by
    have h0 : 0 < q := by have := qs_lt hq; omega
    show r.getD j 0 = addN q 0 (r.getD j 0)
    rw [(fz1 q hq _ (getD_lt h0 (h r hr).2 j)).2.2.1]⟩
  | p + 1, hp => by
    rw [range_fold]
    exact cb_step hq (by omega) (h r hr) (red_at hq h p (by omega)) (cb_at h hr p (by omega))
include hq in
theorem cb_end {n : Nat} {rs : List (List Nat)} (h : ∀ r ∈ rs, Rw q n r) {r : List Nat} (hr : r ∈ rs) : ∀ j < n, dotc q r (red q n rs).2.1 (red q n rs).2.2 (red q n rs).2.2.length j = r.getD j 0 := by
  have h0 : 0 < q := by have := qs_lt hq; omega
  obtain ⟨u, C⟩ := cb_at hq h hr n (Nat.le_refl n)
  have C : CbI q n (red q n rs) r u := C
  have I := red_ri hq h
  intro j hj
  have uz : u.getD j 0 = 0 := by
    rcases C.inL with m | z
    · exact I.Lz u m j hj
    · exact (nz_false C.ru.1).mp z j hj
  have e := C.sum j hj
  rw [uz, (fz1 q hq _ (dotc_lt hq (h r hr).2 I.T _ j)).2.1] at e
  exact e.symm
end
end Wi

/-! a reduced table reduces to itself -/
namespace Wi
open PySem L2
section
variable {q : Nat} (hq : q ∈ qs)
theorem alg5 : ∀ q ∈ qs, ∀ a < q, addN q a (mulN q (negN q 1) a) = 0 := by decide +kernel
include hq in
theorem scl1 {n : Nat} {v : List Nat} (hv : Rw q n v) : sclR q (invN q 1) v = v := by
  rw [(neg0 q hq).2.1]
  unfold sclR
  conv => rhs; rw [← List.map_id v]
  exact List.map_congr_left fun x hx => (fz1 q hq x (hv.2 x hx)).2.2.2.2.1
theorem getD_drop {α : Type} {l : List α} {k i : Nat} {d : α} : (l.drop k).getD i d = l.getD (k + i) d := by
  rw [List.getD_eq_getElem?_getD, List.getD_eq_getElem?_getD, List.getElem?_drop]
theorem mem_getD {α : Type} {l : List α} {x : α} (d : α) (h : x ∈ l) : ∃ i, i < l.length ∧ l.getD i d = x := by
  obtain ⟨i, hi, rfl⟩ := List.mem_iff_getElem.mp h
  exact ⟨i, hi, by rw [List.getD_eq_getElem?_getD, List.getElem?_eq_getElem hi]; rfl⟩
theorem pw_lt {P : List Nat} (h : P.Pairwise (· < ·)) {i j : Nat} (hij : i < j) (hj : j < P.length) : P.getD i 0 < P.getD j 0 := by
  have := List.pairwise_iff_getElem.mp h i j (by omega) hj hij
  rw [List.getD_eq_getElem?_getD, List.getD_eq_getElem?_getD, List.getElem?_eq_getElem (by omega), List.getElem?_eq_getElem hj]
  exact this
/-- a finished table: its rows, its pivots -/
structure Rdc (q n : Nat) (T : List (List Nat)) (P : List Nat) : Prop where
  rows : ∀ r ∈ T, Rw q n r
  len : T.length = P.length
  up : P.Pairwise (· < ·)
  lt : ∀ x ∈ P, x < n
  one : ∀ i < P.length, (T.getD i []).getD (P.getD i 0) 0 = 1
  zero : ∀ i < P.length, ∀ j < P.length, i ≠ j → (T.getD j []).getD (P.getD i 0) 0 = 0
  pre : ∀ i < P.length, ∀ c < P.getD i 0, (T.getD i []).getD c 0 = 0
include hq in
theorem red_rdc {n : Nat} {rs : List (List Nat)} (h : ∀ r ∈ rs, Rw q n r) : Rdc q n (red q n rs).2.1 (red q n rs).2.2 :=
  let I := red_ri hq h
  ⟨I.T, I.len, I.up, I.lt, I.one, I.zero, I.pre⟩
theorem Rdc.nz {n : Nat} {T : List (List Nat)} {P : List Nat} (F : Rdc q n T P) : ∀ r ∈ T, nz r = true := by
  intro r hr
  obtain ⟨i, hi, rfl⟩ := mem_getD [] hr
  have hi' : i < P.length := by rw [← F.len]; exact hi
  refine nz_of (F.rows _ hr).1 (F.lt _ (getD_mem (d := 0) hi')) ?_
  rw [F.one i hi']
  decide
include hq in
theorem again_at {n : Nat} {T : List (List Nat)} {P : List Nat} (F : Rdc q n T P) : ∀ p ≤ n, ∃ k ≤ P.length, (∀ i < k, P.getD i 0 < p) ∧ (∀ i < P.length, k ≤ i → p ≤ P.getD i 0) ∧ (List.range p).foldl (redStep q) (T, [], []) = (T.drop k, T.take k, P.take k)
  | 0, _ => ⟨0, Nat.zero_le _, fun i hi => absurd hi (Nat.not_lt_zero i), fun i _ _ => Nat.zero_le _, by simp⟩
  | p + 1, hp => by
    obtain ⟨k, hk, h1, h2, e⟩ := again_at F p (by omega)
    rw [range_fold, e]
    have memD : ∀ r ∈ T.drop k, ∃ i, k ≤ i ∧ i < P.length ∧ T.getD i [] = r := by
      intro r hr
      obtain ⟨i, hi, e⟩ := mem_getD [] hr
      rw [getD_drop] at e
      rw [List.length_drop, F.len] at hi
      exact ⟨k + i, by omega, by omega, e⟩
    by_cases hkp : k < P.length ∧ P.getD k 0 = p
    · obtain ⟨hkl, hkp⟩ := hkp
      have rk := F.rows _ (getD_mem (d := []) (show k < T.length by rw [F.len]; exact hkl))
      have ok := F.one k hkl
      rw [hkp] at ok
      have dk : T.drop k = T.getD k [] :: T.drop (k + 1) := by
        rw [List.drop_eq_getElem_cons (by rw [F.len]; exact hkl), List.getD_eq_getElem?_getD, List.getElem?_eq_getElem (by rw [F.len]; exact hkl)]
        rfl
      have rest0 : ∀ r ∈ T.drop (k + 1), Rw q n r ∧ r.getD p 0 = 0 := by
        intro r hr
        obtain ⟨i, hi, e⟩ := mem_getD [] hr
        rw [getD_drop] at e
        rw [List.length_drop, F.len] at hi
        rw [← e]
        refine ⟨F.rows _ (getD_mem (by rw [F.len]; omega)), ?_⟩
        have := F.zero k hkl (k + 1 + i) (by omega) (by omega)
        rw [hkp] at this
        exact this
      have first0 : ∀ r ∈ T.take k, Rw q n r ∧ r.getD p 0 = 0 := by
        intro r hr
        obtain ⟨i, hi, e⟩ := mem_getD [] hr
        have hi' : i < k := by rw [List.length_take] at hi; omega
        have e2 : (T.take k).getD i [] = T.getD i [] := by rw [List.getD_eq_getElem?_getD, List.getElem?_take_of_lt hi', ← List.getD_eq_getElem?_getD]
        rw [e2] at e
        rw [← e]
        refine ⟨F.rows _ (getD_mem (by rw [F.len]; omega)), ?_⟩
        have := F.zero k hkl i (by omega) (by omega)
        rw [hkp] at this
        exact this
      have fl : (T.drop k).filter (fun r => r.getD p 0 != 0) = [T.getD k []] := by
        rw [dk, List.filter_cons_of_pos (by rw [ok]; decide), List.filter_eq_nil_iff.mpr (fun r hr => by rw [(rest0 r hr).2]; decide)]
      have es : redStep q (T.drop k, T.take k, P.take k) p = (clrs q (T.getD k []) p (T.drop k), clrs q (T.getD k []) p (T.take k) ++ [T.getD k []], P.take k ++ [p]) := by
        unfold redStep
        rw [fl]
        dsimp only
        rw [ok, scl1 hq rk]
      have hp' : p < n := by omega
      have same : ∀ X : List (List Nat), (∀ r ∈ X, Rw q n r ∧ r.getD p 0 = 0) → (∀ r ∈ X, nz r = true) → clrs q (T.getD k []) p X = X := by
        intro X hX hN
        unfold clrs
        have em : X.map (clr1 q (T.getD k []) p) = X.map id := List.map_congr_left fun r hr => clr_zero hq hp' rk (hX r hr).1 (hX r hr).2
        rw [em, List.map_id, List.filter_eq_self]
        exact hN
      have selfz : nz (clr1 q (T.getD k []) p (T.getD k [])) = false := by
        rw [nz_false (clr1_rw hq rk rk).1]
        intro j hj
        rw [clr_at rk rk hj, ok]
        have h0 : 0 < q := by have := qs_lt hq; omega
        exact alg5 q hq _ (getD_lt h0 rk.2 j)
      refine ⟨k + 1, hkl, fun i hi => ?_, fun i hi hki => ?_, ?_⟩
      · rcases Nat.lt_succ_iff_lt_or_eq.mp hi with hi | rfl
        · exact Nat.lt_succ_of_lt (h1 i hi)
        · rw [hkp]; exact Nat.lt_succ_self p
      · have := pw_lt F.up (show k < i by omega) hi
        omega
      · rw [es, same _ first0 (fun r hr => F.nz r (List.mem_of_mem_take hr))]
        have e1 : clrs q (T.getD k []) p (T.drop k) = T.drop (k + 1) := by
          rw [dk]
          show (clr1 q (T.getD k []) p (T.getD k []) :: (T.drop (k + 1)).map _).filter nz = _
          rw [List.filter_cons_of_neg (by rw [selfz]; decide)]
          exact same _ rest0 (fun r hr => F.nz r (List.mem_of_mem_drop hr))
        have e2 : T.take k ++ [T.getD k []] = T.take (k + 1) := by
          rw [List.take_succ, List.getD_eq_getElem?_getD, List.getElem?_eq_getElem (by rw [F.len]; exact hkl)]
          rfl
        have e3 : P.take k ++ [p] = P.take (k + 1) := by
          rw [List.take_succ, List.getElem?_eq_getElem hkl]
          rw [List.getD_eq_getElem?_getD, List.getElem?_eq_getElem hkl] at hkp
          have hkp : P[k] = p := hkp
          rw [hkp]
          rfl
        rw [e1, e2, e3]
    · have big : ∀ i < P.length, k ≤ i → p + 1 ≤ P.getD i 0 := by
        intro i hi hki
        have := h2 i hi hki
        rcases Nat.lt_or_ge k i with c | c
        · have := pw_lt F.up c hi
          have := h2 k (by omega) (Nat.le_refl k)
          omega
        · have ek : i = k := by omega
          subst ek
          have : P.getD i 0 ≠ p := fun z => hkp ⟨hi, z⟩
          omega
      have fl : (T.drop k).filter (fun r => r.getD p 0 != 0) = [] := by
        rw [List.filter_eq_nil_iff]
        intro r hr
        obtain ⟨i, ki, hi, rfl⟩ := memD r hr
        rw [F.pre i hi p (by have := big i hi ki; omega)]
        decide
      refine ⟨k, hk, fun i hi => Nat.lt_succ_of_lt (h1 i hi), big, ?_⟩
      unfold redStep
      rw [fl]
include hq in
theorem red_again {n : Nat} {T : List (List Nat)} {P : List Nat} (F : Rdc q n T P) : (red q n T).2.1 = T := by
  obtain ⟨k, hk, h1, h2, e⟩ := again_at hq F n (Nat.le_refl n)
  unfold red
  rw [e]
  show T.take k = T
  have : k = P.length := by
    rcases Nat.lt_or_ge k P.length with c | c
    · have := h2 k c (Nat.le_refl k)
      have := F.lt _ (getD_mem (d := 0) c)
      omega
    · omega
  rw [this, ← F.len, List.take_length]
end
end Wi

/-! the law's clearing and rank -/
namespace Wi
open PySem L2
theorem comp_go4 {α : Type} {n : Nat} {c : DenT} {e : Den} {own : List Nat} {ρ : Sl} {st : Store} (enc : α → PV) (f : α → Bool) (g : α → PV) : ∀ (as : List α) (acc : List PV),
    (∀ a ∈ as, ∀ x : Cell, c ((wipeP ρ own).set n (some (enc a))) (st ++ [x]) = .ok (f a) (st ++ [x])) → (∀ a ∈ as, f a = true → ∀ x : Cell, e ((wipeP ρ own).set n (some (enc a))) (st ++ [x]) = .ok (g a) (st ++ [x])) → (∀ a ∈ as, isTree (g a) = true) → acc.length + as.length ≤ 16777216 →
    compL (.n n) c e own st.length (as.map enc) ρ (st ++ [.lst acc]) = .ok (acc ++ (as.filter f).map g) st
  | [], acc, _, _, _, _ => by simp [compL]
  | a :: as, acc, hc, he, ht, hl => by
    have c1 := hc a List.mem_cons_self
    rw [List.map_cons]
    unfold compL
    simp only [bindPt, c1, noexc, Res.bind]
    cases q : f a with
    | false =>
      rw [if_neg (by simp), comp_go4 enc f g as acc (fun y h => hc y (List.mem_cons_of_mem _ h)) (fun y h => he y (List.mem_cons_of_mem _ h)) (fun y h => ht y (List.mem_cons_of_mem _ h)) (by simp at hl; omega), List.filter_cons, q, if_neg (by simp)]
    | true =>
      have hb : Nat.blt acc.length 16777216 = true := by simp only [Nat.blt_eq]; simp at hl; omega
      have := comp_go4 (st := st) enc f g as (acc ++ [g a]) (fun y h => hc y (List.mem_cons_of_mem _ h)) (fun y h => he y (List.mem_cons_of_mem _ h)) (fun y h => ht y (List.mem_cons_of_mem _ h)) (by simp at hl ⊢; omega)
      simp only [if_true, he a List.mem_cons_self q, noexc, Res.bind, List.getElem?_concat_length, ht a List.mem_cons_self, hb, Bool.and_self, List.set_append_right _ _ (Nat.le_refl _), Nat.sub_self, List.set_cons_zero]
      rw [this, List.filter_cons, q, if_pos rfl, List.map_cons, List.append_assoc]
      rfl
theorem comp4 {α : Type} {i : DenI} {n : Nat} {c : DenT} {e : Den} {own : List Nat} {ρ : Sl} {st st1 : Store} {as : List α} (enc : α → PV) (f : α → Bool) (g : α → PV) (hi : i ρ st = .ok (as.map enc) st1)
    (hc : ∀ a ∈ as, ∀ x : Cell, c ((wipeP ρ own).set n (some (enc a))) (st1 ++ [x]) = .ok (f a) (st1 ++ [x])) (he : ∀ a ∈ as, f a = true → ∀ x : Cell, e ((wipeP ρ own).set n (some (enc a))) (st1 ++ [x]) = .ok (g a) (st1 ++ [x])) (ht : ∀ a ∈ as, isTree (g a) = true) (hl : as.length ≤ 16777216) :
    lComp i (.n n) c e own ρ st = .ok ((as.filter f).map g) st1 := by
  unfold lComp
  rw [hi]
  show compL (.n n) c e own st1.length (as.map enc) ρ (st1 ++ [.lst []]) = _
  rw [comp_go4 enc f g as [] hc he ht (by simpa using hl), List.nil_append]
section
variable {q : Nat} (hq : q ∈ qs)
include hq in
theorem law_cleared_ok {n p : Nat} {f r : List Nat} (hn : n ≤ 1000) (hp : p < n) (rf : Rw q n f) (fnz : f.getD p 0 ≠ 0) (hr : Rw q n r) (st : Store) : f__law_cleared [Fl q, rowP r, rowP f, .int (p : Nat)] st = .ok (rowP (lclr q f p r)) st := by
  have h0 : 0 < q := by have := qs_lt hq; omega
  have fp := getD_lt h0 rf.2 p
  have rp := getD_lt h0 hr.2 p
  have iv := (closed q hq _ fp).2.1
  have mm := ((closed q hq _ rp).2.2 _ iv).2.1
  have ng := (closed q hq _ mm).1
  refine mkFn_ok0 ?_ rfl
  have v0 : ∀ x, dVar 0 [some (Fl q), some (rowP r), some (rowP f), some (.int (p : Nat)), x] st = .ok (Fl q) st := fun x => dVar_ok rfl rfl
  have a1 := (dCall_ok (np := 2) (f := f__law_inverse) (a2_ok (v0 none) (dOp2_ok (dVar_ok (i := 2) (v := rowP f) rfl rfl) (dVar_ok (i := 3) (v := .int (p : Nat)) rfl rfl) (ix_pns (by rw [rf.1]; exact hp) st))) rfl).trans (linv_ok hq fp st fnz)
  have a2 := (dCall_ok (np := 3) (f := f__law_mul) (a3_ok (v0 none) (dOp2_ok (dVar_ok (i := 1) (v := rowP r) rfl rfl) (dVar_ok (i := 3) (v := .int (p : Nat)) rfl rfl) (ix_pns (by rw [hr.1]; exact hp) st)) a1) rfl).trans (lmul_ok hq rp iv st)
  refine (sSeq_nx (sSet_ok (i := 4) a2)).trans ?_
  have a3 := (dCall_ok (np := 2) (f := f__law_negative) (a2_ok (v0 _) (dVar_ok (i := 4) (v := .int (mulN q (r.getD p 0) (invN q (f.getD p 0)) : Nat)) rfl rfl)) rfl).trans (lneg_ok hq mm st)
  have a4 := (dCall_ok (np := 3) (f := f__law_times) (a3_ok (v0 _) (dVar_ok (i := 2) (v := rowP f) rfl rfl) a3) rfl).trans (law_times_ok hq ng rf.2 (by rw [rf.1]; omega) st)
  exact sRet_ok ((dCall_ok (np := 3) (f := f__law_sum) (a3_ok (v0 _) (dVar_ok (i := 1) (v := rowP r) rfl rfl) a4) rfl).trans (law_sum_ok hq hr.2 (sclR_lt hq ng rf.2) (by unfold sclR; rw [List.length_map, hr.1, rf.1]) (by rw [hr.1]; omega) st))
abbrev Rk (q n : Nat) (v : PV) (k m : Nat) (a5 a6 a7 : Option PV) : Sl := [some (Fl q), some v, some (.int (n : Nat)), some (.ref k), some (.int (m : Nat)), a5, a6, a7, none, none]
abbrev bRk : DenS := (sSeq (sSet 6 (dFrz (lComp (iRng (dFn cLen (aCons (dVar 3) aNil))) (.n 8) (dB (dOp2 oNe (dOp2 oIx (dOp2 oIx (dVar 3) (dVar 8)) (dVar 5)) (dC (.int 0)))) (dVar 8) [8])))
 (sIf (dB (dOp2 (opInt fGt) (dFn cLen (aCons (dVar 6) aNil)) (dC (.int 0))))
 (sSeq (sSet 7 (dLm mPop (dVar 3) (aCons (dOp2 oIx (dVar 6) (dC (.int 0))) aNil)))
 (sSeq (sSet 3 (dNew (lComp (iSeq (dVar 3)) (.n 9) tYesD (dCall 4 f__law_cleared (aCons (dVar 0) (aCons (dVar 9) (aCons (dVar 7) (aCons (dVar 5) aNil))))) [9])))
 (sSet 4 (dOp2 oAdd (dVar 4) (dC (.int 1))))))
 sSkip))
theorem map_erase {α β : Type} (f : α → β) : ∀ (l : List α) (k : Nat), (l.map f).eraseIdx k = (l.eraseIdx k).map f
  | [], _ => by simp
  | _ :: _, 0 => rfl
  | x :: l, k + 1 => by
    rw [List.map_cons, List.eraseIdx_cons_succ, List.eraseIdx_cons_succ, List.map_cons, map_erase f l k]
theorem at_last (pre : Store) (c x : Cell) : (pre ++ [c] ++ [x])[pre.length]? = some c := by
  rw [List.getElem?_append_left (by simp), List.getElem?_concat_length]
include hq in
theorem rk_turn {n p m : Nat} {v : PV} {X : List (List Nat)} {pre : Store} (hn : n ≤ 1000) (hp : p < n) (hX : ∀ r ∈ X, Rw q n r) (lX : X.length ≤ 1000) (lm : m ≤ 1000) (a6 a7 : Option PV) :
    ∃ pre' b6 b7, pre'.take pre.length = pre ∧ pre.length ≤ pre'.length ∧ bRk (Rk q n v pre.length m (some (.int (p : Nat))) a6 a7) (pre ++ [.lst (X.map rowP)]) = .nx (Rk q n v pre'.length (lrk q (X, m) p).2 (some (.int (p : Nat))) b6 b7) (pre' ++ [.lst ((lrk q (X, m) p).1.map rowP)]) := by
  have h0 : 0 < q := by have := qs_lt hq; omega
  have v3 : ∀ (ρ : Sl) (c : Cell) (xs : List PV), c = .lst xs → ρ[3]? = some (some (.ref pre.length)) → ∀ x : List Cell, dVar 3 ρ (pre ++ [c] ++ x) = .ok (.ref pre.length) (pre ++ [c] ++ x) := by
    intro ρ c xs hc h x
    refine dVar_ref (xs := xs) h ?_
    rw [List.append_assoc, List.getElem?_append_right (Nat.le_refl _), Nat.sub_self, hc]
    rfl
  have c1 := comp4 (α := Nat) (n := 8) (own := [8]) (as := List.range' 0 X.length) (i := iRng (dFn cLen (aCons (dVar 3) aNil))) (ρ := Rk q n v pre.length m (some (.int (p : Nat))) a6 a7) (st := pre ++ [.lst (X.map rowP)]) (st1 := pre ++ [.lst (X.map rowP)]) (c := dB (dOp2 oNe (dOp2 oIx (dOp2 oIx (dVar 3) (dVar 8)) (dVar 5)) (dC (.int 0)))) (e := dVar 8)
    (fun k => .int (k : Nat)) (fun k => (X.getD k []).getD p 0 != 0) (fun k => .int (k : Nat)) ?hi ?hc (fun a _ _ x => dVar_ok (i := 8) (v := .int (a : Nat)) rfl rfl) (fun _ _ => rfl) (by simp; omega)
  case hi =>
    refine iRng_len ?_ (by omega : X.length < 4611686018427387904)
    unfold dFn
    have e3 : dVar 3 (Rk q n v pre.length m (some (.int (p : Nat))) a6 a7) (pre ++ [.lst (X.map rowP)]) = .ok (.ref pre.length) (pre ++ [.lst (X.map rowP)]) := dVar_ref (xs := X.map rowP) rfl List.getElem?_concat_length
    rw [a1_ok e3]
    show (match seqOf (.ref pre.length) (pre ++ [Cell.lst (X.map rowP)]) with | some (_, xs) => Res.ok (PV.int xs.length) (pre ++ [Cell.lst (X.map rowP)]) | none => Res.stuck 31) = _
    unfold seqOf
    dsimp only
    rw [List.getElem?_concat_length]
    dsimp only
    rw [List.length_map]
  case hc =>
    intro k hk x
    have hk : k < X.length := by simpa using hk
    have hr := hX _ (getD_mem (d := []) hk)
    have e1 : oIx (.ref pre.length) (.int (k : Nat)) (pre ++ [.lst (X.map rowP)] ++ [x]) = .ok (rowP (X.getD k [])) (pre ++ [.lst (X.map rowP)] ++ [x]) := by
      refine ix_at (b := true) (xs := X.map rowP) ?_ ?_
      · unfold seqOf
        dsimp only
        rw [at_last]
      · rw [List.getElem?_map, List.getElem?_eq_getElem hk, List.getD_eq_getElem?_getD, List.getElem?_eq_getElem hk]
        rfl
    refine dB_ok (dOp2_ok (dOp2_ok (dOp2_ok (v3 _ (.lst (X.map rowP)) (X.map rowP) rfl rfl [x]) (dVar_ok (i := 8) (v := .int (k : Nat)) rfl rfl) e1) (dVar_ok (i := 5) (v := .int (p : Nat)) rfl rfl) (ix_pns (by rw [hr.1]; exact hp) _)) (dC_ok _ _ _) ((ne_int _ _ _).trans ?_))
    by_cases z : (X.getD k []).getD p 0 = 0
    · rw [z]; rfl
    · rw [decide_eq_true (by omega), bne_iff_ne.mpr z]
  have er : List.range' 0 X.length = List.range X.length := (List.range_eq_range' ..).symm
  rw [er] at c1
  cases e : (List.range X.length).filter (fun k => (X.getD k []).getD p 0 != 0) with
  | nil =>
    rw [e] at c1
    have es : lrk q (X, m) p = (X, m) := by unfold lrk; rw [e]
    rw [es]
    refine ⟨pre, some (.lst []), a7, List.take_length .., Nat.le_refl _, (sSeq_nx (sSet_ok (i := 6) (dFrz_ok c1))).trans ?_⟩
    exact if_f (c := dB (dOp2 (opInt fGt) (dFn cLen (aCons (dVar 6) aNil)) (dC (.int 0)))) (ρ := Rk q n v pre.length m (some (.int (p : Nat))) (some (.lst [])) a7) (st := pre ++ [.lst (X.map rowP)]) (st1 := pre ++ [.lst (X.map rowP)]) rfl
  | cons k ks =>
    rw [e] at c1
    have es : lrk q (X, m) p = ((X.eraseIdx k).map (lclr q (X.getD k []) p), m + 1) := by unfold lrk; rw [e]
    rw [es]
    have hk : k ∈ (List.range X.length).filter (fun k => (X.getD k []).getD p 0 != 0) := by rw [e]; exact List.mem_cons_self
    obtain ⟨hk1, hk2⟩ := List.mem_filter.mp hk
    have hk1 : k < X.length := by simpa using hk1
    have rf := hX _ (getD_mem (d := []) hk1)
    have fnz : (X.getD k []).getD p 0 ≠ 0 := bne_iff_ne.mp hk2
    refine ⟨pre ++ [.frz ((X.eraseIdx k).map rowP)], some (.lst (.int (k : Nat) :: ks.map fun (k : Nat) => .int (k : Nat))), some (rowP (X.getD k [])), List.take_left .., by simp, (sSeq_nx (sSet_ok (i := 6) (dFrz_ok c1))).trans ?_⟩
    refine (if_t (c := dB (dOp2 (opInt fGt) (dFn cLen (aCons (dVar 6) aNil)) (dC (.int 0)))) (st1 := pre ++ [.lst (X.map rowP)]) (dB_ok (dOp2_ok (v := .int ((ks.length + 1 : Nat) : Int)) (w := .int 0) (st1 := pre ++ [.lst (X.map rowP)]) (st2 := pre ++ [.lst (X.map rowP)]) ?len rfl ?gt))).trans ?_
    case len =>
      show Res.ok (PV.int (((PV.int (k : Nat) :: ks.map fun (k : Nat) => PV.int (k : Nat)).length : Nat) : Int)) _ = _
      rw [List.length_cons, List.length_map]
    case gt =>
      show Res.ok (PV.bl (decide (((ks.length + 1 : Nat) : Int) > 0))) _ = _
      rw [decide_eq_true (by omega)]
    have pop : dLm mPop (dVar 3) (aCons (dOp2 oIx (dVar 6) (dC (.int 0))) aNil) (Rk q n v pre.length m (some (.int (p : Nat))) (some (.lst (.int (k : Nat) :: ks.map fun (k : Nat) => .int (k : Nat)))) a7) (pre ++ [.lst (X.map rowP)]) = .ok (rowP (X.getD k [])) (pre ++ [.lst ((X.eraseIdx k).map rowP)]) := by
      have g : (pre ++ [Cell.lst (X.map rowP)])[pre.length]? = some (.lst (X.map rowP)) := List.getElem?_concat_length
      have e3 : dVar 3 (Rk q n v pre.length m (some (.int (p : Nat))) (some (.lst (.int (k : Nat) :: ks.map fun (k : Nat) => .int (k : Nat)))) a7) (pre ++ [.lst (X.map rowP)]) = .ok (.ref pre.length) (pre ++ [.lst (X.map rowP)]) := dVar_ref (xs := X.map rowP) rfl List.getElem?_concat_length
      have e6 : dOp2 oIx (dVar 6) (dC (.int 0)) (Rk q n v pre.length m (some (.int (p : Nat))) (some (.lst (.int (k : Nat) :: ks.map fun (k : Nat) => .int (k : Nat)))) a7) (pre ++ [Cell.lst (X.map rowP)]) = .ok (.int (k : Nat)) (pre ++ [Cell.lst (X.map rowP)]) :=
        dOp2_ok (dVar_ok (i := 6) rfl rfl) (dC_ok _ _ _) (ix_at (k := 0) (b := true) (xs := .int (k : Nat) :: ks.map fun (k : Nat) => .int (k : Nat)) rfl rfl)
      unfold dLm
      rw [e3]
      dsimp only [Res.bind]
      rw [g]
      dsimp only
      rw [a1_ok e6]
      dsimp only [Res.bind]
      rw [g]
      dsimp only [mPop]
      have si : seqIndex? ((k : Nat) : Int) (X.map rowP).length = some k := by
        unfold seqIndex?
        rw [List.length_map]
        simp
        omega
      rw [if_pos (by simp; omega), si]
      dsimp only
      rw [List.getElem?_map, List.getElem?_eq_getElem hk1]
      show Res.ok (rowP X[k]) _ = _
      rw [List.set_append_right _ _ (Nat.le_refl _), Nat.sub_self, List.set_cons_zero, map_erase, List.getD_eq_getElem?_getD, List.getElem?_eq_getElem hk1]
      rfl
    refine (sSeq_nx (sSet_ok (i := 7) pop)).trans ?_
    have c2 := comp4 (α := List Nat) (n := 9) (own := [9]) (as := X.eraseIdx k) (i := iSeq (dVar 3)) (ρ := Rk q n v pre.length m (some (.int (p : Nat))) (some (.lst (.int (k : Nat) :: ks.map fun (k : Nat) => .int (k : Nat)))) (some (rowP (X.getD k [])))) (st := pre ++ [.lst ((X.eraseIdx k).map rowP)]) (st1 := pre ++ [.frz ((X.eraseIdx k).map rowP)]) (c := tYesD) (e := dCall 4 f__law_cleared (aCons (dVar 0) (aCons (dVar 9) (aCons (dVar 7) (aCons (dVar 5) aNil)))))
      rowP (fun _ => true) (fun r => rowP (lclr q (X.getD k []) p r)) ?h1 (fun _ _ _ => rfl) ?h2 (fun _ _ => rfl) (Nat.le_trans (List.length_eraseIdx_le _ _) (by omega))
    case h1 =>
      have e3 : dVar 3 (Rk q n v pre.length m (some (.int (p : Nat))) (some (.lst (.int (k : Nat) :: ks.map fun (k : Nat) => .int (k : Nat)))) (some (rowP (X.getD k [])))) (pre ++ [.lst ((X.eraseIdx k).map rowP)]) = .ok (.ref pre.length) (pre ++ [.lst ((X.eraseIdx k).map rowP)]) := dVar_ref (xs := (X.eraseIdx k).map rowP) rfl List.getElem?_concat_length
      unfold iSeq dFreeze
      rw [e3]
      dsimp only [Res.bind, frzV]
      rw [List.getElem?_concat_length]
      dsimp only
      rw [List.set_append_right _ _ (Nat.le_refl _), Nat.sub_self, List.set_cons_zero]
    case h2 =>
      intro r hr _ x
      exact (dCall_ok (np := 4) (f := f__law_cleared) (aCons_ok (dVar_ok (i := 0) rfl rfl) (a3_ok (dVar_ok (i := 9) (v := rowP r) rfl rfl) (dVar_ok (i := 7) rfl rfl) (dVar_ok (i := 5) rfl rfl))) rfl).trans (law_cleared_ok hq hn hp rf fnz (hX r (List.mem_of_mem_eraseIdx hr)) _)
    rw [List.filter_eq_self.mpr (fun _ _ => rfl)] at c2
    have s3 : dNew (lComp (iSeq (dVar 3)) (.n 9) tYesD (dCall 4 f__law_cleared (aCons (dVar 0) (aCons (dVar 9) (aCons (dVar 7) (aCons (dVar 5) aNil))))) [9]) (Rk q n v pre.length m (some (.int (p : Nat))) (some (.lst (.int (k : Nat) :: ks.map fun (k : Nat) => .int (k : Nat)))) (some (rowP (X.getD k [])))) (pre ++ [.lst ((X.eraseIdx k).map rowP)]) = .ok (.ref (pre ++ [Cell.frz ((X.eraseIdx k).map rowP)]).length) (pre ++ [.frz ((X.eraseIdx k).map rowP)] ++ [.lst (((X.eraseIdx k).map (lclr q (X.getD k []) p)).map rowP)]) := by
      unfold dNew
      rw [c2]
      show Res.ok _ _ = _
      rw [List.map_map]
      rfl
    refine (sSeq_nx (sSet_ok (i := 3) s3)).trans ?_
    refine (sSet_ok (i := 4) (v := .int ((m + 1 : Nat) : Int)) ?_).trans rfl
    exact dOp2_ok (dVar_ok (i := 4) (v := .int (m : Nat)) rfl rfl) (dC_ok _ _ _) rfl
end
end Wi

/-! the law's rank, its look at a reduced table, its combinations -/
namespace Wi
open PySem L2
section
variable {q : Nat} (hq : q ∈ qs)
include hq in
theorem lrk_sz {n p : Nat} {t : List (List Nat) × Nat} (hX : ∀ r ∈ t.1, Rw q n r) : (∀ r ∈ (lrk q t p).1, Rw q n r) ∧ (lrk q t p).1.length ≤ t.1.length ∧ (lrk q t p).2 ≤ t.2 + 1 := by
  have h0 : 0 < q := by have := qs_lt hq; omega
  unfold lrk
  cases e : (List.range t.1.length).filter (fun k => (t.1.getD k []).getD p 0 != 0) with
  | nil => exact ⟨hX, Nat.le_refl _, Nat.le_succ _⟩
  | cons k ks =>
    have hk : k ∈ (List.range t.1.length).filter (fun k => (t.1.getD k []).getD p 0 != 0) := by rw [e]; exact List.mem_cons_self
    have hk1 : k < t.1.length := by simpa using (List.mem_filter.mp hk).1
    have rf := hX _ (getD_mem (d := []) hk1)
    refine ⟨fun r hr => ?_, ?_, Nat.le_refl _⟩
    · obtain ⟨r', hr', rfl⟩ := List.mem_map.mp hr
      have hr' := hX r' (List.mem_of_mem_eraseIdx hr')
      rw [lclr_eq hq rf hr']
      exact clr1_rw hq (scl_rw hq (closed q hq _ (getD_lt h0 rf.2 p)).2.1 rf) hr'
    · show (List.map _ _).length ≤ _
      rw [List.length_map]
      exact List.length_eraseIdx_le _ _
include hq in
theorem rk_loop {n : Nat} {v : PV} (hn : n ≤ 1000) : ∀ (ps : List Nat) (t : List (List Nat) × Nat) (pre : Store) (a5 a6 a7 : Option PV), (∀ p ∈ ps, p < n) → (∀ r ∈ t.1, Rw q n r) → t.1.length ≤ 1000 → t.2 + ps.length ≤ 1000 →
    ∃ pre' b5 b6 b7, pre'.take pre.length = pre ∧ pre.length ≤ pre'.length ∧ forL (gN 5) bRk (pns ps) (Rk q n v pre.length t.2 a5 a6 a7) (pre ++ [.lst (t.1.map rowP)]) = .nx (Rk q n v pre'.length (ps.foldl (lrk q) t).2 b5 b6 b7) (pre' ++ [.lst ((ps.foldl (lrk q) t).1.map rowP)])
  | [], t, pre, a5, a6, a7, _, _, _, _ => ⟨pre, a5, a6, a7, List.take_length .., Nat.le_refl _, rfl⟩
  | p :: ps, t, pre, a5, a6, a7, h, hX, lX, lm => by
    have lm : t.2 + (ps.length + 1) ≤ 1000 := lm
    obtain ⟨pre1, b6, b7, e1, e2, e3⟩ := rk_turn hq (v := v) (X := t.1) (m := t.2) (pre := pre) hn (h p List.mem_cons_self) hX lX (by omega) a6 a7
    have sz := lrk_sz (p := p) hq hX
    obtain ⟨pre2, c5, c6, c7, f1, f2, f3⟩ := rk_loop (v := v) hn ps (lrk q t p) pre1 (some (.int (p : Nat))) b6 b7 (fun x hx => h x (List.mem_cons_of_mem _ hx)) sz.1 (Nat.le_trans sz.2.1 lX) (by have := sz.2.2; omega)
    refine ⟨pre2, c5, c6, c7, ?_, Nat.le_trans e2 f2, (for_one (ρ := Rk q n v pre.length t.2 a5 a6 a7) (ρ' := Rk q n v pre1.length (lrk q t p).2 (some (.int (p : Nat))) b6 b7) (st' := pre1 ++ [Cell.lst ((lrk q t p).1.map rowP)]) e3).trans f3⟩
    have : pre2.take pre.length = (pre2.take pre1.length).take pre.length := by rw [List.take_take, Nat.min_eq_left e2]
    rw [this, f1, e1]
include hq in
theorem law_rank_ok {n : Nat} {rs : List (List Nat)} (hn : n ≤ 500) (hrs : ∀ r ∈ rs, Rw q n r) (hl : rs.length ≤ 1000) (st : Store) : f__law_rank [Fl q, tabP rs, .int (n : Nat)] st = .ok (.int ((red q n rs).2.2.length : Nat)) st := by
  obtain ⟨pre', b5, b6, b7, e1, e2, e3⟩ := rk_loop hq (v := tabP rs) (by omega : n ≤ 1000) (List.range' 0 n) (rs, 0) st none none none (fun p hp => by simpa using hp) hrs hl (by simp; omega)
  have er : List.range' 0 n = List.range n := (List.range_eq_range' ..).symm
  rw [er] at e3
  have J := rk_at hq hrs n (Nat.le_refl n)
  rw [J.rank] at e3
  have ep : pre' = st ++ pre'.drop st.length := by
    conv => lhs; rw [← List.take_append_drop st.length pre', e1]
  refine mkFn_ok (xs := pre'.drop st.length ++ [.lst (((List.range n).foldl (lrk q) (rs, 0)).1.map rowP)]) ?_ rfl
  rw [← List.append_assoc, ← ep]
  refine (sSeq_nx (sSet_ok (i := 3) (v := .ref st.length) (st' := st ++ [.lst (rs.map rowP)]) rfl)).trans ?_
  refine (sSeq_nx (sSet_ok (i := 4) (dC_ok _ _ _))).trans ?_
  refine (sSeq_nx ((sFor_ok (iRng_nat (n := n) rfl (by omega))).trans (by rw [show ups 0 n = pns (List.range n) from by rw [← er]; rfl]; exact e3))).trans ?_
  exact sRet_ok (dVar_ok rfl rfl)
/-! ### combinations -/
def totR (q n : Nat) (r : List Nat) (T : List (List Nat)) (P : List Nat) (m : Nat) : List Nat := (List.range n).map (dotc q r T P m)
theorem totR_at {n m j : Nat} {r : List Nat} {T : List (List Nat)} {P : List Nat} (hj : j < n) : (totR q n r T P m).getD j 0 = dotc q r T P m j := by
  unfold totR
  simp [List.getD_eq_getElem?_getD, hj]
include hq in
theorem totR_rw {n : Nat} {r : List Nat} {T : List (List Nat)} {P : List Nat} (hr : ∀ x ∈ r, x < q) (hT : ∀ t ∈ T, Rw q n t) (m : Nat) : Rw q n (totR q n r T P m) :=
  ⟨by unfold totR; simp, fun x hx => by obtain ⟨j, _, rfl⟩ := List.mem_map.mp hx; exact dotc_lt hq hr hT m j⟩
abbrev bCb : DenS := (sSet 4 (dCall 3 f__law_sum (aCons (dVar 0) (aCons (dVar 4) (aCons (dCall 3 f__law_times (aCons (dVar 0) (aCons (dOp2 oIx (dVar 1) (dVar 5)) (aCons (dOp2 oIx (dVar 2) (dVar 5)) aNil)))) aNil)))))
abbrev wts (r P : List Nat) : List Nat := P.map fun p => r.getD p 0
theorem wts_at {r P : List Nat} {k : Nat} (hk : k < P.length) : (wts r P).getD k 0 = r.getD (P.getD k 0) 0 := by
  simp [List.getD_eq_getElem?_getD, hk]
abbrev Rc (q n : Nat) (T : List (List Nat)) (ws t : List Nat) (a5 : Option PV) : Sl := [some (Fl q), some (tabP T), some (.lst (pns ws)), some (.int (n : Nat)), some (rowP t), a5]
theorem ix_lpns {v : List Nat} {k : Nat} (hk : k < v.length) (st : Store) : oIx (.lst (pns v)) (.int (k : Nat)) st = .ok (.int (v.getD k 0 : Nat)) st :=
  ix_at (b := true) rfl (by rw [pns, List.getElem?_map, List.getElem?_eq_getElem hk, List.getD_eq_getElem?_getD, List.getElem?_eq_getElem hk]; rfl)
theorem ix_tab {T : List (List Nat)} {k : Nat} (hk : k < T.length) (st : Store) : oIx (tabP T) (.int (k : Nat)) st = .ok (rowP (T.getD k [])) st :=
  ix_at (b := false) rfl (by rw [List.getElem?_map, List.getElem?_eq_getElem hk, List.getD_eq_getElem?_getD, List.getElem?_eq_getElem hk]; rfl)
include hq in
theorem cb_turn {n m : Nat} {r : List Nat} {T : List (List Nat)} {P : List Nat} (hn : n ≤ 1000) (hr : Rw q n r) (hT : ∀ t ∈ T, Rw q n t) (hl : T.length = P.length) (hm : m < P.length) (a5 : Option PV) (st : Store) :
    bCb (Rc q n T (wts r P) (totR q n r T P m) (some (.int (m : Nat)))) st = .nx (Rc q n T (wts r P) (totR q n r T P (m + 1)) (some (.int (m : Nat)))) st := by
  have h0 : 0 < q := by have := qs_lt hq; omega
  have tm := hT _ (getD_mem (d := []) (show m < T.length by omega))
  have tr := totR_rw (P := P) hq hr.2 hT m
  have wl : m < (wts r P).length := by rw [List.length_map]; exact hm
  have wm : (wts r P).getD m 0 < q := by rw [wts_at hm]; exact getD_lt h0 hr.2 _
  have a1 := (dCall_ok (np := 3) (f := f__law_times) (a3_ok (dVar_ok (i := 0) (ρ := Rc q n T (wts r P) (totR q n r T P m) (some (.int (m : Nat)))) (st := st) rfl rfl) (dOp2_ok (dVar_ok (i := 1) rfl rfl) (dVar_ok (i := 5) rfl rfl) (ix_tab (by omega) st)) (dOp2_ok (dVar_ok (i := 2) rfl rfl) (dVar_ok (i := 5) rfl rfl) (ix_lpns wl st))) rfl).trans (law_times_ok hq wm tm.2 (by rw [tm.1]; omega) st)
  have sl := scl_rw hq wm tm
  have a2 := (dCall_ok (np := 3) (f := f__law_sum) (a3_ok (dVar_ok (i := 0) rfl rfl) (dVar_ok (i := 4) rfl rfl) a1) rfl).trans (law_sum_ok hq tr.2 sl.2 (by rw [tr.1, sl.1]) (by rw [tr.1]; omega) st)
  refine (sSet_ok (i := 4) a2).trans ?_
  have e : addR q (totR q n r T P m) (sclR q ((wts r P).getD m 0) (T.getD m [])) = totR q n r T P (m + 1) := by
    refine row_ext (n := n) ?_ (totR_rw (P := P) hq hr.2 hT (m + 1)).1 fun j hj => ?_
    · unfold addR
      rw [List.length_zipWith, tr.1, sl.1, Nat.min_self]
    · rw [getD_add (by rw [tr.1, sl.1]) (by rw [tr.1]; exact hj), totR_at hj, totR_at hj, getD_scl (by rw [tm.1]; exact hj), wts_at hm, dotc_succ]
  rw [e]
  rfl
include hq in
theorem cb_loop {n : Nat} {r : List Nat} {T : List (List Nat)} {P : List Nat} (hn : n ≤ 1000) (hr : Rw q n r) (hT : ∀ t ∈ T, Rw q n t) (hl : T.length = P.length) (st : Store) : ∀ (c m : Nat) (a5 : Option PV), m + c = P.length →
    ∃ b5, forL (gN 5) bCb (pns (List.range' m c)) (Rc q n T (wts r P) (totR q n r T P m) a5) st = .nx (Rc q n T (wts r P) (totR q n r T P P.length) b5) st
  | 0, m, a5, h => ⟨a5, by rw [show P.length = m by omega]; rfl⟩
  | c + 1, m, a5, h => by
    obtain ⟨b5, e⟩ := cb_loop hn hr hT hl st c (m + 1) (some (.int (m : Nat))) (by omega)
    exact ⟨b5, (for_one (ρ := Rc q n T (wts r P) (totR q n r T P m) a5) (ρ' := Rc q n T (wts r P) (totR q n r T P (m + 1)) (some (.int (m : Nat)))) (st' := st) (cb_turn hq hn hr hT hl (by omega) a5 st)).trans e⟩
include hq in
theorem law_combined_ok {n : Nat} {r : List Nat} {T : List (List Nat)} {P : List Nat} (hn : n ≤ 1000) (hr : Rw q n r) (hT : ∀ t ∈ T, Rw q n t) (hl : T.length = P.length) (hP : P.length ≤ 1000) (st : Store) :
    f__law_combined [Fl q, tabP T, .lst (pns (wts r P)), .int (n : Nat)] st = .ok (rowP (totR q n r T P P.length)) st := by
  refine mkFn_ok0 ?_ rfl
  have c0 := comp_pns1 (n := 5) (own := [5]) (ns := List.range' 0 n) (i := iRng (dVar 3)) (e := dC (.int 0)) (ρ := [some (Fl q), some (tabP T), some (.lst (pns (wts r P))), some (.int (n : Nat)), none, none]) (st := st) (fun _ => .int (0 : Nat)) (iRng_nat (n := n) rfl (by omega)) (fun _ _ _ => rfl) (fun _ => rfl) (by simp; omega)
  have e0 : (List.range' 0 n).map (fun _ => PV.int ((0 : Nat) : Int)) = pns (totR q n r T P 0) := by
    unfold totR pns
    rw [List.map_map, List.range_eq_range']
    rfl
  rw [e0] at c0
  refine (sSeq_nx (sSet_ok (i := 4) (cTup_lst (dFrz_ok c0)))).trans ?_
  obtain ⟨b5, e⟩ := cb_loop hq (n := n) (r := r) (P := P) hn hr hT hl st P.length 0 none (by omega)
  refine (sSeq_nx ((sFor_ok (iRng_len (n := P.length) ?_ (by omega))).trans e)).trans ?_
  · unfold dFn
    rw [a1_ok (dVar_ok (i := 2) rfl rfl)]
    show Res.ok (PV.int (((pns (wts r P)).length : Nat) : Int)) st = _
    rw [pns, List.length_map, List.length_map]
  · exact sRet_ok (dVar_ok (i := 4) rfl rfl)
include hq in
theorem combined_is {n : Nat} {rs : List (List Nat)} (h : ∀ r ∈ rs, Rw q n r) {r : List Nat} (hr : r ∈ rs) : totR q n r (red q n rs).2.1 (red q n rs).2.2 (red q n rs).2.2.length = r :=
  row_ext (totR_rw hq (h r hr).2 (red_ri hq h).T _).1 (h r hr).1 fun j hj => by rw [totR_at hj, cb_end hq h hr j hj]
end
end Wi

/-! rows and tables compared; the law's look at a reduced table -/
namespace Wi
open PySem L2
theorem toDs_ints : ∀ v : List Nat, toDs (pns v) = some (v.map fun n => PyData.int (n : Nat))
  | [] => by rw [pns, List.map_nil, List.map_nil]; unfold toDs; rfl
  | n :: v => by
    show toDs (.int (n : Nat) :: pns v) = _
    unfold toDs
    rw [toDs_ints v]
    unfold toD
    rfl
def dR (v : List Nat) : PyData := .tuple (v.map fun n => PyData.int (n : Nat))
theorem toD_row (v : List Nat) : toD (rowP v) = some (dR v) := by
  unfold toD
  rw [toDs_ints]
  rfl
theorem toDs_rows : ∀ T : List (List Nat), toDs (T.map rowP) = some (T.map dR)
  | [] => by rw [List.map_nil, List.map_nil]; unfold toDs; rfl
  | v :: T => by
    rw [List.map_cons]
    unfold toDs
    rw [toDs_rows T, toD_row]
    rfl
def dT (T : List (List Nat)) : PyData := .tuple (T.map dR)
theorem toD_tab (T : List (List Nat)) : toD (tabP T) = some (dT T) := by
  unfold toD
  rw [toDs_rows]
  rfl
theorem eqv_ints : ∀ v w : List Nat, PyData.eqvAll (v.map fun n => PyData.int (n : Nat)) (w.map fun n => PyData.int (n : Nat)) = decide (v = w)
  | [], [] => by simp [PyData.eqvAll]
  | [], _ :: _ => by simp [PyData.eqvAll]
  | _ :: _, [] => by simp [PyData.eqvAll]
  | a :: v, b :: w => by
    rw [List.map_cons, List.map_cons]
    unfold PyData.eqvAll
    rw [eqv_ints v w]
    unfold PyData.eqv
    by_cases h : a = b
    · subst h
      simp
    · have : (((a : Nat) : Int) == ((b : Nat) : Int)) = false := by
        rw [beq_eq_false_iff_ne]
        omega
      rw [this]
      simp [h]
theorem eqv_row (v w : List Nat) : PyData.eqv (dR v) (dR w) = decide (v = w) := by
  unfold dR PyData.eqv
  exact eqv_ints v w
theorem eqv_rows : ∀ A B : List (List Nat), PyData.eqvAll (A.map dR) (B.map dR) = decide (A = B)
  | [], [] => by simp [PyData.eqvAll]
  | [], _ :: _ => by simp [PyData.eqvAll]
  | _ :: _, [] => by simp [PyData.eqvAll]
  | a :: v, b :: w => by
    rw [List.map_cons, List.map_cons]
    unfold PyData.eqvAll
    rw [eqv_rows v w, eqv_row]
    by_cases h : a = b
    · subst h
      simp
    · simp [h]
theorem eqv_tab (A B : List (List Nat)) : PyData.eqv (dT A) (dT B) = decide (A = B) := by
  unfold dT PyData.eqv
  exact eqv_rows A B
theorem lay_ints : ∀ v : List Nat, PyData.canLayAll0 (v.map fun n => PyData.int (n : Nat)) = true
  | [] => rfl
  | n :: v => by
    rw [List.map_cons]
    unfold PyData.canLayAll0
    rw [lay_ints v]
    rfl
theorem dep_ints : ∀ v : List Nat, PyData.depthAll (v.map fun n => PyData.int (n : Nat)) = 0
  | [] => rfl
  | n :: v => by
    rw [List.map_cons]
    unfold PyData.depthAll
    rw [dep_ints v]
    rfl
theorem lay_row (v : List Nat) : (dR v).canLay0 = true ∧ (dR v).depth = 1 := by
  unfold dR
  refine ⟨?_, ?_⟩
  · unfold PyData.canLay0; exact lay_ints v
  · unfold PyData.depth; rw [dep_ints v]
theorem lay_rows : ∀ T : List (List Nat), PyData.canLayAll0 (T.map dR) = true ∧ PyData.depthAll (T.map dR) ≤ 1
  | [] => ⟨rfl, Nat.zero_le _⟩
  | v :: T => by
    rw [List.map_cons]
    unfold PyData.canLayAll0 PyData.depthAll
    obtain ⟨h1, h2⟩ := lay_rows T
    obtain ⟨h3, h4⟩ := lay_row v
    exact ⟨by rw [h1, h3]; rfl, by rw [h4]; exact Nat.max_le.mpr ⟨Nat.le_refl _, h2⟩⟩
theorem shaped_row (v : List Nat) : SeqAt.shaped (dR v) = true := by
  unfold SeqAt.shaped
  rw [(lay_row v).1, (lay_row v).2]
  rfl
theorem shaped_tab (T : List (List Nat)) : SeqAt.shaped (dT T) = true := by
  unfold SeqAt.shaped dT PyData.canLay0 PyData.depth
  rw [(lay_rows T).1, Bool.true_and]
  exact decide_eq_true (by have := (lay_rows T).2; omega)
theorem eqX_row (v w : List Nat) (st : Store) : eqX (rowP v) (rowP w) st = some (decide (v = w)) := by
  unfold eqX toX
  dsimp only
  rw [toD_row, toD_row]
  dsimp only
  rw [shaped_row, shaped_row, eqv_row]
  rfl
theorem eqX_tab (v w : List (List Nat)) (st : Store) : eqX (tabP v) (tabP w) st = some (decide (v = w)) := by
  unfold eqX toX
  dsimp only
  rw [toD_tab, toD_tab]
  dsimp only
  rw [shaped_tab, shaped_tab, eqv_tab]
  rfl
theorem oEq_row (v w : List Nat) (st : Store) : oEq (rowP v) (rowP w) st = .ok (.bl (decide (v = w))) st := by unfold oEq; rw [eqX_row]
theorem oNe_row (v w : List Nat) (st : Store) : oNe (rowP v) (rowP w) st = .ok (.bl (!decide (v = w))) st := by unfold oNe; rw [eqX_row]
theorem oEq_tab (v w : List (List Nat)) (st : Store) : oEq (tabP v) (tabP w) st = .ok (.bl (decide (v = w))) st := by unfold oEq; rw [eqX_tab]
theorem oNe_tab (v w : List (List Nat)) (st : Store) : oNe (tabP v) (tabP w) st = .ok (.bl (!decide (v = w))) st := by unfold oNe; rw [eqX_tab]
/-! ### is the table reduced? -/
section
variable {q : Nat} (hq : q ∈ qs)
abbrev Ri (n : Nat) (T : List (List Nat)) (P : List Nat) (last : Int) (a4 a5 a6 : Option PV) : Sl := [some (tabP T), some (.tup (pns P)), some (.int (n : Nat)), some (.int last), a4, a5, a6]
abbrev bRi6 : DenS := (sIf (tAndD (dB (dOp2 oNe (dVar 6) (dVar 4))) (dB (dOp2 oNe (dOp2 oIx (dOp2 oIx (dVar 0) (dVar 6)) (dVar 5)) (dC (.int 0)))))
 (sRet (dC (.bl false)))
 sSkip)
abbrev bRi4 : DenS := (sSeq (sSet 5 (dOp2 oIx (dVar 1) (dVar 4)))
 (sSeq (sIf (tOrD (dB (dOp2 (opInt fLe) (dVar 5) (dVar 3))) (tOrD (dB (dOp2 oNe (dFn cLen (aCons (dOp2 oIx (dVar 0) (dVar 4)) aNil)) (dVar 2))) (tOrD (dB (dOp2 oNe (dOp2 oIx (dOp2 oIx (dVar 0) (dVar 4)) (dVar 5)) (dC (.int 1)))) (dTru (dFn cAny (aCons (dCut (dOp2 oIx (dVar 0) (dVar 4)) oNo (oSome (dVar 5))) aNil))))))
 (sRet (dC (.bl false)))
 sSkip)
 (sSeq (sFor (iRng (dFn cLen (aCons (dVar 0) aNil))) (gN 6) bRi6)
 (sSet 3 (dVar 5)))))
theorem cut_row {v : List Nat} {k : Nat} (hk : k ≤ v.length) : cutP (pns v) none (some ((k : Nat) : Int)) = pns (v.take k) := by
  unfold cutP
  rw [HT.sIx_none, HT.sIx_nat, List.drop_zero, Nat.sub_zero, pns, pns, List.length_map, Nat.min_eq_left hk, ← List.map_take]
theorem ri6_loop {n i : Nat} {T : List (List Nat)} {P : List Nat} (F : Rdc q n T P) (hi : i < P.length) (last : Int) (st : Store) : ∀ (js : List Nat) (a6 : Option PV), (∀ j ∈ js, j < P.length) →
    ∃ b6, forL (gN 6) bRi6 (pns js) (Ri n T P last (some (.int (i : Nat))) (some (.int (P.getD i 0 : Nat))) a6) st = .nx (Ri n T P last (some (.int (i : Nat))) (some (.int (P.getD i 0 : Nat))) b6) st
  | [], a6, _ => ⟨a6, rfl⟩
  | j :: js, a6, h => by
    have hj := h j List.mem_cons_self
    obtain ⟨b6, e⟩ := ri6_loop F hi last st js (some (.int (j : Nat))) (fun x hx => h x (List.mem_cons_of_mem _ hx))
    refine ⟨b6, (for_one (ρ := Ri n T P last (some (.int (i : Nat))) (some (.int (P.getD i 0 : Nat))) a6) (ρ' := Ri n T P last (some (.int (i : Nat))) (some (.int (P.getD i 0 : Nat))) (some (.int (j : Nat)))) (st' := st) ?_).trans e⟩
    have v6 : dVar 6 (Ri n T P last (some (.int (i : Nat))) (some (.int (P.getD i 0 : Nat))) (some (.int (j : Nat)))) st = .ok (.int (j : Nat)) st := dVar_ok rfl rfl
    have v4 : dVar 4 (Ri n T P last (some (.int (i : Nat))) (some (.int (P.getD i 0 : Nat))) (some (.int (j : Nat)))) st = .ok (.int (i : Nat)) st := dVar_ok rfl rfl
    have c : dB (dOp2 oNe (dVar 6) (dVar 4)) (Ri n T P last (some (.int (i : Nat))) (some (.int (P.getD i 0 : Nat))) (some (.int (j : Nat)))) st = .ok (decide (((j : Nat) : Int) ≠ ((i : Nat) : Int))) st := dB_ok (dOp2_ok v6 v4 (ne_int _ _ _))
    refine (if_f (ρ := Ri n T P last (some (.int (i : Nat))) (some (.int (P.getD i 0 : Nat))) (some (.int (j : Nat)))) (st1 := st) ?_).trans rfl
    by_cases ij : j = i
    · exact and_f (c.trans (by rw [decide_eq_false (by omega)]))
    · refine and_t (c.trans (by rw [decide_eq_true (by omega)])) ?_
      have z := F.zero i hi j hj (by omega)
      have rj := F.rows _ (getD_mem (d := []) (show j < T.length by rw [F.len]; exact hj))
      have lt := F.lt _ (getD_mem (d := 0) hi)
      exact dB_ok (dOp2_ok (dOp2_ok (dOp2_ok (dVar_ok (i := 0) rfl rfl) v6 (ix_tab (by rw [F.len]; exact hj) st)) (dVar_ok (i := 5) rfl rfl) (ix_pns (by rw [rj.1]; exact lt) st)) (dC_ok _ _ _) ((ne_int _ _ _).trans (by rw [z]; rfl)))
def lastI (P : List Nat) : Nat → Int
  | 0 => -1
  | i + 1 => (P.getD i 0 : Nat)
theorem ri4_turn {n i : Nat} {T : List (List Nat)} {P : List Nat} (hP : P.length ≤ 1000) (F : Rdc q n T P) (hi : i < P.length) (st : Store) (a5 a6 : Option PV) :
    ∃ b6, bRi4 (Ri n T P (lastI P i) (some (.int (i : Nat))) a5 a6) st = .nx (Ri n T P (lastI P (i + 1)) (some (.int (i : Nat))) (some (.int (P.getD i 0 : Nat))) b6) st := by
  obtain ⟨b6, e⟩ := ri6_loop F hi (lastI P i) st (List.range' 0 P.length) a6 (fun j hj => by simpa using hj)
  have ri := F.rows _ (getD_mem (d := []) (show i < T.length by rw [F.len]; exact hi))
  have lt := F.lt _ (getD_mem (d := 0) hi)
  refine ⟨b6, (sSeq_nx (sSet_ok (i := 5) (dOp2_ok (dVar_ok (i := 1) rfl rfl) (dVar_ok (i := 4) (v := .int (i : Nat)) rfl rfl) (ix_pns hi st)))).trans ?_⟩
  have v0 : dOp2 oIx (dVar 0) (dVar 4) (Ri n T P (lastI P i) (some (.int (i : Nat))) (some (.int (P.getD i 0 : Nat))) a6) st = .ok (rowP (T.getD i [])) st := dOp2_ok (dVar_ok rfl rfl) (dVar_ok (i := 4) (v := .int (i : Nat)) rfl rfl) (ix_tab (by rw [F.len]; exact hi) st)
  have v5 : dVar 5 (Ri n T P (lastI P i) (some (.int (i : Nat))) (some (.int (P.getD i 0 : Nat))) a6) st = .ok (.int (P.getD i 0 : Nat)) st := dVar_ok rfl rfl
  have c1 : dB (dOp2 (opInt fLe) (dVar 5) (dVar 3)) (Ri n T P (lastI P i) (some (.int (i : Nat))) (some (.int (P.getD i 0 : Nat))) a6) st = .ok false st := by
    refine dB_ok (dOp2_ok v5 (dVar_ok (i := 3) (v := .int (lastI P i)) rfl rfl) ?_)
    show Res.ok (PV.bl (decide (((P.getD i 0 : Nat) : Int) ≤ lastI P i))) st = _
    rw [decide_eq_false]
    cases i with
    | zero => show ¬ _ ≤ (-1 : Int); omega
    | succ i =>
      have : P.getD i 0 < P.getD (i + 1) 0 := pw_lt F.up (Nat.lt_succ_self i) hi
      show ¬ _ ≤ ((P.getD i 0 : Nat) : Int)
      omega
  have c2 : dB (dOp2 oNe (dFn cLen (aCons (dOp2 oIx (dVar 0) (dVar 4)) aNil)) (dVar 2)) (Ri n T P (lastI P i) (some (.int (i : Nat))) (some (.int (P.getD i 0 : Nat))) a6) st = .ok false st := by
    refine dB_ok (dOp2_ok (v := .int (n : Nat)) (st1 := st) ?_ (dVar_ok (i := 2) (v := .int (n : Nat)) rfl rfl) ((ne_int _ _ _).trans (by rw [decide_eq_false (by simp)])))
    unfold dFn
    rw [a1_ok v0]
    show Res.ok (PV.int (((pns (T.getD i [])).length : Nat) : Int)) st = _
    rw [pns, List.length_map, ri.1]
  have c3 : dB (dOp2 oNe (dOp2 oIx (dOp2 oIx (dVar 0) (dVar 4)) (dVar 5)) (dC (.int 1))) (Ri n T P (lastI P i) (some (.int (i : Nat))) (some (.int (P.getD i 0 : Nat))) a6) st = .ok false st :=
    dB_ok (dOp2_ok (dOp2_ok v0 v5 (ix_pns (by rw [ri.1]; exact lt) st)) (dC_ok _ _ _) ((ne_int _ _ _).trans (by rw [F.one i hi]; rfl)))
  have c4 : dTru (dFn cAny (aCons (dCut (dOp2 oIx (dVar 0) (dVar 4)) oNo (oSome (dVar 5))) aNil)) (Ri n T P (lastI P i) (some (.int (i : Nat))) (some (.int (P.getD i 0 : Nat))) a6) st = .ok false st := by
    have z : nz ((T.getD i []).take (P.getD i 0)) = false := by
      rw [nz_false (n := P.getD i 0) (by rw [List.length_take, ri.1]; omega)]
      intro j hj
      rw [List.getD_eq_getElem?_getD, List.getElem?_take_of_lt hj, ← List.getD_eq_getElem?_getD]
      exact F.pre i hi j hj
    refine dTru_bl (b := false) ?_
    have cc : dCut (dOp2 oIx (dVar 0) (dVar 4)) oNo (oSome (dVar 5)) (Ri n T P (lastI P i) (some (.int (i : Nat))) (some (.int (P.getD i 0 : Nat))) a6) st = .ok (rowP ((T.getD i []).take (P.getD i 0))) st := by
      unfold dCut oNo oSome
      rw [v0]
      dsimp only [Res.bind]
      rw [v5]
      dsimp only [Res.bind]
      rw [cut_row (by rw [ri.1]; omega)]
    unfold dFn
    rw [a1_ok cc]
    show cAny [rowP _] st = _
    rw [cAny_row, z]
  refine (sSeq_nx ((if_f (ρ := Ri n T P (lastI P i) (some (.int (i : Nat))) (some (.int (P.getD i 0 : Nat))) a6) (st1 := st) (or_ff c1 (or_ff c2 (or_ff c3 c4)))).trans rfl)).trans ?_
  refine (sSeq_nx ((sFor_ok (iRng_len (n := P.length) ?_ (by omega))).trans e)).trans ?_
  · refine (lenIs (i := 0) (v := T.map rowP) rfl).trans ?_
    rw [List.length_map, F.len]
  · exact sSet_ok (i := 3) (dVar_ok (i := 5) rfl rfl)
theorem ri4_loop {n : Nat} {T : List (List Nat)} {P : List Nat} (hP : P.length ≤ 1000) (F : Rdc q n T P) (st : Store) : ∀ (c i : Nat) (a4 a5 a6 : Option PV), i + c = P.length →
    ∃ b4 b5 b6, forL (gN 4) bRi4 (pns (List.range' i c)) (Ri n T P (lastI P i) a4 a5 a6) st = .nx (Ri n T P (lastI P P.length) b4 b5 b6) st
  | 0, i, a4, a5, a6, h => ⟨a4, a5, a6, by rw [show P.length = i by omega]; rfl⟩
  | c + 1, i, a4, a5, a6, h => by
    obtain ⟨b6, e⟩ := ri4_turn hP F (show i < P.length by omega) st a5 a6
    obtain ⟨c4, c5, c6, e2⟩ := ri4_loop hP F st c (i + 1) (some (.int (i : Nat))) (some (.int (P.getD i 0 : Nat))) b6 (by omega)
    exact ⟨c4, c5, c6, (for_one (ρ := Ri n T P (lastI P i) a4 a5 a6) (ρ' := Ri n T P (lastI P (i + 1)) (some (.int (i : Nat))) (some (.int (P.getD i 0 : Nat))) b6) (st' := st) e).trans e2⟩
theorem law_is_reduced_ok {n : Nat} {T : List (List Nat)} {P : List Nat} (hP : P.length ≤ 1000) (F : Rdc q n T P) (st : Store) : f__law_is_reduced [tabP T, .tup (pns P), .int (n : Nat)] st = .ok (.bl true) st := by
  obtain ⟨b4, b5, b6, e⟩ := ri4_loop hP F st P.length 0 none none none (by omega)
  refine mkFn_ok0 ?_ rfl
  refine (sSeq_nx (sSet_ok (i := 3) (v := .int (-1)) rfl)).trans ?_
  refine (sSeq_nx ((sFor_ok (iRng_len (n := P.length) ?_ (by omega))).trans e)).trans ?_
  · refine (lenIs (i := 0) (v := T.map rowP) rfl).trans ?_
    rw [List.length_map, F.len]
  · exact sRet_ok (dC_ok _ _ _)
end
end Wi

/-! is_row, is_space, unit rows -/
namespace Wi
open PySem L2
section
variable {q : Nat} (hq : q ∈ qs)
theorem or_t {a b : DenT} {ρ : Sl} {st st1 : Store} (h1 : a ρ st = .ok true st1) : tOrD a b ρ st = .ok true st1 := by unfold tOrD; rw [h1]; rfl
theorem andV_t {a b : Den} {ρ : Sl} {st st1 : Store} {r : Res PV} (h1 : a ρ st = .ok (.bl true) st1) (h2 : b ρ st1 = r) : dAndV a b ρ st = r := by unfold dAndV; rw [h1]; exact h2
theorem andV_f {a b : Den} {ρ : Sl} {st st1 : Store} (h1 : a ρ st = .ok (.bl false) st1) : dAndV a b ρ st = .ok (.bl false) st1 := by unfold dAndV; rw [h1]; rfl
theorem andV_bb {a b : Den} {ρ : Sl} {st : Store} {x y : Bool} (h1 : a ρ st = .ok (.bl x) st) (h2 : b ρ st = .ok (.bl y) st) : dAndV a b ρ st = .ok (.bl (x && y)) st := by
  cases x with
  | true => exact (andV_t h1 h2).trans rfl
  | false => exact (andV_f h1).trans rfl
/-- what the tests meet -/
def simple : PV → Bool
  | .int _ => true
  | .bl _ => true
  | .tup [] => true
  | _ => false
def num (q : Nat) : PV → Bool
  | .int z => decide (0 ≤ z) && decide (z < (q : Nat))
  | _ => false
theorem isint_ok {w : PV} (hs : simple w = true) (st : Store) : f_is_integer [w] st = .ok (.bl (match w with | .int _ => true | _ => false)) st := by
  cases w with
  | int z => exact mkFn_ok0 rfl rfl
  | bl b => exact mkFn_ok0 rfl rfl
  | tup xs =>
    cases xs with
    | nil => exact mkFn_ok0 rfl rfl
    | cons _ _ => cases hs
  | non => cases hs
  | str _ => cases hs
  | lst _ => cases hs
  | ref _ => cases hs
  | obj _ _ => cases hs
theorem simple_tree {w : PV} (hs : simple w = true) : isTree w = true := by
  cases w <;> first | rfl | cases hs
theorem isnum_any {w : PV} (hs : simple w = true) (st : Store) : f_Field_is_number [Fo q, w] st = .ok (.bl (num q w)) st := by
  refine mkFn_ok0 ?_ rfl
  have v1 : dVar 1 [some (Fo q), some w] st = .ok w st := dVar_ok rfl (simple_tree hs)
  have a1 := (dCall_ok (np := 1) (f := f_is_integer) (a1_ok v1) rfl).trans (isint_ok hs st)
  cases w with
  | int z =>
    refine sRet_ok ((andV_t a1 ?_))
    unfold dChain
    show ((Res.ok (PV.bl (decide ((0 : Int) ≤ z))) st).bind fun z' st => match z' with
      | .bl true => (dFld 4 0 (dVar 0) [some (Fo q), some (PV.int z)] st).bind fun u st => opInt fLt (.int z) u st
      | .bl false => .ok (.bl false) st
      | _ => .stuck 142) = _
    by_cases h : (0 : Int) ≤ z
    · rw [decide_eq_true h]
      show Res.ok (PV.bl (decide (z < (q : Nat)))) st = Res.ok (PV.bl (decide (0 ≤ z) && decide (z < (q : Nat)))) st
      rw [decide_eq_true h, Bool.true_and]
    · rw [decide_eq_false h]
      show Res.ok (PV.bl false) st = Res.ok (PV.bl (decide (0 ≤ z) && decide (z < (q : Nat)))) st
      rw [decide_eq_false h, Bool.false_and]
  | bl b => exact sRet_ok (andV_f a1)
  | tup xs =>
    cases xs with
    | nil => exact sRet_ok (andV_f a1)
    | cons _ _ => cases hs
  | non => cases hs
  | str _ => cases hs
  | lst _ => cases hs
  | ref _ => cases hs
  | obj _ _ => cases hs
theorem trPs_bl : ∀ bs : List Bool, trPs (bs.map PV.bl) = some bs
  | [] => rfl
  | b :: bs => by
    show (match trP (.bl b), trPs (bs.map PV.bl) with | some b, some bs => some (b :: bs) | _, _ => none) = _
    rw [trPs_bl bs]
    rfl
theorem cAll_bl {ρ : Sl} {st : Store} {d : Den} {bs : List Bool} (h : d ρ st = .ok (.lst (bs.map PV.bl)) st) : dFn cAll (aCons d aNil) ρ st = .ok (.bl (bs.all id)) st := by
  unfold dFn
  rw [a1_ok h]
  show (match trPs (bs.map PV.bl) with | some bs => Res.ok (PV.bl (bs.all id)) st | none => Res.stuck 161) = _
  rw [trPs_bl]
theorem len_tup {ρ : Sl} {st : Store} {d : Den} {xs : List PV} (h : d ρ st = .ok (.tup xs) st) : dFn cLen (aCons d aNil) ρ st = .ok (.int (xs.length : Nat)) st := by
  unfold dFn
  rw [a1_ok h]
  rfl
theorem is_row_tup {ws : List PV} {m : Nat} (hs : ∀ w ∈ ws, simple w = true) (hl : ws.length ≤ 16777216) (st : Store) : f_is_row [Fo q, .tup ws, .int (m : Nat)] st = .ok (.bl (decide (ws.length = m) && ws.all (num q))) st := by
  refine mkFn_ok0 ?_ rfl
  have v1 : dVar 1 [some (Fo q), some (.tup ws), some (.int (m : Nat)), none] st = .ok (.tup ws) st := dVar_ok rfl rfl
  have c := comp3 (α := PV) (n := 3) (own := [3]) (as := ws) (i := iSeq (dVar 1)) (e := dMeth 4 2 f_Field_is_number (dVar 0) (aCons (dVar 3) aNil)) (ρ := [some (Fo q), some (.tup ws), some (.int (m : Nat)), none]) (st := st) id (fun w => .bl (num q w)) ((iSeq_tp v1).trans (by rw [List.map_id])) (fun w hw st' => (dMeth_ok (dVar_ok (i := 0) rfl rfl) (a1_ok (dVar_ok (i := 3) (v := w) rfl (simple_tree (hs w hw)))) rfl).trans (isnum_any (hs w hw) st')) (fun _ _ => rfl) hl
  have c' : lComp (iSeq (dVar 1)) (.n 3) tYesD (dMeth 4 2 f_Field_is_number (dVar 0) (aCons (dVar 3) aNil)) [3] [some (Fo q), some (.tup ws), some (.int (m : Nat)), none] st = .ok ((ws.map (num q)).map PV.bl) st := c.trans (by rw [List.map_map]; rfl)
  refine sRet_ok (andV_t (st1 := st) rfl (andV_bb (x := decide (ws.length = m)) (dOp2_ok (len_tup v1) (dVar_ok (i := 2) rfl rfl) ((eq_int _ _ _).trans ?_)) ((cAll_bl (dFrz_ok c')).trans ?_)))
  · by_cases h : ws.length = m
    · rw [decide_eq_true h, decide_eq_true (by omega)]
    · rw [decide_eq_false h, decide_eq_false (by omega)]
  · rw [List.all_map]
    rfl
theorem simple_pns (r : List Nat) : ∀ w ∈ pns r, simple w = true := by
  intro w hw
  obtain ⟨k, _, rfl⟩ := List.mem_map.mp hw
  rfl
theorem num_pns {r : List Nat} (h : ∀ x ∈ r, x < q) : (pns r).all (num q) = true := by
  rw [List.all_eq_true]
  intro w hw
  obtain ⟨k, hk, rfl⟩ := List.mem_map.mp hw
  show (decide ((0 : Int) ≤ (k : Nat)) && decide (((k : Nat) : Int) < (q : Nat))) = true
  rw [decide_eq_true (by omega), decide_eq_true (by have := h k hk; omega)]
  rfl
theorem is_row_row {n m : Nat} {r : List Nat} (hn : n ≤ 1000) (hr : Rw q n r) (st : Store) : f_is_row [Fo q, rowP r, .int (m : Nat)] st = .ok (.bl (decide (n = m))) st := by
  refine (is_row_tup (simple_pns r) (by rw [pns, List.length_map, hr.1]; omega) st).trans ?_
  rw [num_pns hr.2, Bool.and_true, pns, List.length_map, hr.1]
def notTup : PV → Bool
  | .non => true
  | .int _ => true
  | .str _ => true
  | .lst _ => true
  | _ => false
theorem is_row_other {w m : PV} (h : notTup w = true) (st : Store) : f_is_row [Fo q, w, m] st = .ok (.bl false) st := by
  refine mkFn_ok0 ?_ rfl
  refine sRet_ok (andV_f ?_)
  cases w with
  | non => rfl
  | int _ => rfl
  | str _ => rfl
  | lst _ => rfl
  | bl _ => cases h
  | tup _ => cases h
  | ref _ => cases h
  | obj _ _ => cases h
theorem is_space_other {w m : PV} (h : notTup w = true) (st : Store) : f_is_space [Fo q, w, m] st = .ok (.bl false) st := by
  refine mkFn_ok0 ?_ rfl
  have c : dIsi "tuple" (dVar 1) [some (Fo q), some w, some m, none] st = .ok (.bl false) st := by
    cases w with
    | non => rfl
    | int _ => rfl
    | str _ => rfl
    | lst _ => rfl
    | bl _ => cases h
    | tup _ => cases h
    | ref _ => cases h
    | obj _ _ => cases h
  exact sSeq_rt ((if_t (st1 := st) (or_t ((not_ok (dTru_bl c)).trans rfl))).trans (sRet_ok (dC_ok _ _ _)))
theorem space_all {vs : List PV} {m : Nat} (b : PV → Bool) (ht : ∀ w ∈ vs, isTree w = true) (hb : ∀ w ∈ vs, ∀ st', f_is_row [Fo q, w, .int (m : Nat)] st' = .ok (.bl (b w)) st') (hl : vs.length ≤ 16777216) (st : Store) :
    tOrD (tNotD (dTru (dIsi "tuple" (dVar 1)))) (tNotD (dTru (dFn cAll (aCons (dFrz (lComp (iSeq (dVar 1)) (.n 3) tYesD (dCall 3 f_is_row (aCons (dVar 0) (aCons (dVar 3) (aCons (dVar 2) aNil)))) [3])) aNil)))) [some (Fo q), some (.tup vs), some (.int (m : Nat)), none] st = .ok (!(vs.all b)) st := by
  have v1 : dVar 1 [some (Fo q), some (.tup vs), some (.int (m : Nat)), none] st = .ok (.tup vs) st := dVar_ok rfl rfl
  have c := comp3 (α := PV) (n := 3) (own := [3]) (as := vs) (i := iSeq (dVar 1)) (e := dCall 3 f_is_row (aCons (dVar 0) (aCons (dVar 3) (aCons (dVar 2) aNil)))) (ρ := [some (Fo q), some (.tup vs), some (.int (m : Nat)), none]) (st := st) id (fun w => .bl (b w)) ((iSeq_tp v1).trans (by rw [List.map_id])) (fun w hw st' => (dCall_ok (np := 3) (f := f_is_row) (a3_ok (dVar_ok (i := 0) rfl rfl) (dVar_ok (i := 3) (v := w) rfl (ht w hw)) (dVar_ok (i := 2) rfl rfl)) rfl).trans (hb w hw st')) (fun _ _ => rfl) hl
  have c' : lComp (iSeq (dVar 1)) (.n 3) tYesD (dCall 3 f_is_row (aCons (dVar 0) (aCons (dVar 3) (aCons (dVar 2) aNil)))) [3] [some (Fo q), some (.tup vs), some (.int (m : Nat)), none] st = .ok ((vs.map b).map PV.bl) st := c.trans (by rw [List.map_map]; rfl)
  have h1 : tNotD (dTru (dIsi "tuple" (dVar 1))) [some (Fo q), some (.tup vs), some (.int (m : Nat)), none] st = .ok false st := (not_ok (dTru_bl (b := true) rfl)).trans rfl
  have h2 := not_ok (dTru_bl (cAll_bl (dFrz_ok c')))
  unfold tOrD
  rw [h1]
  show tNotD _ _ st = _
  rw [h2, List.all_map]
  rfl
theorem is_space_bad {vs : List PV} {m : Nat} (b : PV → Bool) (ht : ∀ w ∈ vs, isTree w = true) (hb : ∀ w ∈ vs, ∀ st', f_is_row [Fo q, w, .int (m : Nat)] st' = .ok (.bl (b w)) st') (hl : vs.length ≤ 16777216) (hf : vs.all b = false) (st : Store) : f_is_space [Fo q, .tup vs, .int (m : Nat)] st = .ok (.bl false) st := by
  refine mkFn_ok0 ?_ rfl
  have c := space_all b ht hb hl st
  rw [hf] at c
  exact sSeq_rt ((if_t c).trans (sRet_ok (dC_ok _ _ _)))
include hq in
theorem is_space_tab {n : Nat} {R : List (List Nat)} (hn : n ≤ 1000) (hR : ∀ r ∈ R, Rw q n r) (hl : R.length ≤ 1000) (st : Store) : f_is_space [Fo q, tabP R, .int (n : Nat)] st = .ok (.bl (decide ((red q n R).2.1 = R))) st := by
  refine mkFn_ok0 ?_ rfl
  have c := space_all (q := q) (vs := R.map rowP) (m := n) (fun _ => true) (fun w hw => by obtain ⟨r, _, rfl⟩ := List.mem_map.mp hw; rfl) (fun w hw st' => by
    obtain ⟨r, hr, rfl⟩ := List.mem_map.mp hw
    exact (is_row_row hn (hR r hr) st').trans (by rw [decide_eq_true rfl])) (by rw [List.length_map]; omega) st
  rw [List.all_eq_true.mpr (fun _ _ => rfl)] at c
  refine (sSeq_nx ((if_f c).trans rfl)).trans ?_
  exact sRet_ok (dOp2_ok ((dCall_ok (np := 3) (f := f_span) (a3_ok (dVar_ok (i := 0) rfl rfl) (dVar_ok (i := 1) (v := tabP R) rfl rfl) (dVar_ok (i := 2) rfl rfl)) rfl).trans (span_ok hq (b := false) hn hR hl st rfl rfl)) (dVar_ok (i := 1) (v := tabP R) rfl rfl) (oEq_tab _ _ _))
/-! ### unit rows -/
def unitR (m a : Nat) : List Nat := (List.range m).map fun k => if k = a then 1 else 0
theorem unit_ok {m a : Nat} (hm : m ≤ 1000) (st : Store) : f_unit_row [.int (m : Nat), .int (a : Nat)] st = .ok (rowP (unitR m a)) st := by
  refine mkFn_ok0 ?_ rfl
  have t := tupG_pns (n := 2) (own := [2]) (ns := List.range' 0 m) (i := iRng (dVar 0)) (e := dIf (dB (dOp2 oEq (dVar 2) (dVar 1))) (dC (.int 1)) (dC (.int 0))) (ρ := [some (.int (m : Nat)), some (.int (a : Nat)), none]) (st := st) (fun k => if k = a then 1 else 0) (iRng_nat (n := m) rfl (by omega)) ?_ (by simp; omega)
  · rw [← List.range_eq_range'] at t
    exact sRet_ok t
  · intro k _
    have c : dB (dOp2 oEq (dVar 2) (dVar 1)) [some (.int (m : Nat)), some (.int (a : Nat)), some (.int (k : Nat))] st = .ok (decide (((k : Nat) : Int) = ((a : Nat) : Int))) st := dB_ok (dOp2_ok (dVar_ok (i := 2) rfl rfl) (dVar_ok (i := 1) rfl rfl) (eq_int _ _ _))
    show dIf _ _ _ [some (.int (m : Nat)), some (.int (a : Nat)), some (.int (k : Nat))] st = _
    unfold dIf
    rw [c]
    by_cases h : k = a
    · rw [decide_eq_true (by omega), if_pos h]; rfl
    · rw [decide_eq_false (by omega), if_neg h]; rfl
theorem law_unit_ok {m a : Nat} (hm : m ≤ 1000) (st : Store) : f__law_unit [.int (m : Nat), .int (a : Nat)] st = .ok (rowP (unitR m a)) st := by
  refine mkFn_ok0 ?_ rfl
  have t := comp_pns1 (n := 2) (own := [2]) (ns := List.range' 0 m) (i := iRng (dVar 0)) (e := dFn cInt (aCons (dOp2 oEq (dVar 2) (dVar 1)) aNil)) (ρ := [some (.int (m : Nat)), some (.int (a : Nat)), none]) (st := st) (fun k => .int ((if k = a then 1 else 0 : Nat) : Int)) (iRng_nat (n := m) rfl (by omega)) ?_ (fun _ => rfl) (by simp; omega)
  · refine (sRet_ok (cTup_lst (dFrz_ok t))).trans ?_
    rw [← List.range_eq_range']
    unfold unitR
    show RS.rt (PV.tup _) st = RS.rt (PV.tup (List.map _ (List.map _ _))) st
    rw [List.map_map]
    rfl
  · intro k _ st'
    have c : dOp2 oEq (dVar 2) (dVar 1) [some (.int (m : Nat)), some (.int (a : Nat)), some (.int (k : Nat))] st' = .ok (.bl (decide (((k : Nat) : Int) = ((a : Nat) : Int)))) st' := dOp2_ok (dVar_ok (i := 2) rfl rfl) (dVar_ok (i := 1) rfl rfl) (eq_int _ _ _)
    show dFn cInt _ [some (.int (m : Nat)), some (.int (a : Nat)), some (.int (k : Nat))] st' = _
    unfold dFn
    rw [a1_ok c]
    by_cases h : k = a
    · rw [decide_eq_true (by omega), if_pos h]; rfl
    · rw [decide_eq_false (by omega), if_neg h]; rfl
end
end Wi

/-! drawn rows -/
namespace Wi
open PySem L2
theorem mkFn_st {n : Nat} {b : DenS} {args : List PV} {st st1 xs : Store} {v : PV} (h : b (startP n args) st = .rt v (st1 ++ xs)) (hl : st1.length = st.length) (ht : isTree v = true) : mkFn n b args st = .ok v st1 := by
  unfold mkFn
  rw [h]
  show retV st.length v (st1 ++ xs) = _
  cases v with
  | ref _ => cases ht
  | _ => show Res.ok _ ((st1 ++ xs).take st.length) = _; rw [← hl, List.take_left]
abbrev cS (s t : Int) : Cell := .lst [.int s, .int t]
theorem take_cons {s t m : Int} (hs : 0 ≤ s) (ht : 0 ≤ t) (h1 : 0 < m) (h2 : m < 1073741824) (rest : Store) : ∃ v s' t' : Int, 0 ≤ v ∧ v < m ∧ 0 ≤ s' ∧ 0 ≤ t' ∧ f__law_take [.ref 0, .int m] (cS s t :: rest) = .ok (.int v) (cS s' t' :: rest) := by
  obtain ⟨v, s', t', a, b, c, e⟩ := law_take_ok (st := cS s t :: rest) (k := 0) ⟨rfl, hs, ht⟩ h1 h2
  exact ⟨v, s', t', a, b, c.s0, c.t0, e⟩
/-- a comprehension that draws -/
theorem compS {α : Type} {n : Nat} {e : Den} {own : List Nat} {ρ : Sl} {rest : Store} (I : α → Prop) (enc : α → PV) (ht : ∀ a, isTree (enc a) = true) : ∀ (xs : List PV)
    (he : ∀ x ∈ xs, ∀ (s t : Int) (y : Cell), 0 ≤ s → 0 ≤ t → ∃ a s' t', I a ∧ 0 ≤ s' ∧ 0 ≤ t' ∧ e ((wipeP ρ own).set n (some x)) (cS s t :: (rest ++ [y])) = .ok (enc a) (cS s' t' :: (rest ++ [y]))) (acc : List PV) (s t : Int), 0 ≤ s → 0 ≤ t → acc.length + xs.length ≤ 16777216 →
    ∃ (as : List α) (s' t' : Int), as.length = xs.length ∧ (∀ a ∈ as, I a) ∧ 0 ≤ s' ∧ 0 ≤ t' ∧ compL (.n n) tYesD e own (rest.length + 1) xs ρ (cS s t :: (rest ++ [.lst acc])) = .ok (acc ++ as.map enc) (cS s' t' :: rest)
  | [], _, acc, s, t, hs, htt, _ => by
    refine ⟨[], s, t, rfl, by simp, hs, htt, ?_⟩
    unfold compL
    rw [List.getElem?_cons_succ, List.getElem?_concat_length]
    simp
  | x :: xs, he, acc, s, t, hs, htt, hl => by
    obtain ⟨a, s1, t1, ia, h1, h2, e1⟩ := he x List.mem_cons_self s t (.lst acc) hs htt
    obtain ⟨as, s2, t2, l2, i2, h3, h4, e2⟩ := compS I enc ht xs (fun y hy => he y (List.mem_cons_of_mem _ hy)) (acc ++ [enc a]) s1 t1 h1 h2 (by simp at hl ⊢; omega)
    refine ⟨a :: as, s2, t2, by simp [l2], fun b hb => ?_, h3, h4, ?_⟩
    · rcases List.mem_cons.mp hb with rfl | hb
      · exact ia
      · exact i2 b hb
    · have hb : Nat.blt acc.length 16777216 = true := by simp only [Nat.blt_eq]; simp at hl; omega
      unfold compL
      simp only [bindPt, tYesD, noexc, Res.bind, if_true, e1, List.getElem?_cons_succ, List.getElem?_concat_length, ht a, hb, Bool.and_self, List.set_cons_succ, List.set_append_right _ _ (Nat.le_refl _), Nat.sub_self, List.set_cons_zero]
      rw [e2, List.map_cons, List.append_assoc]
      rfl
theorem lCompS {α : Type} {i : DenI} {n : Nat} {e : Den} {own : List Nat} {ρ : Sl} {rest : Store} (I : α → Prop) (enc : α → PV) (ht : ∀ a, isTree (enc a) = true) {xs : List PV} {s t : Int} (hi : i ρ (cS s t :: rest) = .ok xs (cS s t :: rest))
    (he : ∀ x ∈ xs, ∀ (s t : Int) (y : Cell), 0 ≤ s → 0 ≤ t → ∃ a s' t', I a ∧ 0 ≤ s' ∧ 0 ≤ t' ∧ e ((wipeP ρ own).set n (some x)) (cS s t :: (rest ++ [y])) = .ok (enc a) (cS s' t' :: (rest ++ [y]))) (hs : 0 ≤ s) (htt : 0 ≤ t) (hl : xs.length ≤ 16777216) :
    ∃ (as : List α) (s' t' : Int), as.length = xs.length ∧ (∀ a ∈ as, I a) ∧ 0 ≤ s' ∧ 0 ≤ t' ∧ lComp i (.n n) tYesD e own ρ (cS s t :: rest) = .ok (as.map enc) (cS s' t' :: rest) := by
  obtain ⟨as, s', t', h1, h2, h3, h4, h5⟩ := compS (e := e) (own := own) (ρ := ρ) (n := n) (rest := rest) I enc ht xs he [] s t hs htt (by simpa using hl)
  refine ⟨as, s', t', h1, h2, h3, h4, ?_⟩
  unfold lComp
  rw [hi]
  exact h5
section
variable {q : Nat} (hq : q ∈ qs)
theorem cTup_lst2 {ρ : Sl} {st st1 : Store} {d : Den} {xs : List PV} (h : d ρ st = .ok (.lst xs) st1) : dFn cTup (aCons d aNil) ρ st = .ok (.tup xs) st1 := by
  unfold dFn
  rw [a1_ok h]
  rfl
theorem var_ref0 {ρ : Sl} {s t : Int} {rest : Store} {i : Nat} (h : ρ[i]? = some (some (.ref 0))) : dVar i ρ (cS s t :: rest) = .ok (.ref 0) (cS s t :: rest) := dVar_ref (xs := [.int s, .int t]) h rfl
include hq in
theorem any_row_ok {n : Nat} (hn : n ≤ 1000) {s t : Int} (hs : 0 ≤ s) (ht : 0 ≤ t) (rest : Store) : ∃ (v : List Nat) (s' t' : Int), Rw q n v ∧ 0 ≤ s' ∧ 0 ≤ t' ∧ f__law_any_row [.ref 0, Fl q, .int (n : Nat)] (cS s t :: rest) = .ok (rowP v) (cS s' t' :: rest) := by
  have hq2 := qs_lt hq
  obtain ⟨as, s', t', h1, h2, h3, h4, h5⟩ := lCompS (α := Nat) (n := 3) (own := [3]) (rest := rest) (ρ := [some (.ref 0), some (Fl q), some (.int (n : Nat)), none]) (i := iRng (dVar 2)) (e := dCall 2 f__law_take (aCons (dVar 0) (aCons (dOp2 oIx (dVar 1) (dC (.int 0))) aNil)))
    (fun a => a < q) (fun (a : Nat) => .int (a : Nat)) (fun _ => rfl) (s := s) (t := t) (iRng_nat (n := n) rfl (by omega)) (fun x hx s t y hs ht => by
      obtain ⟨v, s', t', a, b, c, d, e⟩ := take_cons hs ht (m := (q : Nat)) (by omega) (by omega) (rest ++ [y])
      obtain ⟨k, rfl⟩ : ∃ k : Nat, v = k := ⟨v.toNat, by omega⟩
      exact ⟨k, s', t', by omega, c, d, (dCall_ok (np := 2) (f := f__law_take) (a2_ok (var_ref0 (i := 0) rfl) (dOp2_ok (dVar_ok (i := 1) (v := Fl q) rfl rfl) (dC_ok _ _ _) rfl)) rfl).trans e⟩) hs ht (by show (pns (List.range' 0 n)).length ≤ _; simp [pns]; omega)
  have h1 : as.length = n := by rw [h1]; show (pns (List.range' 0 n)).length = n; simp [pns]
  refine ⟨as, s', t', ⟨h1, h2⟩, h3, h4, mkFn_st (xs := []) ?_ rfl rfl⟩
  rw [List.append_nil]
  exact sRet_ok (cTup_lst2 (dFrz_ok h5))
abbrev Rl (q h w : Nat) (x4 x5 : Option PV) : Sl := [some (.ref 0), some (Fl q), some (.int (h : Nat)), some (.int (w : Nat)), x4, x5]
theorem var_ref1 {ρ : Sl} {c : Cell} {xs : List PV} {i : Nat} (h : ρ[i]? = some (some (.ref 1))) : dVar i ρ [c, .lst xs] = .ok (.ref 1) [c, .lst xs] := dVar_ref (xs := xs) h rfl
theorem ix_ref1 {c : Cell} {R : List (List Nat)} {k : Nat} (hk : k < R.length) : oIx (.ref 1) (.int (k : Nat)) [c, .lst (R.map rowP)] = .ok (rowP (R.getD k [])) [c, .lst (R.map rowP)] :=
  ix_at (b := true) (xs := R.map rowP) rfl (by rw [List.getElem?_map, List.getElem?_eq_getElem hk, List.getD_eq_getElem?_getD, List.getElem?_eq_getElem hk]; rfl)
def set1 (R : List (List Nat)) (k : Nat) (v : List Nat) : List (List Nat) := R.set k v
theorem asg_row {d : Den} {ρ : Sl} {c c' : Cell} {R : List (List Nat)} {v : List Nat} {k : Nat} (hd : d ρ [c, .lst (R.map rowP)] = .ok (rowP v) [c', .lst (R.map rowP)]) (hr : ρ[4]? = some (some (.ref 1))) (hk : k < R.length) :
    sAsg d (gSubD (dVar 4) (dC (.int (k : Nat)))) ρ [c, .lst (R.map rowP)] = .nx ρ [c', .lst ((R.set k v).map rowP)] := by
  unfold sAsg
  rw [hd]
  show gSubD (dVar 4) (dC (.int (k : Nat))) (rowP v) ρ [c', .lst (R.map rowP)] = _
  unfold gSubD
  rw [var_ref1 hr]
  dsimp only [Res.bind, Res.thenS, dC]
  have e : ixN R.length ((k : Nat) : Int) = some k := by
    unfold ixN
    rw [if_pos (by omega), if_pos (by omega)]
    rfl
  simp [e, isTree, List.map_set]
include hq in
theorem law_lines_ok {h w : Nat} (hh : h ≤ 100) (hw : w ≤ 1000) {s t : Int} (hs : 0 ≤ s) (ht : 0 ≤ t) : ∃ (R : List (List Nat)) (s' t' : Int), R.length = h ∧ (∀ r ∈ R, Rw q w r) ∧ 0 ≤ s' ∧ 0 ≤ t' ∧ f__law_lines [.ref 0, Fl q, .int (h : Nat), .int (w : Nat)] [cS s t] = .ok (tabP R) [cS s' t'] := by
  have hq2 := qs_lt hq
  obtain ⟨R0, s0, t0, l0, r0, hs0, ht0, e0⟩ := lCompS (α := List Nat) (n := 5) (own := [5]) (rest := []) (ρ := Rl q h w none none) (i := iRng (dVar 2)) (e := dCall 3 f__law_any_row (aCons (dVar 0) (aCons (dVar 1) (aCons (dVar 3) aNil))))
    (Rw q w) rowP (fun _ => rfl) (s := s) (t := t) (iRng_nat (n := h) rfl (by omega)) (fun x hx s t y hs ht => by
      obtain ⟨v, s', t', a, b, c, d⟩ := any_row_ok hq hw hs ht ([] ++ [y])
      exact ⟨v, s', t', a, b, c, (dCall_ok (np := 3) (f := f__law_any_row) (a3_ok (var_ref0 (i := 0) rfl) (dVar_ok (i := 1) (v := Fl q) rfl rfl) (dVar_ok (i := 3) (v := .int (w : Nat)) rfl rfl)) rfl).trans d⟩) hs ht (by show (pns (List.range' 0 h)).length ≤ _; simp [pns]; omega)
  have l0 : R0.length = h := by rw [l0]; show (pns (List.range' 0 h)).length = h; simp [pns]
  have f0 : ∀ (ρ : Sl) (st : Store), ρ[1]? = some (some (Fl q)) → dOp2 oIx (dVar 1) (dC (.int 0)) ρ st = .ok (.int (q : Nat)) st := fun ρ st h1 => dOp2_ok (dVar_ok (i := 1) (v := Fl q) h1 rfl) (dC_ok _ _ _) rfl
  have s4 : dNew (lComp (iRng (dVar 2)) (.n 5) tYesD (dCall 3 f__law_any_row (aCons (dVar 0) (aCons (dVar 1) (aCons (dVar 3) aNil)))) [5]) (Rl q h w none none) [cS s t] = .ok (.ref 1) [cS s0 t0, .lst (R0.map rowP)] := by
    unfold dNew
    rw [e0]
    rfl
  -- the third row
  have part1 : ∃ (R1 : List (List Nat)) (s1 t1 : Int), R1.length = h ∧ (∀ r ∈ R1, Rw q w r) ∧ 0 ≤ s1 ∧ 0 ≤ t1 ∧ (sIf (tAndD (dB (dOp2 (opInt fGt) (dVar 2) (dC (.int 2)))) (dB (dOp2 oEq (dCall 2 f__law_take (aCons (dVar 0) (aCons (dC (.int 2)) aNil))) (dC (.int 0)))))
      (sAsg (dCall 3 f__law_sum (aCons (dVar 1) (aCons (dOp2 oIx (dVar 4) (dC (.int 0))) (aCons (dCall 3 f__law_times (aCons (dVar 1) (aCons (dOp2 oIx (dVar 4) (dC (.int 1))) (aCons (dCall 2 f__law_take (aCons (dVar 0) (aCons (dOp2 oIx (dVar 1) (dC (.int 0))) aNil))) aNil)))) aNil)))) (gSubD (dVar 4) (dC (.int 2))))
      sSkip) (Rl q h w (some (.ref 1)) none) [cS s0 t0, .lst (R0.map rowP)] = .nx (Rl q h w (some (.ref 1)) none) [cS s1 t1, .lst (R1.map rowP)] := by
    have c1 : dB (dOp2 (opInt fGt) (dVar 2) (dC (.int 2))) (Rl q h w (some (.ref 1)) none) [cS s0 t0, .lst (R0.map rowP)] = .ok (decide (((h : Nat) : Int) > 2)) [cS s0 t0, .lst (R0.map rowP)] := dB_ok (dOp2_ok (dVar_ok (i := 2) rfl rfl) (dC_ok _ _ _) rfl)
    by_cases h2 : 2 < h
    · rw [decide_eq_true (by omega)] at c1
      obtain ⟨v, s1, t1, v0, v2, hs1, ht1, e1⟩ := take_cons hs0 ht0 (m := 2) (by decide) (by decide) [.lst (R0.map rowP)]
      have c2 : dB (dOp2 oEq (dCall 2 f__law_take (aCons (dVar 0) (aCons (dC (.int 2)) aNil))) (dC (.int 0))) (Rl q h w (some (.ref 1)) none) [cS s0 t0, .lst (R0.map rowP)] = .ok (decide (v = 0)) [cS s1 t1, .lst (R0.map rowP)] :=
        dB_ok (dOp2_ok ((dCall_ok (np := 2) (f := f__law_take) (a2_ok (var_ref0 (i := 0) rfl) (dC_ok _ _ _)) rfl).trans e1) (dC_ok _ _ _) (eq_int _ _ _))
      by_cases vz : v = 0
      · rw [decide_eq_true vz] at c2
        obtain ⟨u, s2, t2, u0, u2, hs2, ht2, e2⟩ := take_cons hs1 ht1 (m := (q : Nat)) (by omega) (by omega) [.lst (R0.map rowP)]
        obtain ⟨k, rfl⟩ : ∃ k : Nat, u = k := ⟨u.toNat, by omega⟩
        have hk : k < q := by omega
        have m0 := r0 _ (getD_mem (d := []) (show 0 < R0.length by omega))
        have m1 := r0 _ (getD_mem (d := []) (show 1 < R0.length by omega))
        have a1 := (dCall_ok (np := 3) (f := f__law_times) (a3_ok (dVar_ok (i := 1) (ρ := Rl q h w (some (.ref 1)) none) (st := [cS s1 t1, .lst (R0.map rowP)]) rfl rfl) (dOp2_ok (var_ref1 (i := 4) rfl) (dC_ok (.int ((1 : Nat) : Int)) _ _) (ix_ref1 (by omega))) ((dCall_ok (np := 2) (f := f__law_take) (a2_ok (var_ref0 (i := 0) rfl) (f0 _ _ rfl)) rfl).trans e2)) rfl).trans (law_times_ok hq hk m1.2 (by rw [m1.1]; omega) [cS s2 t2, .lst (R0.map rowP)])
        have sl := scl_rw hq hk m1
        have a2 := (dCall_ok (np := 3) (f := f__law_sum) (a3_ok (dVar_ok (i := 1) (ρ := Rl q h w (some (.ref 1)) none) (st := [cS s1 t1, .lst (R0.map rowP)]) rfl rfl) (dOp2_ok (var_ref1 (i := 4) rfl) (dC_ok (.int ((0 : Nat) : Int)) _ _) (ix_ref1 (by omega))) a1) rfl).trans (law_sum_ok hq m0.2 sl.2 (by rw [m0.1, sl.1]) (by rw [m0.1]; omega) [cS s2 t2, .lst (R0.map rowP)])
        refine ⟨R0.set 2 (addR q (R0.getD 0 []) (sclR q k (R0.getD 1 []))), s2, t2, by rw [List.length_set, l0], fun r hr => ?_, hs2, ht2, (if_t (and_t c1 c2)).trans (asg_row (k := 2) a2 rfl (by omega))⟩
        rcases List.mem_or_eq_of_mem_set hr with hr | rfl
        · exact r0 r hr
        · refine ⟨?_, addR_lt hq m0.2 sl.2⟩
          unfold addR
          rw [List.length_zipWith, m0.1, sl.1, Nat.min_self]
      · rw [decide_eq_false vz] at c2
        exact ⟨R0, s1, t1, l0, r0, hs1, ht1, (if_f (and_t c1 c2)).trans rfl⟩
    · rw [decide_eq_false (by omega)] at c1
      exact ⟨R0, s0, t0, l0, r0, hs0, ht0, (if_f (and_f c1)).trans rfl⟩
  obtain ⟨R1, s1, t1, l1, r1, hs1, ht1, e1⟩ := part1
  have part2 : ∃ (R2 : List (List Nat)) (s2 t2 : Int), R2.length = h ∧ (∀ r ∈ R2, Rw q w r) ∧ 0 ≤ s2 ∧ 0 ≤ t2 ∧ (sIf (tAndD (dB (dOp2 (opInt fGt) (dVar 2) (dC (.int 0)))) (dB (dOp2 oEq (dCall 2 f__law_take (aCons (dVar 0) (aCons (dC (.int 5)) aNil))) (dC (.int 0)))))
      (sAsg (dFn cTup (aCons (dFrz (lComp (iRng (dVar 3)) (.n 5) tYesD (dC (.int 0)) [5])) aNil)) (gSubD (dVar 4) (dC (.int 0))))
      sSkip) (Rl q h w (some (.ref 1)) none) [cS s1 t1, .lst (R1.map rowP)] = .nx (Rl q h w (some (.ref 1)) none) [cS s2 t2, .lst (R2.map rowP)] := by
    have c1 : dB (dOp2 (opInt fGt) (dVar 2) (dC (.int 0))) (Rl q h w (some (.ref 1)) none) [cS s1 t1, .lst (R1.map rowP)] = .ok (decide (((h : Nat) : Int) > 0)) [cS s1 t1, .lst (R1.map rowP)] := dB_ok (dOp2_ok (dVar_ok (i := 2) rfl rfl) (dC_ok _ _ _) rfl)
    by_cases h2 : 0 < h
    · rw [decide_eq_true (by omega)] at c1
      obtain ⟨v, s2, t2, v0, v2, hs2, ht2, e2⟩ := take_cons hs1 ht1 (m := 5) (by decide) (by decide) [.lst (R1.map rowP)]
      have c2 : dB (dOp2 oEq (dCall 2 f__law_take (aCons (dVar 0) (aCons (dC (.int 5)) aNil))) (dC (.int 0))) (Rl q h w (some (.ref 1)) none) [cS s1 t1, .lst (R1.map rowP)] = .ok (decide (v = 0)) [cS s2 t2, .lst (R1.map rowP)] :=
        dB_ok (dOp2_ok ((dCall_ok (np := 2) (f := f__law_take) (a2_ok (var_ref0 (i := 0) rfl) (dC_ok _ _ _)) rfl).trans e2) (dC_ok _ _ _) (eq_int _ _ _))
      by_cases vz : v = 0
      · rw [decide_eq_true vz] at c2
        have k0 := comp_pns1 (n := 5) (own := [5]) (ns := List.range' 0 w) (i := iRng (dVar 3)) (e := dC (.int 0)) (ρ := Rl q h w (some (.ref 1)) none) (st := [cS s2 t2, .lst (R1.map rowP)]) (fun _ => .int (0 : Nat)) (iRng_nat (n := w) rfl (by omega)) (fun _ _ _ => rfl) (fun _ => rfl) (by simp; omega)
        have e0 : (List.range' 0 w).map (fun _ => PV.int ((0 : Nat) : Int)) = pns ((List.range' 0 w).map fun _ => 0) := by
          rw [pns, List.map_map]
          rfl
        rw [e0] at k0
        refine ⟨R1.set 0 ((List.range' 0 w).map fun _ => 0), s2, t2, by rw [List.length_set, l1], fun r hr => ?_, hs2, ht2, (if_t (and_t c1 c2)).trans (asg_row (k := 0) (cTup_lst2 (dFrz_ok k0)) rfl (by omega))⟩
        rcases List.mem_or_eq_of_mem_set hr with hr | rfl
        · exact r1 r hr
        · exact ⟨by simp, fun x hx => by obtain ⟨_, _, rfl⟩ := List.mem_map.mp hx; omega⟩
      · rw [decide_eq_false vz] at c2
        exact ⟨R1, s2, t2, l1, r1, hs2, ht2, (if_f (and_t c1 c2)).trans rfl⟩
    · rw [decide_eq_false (by omega)] at c1
      exact ⟨R1, s1, t1, l1, r1, hs1, ht1, (if_f (and_f c1)).trans rfl⟩
  obtain ⟨R2, s2, t2, l2, r2, hs2, ht2, e2⟩ := part2
  refine ⟨R2, s2, t2, l2, r2, hs2, ht2, mkFn_st (xs := [.lst (R2.map rowP)]) ?_ rfl rfl⟩
  refine (sSeq_nx (sSet_ok (i := 4) s4)).trans ((sSeq_nx e1).trans ((sSeq_nx e2).trans (sRet_ok ?_)))
  unfold dFn
  rw [a1_ok (var_ref1 (i := 4) rfl)]
  rfl
end
theorem some_field_ok {s t : Int} (hs : 0 ≤ s) (ht : 0 ≤ t) : ∃ q ∈ qs, ∃ s' t' : Int, 0 ≤ s' ∧ 0 ≤ t' ∧ f__law_some_field [.ref 0] [cS s t] = .ok (Fl q) [cS s' t'] := by
  obtain ⟨v, s', t', v0, v6, hs', ht', e⟩ := take_cons hs ht (m := 6) (by decide) (by decide) []
  obtain ⟨q, hq, eq⟩ := pick6 v0 v6 [cS s' t']
  refine ⟨q, hq, s', t', hs', ht', mkFn_st (xs := []) ?_ rfl rfl⟩
  exact sRet_ok ((dCall_ok (np := 1) (f := f__law_field) (a1_ok (dOp2_ok (show dFrz _ _ _ = .ok (.lst [.int 2, .int 3, .int 4, .int 5, .int 7, .int 9]) _ from rfl) ((dCall_ok (np := 2) (f := f__law_take) (a2_ok (var_ref0 (rest := []) rfl) (dC_ok _ _ _)) rfl).trans e) eq)) rfl).trans (lawf_ok hq _))
end Wi

namespace K02
open PySem L2 Wi
def topS (i : Nat) : Stmt := PySem.Challenge.pw_wittspaces_k02_reduced_tables.main.body.getD i (.Pass ⟨0, 0, 0, 0⟩)
abbrev s_is_integer : Stmt := topS 16
def N_is_integer : List Str := ["value"]
theorem sc_is_integer : FnScope N_is_integer ["value"] (defScope s_is_integer) := ⟨rfl, rfl, rfl, by decide +kernel, rfl, by decide +kernel, by decide +kernel⟩
theorem sd_is_integer {g : Gm} (B : Bl g) : SsD g { N := N_is_integer, sc := defScope s_is_integer, n := 0 } b_is_integer (defBody s_is_integer) :=
 (ssd_one (sd_ret (ed_and (c_isi B (by decide +kernel) (by decide +kernel) (by decide +kernel) (by decide +kernel) (ev 0 (by decide +kernel)) (fun _ => rfl)) (ed_one (ed_not (c_isi B (by decide +kernel) (by decide +kernel) (by decide +kernel) (by decide +kernel) (ev 0 (by decide +kernel)) (fun _ => rfl)))))))
abbrev s_Field_is_number : Stmt := inS (topS 22) 2
def N_Field_is_number : List Str := ["self", "value"]
theorem sc_Field_is_number : FnScope N_Field_is_number ["self", "value"] (defScope s_Field_is_number) := ⟨rfl, rfl, rfl, by decide +kernel, rfl, by decide +kernel, by decide +kernel⟩
theorem sd_Field_is_number {g : Gm} (B : Bl g) (D_is_integer : Df g 1 "is_integer" 1 f_is_integer) (K_Field : ClsAt g 4 ["q", "p", "sums", "products"]) : SsD g { N := N_Field_is_number, sc := defScope s_Field_is_number, n := 1 } b_Field_is_number (defBody s_Field_is_number) :=
 (ssd_one (sd_ret (ed_and (c_call D_is_integer (by decide +kernel) (by decide +kernel) (ad_cons (ev 1 (by decide +kernel)) ad_nil (fun _ => rfl)) (fun _ => rfl) (fun _ => rfl)) (ed_one (ed_chain ho_le op2_le ho_lt op2_lt ed_int (ev 1 (by decide +kernel)) (ed_fld (i := 0) K_Field rfl (ev 0 (by decide +kernel)) (fun _ => rfl)) rfl)))))
abbrev s_is_row : Stmt := topS 6
def N_is_row : List Str := ["field", "value", "n", "c"]
theorem sc_is_row : FnScope N_is_row ["field", "value", "n"] (defScope s_is_row) := ⟨rfl, rfl, rfl, by decide +kernel, rfl, by decide +kernel, by decide +kernel⟩
theorem sd_is_row {g : Gm} (B : Bl g) (K_Field : ClsAt g 4 ["q", "p", "sums", "products"]) (M_Field_is_number : Mf g 2 4 "is_number" 2 f_Field_is_number) : SsD g { N := N_is_row, sc := defScope s_is_row, n := 2 } b_is_row (defBody s_is_row) :=
 (ssd_one (sd_ret (ed_and (c_isi B (by decide +kernel) (by decide +kernel) (by decide +kernel) (by decide +kernel) (ev 1 (by decide +kernel)) (fun _ => rfl)) (ed_and (ed_cmp ho_eq op2_eq rfl (c_len B (by decide +kernel) (ev 1 (by decide +kernel)) (fun _ => rfl)) (ev 2 (by decide +kernel))) (ed_one (c_all B (by decide +kernel) (ed_frz (ld_comp (own := [("c", 3)]) B.tb (id_seq (ev 1 (by decide +kernel))) (by decide +kernel) rfl (pt_n (by decide +kernel)) tsd_nil (ed_meth M_Field_is_number K_Field (by decide) (ev 0 (by decide +kernel)) (ad_cons (ev 3 (by decide +kernel)) ad_nil (fun _ => rfl)) (fun _ => rfl) (fun _ => rfl) (fun _ => rfl)) (by decide +kernel) (fun _ _ => rfl))) (fun _ => rfl)))))))
abbrev s_unit_row : Stmt := topS 7
def N_unit_row : List Str := ["n", "i", "k"]
theorem sc_unit_row : FnScope N_unit_row ["n", "i"] (defScope s_unit_row) := ⟨rfl, rfl, rfl, by decide +kernel, rfl, by decide +kernel, by decide +kernel⟩
theorem sd_unit_row {g : Gm} (B : Bl g) (TG : TbGrow g) : SsD g { N := N_unit_row, sc := defScope s_unit_row, n := 3, tab := 1 } b_unit_row (defBody s_unit_row) :=
 (ssd_one (sd_ret (ed_tupG (k := 0) (d := 0) (own := [("k", 2)]) B.tb TG (B.b (by decide +kernel) (by decide +kernel) (by decide +kernel)) (by decide) (by decide) (i_rng B (by decide +kernel) (ev 0 (by decide +kernel)) (fun _ => rfl)) (by decide +kernel) rfl rfl (pt_n (by decide +kernel)) tsd_nil (ed_if (td_cmp ho_eq op2_eq rfl (ev 2 (by decide +kernel)) (ev 1 (by decide +kernel))) ed_int ed_int) (by decide +kernel) (fun _ _ => rfl) (fun _ => rfl))))
abbrev s_scaled : Stmt := topS 9
def N_scaled : List Str := ["field", "v", "c", "multiples", "a"]
theorem sc_scaled : FnScope N_scaled ["field", "v", "c"] (defScope s_scaled) := ⟨rfl, rfl, rfl, by decide +kernel, rfl, by decide +kernel, by decide +kernel⟩
theorem sd_scaled {g : Gm} (B : Bl g) (K_Field : ClsAt g 4 ["q", "p", "sums", "products"]) (TG : TbGrow g) : SsD g { N := N_scaled, sc := defScope s_scaled, n := 3, tab := 1 } b_scaled (defBody s_scaled) :=
 (ssd_cons (s_set 3 (by decide +kernel) (ed_ix (fun _ _ => rfl) (ed_fld (i := 3) K_Field rfl (ev 0 (by decide +kernel)) (fun _ => rfl)) (ev 2 (by decide +kernel))) (fun _ _ => rfl))
 (ssd_one (sd_ret (ed_tupG (k := 0) (d := 0) (own := [("a", 4)]) B.tb TG (B.b (by decide +kernel) (by decide +kernel) (by decide +kernel)) (by decide) (by decide) (id_seq (ev 1 (by decide +kernel))) (by decide +kernel) rfl rfl (pt_n (by decide +kernel)) tsd_nil (ed_ix (fun _ _ => rfl) (ev 3 (by decide +kernel)) (ev 4 (by decide +kernel))) (by decide +kernel) (fun _ _ => rfl) (fun _ => rfl)))))
abbrev s_add : Stmt := topS 8
def N_add : List Str := ["field", "v", "w", "sums", "a", "b"]
theorem sc_add : FnScope N_add ["field", "v", "w"] (defScope s_add) := ⟨rfl, rfl, rfl, by decide +kernel, rfl, by decide +kernel, by decide +kernel⟩
theorem sd_add {g : Gm} (B : Bl g) (K_Field : ClsAt g 4 ["q", "p", "sums", "products"]) (TG : TbGrow g) : SsD g { N := N_add, sc := defScope s_add, n := 3, tab := 1 } b_add (defBody s_add) :=
 (ssd_cons (s_set 3 (by decide +kernel) (ed_fld (i := 2) K_Field rfl (ev 0 (by decide +kernel)) (fun _ => rfl)) (fun _ _ => rfl))
 (ssd_one (sd_ret (ed_tupG (k := 0) (d := 0) (own := [("a", 4), ("b", 5)]) B.tb TG (B.b (by decide +kernel) (by decide +kernel) (by decide +kernel)) (by decide) (by decide) (id_zip B (by decide +kernel) (ad_cons (ev 1 (by decide +kernel)) (ad_cons (ev 2 (by decide +kernel)) ad_nil (fun _ => rfl)) (fun _ => rfl)) (fun _ => rfl) (fun _ => rfl)) (by decide +kernel) rfl rfl (pt_t (pts_cons' (by decide +kernel) (pts_cons' (by decide +kernel) pts_nil' (fun _ => rfl)) (fun _ => rfl)) (fun _ => rfl) (fun _ => rfl)) tsd_nil (ed_ix (fun _ _ => rfl) (ed_ix (fun _ _ => rfl) (ev 3 (by decide +kernel)) (ev 4 (by decide +kernel))) (ev 5 (by decide +kernel))) (by decide +kernel) (fun _ _ => rfl) (fun _ => rfl)))))
abbrev s_add_multiple : Stmt := topS 10
def N_add_multiple : List Str := ["field", "v", "c", "w"]
theorem sc_add_multiple : FnScope N_add_multiple ["field", "v", "c", "w"] (defScope s_add_multiple) := ⟨rfl, rfl, rfl, by decide +kernel, rfl, by decide +kernel, by decide +kernel⟩
theorem sd_add_multiple {g : Gm} (B : Bl g) (D_scaled : Df g 4 "scaled" 3 f_scaled) (D_add : Df g 4 "add" 3 f_add) : SsD g { N := N_add_multiple, sc := defScope s_add_multiple, n := 4 } b_add_multiple (defBody s_add_multiple) :=
 (ssd_one (sd_ret (c_call D_add (by decide +kernel) (by decide +kernel) (ad_cons (ev 0 (by decide +kernel)) (ad_cons (ev 1 (by decide +kernel)) (ad_cons (c_call D_scaled (by decide +kernel) (by decide +kernel) (ad_cons (ev 0 (by decide +kernel)) (ad_cons (ev 3 (by decide +kernel)) (ad_cons (ev 2 (by decide +kernel)) ad_nil (fun _ => rfl)) (fun _ => rfl)) (fun _ => rfl)) (fun _ => rfl) (fun _ => rfl)) ad_nil (fun _ => rfl)) (fun _ => rfl)) (fun _ => rfl)) (fun _ => rfl) (fun _ => rfl))))
abbrev s_Field_negative : Stmt := inS (topS 22) 6
def N_Field_negative : List Str := ["self", "a"]
theorem sc_Field_negative : FnScope N_Field_negative ["self", "a"] (defScope s_Field_negative) := ⟨rfl, rfl, rfl, by decide +kernel, rfl, by decide +kernel, by decide +kernel⟩
theorem sd_Field_negative {g : Gm} (B : Bl g) (K_Field : ClsAt g 4 ["q", "p", "sums", "products"]) : SsD g { N := N_Field_negative, sc := defScope s_Field_negative, n := 0 } b_Field_negative (defBody s_Field_negative) :=
 (ssd_one (sd_ret (ed_tIdx ⟨fun _ => rfl, fun _ => rfl, rfl⟩ (ed_ix (fun _ _ => rfl) (ed_fld (i := 2) K_Field rfl (ev 0 (by decide +kernel)) (fun _ => rfl)) (ev 1 (by decide +kernel))) ed_int (fun _ => rfl))))
abbrev s__cleared : Stmt := topS 11
def N__cleared : List Str := ["field", "rows", "head", "place", "found", "row"]
theorem sc__cleared : FnScope N__cleared ["field", "rows", "head", "place"] (defScope s__cleared) := ⟨rfl, rfl, rfl, by decide +kernel, rfl, by decide +kernel, by decide +kernel⟩
theorem sd__cleared {g : Gm} (B : Bl g) (K_Field : ClsAt g 4 ["q", "p", "sums", "products"]) (M_Field_negative : Mf g 1 4 "negative" 2 f_Field_negative) (D_add_multiple : Df g 5 "add_multiple" 4 f_add_multiple) : SsD g { N := N__cleared, sc := defScope s__cleared, n := 5 } b__cleared (defBody s__cleared) :=
 (ssd_cons (sd_setLc (own := [("row", 5)]) B.tb (id_seq (ev 1 (by decide +kernel))) (by decide +kernel) rfl (pt_n (by decide +kernel)) tsd_nil (c_call D_add_multiple (by decide +kernel) (by decide +kernel) (ad_cons (ev 0 (by decide +kernel)) (ad_cons (ev 5 (by decide +kernel)) (ad_cons (ed_meth M_Field_negative K_Field (by decide) (ev 0 (by decide +kernel)) (ad_cons (ed_ix (fun _ _ => rfl) (ev 5 (by decide +kernel)) (ev 3 (by decide +kernel))) ad_nil (fun _ => rfl)) (fun _ => rfl) (fun _ => rfl) (fun _ => rfl)) (ad_cons (ev 2 (by decide +kernel)) ad_nil (fun _ => rfl)) (fun _ => rfl)) (fun _ => rfl)) (fun _ => rfl)) (fun _ => rfl) (fun _ => rfl)) (by decide +kernel) (fun _ _ => rfl) rfl rfl rfl rfl (fun _ _ _ _ => tL_frz))
 (ssd_one (sd_ret (ed_frz (ld_comp (own := [("row", 5)]) B.tb (id_seq (ev 4 (by decide +kernel))) (by decide +kernel) rfl (pt_n (by decide +kernel)) (tsd_one (td_tru (c_any B (by decide +kernel) (ev 5 (by decide +kernel)) (fun _ => rfl)) (fun _ _ => rfl))) (ev 5 (by decide +kernel)) (by decide +kernel) (fun _ _ => rfl))))))
abbrev s_Field_inverse : Stmt := inS (topS 22) 8
def N_Field_inverse : List Str := ["self", "a"]
theorem sc_Field_inverse : FnScope N_Field_inverse ["self", "a"] (defScope s_Field_inverse) := ⟨rfl, rfl, rfl, by decide +kernel, rfl, by decide +kernel, by decide +kernel⟩
theorem sd_Field_inverse {g : Gm} (B : Bl g) (XB_Refused : ExB g 2 "Refused" "reason") (K_Field : ClsAt g 4 ["q", "p", "sums", "products"]) : SsD g { N := N_Field_inverse, sc := defScope s_Field_inverse, n := 2 } b_Field_inverse (defBody s_Field_inverse) :=
 (ssd_cons (sd_if (td_cmp ho_eq op2_eq rfl (ev 1 (by decide +kernel)) ed_int)
 (ssd_one (sd_raise1 B.tb XB_Refused (by decide) rfl rfl ed_str (fun _ => rfl) (fun _ => rfl)))
 ssd_nil)
 (ssd_one (sd_ret (ed_tIdx ⟨fun _ => rfl, fun _ => rfl, rfl⟩ (ed_ix (fun _ _ => rfl) (ed_fld (i := 3) K_Field rfl (ev 0 (by decide +kernel)) (fun _ => rfl)) (ev 1 (by decide +kernel))) ed_int (fun _ => rfl)))))
abbrev s_reduced : Stmt := topS 12
def N_reduced : List Str := ["field", "rows", "width", "left", "table", "pivots", "place", "found", "head", "row"]
theorem sc_reduced : FnScope N_reduced ["field", "rows", "width"] (defScope s_reduced) := ⟨rfl, rfl, rfl, by decide +kernel, rfl, by decide +kernel, by decide +kernel⟩
theorem sd_reduced {g : Gm} (B : Bl g) (K_Field : ClsAt g 4 ["q", "p", "sums", "products"]) (M_Field_inverse : Mf g 3 4 "inverse" 2 f_Field_inverse) (D_scaled : Df g 4 "scaled" 3 f_scaled) (D__cleared : Df g 6 "_cleared" 4 f__cleared) : SsD g { N := N_reduced, sc := defScope s_reduced, n := 6 } b_reduced (defBody s_reduced) :=
 (ssd_cons (s_set 3 (by decide +kernel) (ed_frz (c_list B (by decide +kernel) (ev 1 (by decide +kernel)) (fun _ => rfl))) (fun _ _ => rfl))
 (ssd_cons (s_set 4 (by decide +kernel) (ed_frz (ld_disp B.tb ad_nil)) (fun _ _ => rfl))
 (ssd_cons (s_set 5 (by decide +kernel) (ed_new (ld_disp B.tb ad_nil)) (fun _ _ => rfl))
 (ssd_cons (sd_for (i_rng B (by decide +kernel) (ev 2 (by decide +kernel)) (fun _ => rfl)) (gv 6 (by decide +kernel)) go_name
 (ssd_cons (sd_setLc (own := [("row", 9)]) B.tb (id_seq (ev 3 (by decide +kernel))) (by decide +kernel) rfl (pt_n (by decide +kernel)) (tsd_one (td_cmp ho_ne op2_ne rfl (ed_ix (fun _ _ => rfl) (ev 9 (by decide +kernel)) (ev 6 (by decide +kernel))) ed_int)) (ev 9 (by decide +kernel)) (by decide +kernel) (fun _ _ => rfl) rfl rfl rfl rfl (fun _ _ _ _ => tL_frz))
 (ssd_one (sd_if (td_tru (ev 7 (by decide +kernel)) (fun _ _ => rfl))
 (ssd_cons (s_set 8 (by decide +kernel) (c_call D_scaled (by decide +kernel) (by decide +kernel) (ad_cons (ev 0 (by decide +kernel)) (ad_cons (ed_ix (fun _ _ => rfl) (ev 7 (by decide +kernel)) ed_int) (ad_cons (ed_meth M_Field_inverse K_Field (by decide) (ev 0 (by decide +kernel)) (ad_cons (ed_ix (fun _ _ => rfl) (ed_ix (fun _ _ => rfl) (ev 7 (by decide +kernel)) ed_int) (ev 6 (by decide +kernel))) ad_nil (fun _ => rfl)) (fun _ => rfl) (fun _ => rfl) (fun _ => rfl)) ad_nil (fun _ => rfl)) (fun _ => rfl)) (fun _ => rfl)) (fun _ => rfl) (fun _ => rfl)) (fun _ _ => rfl))
 (ssd_cons (s_set 3 (by decide +kernel) (c_call D__cleared (by decide +kernel) (by decide +kernel) (ad_cons (ev 0 (by decide +kernel)) (ad_cons (ev 3 (by decide +kernel)) (ad_cons (ev 8 (by decide +kernel)) (ad_cons (ev 6 (by decide +kernel)) ad_nil (fun _ => rfl)) (fun _ => rfl)) (fun _ => rfl)) (fun _ => rfl)) (fun _ => rfl) (fun _ => rfl)) (fun _ _ => rfl))
 (ssd_cons (s_set 4 (by decide +kernel) (ed_frz (ld_cat B.tb (c_call D__cleared (by decide +kernel) (by decide +kernel) (ad_cons (ev 0 (by decide +kernel)) (ad_cons (ev 4 (by decide +kernel)) (ad_cons (ev 8 (by decide +kernel)) (ad_cons (ev 6 (by decide +kernel)) ad_nil (fun _ => rfl)) (fun _ => rfl)) (fun _ => rfl)) (fun _ => rfl)) (fun _ => rfl) (fun _ => rfl)) (ed_frz (ld_disp B.tb (ad_cons (ev 8 (by decide +kernel)) ad_nil (fun _ => rfl)))))) (fun _ _ => rfl))
 (ssd_one (sd_expr (ed_append B.tb ⟨fun _ => rfl, fun _ => rfl, rfl⟩ (ev 5 (by decide +kernel)) (ev 6 (by decide +kernel)) (fun _ => rfl)) (fun _ => rfl))))))
 ssd_nil))) (fun _ _ => rfl))
 (ssd_one (sd_ret (ed_tup B.tb (ad_cons (c_tup B (by decide +kernel) (ev 4 (by decide +kernel)) (fun _ => rfl)) (ad_cons (c_tup B (by decide +kernel) (ev 5 (by decide +kernel)) (fun _ => rfl)) ad_nil (fun _ => rfl)) (fun _ => rfl)))))))))
abbrev s_span : Stmt := topS 13
def N_span : List Str := ["field", "rows", "width"]
theorem sc_span : FnScope N_span ["field", "rows", "width"] (defScope s_span) := ⟨rfl, rfl, rfl, by decide +kernel, rfl, by decide +kernel, by decide +kernel⟩
theorem sd_span {g : Gm} (B : Bl g) (D_reduced : Df g 7 "reduced" 3 f_reduced) : SsD g { N := N_span, sc := defScope s_span, n := 7 } b_span (defBody s_span) :=
 (ssd_one (sd_ret (ed_ix (fun _ _ => rfl) (c_call D_reduced (by decide +kernel) (by decide +kernel) (ad_cons (ev 0 (by decide +kernel)) (ad_cons (ev 1 (by decide +kernel)) (ad_cons (ev 2 (by decide +kernel)) ad_nil (fun _ => rfl)) (fun _ => rfl)) (fun _ => rfl)) (fun _ => rfl) (fun _ => rfl)) ed_int)))
abbrev s_is_space : Stmt := topS 14
def N_is_space : List Str := ["field", "value", "width", "row"]
theorem sc_is_space : FnScope N_is_space ["field", "value", "width"] (defScope s_is_space) := ⟨rfl, rfl, rfl, by decide +kernel, rfl, by decide +kernel, by decide +kernel⟩
theorem sd_is_space {g : Gm} (B : Bl g) (D_is_row : Df g 3 "is_row" 3 f_is_row) (D_span : Df g 8 "span" 3 f_span) : SsD g { N := N_is_space, sc := defScope s_is_space, n := 8 } b_is_space (defBody s_is_space) :=
 (ssd_cons (sd_if (td_bool (wd_or (td_not (td_tru (c_isi B (by decide +kernel) (by decide +kernel) (by decide +kernel) (by decide +kernel) (ev 1 (by decide +kernel)) (fun _ => rfl)) (fun _ _ => rfl))) (wd_or1 (td_not (td_tru (c_all B (by decide +kernel) (ed_frz (ld_comp (own := [("row", 3)]) B.tb (id_seq (ev 1 (by decide +kernel))) (by decide +kernel) rfl (pt_n (by decide +kernel)) tsd_nil (c_call D_is_row (by decide +kernel) (by decide +kernel) (ad_cons (ev 0 (by decide +kernel)) (ad_cons (ev 3 (by decide +kernel)) (ad_cons (ev 2 (by decide +kernel)) ad_nil (fun _ => rfl)) (fun _ => rfl)) (fun _ => rfl)) (fun _ => rfl) (fun _ => rfl)) (by decide +kernel) (fun _ _ => rfl))) (fun _ => rfl)) (fun _ _ => rfl))))))
 (ssd_one (sd_ret ed_bl))
 ssd_nil)
 (ssd_one (sd_ret (ed_cmp ho_eq op2_eq rfl (c_call D_span (by decide +kernel) (by decide +kernel) (ad_cons (ev 0 (by decide +kernel)) (ad_cons (ev 1 (by decide +kernel)) (ad_cons (ev 2 (by decide +kernel)) ad_nil (fun _ => rfl)) (fun _ => rfl)) (fun _ => rfl)) (fun _ => rfl) (fun _ => rfl)) (ev 1 (by decide +kernel))))))
abbrev s__sum_of : Stmt := topS 20
def N__sum_of : List Str := ["p", "a", "b"]
theorem sc__sum_of : FnScope N__sum_of ["p", "a", "b"] (defScope s__sum_of) := ⟨rfl, rfl, rfl, by decide +kernel, rfl, by decide +kernel, by decide +kernel⟩
theorem sd__sum_of {g : Gm} (B : Bl g) : SsD g { N := N__sum_of, sc := defScope s__sum_of, n := 0 } b__sum_of (defBody s__sum_of) :=
 (ssd_one (sd_ret (ed_add B.tb (ed_mod (ed_add B.tb (ev 1 (by decide +kernel)) (ev 2 (by decide +kernel))) (ev 0 (by decide +kernel))) (ed_mul (ed_mod (ed_add B.tb (ed_div (ev 1 (by decide +kernel)) (ev 0 (by decide +kernel))) (ed_div (ev 2 (by decide +kernel)) (ev 0 (by decide +kernel)))) (ev 0 (by decide +kernel))) (ev 0 (by decide +kernel))))))
abbrev s__product_of : Stmt := topS 21
def N__product_of : List Str := ["p", "square", "a", "b", "both", "low", "high", "high_a", "low_a", "high_b", "low_b"]
theorem sc__product_of : FnScope N__product_of ["p", "square", "a", "b"] (defScope s__product_of) := ⟨rfl, rfl, rfl, by decide +kernel, rfl, by decide +kernel, by decide +kernel⟩
theorem sd__product_of {g : Gm} (B : Bl g) : SsD g { N := N__product_of, sc := defScope s__product_of, n := 0 } b__product_of (defBody s__product_of) :=
 (ssd_cons (sd_asg (c_divmod B (by decide +kernel) (ad_cons (ev 2 (by decide +kernel)) (ad_cons (ev 0 (by decide +kernel)) ad_nil (fun _ => rfl)) (fun _ => rfl)) (fun _ => rfl) (fun _ => rfl)) (gd_tup (gsd_cons (gv 7 (by decide +kernel)) (gsd_cons (gv 8 (by decide +kernel)) gsd_nil (fun _ => rfl)) (fun _ => rfl)) (fun _ => rfl) (fun _ => rfl)) (go_tup (gos_cons go_name (gos_cons go_name gos_nil))) (fun _ => rfl) (fun env h => by cases env; cases h; rfl) (fun _ => rfl))
 (ssd_cons (sd_asg (c_divmod B (by decide +kernel) (ad_cons (ev 3 (by decide +kernel)) (ad_cons (ev 0 (by decide +kernel)) ad_nil (fun _ => rfl)) (fun _ => rfl)) (fun _ => rfl) (fun _ => rfl)) (gd_tup (gsd_cons (gv 9 (by decide +kernel)) (gsd_cons (gv 10 (by decide +kernel)) gsd_nil (fun _ => rfl)) (fun _ => rfl)) (fun _ => rfl) (fun _ => rfl)) (go_tup (gos_cons go_name (gos_cons go_name gos_nil))) (fun _ => rfl) (fun env h => by cases env; cases h; rfl) (fun _ => rfl))
 (ssd_cons (s_set 4 (by decide +kernel) (ed_mul (ev 7 (by decide +kernel)) (ev 9 (by decide +kernel))) (fun _ _ => rfl))
 (ssd_cons (s_set 5 (by decide +kernel) (ed_add B.tb (ed_mul (ev 8 (by decide +kernel)) (ev 10 (by decide +kernel))) (ed_mul (ev 4 (by decide +kernel)) (ed_ix (fun _ _ => rfl) (ev 1 (by decide +kernel)) ed_int))) (fun _ _ => rfl))
 (ssd_cons (s_set 6 (by decide +kernel) (ed_add B.tb (ed_add B.tb (ed_mul (ev 8 (by decide +kernel)) (ev 9 (by decide +kernel))) (ed_mul (ev 7 (by decide +kernel)) (ev 10 (by decide +kernel)))) (ed_mul (ev 4 (by decide +kernel)) (ed_ix (fun _ _ => rfl) (ev 1 (by decide +kernel)) ed_int))) (fun _ _ => rfl))
 (ssd_one (sd_ret (ed_add B.tb (ed_mod (ev 5 (by decide +kernel)) (ev 0 (by decide +kernel))) (ed_mul (ed_mod (ev 6 (by decide +kernel)) (ev 0 (by decide +kernel))) (ev 0 (by decide +kernel)))))))))))
abbrev s_Field___init__ : Stmt := inS (topS 22) 0
def N_Field___init__ : List Str := ["self", "q", "p", "square", "a", "b"]
theorem sc_Field___init__ : FnScope N_Field___init__ ["self", "q"] (defScope s_Field___init__) := ⟨rfl, rfl, rfl, by decide +kernel, rfl, by decide +kernel, by decide +kernel⟩
theorem sd_Field___init__ {g : Gm} (B : Bl g) (D_is_integer : Df g 1 "is_integer" 1 f_is_integer) (KD_CHARACTERISTICS : KDc g "CHARACTERISTICS" [(2, .int 2), (3, .int 3), (4, .int 2), (5, .int 5), (7, .int 7), (9, .int 3)]) (XA_Malformed : ExA g 1 "Malformed") (KD_SQUARES_OF_T : KDc g "SQUARES_OF_T" [(4, .tup [.int 1, .int 1]), (9, .tup [.int 2, .int 0])]) (K_Field : ClsAt g 4 ["q", "p", "sums", "products"]) (D__sum_of : Df g 1 "_sum_of" 3 f__sum_of) (TG : TbGrow g) (D__product_of : Df g 1 "_product_of" 4 f__product_of) : SsD g { N := N_Field___init__, sc := defScope s_Field___init__, n := 7, tab := 2 } b_Field___init__ (defBody s_Field___init__) :=
 (ssd_cons (sd_if (td_bool (wd_or (td_not (td_tru (c_call D_is_integer (by decide +kernel) (by decide +kernel) (ad_cons (ev 1 (by decide +kernel)) ad_nil (fun _ => rfl)) (fun _ => rfl) (fun _ => rfl)) (fun _ _ => rfl))) (wd_or1 (td_kIn (neg := true) rfl KD_CHARACTERISTICS rfl rfl (ev 1 (by decide +kernel)) rfl))))
 (ssd_one (sd_raise0 XA_Malformed rfl rfl))
 ssd_nil)
 (ssd_cons (s_set 2 (by decide +kernel) (ed_kGet KD_CHARACTERISTICS rfl rfl (ev 1 (by decide +kernel)) (fun _ _ => rfl)) (fun _ _ => rfl))
 (ssd_cons (s_set 3 (by decide +kernel) (ed_kGetD KD_SQUARES_OF_T ⟨fun _ => rfl, fun _ => rfl, rfl⟩ rfl rfl (ad_cons (ev 1 (by decide +kernel)) (ad_cons (ed_tup B.tb (ad_cons ed_int (ad_cons ed_int ad_nil (fun _ => rfl)) (fun _ => rfl))) ad_nil (fun _ => rfl)) (fun _ => rfl)) (fun _ => rfl) (fun _ => rfl)) (fun _ _ => rfl))
 (ssd_cons (sd_fldS B.tb (i := 0) K_Field rfl (by decide) (ev 1 (by decide +kernel)) (ev 0 (by decide +kernel)) (fun _ => rfl))
 (ssd_cons (sd_fldS B.tb (i := 1) K_Field rfl (by decide) (ev 2 (by decide +kernel)) (ev 0 (by decide +kernel)) (fun _ => rfl))
 (ssd_cons (sd_fldS B.tb (i := 2) K_Field rfl (by decide) (ed_tupG (k := 4) (d := 1) (own := [("a", 4)]) B.tb TG (B.b (by decide +kernel) (by decide +kernel) (by decide +kernel)) (by decide) (by decide) (i_rng B (by decide +kernel) (ev 1 (by decide +kernel)) (fun _ => rfl)) (by decide +kernel) rfl rfl (pt_n (by decide +kernel)) tsd_nil (ed_tupG (k := 1) (d := 0) (own := [("b", 5)]) B.tb TG (B.b (by decide +kernel) (by decide +kernel) (by decide +kernel)) (by decide) (by decide) (i_rng B (by decide +kernel) (ev 1 (by decide +kernel)) (fun _ => rfl)) (by decide +kernel) rfl rfl (pt_n (by decide +kernel)) tsd_nil (c_call D__sum_of (by decide +kernel) (by decide +kernel) (ad_cons (ev 2 (by decide +kernel)) (ad_cons (ev 4 (by decide +kernel)) (ad_cons (ev 5 (by decide +kernel)) ad_nil (fun _ => rfl)) (fun _ => rfl)) (fun _ => rfl)) (fun _ => rfl) (fun _ => rfl)) (by decide +kernel) (fun _ _ => rfl) (fun _ => rfl)) (by decide +kernel) (fun _ _ => rfl) (fun _ => rfl)) (ev 0 (by decide +kernel)) (fun _ => rfl))
 (ssd_one (sd_fldS B.tb (i := 3) K_Field rfl (by decide) (ed_tupG (k := 4) (d := 1) (own := [("a", 4)]) B.tb TG (B.b (by decide +kernel) (by decide +kernel) (by decide +kernel)) (by decide) (by decide) (i_rng B (by decide +kernel) (ev 1 (by decide +kernel)) (fun _ => rfl)) (by decide +kernel) rfl rfl (pt_n (by decide +kernel)) tsd_nil (ed_tupG (k := 1) (d := 0) (own := [("b", 5)]) B.tb TG (B.b (by decide +kernel) (by decide +kernel) (by decide +kernel)) (by decide) (by decide) (i_rng B (by decide +kernel) (ev 1 (by decide +kernel)) (fun _ => rfl)) (by decide +kernel) rfl rfl (pt_n (by decide +kernel)) tsd_nil (c_call D__product_of (by decide +kernel) (by decide +kernel) (ad_cons (ev 2 (by decide +kernel)) (ad_cons (ev 3 (by decide +kernel)) (ad_cons (ev 4 (by decide +kernel)) (ad_cons (ev 5 (by decide +kernel)) ad_nil (fun _ => rfl)) (fun _ => rfl)) (fun _ => rfl)) (fun _ => rfl)) (fun _ => rfl) (fun _ => rfl)) (by decide +kernel) (fun _ _ => rfl) (fun _ => rfl)) (by decide +kernel) (fun _ _ => rfl) (fun _ => rfl)) (ev 0 (by decide +kernel)) (fun _ => rfl)))))))))
abbrev s__law_state : Stmt := topS 24
def N__law_state : List Str := ["script", "seed", "total", "cell"]
theorem sc__law_state : FnScope N__law_state ["script"] (defScope s__law_state) := ⟨rfl, rfl, rfl, by decide +kernel, rfl, by decide +kernel, by decide +kernel⟩
theorem sd__law_state {g : Gm} (B : Bl g) : SsD g { N := N__law_state, sc := defScope s__law_state, n := 0 } b__law_state (defBody s__law_state) :=
 (ssd_cons (s_set 1 (by decide +kernel) ed_int (fun _ _ => rfl))
 (ssd_cons (s_set 2 (by decide +kernel) ed_int (fun _ _ => rfl))
 (ssd_cons (sd_for (id_seq (ed_cut B.tb (ev 0 (by decide +kernel)) pd_no (pd_some ed_int))) (gv 3 (by decide +kernel)) go_name
 (ssd_cons (s_set 1 (by decide +kernel) (ed_add B.tb (ed_mul (ev 1 (by decide +kernel)) ed_int) (c_abs B (by decide +kernel) (ev 3 (by decide +kernel)) (fun _ => rfl))) (fun _ _ => rfl))
 (ssd_one (s_set 2 (by decide +kernel) (ed_mod (c_int B (by decide +kernel) (ed_add B.tb (ed_mul (ev 2 (by decide +kernel)) ed_int) (ev 3 (by decide +kernel))) (fun _ => rfl)) ed_int) (fun _ _ => rfl)))) (fun _ _ => rfl))
 (ssd_one (sd_ret (ed_new (ld_disp B.tb (ad_cons (ev 1 (by decide +kernel)) (ad_cons (ev 2 (by decide +kernel)) ad_nil (fun _ => rfl)) (fun _ => rfl)))))))))
abbrev s__law_take : Stmt := topS 25
def N__law_take : List Str := ["state", "m", "value"]
theorem sc__law_take : FnScope N__law_take ["state", "m"] (defScope s__law_take) := ⟨rfl, rfl, rfl, by decide +kernel, rfl, by decide +kernel, by decide +kernel⟩
theorem sd__law_take {g : Gm} (B : Bl g) : SsD g { N := N__law_take, sc := defScope s__law_take, n := 0 } b__law_take (defBody s__law_take) :=
 (ssd_cons (sd_if (td_cmp ho_gt op2_gt rfl (ed_ix (fun _ _ => rfl) (ev 0 (by decide +kernel)) ed_int) ed_int)
 (ssd_cons (s_set 2 (by decide +kernel) (ed_mod (c_int B (by decide +kernel) (ed_ix (fun _ _ => rfl) (ev 0 (by decide +kernel)) ed_int) (fun _ => rfl)) (ev 1 (by decide +kernel))) (fun _ _ => rfl))
 (ssd_cons (sd_asg (ed_div (ed_ix (fun _ _ => rfl) (ev 0 (by decide +kernel)) ed_int) (ev 1 (by decide +kernel))) (gd_sub B.tb (ev 0 (by decide +kernel)) ed_int (fun _ _ => rfl)) go_sub (fun _ => rfl) (fun env h => by cases env; cases h; rfl) (fun _ => rfl))
 (ssd_one (sd_ret (ev 2 (by decide +kernel))))))
 ssd_nil)
 (ssd_cons (sd_asg (ed_mod (c_int B (by decide +kernel) (ed_add B.tb (ed_mul (ed_ix (fun _ _ => rfl) (ev 0 (by decide +kernel)) ed_int) ed_int) ed_int) (fun _ => rfl)) ed_int) (gd_sub B.tb (ev 0 (by decide +kernel)) ed_int (fun _ _ => rfl)) go_sub (fun _ => rfl) (fun env h => by cases env; cases h; rfl) (fun _ => rfl))
 (ssd_one (sd_ret (ed_mod (c_int B (by decide +kernel) (ed_div (ed_ix (fun _ _ => rfl) (ev 0 (by decide +kernel)) ed_int) ed_int) (fun _ => rfl)) (ev 1 (by decide +kernel)))))))
abbrev s__law_sum : Stmt := topS 32
def N__law_sum : List Str := ["f", "v", "w", "k"]
theorem sc__law_sum : FnScope N__law_sum ["f", "v", "w"] (defScope s__law_sum) := ⟨rfl, rfl, rfl, by decide +kernel, rfl, by decide +kernel, by decide +kernel⟩
theorem sd__law_sum {g : Gm} (B : Bl g) : SsD g { N := N__law_sum, sc := defScope s__law_sum, n := 0 } b__law_sum (defBody s__law_sum) :=
 (ssd_one (sd_ret (c_tup B (by decide +kernel) (ed_frz (ld_comp (own := [("k", 3)]) B.tb (i_rng B (by decide +kernel) (c_len B (by decide +kernel) (ev 1 (by decide +kernel)) (fun _ => rfl)) (fun _ => rfl)) (by decide +kernel) rfl (pt_n (by decide +kernel)) tsd_nil (ed_ix (fun _ _ => rfl) (ed_ix (fun _ _ => rfl) (ed_ix (fun _ _ => rfl) (ev 0 (by decide +kernel)) ed_int) (ed_ix (fun _ _ => rfl) (ev 1 (by decide +kernel)) (ev 3 (by decide +kernel)))) (ed_ix (fun _ _ => rfl) (ev 2 (by decide +kernel)) (ev 3 (by decide +kernel)))) (by decide +kernel) (fun _ _ => rfl))) (fun _ => rfl))))
abbrev s__law_times : Stmt := topS 33
def N__law_times : List Str := ["f", "v", "c", "x"]
theorem sc__law_times : FnScope N__law_times ["f", "v", "c"] (defScope s__law_times) := ⟨rfl, rfl, rfl, by decide +kernel, rfl, by decide +kernel, by decide +kernel⟩
theorem sd__law_times {g : Gm} (B : Bl g) : SsD g { N := N__law_times, sc := defScope s__law_times, n := 0 } b__law_times (defBody s__law_times) :=
 (ssd_one (sd_ret (c_tup B (by decide +kernel) (ed_frz (ld_comp (own := [("x", 3)]) B.tb (id_seq (ev 1 (by decide +kernel))) (by decide +kernel) rfl (pt_n (by decide +kernel)) tsd_nil (ed_ix (fun _ _ => rfl) (ed_ix (fun _ _ => rfl) (ed_ix (fun _ _ => rfl) (ev 0 (by decide +kernel)) ed_int) (ev 3 (by decide +kernel))) (ev 2 (by decide +kernel))) (by decide +kernel) (fun _ _ => rfl))) (fun _ => rfl))))
abbrev s__law_combined : Stmt := topS 34
def N__law_combined : List Str := ["f", "rows", "weights", "n", "total", "k"]
theorem sc__law_combined : FnScope N__law_combined ["f", "rows", "weights", "n"] (defScope s__law_combined) := ⟨rfl, rfl, rfl, by decide +kernel, rfl, by decide +kernel, by decide +kernel⟩
theorem sd__law_combined {g : Gm} (B : Bl g) (D__law_times : Df g 1 "_law_times" 3 f__law_times) (D__law_sum : Df g 1 "_law_sum" 3 f__law_sum) : SsD g { N := N__law_combined, sc := defScope s__law_combined, n := 1 } b__law_combined (defBody s__law_combined) :=
 (ssd_cons (s_set 4 (by decide +kernel) (c_tup B (by decide +kernel) (ed_frz (ld_comp (own := [("k", 5)]) B.tb (i_rng B (by decide +kernel) (ev 3 (by decide +kernel)) (fun _ => rfl)) (by decide +kernel) rfl (pt_n (by decide +kernel)) tsd_nil ed_int (by decide +kernel) (fun _ _ => rfl))) (fun _ => rfl)) (fun _ _ => rfl))
 (ssd_cons (sd_for (i_rng B (by decide +kernel) (c_len B (by decide +kernel) (ev 2 (by decide +kernel)) (fun _ => rfl)) (fun _ => rfl)) (gv 5 (by decide +kernel)) go_name
 (ssd_one (s_set 4 (by decide +kernel) (c_call D__law_sum (by decide +kernel) (by decide +kernel) (ad_cons (ev 0 (by decide +kernel)) (ad_cons (ev 4 (by decide +kernel)) (ad_cons (c_call D__law_times (by decide +kernel) (by decide +kernel) (ad_cons (ev 0 (by decide +kernel)) (ad_cons (ed_ix (fun _ _ => rfl) (ev 1 (by decide +kernel)) (ev 5 (by decide +kernel))) (ad_cons (ed_ix (fun _ _ => rfl) (ev 2 (by decide +kernel)) (ev 5 (by decide +kernel))) ad_nil (fun _ => rfl)) (fun _ => rfl)) (fun _ => rfl)) (fun _ => rfl) (fun _ => rfl)) ad_nil (fun _ => rfl)) (fun _ => rfl)) (fun _ => rfl)) (fun _ => rfl) (fun _ => rfl)) (fun _ _ => rfl))) (fun _ _ => rfl))
 (ssd_one (sd_ret (ev 4 (by decide +kernel))))))
abbrev s__law_unit : Stmt := topS 35
def N__law_unit : List Str := ["n", "i", "k"]
theorem sc__law_unit : FnScope N__law_unit ["n", "i"] (defScope s__law_unit) := ⟨rfl, rfl, rfl, by decide +kernel, rfl, by decide +kernel, by decide +kernel⟩
theorem sd__law_unit {g : Gm} (B : Bl g) : SsD g { N := N__law_unit, sc := defScope s__law_unit, n := 0 } b__law_unit (defBody s__law_unit) :=
 (ssd_one (sd_ret (c_tup B (by decide +kernel) (ed_frz (ld_comp (own := [("k", 2)]) B.tb (i_rng B (by decide +kernel) (ev 0 (by decide +kernel)) (fun _ => rfl)) (by decide +kernel) rfl (pt_n (by decide +kernel)) tsd_nil (c_int B (by decide +kernel) (ed_cmp ho_eq op2_eq rfl (ev 2 (by decide +kernel)) (ev 1 (by decide +kernel))) (fun _ => rfl)) (by decide +kernel) (fun _ _ => rfl))) (fun _ => rfl))))
abbrev s__law_mul : Stmt := topS 29
def N__law_mul : List Str := ["f", "a", "b"]
theorem sc__law_mul : FnScope N__law_mul ["f", "a", "b"] (defScope s__law_mul) := ⟨rfl, rfl, rfl, by decide +kernel, rfl, by decide +kernel, by decide +kernel⟩
theorem sd__law_mul {g : Gm} (B : Bl g) : SsD g { N := N__law_mul, sc := defScope s__law_mul, n := 0 } b__law_mul (defBody s__law_mul) :=
 (ssd_one (sd_ret (ed_ix (fun _ _ => rfl) (ed_ix (fun _ _ => rfl) (ed_ix (fun _ _ => rfl) (ev 0 (by decide +kernel)) ed_int) (ev 1 (by decide +kernel))) (ev 2 (by decide +kernel)))))
abbrev s__law_negative : Stmt := topS 30
def N__law_negative : List Str := ["f", "a"]
theorem sc__law_negative : FnScope N__law_negative ["f", "a"] (defScope s__law_negative) := ⟨rfl, rfl, rfl, by decide +kernel, rfl, by decide +kernel, by decide +kernel⟩
theorem sd__law_negative {g : Gm} (B : Bl g) : SsD g { N := N__law_negative, sc := defScope s__law_negative, n := 0 } b__law_negative (defBody s__law_negative) :=
 (ssd_one (sd_ret (ed_index ⟨fun _ => rfl, fun _ => rfl, rfl⟩ (ed_ix (fun _ _ => rfl) (ed_ix (fun _ _ => rfl) (ev 0 (by decide +kernel)) ed_int) (ev 1 (by decide +kernel))) ed_int (fun _ => rfl))))
abbrev s__law_inverse : Stmt := topS 31
def N__law_inverse : List Str := ["f", "a"]
theorem sc__law_inverse : FnScope N__law_inverse ["f", "a"] (defScope s__law_inverse) := ⟨rfl, rfl, rfl, by decide +kernel, rfl, by decide +kernel, by decide +kernel⟩
theorem sd__law_inverse {g : Gm} (B : Bl g) : SsD g { N := N__law_inverse, sc := defScope s__law_inverse, n := 0 } b__law_inverse (defBody s__law_inverse) :=
 (ssd_one (sd_ret (ed_index ⟨fun _ => rfl, fun _ => rfl, rfl⟩ (ed_ix (fun _ _ => rfl) (ed_ix (fun _ _ => rfl) (ev 0 (by decide +kernel)) ed_int) (ev 1 (by decide +kernel))) ed_int (fun _ => rfl))))
abbrev s__law_cleared : Stmt := topS 37
def N__law_cleared : List Str := ["f", "row", "lead", "at", "c"]
theorem sc__law_cleared : FnScope N__law_cleared ["f", "row", "lead", "at"] (defScope s__law_cleared) := ⟨rfl, rfl, rfl, by decide +kernel, rfl, by decide +kernel, by decide +kernel⟩
theorem sd__law_cleared {g : Gm} (B : Bl g) (D__law_inverse : Df g 1 "_law_inverse" 2 f__law_inverse) (D__law_mul : Df g 1 "_law_mul" 3 f__law_mul) (D__law_negative : Df g 1 "_law_negative" 2 f__law_negative) (D__law_times : Df g 1 "_law_times" 3 f__law_times) (D__law_sum : Df g 1 "_law_sum" 3 f__law_sum) : SsD g { N := N__law_cleared, sc := defScope s__law_cleared, n := 1 } b__law_cleared (defBody s__law_cleared) :=
 (ssd_cons (s_set 4 (by decide +kernel) (c_call D__law_mul (by decide +kernel) (by decide +kernel) (ad_cons (ev 0 (by decide +kernel)) (ad_cons (ed_ix (fun _ _ => rfl) (ev 1 (by decide +kernel)) (ev 3 (by decide +kernel))) (ad_cons (c_call D__law_inverse (by decide +kernel) (by decide +kernel) (ad_cons (ev 0 (by decide +kernel)) (ad_cons (ed_ix (fun _ _ => rfl) (ev 2 (by decide +kernel)) (ev 3 (by decide +kernel))) ad_nil (fun _ => rfl)) (fun _ => rfl)) (fun _ => rfl) (fun _ => rfl)) ad_nil (fun _ => rfl)) (fun _ => rfl)) (fun _ => rfl)) (fun _ => rfl) (fun _ => rfl)) (fun _ _ => rfl))
 (ssd_one (sd_ret (c_call D__law_sum (by decide +kernel) (by decide +kernel) (ad_cons (ev 0 (by decide +kernel)) (ad_cons (ev 1 (by decide +kernel)) (ad_cons (c_call D__law_times (by decide +kernel) (by decide +kernel) (ad_cons (ev 0 (by decide +kernel)) (ad_cons (ev 2 (by decide +kernel)) (ad_cons (c_call D__law_negative (by decide +kernel) (by decide +kernel) (ad_cons (ev 0 (by decide +kernel)) (ad_cons (ev 4 (by decide +kernel)) ad_nil (fun _ => rfl)) (fun _ => rfl)) (fun _ => rfl) (fun _ => rfl)) ad_nil (fun _ => rfl)) (fun _ => rfl)) (fun _ => rfl)) (fun _ => rfl) (fun _ => rfl)) ad_nil (fun _ => rfl)) (fun _ => rfl)) (fun _ => rfl)) (fun _ => rfl) (fun _ => rfl)))))
abbrev s__law_rank : Stmt := topS 38
def N__law_rank : List Str := ["f", "rows", "width", "left", "rank", "at", "heads", "lead", "k", "row"]
theorem sc__law_rank : FnScope N__law_rank ["f", "rows", "width"] (defScope s__law_rank) := ⟨rfl, rfl, rfl, by decide +kernel, rfl, by decide +kernel, by decide +kernel⟩
theorem sd__law_rank {g : Gm} (B : Bl g) (D__law_cleared : Df g 2 "_law_cleared" 4 f__law_cleared) : SsD g { N := N__law_rank, sc := defScope s__law_rank, n := 2 } b__law_rank (defBody s__law_rank) :=
 (ssd_cons (s_set 3 (by decide +kernel) (ed_new (c_list B (by decide +kernel) (ev 1 (by decide +kernel)) (fun _ => rfl))) (fun _ _ => rfl))
 (ssd_cons (s_set 4 (by decide +kernel) ed_int (fun _ _ => rfl))
 (ssd_cons (sd_for (i_rng B (by decide +kernel) (ev 2 (by decide +kernel)) (fun _ => rfl)) (gv 5 (by decide +kernel)) go_name
 (ssd_cons (sd_setLc (own := [("k", 8)]) B.tb (i_rng B (by decide +kernel) (c_len B (by decide +kernel) (ev 3 (by decide +kernel)) (fun _ => rfl)) (fun _ => rfl)) (by decide +kernel) rfl (pt_n (by decide +kernel)) (tsd_one (td_cmp ho_ne op2_ne rfl (ed_ix (fun _ _ => rfl) (ed_ix (fun _ _ => rfl) (ev 3 (by decide +kernel)) (ev 8 (by decide +kernel))) (ev 5 (by decide +kernel))) ed_int)) (ev 8 (by decide +kernel)) (by decide +kernel) (fun _ _ => rfl) rfl rfl rfl rfl (fun _ _ _ _ => tL_frz))
 (ssd_one (sd_if (td_cmp ho_gt op2_gt rfl (c_len B (by decide +kernel) (ev 6 (by decide +kernel)) (fun _ => rfl)) ed_int)
 (ssd_cons (s_set 7 (by decide +kernel) (ed_pop B.tb ⟨fun _ => rfl, fun _ => rfl, rfl⟩ (ev 3 (by decide +kernel)) (ed_ix (fun _ _ => rfl) (ev 6 (by decide +kernel)) ed_int) (fun _ => rfl)) (fun _ _ => rfl))
 (ssd_cons (s_set 3 (by decide +kernel) (ed_new (ld_comp (own := [("row", 9)]) B.tb (id_seq (ev 3 (by decide +kernel))) (by decide +kernel) rfl (pt_n (by decide +kernel)) tsd_nil (c_call D__law_cleared (by decide +kernel) (by decide +kernel) (ad_cons (ev 0 (by decide +kernel)) (ad_cons (ev 9 (by decide +kernel)) (ad_cons (ev 7 (by decide +kernel)) (ad_cons (ev 5 (by decide +kernel)) ad_nil (fun _ => rfl)) (fun _ => rfl)) (fun _ => rfl)) (fun _ => rfl)) (fun _ => rfl) (fun _ => rfl)) (by decide +kernel) (fun _ _ => rfl))) (fun env h => by cases env; cases h; rfl))
 (ssd_one (s_set 4 (by decide +kernel) (ed_add B.tb (ev 4 (by decide +kernel)) ed_int) (fun _ _ => rfl)))))
 ssd_nil))) (fun _ _ => rfl))
 (ssd_one (sd_ret (ev 4 (by decide +kernel)))))))
abbrev s__law_any_row : Stmt := topS 36
def N__law_any_row : List Str := ["state", "f", "n", "k"]
theorem sc__law_any_row : FnScope N__law_any_row ["state", "f", "n"] (defScope s__law_any_row) := ⟨rfl, rfl, rfl, by decide +kernel, rfl, by decide +kernel, by decide +kernel⟩
theorem sd__law_any_row {g : Gm} (B : Bl g) (D__law_take : Df g 1 "_law_take" 2 f__law_take) : SsD g { N := N__law_any_row, sc := defScope s__law_any_row, n := 1 } b__law_any_row (defBody s__law_any_row) :=
 (ssd_one (sd_ret (c_tup B (by decide +kernel) (ed_frz (ld_comp (own := [("k", 3)]) B.tb (i_rng B (by decide +kernel) (ev 2 (by decide +kernel)) (fun _ => rfl)) (by decide +kernel) rfl (pt_n (by decide +kernel)) tsd_nil (c_call D__law_take (by decide +kernel) (by decide +kernel) (ad_cons (ev 0 (by decide +kernel)) (ad_cons (ed_ix (fun _ _ => rfl) (ev 1 (by decide +kernel)) ed_int) ad_nil (fun _ => rfl)) (fun _ => rfl)) (fun _ => rfl) (fun _ => rfl)) (by decide +kernel) (fun _ _ => rfl))) (fun _ => rfl))))
abbrev s__law_lines : Stmt := topS 39
def N__law_lines : List Str := ["state", "f", "height", "width", "rows", "k"]
theorem sc__law_lines : FnScope N__law_lines ["state", "f", "height", "width"] (defScope s__law_lines) := ⟨rfl, rfl, rfl, by decide +kernel, rfl, by decide +kernel, by decide +kernel⟩
theorem sd__law_lines {g : Gm} (B : Bl g) (D__law_any_row : Df g 2 "_law_any_row" 3 f__law_any_row) (D__law_take : Df g 1 "_law_take" 2 f__law_take) (D__law_times : Df g 1 "_law_times" 3 f__law_times) (D__law_sum : Df g 1 "_law_sum" 3 f__law_sum) : SsD g { N := N__law_lines, sc := defScope s__law_lines, n := 2 } b__law_lines (defBody s__law_lines) :=
 (ssd_cons (sd_setLc (own := [("k", 5)]) B.tb (i_rng B (by decide +kernel) (ev 2 (by decide +kernel)) (fun _ => rfl)) (by decide +kernel) rfl (pt_n (by decide +kernel)) tsd_nil (c_call D__law_any_row (by decide +kernel) (by decide +kernel) (ad_cons (ev 0 (by decide +kernel)) (ad_cons (ev 1 (by decide +kernel)) (ad_cons (ev 3 (by decide +kernel)) ad_nil (fun _ => rfl)) (fun _ => rfl)) (fun _ => rfl)) (fun _ => rfl) (fun _ => rfl)) (by decide +kernel) (fun _ _ => rfl) rfl rfl rfl rfl (fun _ _ _ _ => tL_new))
 (ssd_cons (sd_if (td_bool (wd_and (td_cmp ho_gt op2_gt rfl (ev 2 (by decide +kernel)) ed_int) (wd_and1 (td_cmp ho_eq op2_eq rfl (c_call D__law_take (by decide +kernel) (by decide +kernel) (ad_cons (ev 0 (by decide +kernel)) (ad_cons ed_int ad_nil (fun _ => rfl)) (fun _ => rfl)) (fun _ => rfl) (fun _ => rfl)) ed_int))))
 (ssd_one (sd_asg (c_call D__law_sum (by decide +kernel) (by decide +kernel) (ad_cons (ev 1 (by decide +kernel)) (ad_cons (ed_ix (fun _ _ => rfl) (ev 4 (by decide +kernel)) ed_int) (ad_cons (c_call D__law_times (by decide +kernel) (by decide +kernel) (ad_cons (ev 1 (by decide +kernel)) (ad_cons (ed_ix (fun _ _ => rfl) (ev 4 (by decide +kernel)) ed_int) (ad_cons (c_call D__law_take (by decide +kernel) (by decide +kernel) (ad_cons (ev 0 (by decide +kernel)) (ad_cons (ed_ix (fun _ _ => rfl) (ev 1 (by decide +kernel)) ed_int) ad_nil (fun _ => rfl)) (fun _ => rfl)) (fun _ => rfl) (fun _ => rfl)) ad_nil (fun _ => rfl)) (fun _ => rfl)) (fun _ => rfl)) (fun _ => rfl) (fun _ => rfl)) ad_nil (fun _ => rfl)) (fun _ => rfl)) (fun _ => rfl)) (fun _ => rfl) (fun _ => rfl)) (gd_sub B.tb (ev 4 (by decide +kernel)) ed_int (fun _ _ => rfl)) go_sub (fun _ => rfl) (fun env h => by cases env; cases h; rfl) (fun _ => rfl)))
 ssd_nil)
 (ssd_cons (sd_if (td_bool (wd_and (td_cmp ho_gt op2_gt rfl (ev 2 (by decide +kernel)) ed_int) (wd_and1 (td_cmp ho_eq op2_eq rfl (c_call D__law_take (by decide +kernel) (by decide +kernel) (ad_cons (ev 0 (by decide +kernel)) (ad_cons ed_int ad_nil (fun _ => rfl)) (fun _ => rfl)) (fun _ => rfl) (fun _ => rfl)) ed_int))))
 (ssd_one (sd_asg (c_tup B (by decide +kernel) (ed_frz (ld_comp (own := [("k", 5)]) B.tb (i_rng B (by decide +kernel) (ev 3 (by decide +kernel)) (fun _ => rfl)) (by decide +kernel) rfl (pt_n (by decide +kernel)) tsd_nil ed_int (by decide +kernel) (fun _ _ => rfl))) (fun _ => rfl)) (gd_sub B.tb (ev 4 (by decide +kernel)) ed_int (fun _ _ => rfl)) go_sub (fun _ => rfl) (fun env h => by cases env; cases h; rfl) (fun _ => rfl)))
 ssd_nil)
 (ssd_one (sd_ret (c_tup B (by decide +kernel) (ev 4 (by decide +kernel)) (fun _ => rfl)))))))
abbrev s__law_prime : Stmt := topS 26
def N__law_prime : List Str := ["q"]
theorem sc__law_prime : FnScope N__law_prime ["q"] (defScope s__law_prime) := ⟨rfl, rfl, rfl, by decide +kernel, rfl, by decide +kernel, by decide +kernel⟩
theorem sd__law_prime {g : Gm} (B : Bl g) : SsD g { N := N__law_prime, sc := defScope s__law_prime, n := 0 } b__law_prime (defBody s__law_prime) :=
 (ssd_one (sd_ret (ed_ix (fun _ _ => rfl) (ed_frz (ld_disp B.tb (ad_cons ed_int (ad_cons ed_int (ad_cons ed_int (ad_cons ed_int (ad_cons ed_int (ad_cons ed_int ad_nil (fun _ => rfl)) (fun _ => rfl)) (fun _ => rfl)) (fun _ => rfl)) (fun _ => rfl)) (fun _ => rfl)))) (ed_index ⟨fun _ => rfl, fun _ => rfl, rfl⟩ (ed_frz (ld_disp B.tb (ad_cons ed_int (ad_cons ed_int (ad_cons ed_int (ad_cons ed_int (ad_cons ed_int (ad_cons ed_int ad_nil (fun _ => rfl)) (fun _ => rfl)) (fun _ => rfl)) (fun _ => rfl)) (fun _ => rfl)) (fun _ => rfl)))) (ev 0 (by decide +kernel)) (fun _ => rfl)))))
abbrev s__law_joined : Stmt := topS 27
def N__law_joined : List Str := ["q", "low", "high", "p"]
theorem sc__law_joined : FnScope N__law_joined ["q", "low", "high"] (defScope s__law_joined) := ⟨rfl, rfl, rfl, by decide +kernel, rfl, by decide +kernel, by decide +kernel⟩
theorem sd__law_joined {g : Gm} (B : Bl g) (D__law_prime : Df g 1 "_law_prime" 1 f__law_prime) : SsD g { N := N__law_joined, sc := defScope s__law_joined, n := 1 } b__law_joined (defBody s__law_joined) :=
 (ssd_cons (s_set 3 (by decide +kernel) (c_call D__law_prime (by decide +kernel) (by decide +kernel) (ad_cons (ev 0 (by decide +kernel)) ad_nil (fun _ => rfl)) (fun _ => rfl) (fun _ => rfl)) (fun _ _ => rfl))
 (ssd_cons (sd_if (td_cmp ho_eq op2_eq rfl (ev 3 (by decide +kernel)) (ev 0 (by decide +kernel)))
 (ssd_one (sd_ret (ed_mod (c_int B (by decide +kernel) (ev 1 (by decide +kernel)) (fun _ => rfl)) (ev 3 (by decide +kernel)))))
 ssd_nil)
 (ssd_one (sd_ret (ed_add B.tb (ed_mod (c_int B (by decide +kernel) (ev 1 (by decide +kernel)) (fun _ => rfl)) (ev 3 (by decide +kernel))) (ed_mul (ev 3 (by decide +kernel)) (ed_mod (c_int B (by decide +kernel) (ev 2 (by decide +kernel)) (fun _ => rfl)) (ev 3 (by decide +kernel)))))))))
abbrev s__law_field : Stmt := topS 28
def N__law_field : List Str := ["q", "p", "sums", "products", "a", "line", "own", "b", "mixed", "low", "high", "one", "two"]
theorem sc__law_field : FnScope N__law_field ["q"] (defScope s__law_field) := ⟨rfl, rfl, rfl, by decide +kernel, rfl, by decide +kernel, by decide +kernel⟩
theorem sd__law_field {g : Gm} (B : Bl g) (D__law_prime : Df g 1 "_law_prime" 1 f__law_prime) (D__law_joined : Df g 2 "_law_joined" 3 f__law_joined) : SsD g { N := N__law_field, sc := defScope s__law_field, n := 2 } b__law_field (defBody s__law_field) :=
 (ssd_cons (s_set 1 (by decide +kernel) (c_call D__law_prime (by decide +kernel) (by decide +kernel) (ad_cons (ev 0 (by decide +kernel)) ad_nil (fun _ => rfl)) (fun _ => rfl) (fun _ => rfl)) (fun _ _ => rfl))
 (ssd_cons (s_set 2 (by decide +kernel) (ed_new (ld_disp B.tb ad_nil)) (fun _ _ => rfl))
 (ssd_cons (s_set 3 (by decide +kernel) (ed_new (ld_disp B.tb ad_nil)) (fun _ _ => rfl))
 (ssd_cons (sd_for (i_rng B (by decide +kernel) (ev 0 (by decide +kernel)) (fun _ => rfl)) (gv 4 (by decide +kernel)) go_name
 (ssd_cons (s_set 5 (by decide +kernel) (ed_new (ld_disp B.tb ad_nil)) (fun _ _ => rfl))
 (ssd_cons (s_set 6 (by decide +kernel) (ed_new (ld_disp B.tb ad_nil)) (fun _ _ => rfl))
 (ssd_cons (sd_for (i_rng B (by decide +kernel) (ev 0 (by decide +kernel)) (fun _ => rfl)) (gv 7 (by decide +kernel)) go_name
 (ssd_cons (sd_asg (ed_tup B.tb (ad_cons (ed_mod (c_int B (by decide +kernel) (ev 4 (by decide +kernel)) (fun _ => rfl)) (ev 1 (by decide +kernel))) (ad_cons (ed_div (ev 4 (by decide +kernel)) (ev 1 (by decide +kernel))) (ad_cons (ed_mod (c_int B (by decide +kernel) (ev 7 (by decide +kernel)) (fun _ => rfl)) (ev 1 (by decide +kernel))) (ad_cons (ed_div (ev 7 (by decide +kernel)) (ev 1 (by decide +kernel))) ad_nil (fun _ => rfl)) (fun _ => rfl)) (fun _ => rfl)) (fun _ => rfl))) (gd_tup (gsd_cons (gv 9 (by decide +kernel)) (gsd_cons (gv 10 (by decide +kernel)) (gsd_cons (gv 11 (by decide +kernel)) (gsd_cons (gv 12 (by decide +kernel)) gsd_nil (fun _ => rfl)) (fun _ => rfl)) (fun _ => rfl)) (fun _ => rfl)) (fun _ => rfl) (fun _ => rfl)) (go_tup (gos_cons go_name (gos_cons go_name (gos_cons go_name (gos_cons go_name gos_nil))))) (fun _ => rfl) (fun env h => by cases env; cases h; rfl) (fun _ => rfl))
 (ssd_cons (sd_expr (ed_append B.tb ⟨fun _ => rfl, fun _ => rfl, rfl⟩ (ev 5 (by decide +kernel)) (c_call D__law_joined (by decide +kernel) (by decide +kernel) (ad_cons (ev 0 (by decide +kernel)) (ad_cons (ed_add B.tb (ev 9 (by decide +kernel)) (ev 11 (by decide +kernel))) (ad_cons (ed_add B.tb (ev 10 (by decide +kernel)) (ev 12 (by decide +kernel))) ad_nil (fun _ => rfl)) (fun _ => rfl)) (fun _ => rfl)) (fun _ => rfl) (fun _ => rfl)) (fun _ => rfl)) (fun _ => rfl))
 (ssd_cons (s_set 8 (by decide +kernel) (ed_add B.tb (ed_mul (ev 9 (by decide +kernel)) (ev 12 (by decide +kernel))) (ed_mul (ev 10 (by decide +kernel)) (ev 11 (by decide +kernel)))) (fun _ _ => rfl))
 (ssd_one (sd_if (td_cmp ho_eq op2_eq rfl (ev 0 (by decide +kernel)) ed_int)
 (ssd_one (sd_expr (ed_append B.tb ⟨fun _ => rfl, fun _ => rfl, rfl⟩ (ev 6 (by decide +kernel)) (c_call D__law_joined (by decide +kernel) (by decide +kernel) (ad_cons (ev 0 (by decide +kernel)) (ad_cons (ed_add B.tb (ed_mul (ev 9 (by decide +kernel)) (ev 11 (by decide +kernel))) (ed_mul (ev 10 (by decide +kernel)) (ev 12 (by decide +kernel)))) (ad_cons (ed_add B.tb (ev 8 (by decide +kernel)) (ed_mul (ev 10 (by decide +kernel)) (ev 12 (by decide +kernel)))) ad_nil (fun _ => rfl)) (fun _ => rfl)) (fun _ => rfl)) (fun _ => rfl) (fun _ => rfl)) (fun _ => rfl)) (fun _ => rfl)))
 (ssd_one (sd_if (td_cmp ho_eq op2_eq rfl (ev 0 (by decide +kernel)) ed_int)
 (ssd_one (sd_expr (ed_append B.tb ⟨fun _ => rfl, fun _ => rfl, rfl⟩ (ev 6 (by decide +kernel)) (c_call D__law_joined (by decide +kernel) (by decide +kernel) (ad_cons (ev 0 (by decide +kernel)) (ad_cons (ed_add B.tb (ed_mul (ev 9 (by decide +kernel)) (ev 11 (by decide +kernel))) (ed_mul (ed_mul ed_int (ev 10 (by decide +kernel))) (ev 12 (by decide +kernel)))) (ad_cons (ev 8 (by decide +kernel)) ad_nil (fun _ => rfl)) (fun _ => rfl)) (fun _ => rfl)) (fun _ => rfl) (fun _ => rfl)) (fun _ => rfl)) (fun _ => rfl)))
 (ssd_one (sd_expr (ed_append B.tb ⟨fun _ => rfl, fun _ => rfl, rfl⟩ (ev 6 (by decide +kernel)) (ed_mod (c_int B (by decide +kernel) (ed_mul (ev 4 (by decide +kernel)) (ev 7 (by decide +kernel))) (fun _ => rfl)) (ev 0 (by decide +kernel))) (fun _ => rfl)) (fun _ => rfl)))))))))) (fun _ _ => rfl))
 (ssd_cons (sd_expr (ed_append B.tb ⟨fun _ => rfl, fun _ => rfl, rfl⟩ (ev 2 (by decide +kernel)) (ed_freeze (ev 5 (by decide +kernel))) (fun _ => rfl)) (fun _ => rfl))
 (ssd_one (sd_expr (ed_append B.tb ⟨fun _ => rfl, fun _ => rfl, rfl⟩ (ev 3 (by decide +kernel)) (ed_freeze (ev 6 (by decide +kernel))) (fun _ => rfl)) (fun _ => rfl))))))) (fun _ _ => rfl))
 (ssd_one (sd_ret (ed_tup B.tb (ad_cons (ev 0 (by decide +kernel)) (ad_cons (ed_freeze (ev 2 (by decide +kernel))) (ad_cons (ed_freeze (ev 3 (by decide +kernel))) ad_nil (fun _ => rfl)) (fun _ => rfl)) (fun _ => rfl)))))))))
abbrev s__law_some_field : Stmt := topS 40
def N__law_some_field : List Str := ["state"]
theorem sc__law_some_field : FnScope N__law_some_field ["state"] (defScope s__law_some_field) := ⟨rfl, rfl, rfl, by decide +kernel, rfl, by decide +kernel, by decide +kernel⟩
theorem sd__law_some_field {g : Gm} (B : Bl g) (D__law_take : Df g 1 "_law_take" 2 f__law_take) (D__law_field : Df g 3 "_law_field" 1 f__law_field) : SsD g { N := N__law_some_field, sc := defScope s__law_some_field, n := 3 } b__law_some_field (defBody s__law_some_field) :=
 (ssd_one (sd_ret (c_call D__law_field (by decide +kernel) (by decide +kernel) (ad_cons (ed_ix (fun _ _ => rfl) (ed_frz (ld_disp B.tb (ad_cons ed_int (ad_cons ed_int (ad_cons ed_int (ad_cons ed_int (ad_cons ed_int (ad_cons ed_int ad_nil (fun _ => rfl)) (fun _ => rfl)) (fun _ => rfl)) (fun _ => rfl)) (fun _ => rfl)) (fun _ => rfl)))) (c_call D__law_take (by decide +kernel) (by decide +kernel) (ad_cons (ev 0 (by decide +kernel)) (ad_cons ed_int ad_nil (fun _ => rfl)) (fun _ => rfl)) (fun _ => rfl) (fun _ => rfl))) ad_nil (fun _ => rfl)) (fun _ => rfl) (fun _ => rfl))))
abbrev s__law_is_reduced : Stmt := topS 41
def N__law_is_reduced : List Str := ["table", "pivots", "width", "last", "i", "at", "j"]
theorem sc__law_is_reduced : FnScope N__law_is_reduced ["table", "pivots", "width"] (defScope s__law_is_reduced) := ⟨rfl, rfl, rfl, by decide +kernel, rfl, by decide +kernel, by decide +kernel⟩
theorem sd__law_is_reduced {g : Gm} (B : Bl g) : SsD g { N := N__law_is_reduced, sc := defScope s__law_is_reduced, n := 0 } b__law_is_reduced (defBody s__law_is_reduced) :=
 (ssd_cons (s_set 3 (by decide +kernel) (ed_neg ed_int) (fun _ _ => rfl))
 (ssd_cons (sd_for (i_rng B (by decide +kernel) (c_len B (by decide +kernel) (ev 0 (by decide +kernel)) (fun _ => rfl)) (fun _ => rfl)) (gv 4 (by decide +kernel)) go_name
 (ssd_cons (s_set 5 (by decide +kernel) (ed_ix (fun _ _ => rfl) (ev 1 (by decide +kernel)) (ev 4 (by decide +kernel))) (fun _ _ => rfl))
 (ssd_cons (sd_if (td_bool (wd_or (td_cmp ho_le op2_le rfl (ev 5 (by decide +kernel)) (ev 3 (by decide +kernel))) (wd_or (td_cmp ho_ne op2_ne rfl (c_len B (by decide +kernel) (ed_ix (fun _ _ => rfl) (ev 0 (by decide +kernel)) (ev 4 (by decide +kernel))) (fun _ => rfl)) (ev 2 (by decide +kernel))) (wd_or (td_cmp ho_ne op2_ne rfl (ed_ix (fun _ _ => rfl) (ed_ix (fun _ _ => rfl) (ev 0 (by decide +kernel)) (ev 4 (by decide +kernel))) (ev 5 (by decide +kernel))) ed_int) (wd_or1 (td_tru (c_any B (by decide +kernel) (ed_cut B.tb (ed_ix (fun _ _ => rfl) (ev 0 (by decide +kernel)) (ev 4 (by decide +kernel))) pd_no (pd_some (ev 5 (by decide +kernel)))) (fun _ => rfl)) (fun _ _ => rfl)))))))
 (ssd_one (sd_ret ed_bl))
 ssd_nil)
 (ssd_cons (sd_for (i_rng B (by decide +kernel) (c_len B (by decide +kernel) (ev 0 (by decide +kernel)) (fun _ => rfl)) (fun _ => rfl)) (gv 6 (by decide +kernel)) go_name
 (ssd_one (sd_if (td_bool (wd_and (td_cmp ho_ne op2_ne rfl (ev 6 (by decide +kernel)) (ev 4 (by decide +kernel))) (wd_and1 (td_cmp ho_ne op2_ne rfl (ed_ix (fun _ _ => rfl) (ed_ix (fun _ _ => rfl) (ev 0 (by decide +kernel)) (ev 6 (by decide +kernel))) (ev 5 (by decide +kernel))) ed_int))))
 (ssd_one (sd_ret ed_bl))
 ssd_nil)) (fun _ _ => rfl))
 (ssd_one (s_set 3 (by decide +kernel) (ev 5 (by decide +kernel)) (fun _ _ => rfl)))))) (fun _ _ => rfl))
 (ssd_one (sd_ret ed_bl))))
abbrev s_law : Stmt := topS 42
def N_law : List Str := ["script", "state", "f", "field", "rows", "found", "row", "zeros", "value", "at", "height", "width", "table", "pivots", "k"]
def b_law : DenS :=
 (sSeq (sSet 1 (dCall 1 f__law_state (aCons (dVar 0) aNil)))
 (sSeq (sSet 2 (dCall 1 f__law_some_field (aCons (dVar 1) aNil)))
 (sSeq (sSet 3 (dMake 4 4 2 f_Field___init__ (aCons (dOp2 oIx (dVar 2) (dC (.int 0))) aNil)))
 (sSeq (sPar 10 11 (aCons (dCall 2 f__law_take (aCons (dVar 1) (aCons (dC (.int 5)) aNil))) (aCons (dCall 2 f__law_take (aCons (dVar 1) (aCons (dC (.int 5)) aNil))) aNil)))
 (sSeq (sSet 4 (dCall 4 f__law_lines (aCons (dVar 1) (aCons (dVar 2) (aCons (dVar 10) (aCons (dVar 11) aNil))))))
 (sSeq (sSet 5 (dCall 3 f_reduced (aCons (dVar 3) (aCons (dVar 4) (aCons (dVar 11) aNil)))))
 (sSeq (sIf (tOrD (tNotD (dTru (dIsi "tuple" (dVar 5)))) (dB (dOp2 oNe (dFn cLen (aCons (dVar 5) aNil)) (dC (.int 2)))))
 (sRet (dC (.bl false)))
 sSkip)
 (sSeq (sAsg (dVar 5) (gTupD 2 (gsCons (gN 12) (gsCons (gN 13) gsNil))))
 (sSeq (sIf (tOrD (tNotD (dTru (dIsi "tuple" (dVar 12)))) (tOrD (tNotD (dTru (dIsi "tuple" (dVar 13)))) (dB (dOp2 oNe (dFn cLen (aCons (dVar 12) aNil)) (dFn cLen (aCons (dVar 13) aNil))))))
 (sRet (dC (.bl false)))
 sSkip)
 (sSeq (sIf (tOrD (dB (dOp2 oNe (dFn cLen (aCons (dVar 12) aNil)) (dCall 3 f__law_rank (aCons (dVar 2) (aCons (dVar 4) (aCons (dVar 11) aNil)))))) (tNotD (dTru (dCall 3 f__law_is_reduced (aCons (dVar 12) (aCons (dVar 13) (aCons (dVar 11) aNil)))))))
 (sRet (dC (.bl false)))
 sSkip)
 (sSeq (sFor (iSeq (dVar 4)) (gN 6)
 (sIf (dB (dOp2 oNe (dCall 4 f__law_combined (aCons (dVar 2) (aCons (dVar 12) (aCons (dFrz (lComp (iSeq (dVar 13)) (.n 9) tYesD (dOp2 oIx (dVar 6) (dVar 9)) [9])) (aCons (dVar 11) aNil))))) (dVar 6)))
 (sRet (dC (.bl false)))
 sSkip))
 (sSeq (sIf (tOrD (dB (dOp2 oNe (dCall 3 f_span (aCons (dVar 3) (aCons (dFrz (lList (dVar 4))) (aCons (dVar 11) aNil)))) (dVar 12))) (dB (dOp2 (oIs true) (dCall 3 f_is_space (aCons (dVar 3) (aCons (dVar 12) (aCons (dVar 11) aNil)))) (dC (.bl true)))))
 (sRet (dC (.bl false)))
 sSkip)
 (sSeq (sIf (dB (dOp2 oNe (dCall 3 f_is_space (aCons (dVar 3) (aCons (dVar 4) (aCons (dVar 11) aNil)))) (dOp2 oEq (dVar 4) (dVar 12))))
 (sRet (dC (.bl false)))
 sSkip)
 (sSeq (sSet 7 (dFn cTup (aCons (dFrz (lComp (iRng (dVar 11)) (.n 14) tYesD (dC (.int 0)) [14])) aNil)))
 (sSeq (sFor (iSeq (dTup (aCons (dC .non) (aCons (dFrz (lList (dVar 12))) (aCons (dOp2 oAdd (dVar 12) (dTup (aCons (dVar 7) aNil))) (aCons (dOp2 oAdd (dVar 12) (dTup (aCons (dOp2 oAdd (dVar 7) (dTup (aCons (dC (.int 0)) aNil))) aNil))) (aCons (dC (.int 3)) (aCons (dTup (aCons (dC (.int 3)) aNil)) aNil)))))))) (gN 8)
 (sIf (dB (dOp2 (oIs true) (dCall 3 f_is_space (aCons (dVar 3) (aCons (dVar 8) (aCons (dVar 11) aNil)))) (dC (.bl false))))
 (sRet (dC (.bl false)))
 sSkip))
 (sSeq (sFor (iSeq (dVar 4)) (gN 6)
 (sIf (tOrD (dB (dOp2 (oIs true) (dCall 3 f_is_row (aCons (dVar 3) (aCons (dVar 6) (aCons (dVar 11) aNil)))) (dC (.bl true)))) (tOrD (dTru (dCall 3 f_is_row (aCons (dVar 3) (aCons (dVar 6) (aCons (dOp2 oAdd (dVar 11) (dC (.int 1))) aNil))))) (dTru (dCall 3 f_is_row (aCons (dVar 3) (aCons (dFrz (lList (dVar 6))) (aCons (dVar 11) aNil)))))))
 (sRet (dC (.bl false)))
 sSkip))
 (sSeq (sFor (iSeq (dTup (aCons (dC .non) (aCons (dC (.int 5)) (aCons (dC (.str "00")) (aCons (dOp2 oAdd (dTup (aCons (dOp2 oIx (dVar 2) (dC (.int 0))) aNil)) (dVar 7)) (aCons (dOp2 oAdd (dTup (aCons (dC (.bl true)) aNil)) (dVar 7)) (aCons (dOp2 oAdd (dTup (aCons (dTup aNil) aNil)) (dVar 7)) (aCons (dOp2 oAdd (dTup (aCons (dNeg (dC (.int 1))) aNil)) (dVar 7)) aNil))))))))) (gN 8)
 (sIf (dB (dOp2 (oIs true) (dCall 3 f_is_row (aCons (dVar 3) (aCons (dVar 8) (aCons (dOp2 oAdd (dVar 11) (dC (.int 1))) aNil)))) (dC (.bl false))))
 (sRet (dC (.bl false)))
 sSkip))
 (sSeq (sSet 9 (dCall 2 f__law_take (aCons (dVar 1) (aCons (dOp2 oAdd (dVar 11) (dC (.int 1))) aNil))))
 (sRet (dOp2 oEq (dCall 2 f_unit_row (aCons (dOp2 oAdd (dVar 11) (dC (.int 1))) (aCons (dVar 9) aNil))) (dCall 2 f__law_unit (aCons (dOp2 oAdd (dVar 11) (dC (.int 1))) (aCons (dVar 9) aNil)))))))))))))))))))))))
def f_law : FnS := mkFn 15 b_law
theorem sc_law : FnScope N_law ["script"] (defScope s_law) := ⟨rfl, rfl, rfl, by decide +kernel, rfl, by decide +kernel, by decide +kernel⟩
theorem sd_law {g : Gm} (B : Bl g) (D__law_state : Df g 1 "_law_state" 1 f__law_state) (D__law_some_field : Df g 4 "_law_some_field" 1 f__law_some_field) (K_Field : ClsAt g 4 ["q", "p", "sums", "products"]) (Mk_Field : Mc g 8 4 "Field" 2 f_Field___init__) (D__law_take : Df g 1 "_law_take" 2 f__law_take) (D__law_lines : Df g 3 "_law_lines" 4 f__law_lines) (D_reduced : Df g 7 "reduced" 3 f_reduced) (D__law_rank : Df g 3 "_law_rank" 3 f__law_rank) (D__law_is_reduced : Df g 1 "_law_is_reduced" 3 f__law_is_reduced) (D__law_combined : Df g 2 "_law_combined" 4 f__law_combined) (D_span : Df g 8 "span" 3 f_span) (D_is_space : Df g 9 "is_space" 3 f_is_space) (D_is_row : Df g 3 "is_row" 3 f_is_row) (D_unit_row : Df g 4 "unit_row" 2 f_unit_row) (D__law_unit : Df g 1 "_law_unit" 2 f__law_unit) : SsD g { N := N_law, sc := defScope s_law, n := 9 } b_law (defBody s_law) :=
 (ssd_cons (s_set 1 (by decide +kernel) (c_call D__law_state (by decide +kernel) (by decide +kernel) (ad_cons (ev 0 (by decide +kernel)) ad_nil (fun _ => rfl)) (fun _ => rfl) (fun _ => rfl)) (fun _ _ => rfl))
 (ssd_cons (s_set 2 (by decide +kernel) (c_call D__law_some_field (by decide +kernel) (by decide +kernel) (ad_cons (ev 1 (by decide +kernel)) ad_nil (fun _ => rfl)) (fun _ => rfl) (fun _ => rfl)) (fun _ _ => rfl))
 (ssd_cons (s_set 3 (by decide +kernel) (ed_make B.tb Mk_Field K_Field rfl (by decide) rfl (ad_cons (ed_ix (fun _ _ => rfl) (ev 2 (by decide +kernel)) ed_int) ad_nil (fun _ => rfl)) rfl (fun _ => rfl) (fun _ => rfl)) (fun _ _ => rfl))
 (ssd_cons (sd_par2 (i := 10) (j := 11) rfl rfl (by decide) rfl rfl (ad_cons (c_call D__law_take (by decide +kernel) (by decide +kernel) (ad_cons (ev 1 (by decide +kernel)) (ad_cons ed_int ad_nil (fun _ => rfl)) (fun _ => rfl)) (fun _ => rfl) (fun _ => rfl)) (ad_cons (c_call D__law_take (by decide +kernel) (by decide +kernel) (ad_cons (ev 1 (by decide +kernel)) (ad_cons ed_int ad_nil (fun _ => rfl)) (fun _ => rfl)) (fun _ => rfl) (fun _ => rfl)) ad_nil (fun _ => rfl)) (fun _ => rfl)) (fun env h => by cases env; cases h; rfl) (fun _ => rfl))
 (ssd_cons (s_set 4 (by decide +kernel) (c_call D__law_lines (by decide +kernel) (by decide +kernel) (ad_cons (ev 1 (by decide +kernel)) (ad_cons (ev 2 (by decide +kernel)) (ad_cons (ev 10 (by decide +kernel)) (ad_cons (ev 11 (by decide +kernel)) ad_nil (fun _ => rfl)) (fun _ => rfl)) (fun _ => rfl)) (fun _ => rfl)) (fun _ => rfl) (fun _ => rfl)) (fun _ _ => rfl))
 (ssd_cons (s_set 5 (by decide +kernel) (c_call D_reduced (by decide +kernel) (by decide +kernel) (ad_cons (ev 3 (by decide +kernel)) (ad_cons (ev 4 (by decide +kernel)) (ad_cons (ev 11 (by decide +kernel)) ad_nil (fun _ => rfl)) (fun _ => rfl)) (fun _ => rfl)) (fun _ => rfl) (fun _ => rfl)) (fun _ _ => rfl))
 (ssd_cons (sd_if (td_bool (wd_or (td_not (td_tru (c_isi B (by decide +kernel) (by decide +kernel) (by decide +kernel) (by decide +kernel) (ev 5 (by decide +kernel)) (fun _ => rfl)) (fun _ _ => rfl))) (wd_or1 (td_cmp ho_ne op2_ne rfl (c_len B (by decide +kernel) (ev 5 (by decide +kernel)) (fun _ => rfl)) ed_int))))
 (ssd_one (sd_ret ed_bl))
 ssd_nil)
 (ssd_cons (sd_asg (ev 5 (by decide +kernel)) (gd_tup (gsd_cons (gv 12 (by decide +kernel)) (gsd_cons (gv 13 (by decide +kernel)) gsd_nil (fun _ => rfl)) (fun _ => rfl)) (fun _ => rfl) (fun _ => rfl)) (go_tup (gos_cons go_name (gos_cons go_name gos_nil))) (fun _ => rfl) (fun env h => by cases env; cases h; rfl) (fun _ => rfl))
 (ssd_cons (sd_if (td_bool (wd_or (td_not (td_tru (c_isi B (by decide +kernel) (by decide +kernel) (by decide +kernel) (by decide +kernel) (ev 12 (by decide +kernel)) (fun _ => rfl)) (fun _ _ => rfl))) (wd_or (td_not (td_tru (c_isi B (by decide +kernel) (by decide +kernel) (by decide +kernel) (by decide +kernel) (ev 13 (by decide +kernel)) (fun _ => rfl)) (fun _ _ => rfl))) (wd_or1 (td_cmp ho_ne op2_ne rfl (c_len B (by decide +kernel) (ev 12 (by decide +kernel)) (fun _ => rfl)) (c_len B (by decide +kernel) (ev 13 (by decide +kernel)) (fun _ => rfl)))))))
 (ssd_one (sd_ret ed_bl))
 ssd_nil)
 (ssd_cons (sd_if (td_bool (wd_or (td_cmp ho_ne op2_ne rfl (c_len B (by decide +kernel) (ev 12 (by decide +kernel)) (fun _ => rfl)) (c_call D__law_rank (by decide +kernel) (by decide +kernel) (ad_cons (ev 2 (by decide +kernel)) (ad_cons (ev 4 (by decide +kernel)) (ad_cons (ev 11 (by decide +kernel)) ad_nil (fun _ => rfl)) (fun _ => rfl)) (fun _ => rfl)) (fun _ => rfl) (fun _ => rfl))) (wd_or1 (td_not (td_tru (c_call D__law_is_reduced (by decide +kernel) (by decide +kernel) (ad_cons (ev 12 (by decide +kernel)) (ad_cons (ev 13 (by decide +kernel)) (ad_cons (ev 11 (by decide +kernel)) ad_nil (fun _ => rfl)) (fun _ => rfl)) (fun _ => rfl)) (fun _ => rfl) (fun _ => rfl)) (fun _ _ => rfl))))))
 (ssd_one (sd_ret ed_bl))
 ssd_nil)
 (ssd_cons (sd_for (id_seq (ev 4 (by decide +kernel))) (gv 6 (by decide +kernel)) go_name
 (ssd_one (sd_if (td_cmp ho_ne op2_ne rfl (c_call D__law_combined (by decide +kernel) (by decide +kernel) (ad_cons (ev 2 (by decide +kernel)) (ad_cons (ev 12 (by decide +kernel)) (ad_cons (ed_frz (ld_comp (own := [("at", 9)]) B.tb (id_seq (ev 13 (by decide +kernel))) (by decide +kernel) rfl (pt_n (by decide +kernel)) tsd_nil (ed_ix (fun _ _ => rfl) (ev 6 (by decide +kernel)) (ev 9 (by decide +kernel))) (by decide +kernel) (fun _ _ => rfl))) (ad_cons (ev 11 (by decide +kernel)) ad_nil (fun _ => rfl)) (fun _ => rfl)) (fun _ => rfl)) (fun _ => rfl)) (fun _ => rfl) (fun _ => rfl)) (ev 6 (by decide +kernel)))
 (ssd_one (sd_ret ed_bl))
 ssd_nil)) (fun _ _ => rfl))
 (ssd_cons (sd_if (td_bool (wd_or (td_cmp ho_ne op2_ne rfl (c_call D_span (by decide +kernel) (by decide +kernel) (ad_cons (ev 3 (by decide +kernel)) (ad_cons (ed_frz (c_list B (by decide +kernel) (ev 4 (by decide +kernel)) (fun _ => rfl))) (ad_cons (ev 11 (by decide +kernel)) ad_nil (fun _ => rfl)) (fun _ => rfl)) (fun _ => rfl)) (fun _ => rfl) (fun _ => rfl)) (ev 12 (by decide +kernel))) (wd_or1 (td_cmp ho_isnot (op2_is true) rfl (c_call D_is_space (by decide +kernel) (by decide +kernel) (ad_cons (ev 3 (by decide +kernel)) (ad_cons (ev 12 (by decide +kernel)) (ad_cons (ev 11 (by decide +kernel)) ad_nil (fun _ => rfl)) (fun _ => rfl)) (fun _ => rfl)) (fun _ => rfl) (fun _ => rfl)) ed_bl))))
 (ssd_one (sd_ret ed_bl))
 ssd_nil)
 (ssd_cons (sd_if (td_cmp ho_ne op2_ne rfl (c_call D_is_space (by decide +kernel) (by decide +kernel) (ad_cons (ev 3 (by decide +kernel)) (ad_cons (ev 4 (by decide +kernel)) (ad_cons (ev 11 (by decide +kernel)) ad_nil (fun _ => rfl)) (fun _ => rfl)) (fun _ => rfl)) (fun _ => rfl) (fun _ => rfl)) (ed_cmp ho_eq op2_eq rfl (ev 4 (by decide +kernel)) (ev 12 (by decide +kernel))))
 (ssd_one (sd_ret ed_bl))
 ssd_nil)
 (ssd_cons (s_set 7 (by decide +kernel) (c_tup B (by decide +kernel) (ed_frz (ld_comp (own := [("k", 14)]) B.tb (i_rng B (by decide +kernel) (ev 11 (by decide +kernel)) (fun _ => rfl)) (by decide +kernel) rfl (pt_n (by decide +kernel)) tsd_nil ed_int (by decide +kernel) (fun _ _ => rfl))) (fun _ => rfl)) (fun _ _ => rfl))
 (ssd_cons (sd_for (id_seq (ed_tup B.tb (ad_cons ed_non (ad_cons (ed_frz (c_list B (by decide +kernel) (ev 12 (by decide +kernel)) (fun _ => rfl))) (ad_cons (ed_add B.tb (ev 12 (by decide +kernel)) (ed_tup B.tb (ad_cons (ev 7 (by decide +kernel)) ad_nil (fun _ => rfl)))) (ad_cons (ed_add B.tb (ev 12 (by decide +kernel)) (ed_tup B.tb (ad_cons (ed_add B.tb (ev 7 (by decide +kernel)) (ed_tup B.tb (ad_cons ed_int ad_nil (fun _ => rfl)))) ad_nil (fun _ => rfl)))) (ad_cons ed_int (ad_cons (ed_tup B.tb (ad_cons ed_int ad_nil (fun _ => rfl))) ad_nil (fun _ => rfl)) (fun _ => rfl)) (fun _ => rfl)) (fun _ => rfl)) (fun _ => rfl)) (fun _ => rfl)))) (gv 8 (by decide +kernel)) go_name
 (ssd_one (sd_if (td_cmp ho_isnot (op2_is true) rfl (c_call D_is_space (by decide +kernel) (by decide +kernel) (ad_cons (ev 3 (by decide +kernel)) (ad_cons (ev 8 (by decide +kernel)) (ad_cons (ev 11 (by decide +kernel)) ad_nil (fun _ => rfl)) (fun _ => rfl)) (fun _ => rfl)) (fun _ => rfl) (fun _ => rfl)) ed_bl)
 (ssd_one (sd_ret ed_bl))
 ssd_nil)) (fun _ _ => rfl))
 (ssd_cons (sd_for (id_seq (ev 4 (by decide +kernel))) (gv 6 (by decide +kernel)) go_name
 (ssd_one (sd_if (td_bool (wd_or (td_cmp ho_isnot (op2_is true) rfl (c_call D_is_row (by decide +kernel) (by decide +kernel) (ad_cons (ev 3 (by decide +kernel)) (ad_cons (ev 6 (by decide +kernel)) (ad_cons (ev 11 (by decide +kernel)) ad_nil (fun _ => rfl)) (fun _ => rfl)) (fun _ => rfl)) (fun _ => rfl) (fun _ => rfl)) ed_bl) (wd_or (td_tru (c_call D_is_row (by decide +kernel) (by decide +kernel) (ad_cons (ev 3 (by decide +kernel)) (ad_cons (ev 6 (by decide +kernel)) (ad_cons (ed_add B.tb (ev 11 (by decide +kernel)) ed_int) ad_nil (fun _ => rfl)) (fun _ => rfl)) (fun _ => rfl)) (fun _ => rfl) (fun _ => rfl)) (fun _ _ => rfl)) (wd_or1 (td_tru (c_call D_is_row (by decide +kernel) (by decide +kernel) (ad_cons (ev 3 (by decide +kernel)) (ad_cons (ed_frz (c_list B (by decide +kernel) (ev 6 (by decide +kernel)) (fun _ => rfl))) (ad_cons (ev 11 (by decide +kernel)) ad_nil (fun _ => rfl)) (fun _ => rfl)) (fun _ => rfl)) (fun _ => rfl) (fun _ => rfl)) (fun _ _ => rfl))))))
 (ssd_one (sd_ret ed_bl))
 ssd_nil)) (fun _ _ => rfl))
 (ssd_cons (sd_for (id_seq (ed_tup B.tb (ad_cons ed_non (ad_cons ed_int (ad_cons ed_str (ad_cons (ed_add B.tb (ed_tup B.tb (ad_cons (ed_ix (fun _ _ => rfl) (ev 2 (by decide +kernel)) ed_int) ad_nil (fun _ => rfl))) (ev 7 (by decide +kernel))) (ad_cons (ed_add B.tb (ed_tup B.tb (ad_cons ed_bl ad_nil (fun _ => rfl))) (ev 7 (by decide +kernel))) (ad_cons (ed_add B.tb (ed_tup B.tb (ad_cons (ed_tup B.tb ad_nil) ad_nil (fun _ => rfl))) (ev 7 (by decide +kernel))) (ad_cons (ed_add B.tb (ed_tup B.tb (ad_cons (ed_neg ed_int) ad_nil (fun _ => rfl))) (ev 7 (by decide +kernel))) ad_nil (fun _ => rfl)) (fun _ => rfl)) (fun _ => rfl)) (fun _ => rfl)) (fun _ => rfl)) (fun _ => rfl)) (fun _ => rfl)))) (gv 8 (by decide +kernel)) go_name
 (ssd_one (sd_if (td_cmp ho_isnot (op2_is true) rfl (c_call D_is_row (by decide +kernel) (by decide +kernel) (ad_cons (ev 3 (by decide +kernel)) (ad_cons (ev 8 (by decide +kernel)) (ad_cons (ed_add B.tb (ev 11 (by decide +kernel)) ed_int) ad_nil (fun _ => rfl)) (fun _ => rfl)) (fun _ => rfl)) (fun _ => rfl) (fun _ => rfl)) ed_bl)
 (ssd_one (sd_ret ed_bl))
 ssd_nil)) (fun _ _ => rfl))
 (ssd_cons (s_set 9 (by decide +kernel) (c_call D__law_take (by decide +kernel) (by decide +kernel) (ad_cons (ev 1 (by decide +kernel)) (ad_cons (ed_add B.tb (ev 11 (by decide +kernel)) ed_int) ad_nil (fun _ => rfl)) (fun _ => rfl)) (fun _ => rfl) (fun _ => rfl)) (fun _ _ => rfl))
 (ssd_one (sd_ret (ed_cmp ho_eq op2_eq rfl (c_call D_unit_row (by decide +kernel) (by decide +kernel) (ad_cons (ed_add B.tb (ev 11 (by decide +kernel)) ed_int) (ad_cons (ev 9 (by decide +kernel)) ad_nil (fun _ => rfl)) (fun _ => rfl)) (fun _ => rfl) (fun _ => rfl)) (c_call D__law_unit (by decide +kernel) (by decide +kernel) (ad_cons (ed_add B.tb (ev 11 (by decide +kernel)) ed_int) (ad_cons (ev 9 (by decide +kernel)) ad_nil (fun _ => rfl)) (fun _ => rfl)) (fun _ => rfl) (fun _ => rfl)))))))))))))))))))))))
theorem bi_is_integer : BindM "is_integer" "is_integer" s_is_integer ["value"] := fun _ _ _ _ _ _ us hl => match us, hl with | [_], _ => rfl
theorem bi_Field_is_number : BindM "is_number" "Field.is_number" s_Field_is_number ["self", "value"] := fun _ _ _ _ _ _ us hl => match us, hl with | [_, _], _ => rfl
theorem bi_is_row : BindM "is_row" "is_row" s_is_row ["field", "value", "n"] := fun _ _ _ _ _ _ us hl => match us, hl with | [_, _, _], _ => rfl
theorem bi_unit_row : BindM "unit_row" "unit_row" s_unit_row ["n", "i"] := fun _ _ _ _ _ _ us hl => match us, hl with | [_, _], _ => rfl
theorem bi_scaled : BindM "scaled" "scaled" s_scaled ["field", "v", "c"] := fun _ _ _ _ _ _ us hl => match us, hl with | [_, _, _], _ => rfl
theorem bi_add : BindM "add" "add" s_add ["field", "v", "w"] := fun _ _ _ _ _ _ us hl => match us, hl with | [_, _, _], _ => rfl
theorem bi_add_multiple : BindM "add_multiple" "add_multiple" s_add_multiple ["field", "v", "c", "w"] := fun _ _ _ _ _ _ us hl => match us, hl with | [_, _, _, _], _ => rfl
theorem bi_Field_negative : BindM "negative" "Field.negative" s_Field_negative ["self", "a"] := fun _ _ _ _ _ _ us hl => match us, hl with | [_, _], _ => rfl
theorem bi__cleared : BindM "_cleared" "_cleared" s__cleared ["field", "rows", "head", "place"] := fun _ _ _ _ _ _ us hl => match us, hl with | [_, _, _, _], _ => rfl
theorem bi_Field_inverse : BindM "inverse" "Field.inverse" s_Field_inverse ["self", "a"] := fun _ _ _ _ _ _ us hl => match us, hl with | [_, _], _ => rfl
theorem bi_reduced : BindM "reduced" "reduced" s_reduced ["field", "rows", "width"] := fun _ _ _ _ _ _ us hl => match us, hl with | [_, _, _], _ => rfl
theorem bi_span : BindM "span" "span" s_span ["field", "rows", "width"] := fun _ _ _ _ _ _ us hl => match us, hl with | [_, _, _], _ => rfl
theorem bi_is_space : BindM "is_space" "is_space" s_is_space ["field", "value", "width"] := fun _ _ _ _ _ _ us hl => match us, hl with | [_, _, _], _ => rfl
theorem bi__sum_of : BindM "_sum_of" "_sum_of" s__sum_of ["p", "a", "b"] := fun _ _ _ _ _ _ us hl => match us, hl with | [_, _, _], _ => rfl
theorem bi__product_of : BindM "_product_of" "_product_of" s__product_of ["p", "square", "a", "b"] := fun _ _ _ _ _ _ us hl => match us, hl with | [_, _, _, _], _ => rfl
theorem bi_Field___init__ : BindM "__init__" "Field.__init__" s_Field___init__ ["self", "q"] := fun _ _ _ _ _ _ us hl => match us, hl with | [_, _], _ => rfl
theorem bi__law_state : BindM "_law_state" "_law_state" s__law_state ["script"] := fun _ _ _ _ _ _ us hl => match us, hl with | [_], _ => rfl
theorem bi__law_take : BindM "_law_take" "_law_take" s__law_take ["state", "m"] := fun _ _ _ _ _ _ us hl => match us, hl with | [_, _], _ => rfl
theorem bi__law_sum : BindM "_law_sum" "_law_sum" s__law_sum ["f", "v", "w"] := fun _ _ _ _ _ _ us hl => match us, hl with | [_, _, _], _ => rfl
theorem bi__law_times : BindM "_law_times" "_law_times" s__law_times ["f", "v", "c"] := fun _ _ _ _ _ _ us hl => match us, hl with | [_, _, _], _ => rfl
theorem bi__law_combined : BindM "_law_combined" "_law_combined" s__law_combined ["f", "rows", "weights", "n"] := fun _ _ _ _ _ _ us hl => match us, hl with | [_, _, _, _], _ => rfl
theorem bi__law_unit : BindM "_law_unit" "_law_unit" s__law_unit ["n", "i"] := fun _ _ _ _ _ _ us hl => match us, hl with | [_, _], _ => rfl
theorem bi__law_mul : BindM "_law_mul" "_law_mul" s__law_mul ["f", "a", "b"] := fun _ _ _ _ _ _ us hl => match us, hl with | [_, _, _], _ => rfl
theorem bi__law_negative : BindM "_law_negative" "_law_negative" s__law_negative ["f", "a"] := fun _ _ _ _ _ _ us hl => match us, hl with | [_, _], _ => rfl
theorem bi__law_inverse : BindM "_law_inverse" "_law_inverse" s__law_inverse ["f", "a"] := fun _ _ _ _ _ _ us hl => match us, hl with | [_, _], _ => rfl
theorem bi__law_cleared : BindM "_law_cleared" "_law_cleared" s__law_cleared ["f", "row", "lead", "at"] := fun _ _ _ _ _ _ us hl => match us, hl with | [_, _, _, _], _ => rfl
theorem bi__law_rank : BindM "_law_rank" "_law_rank" s__law_rank ["f", "rows", "width"] := fun _ _ _ _ _ _ us hl => match us, hl with | [_, _, _], _ => rfl
theorem bi__law_any_row : BindM "_law_any_row" "_law_any_row" s__law_any_row ["state", "f", "n"] := fun _ _ _ _ _ _ us hl => match us, hl with | [_, _, _], _ => rfl
theorem bi__law_lines : BindM "_law_lines" "_law_lines" s__law_lines ["state", "f", "height", "width"] := fun _ _ _ _ _ _ us hl => match us, hl with | [_, _, _, _], _ => rfl
theorem bi__law_prime : BindM "_law_prime" "_law_prime" s__law_prime ["q"] := fun _ _ _ _ _ _ us hl => match us, hl with | [_], _ => rfl
theorem bi__law_joined : BindM "_law_joined" "_law_joined" s__law_joined ["q", "low", "high"] := fun _ _ _ _ _ _ us hl => match us, hl with | [_, _, _], _ => rfl
theorem bi__law_field : BindM "_law_field" "_law_field" s__law_field ["q"] := fun _ _ _ _ _ _ us hl => match us, hl with | [_], _ => rfl
theorem bi__law_some_field : BindM "_law_some_field" "_law_some_field" s__law_some_field ["state"] := fun _ _ _ _ _ _ us hl => match us, hl with | [_], _ => rfl
theorem bi__law_is_reduced : BindM "_law_is_reduced" "_law_is_reduced" s__law_is_reduced ["table", "pivots", "width"] := fun _ _ _ _ _ _ us hl => match us, hl with | [_, _, _], _ => rfl
theorem bi_law : BindM "law" "law" s_law ["script"] := fun _ _ _ _ _ _ us hl => match us, hl with | [_], _ => rfl
abbrev s_Refused___init__ : Stmt := inS (topS 4) 0
theorem sc_Refused___init__ : FnScope ["self", "reason"] ["self", "reason"] (defScope s_Refused___init__) := ⟨rfl, rfl, rfl, by decide +kernel, rfl, by decide +kernel, by decide +kernel⟩
theorem bi_Refused___init__ : BindM "__init__" "Refused.__init__" s_Refused___init__ ["self", "reason"] := fun _ _ _ _ _ _ us hl => match us, hl with | [_, _], _ => rfl
abbrev TT (a_Fault a_Malformed a_Refused a_Field : Addr) : CT := ⟨fun c => ([a_Fault, a_Malformed, a_Refused, 0, a_Field] : List Addr).getD c 0, fun c => ([[], [], ["reason"], [], ["q", "p", "sums", "products"]] : List (List Str)).getD c []⟩
theorem all {P : Program} {w : World} {K : PySem.W.Frag} {mg : Str → Option Value} {h : Heap} {fa a_Fault a_Malformed a_Refused a_Field k_CHARACTERISTICS k_SQUARES_OF_T : Addr} (KX : K.In h) (G : h.Ns mainGlobals mg) (hm : mg "law" = some (.ref fa)) (z0 : PySem.W.nsIn K mainGlobals "len" = some none) (z1 : PySem.W.nsIn K mainGlobals "range" = some none) (z2 : PySem.W.nsIn K mainGlobals "int" = some none) (z3 : PySem.W.nsIn K mainGlobals "abs" = some none) (z4 : PySem.W.nsIn K mainGlobals "tuple" = some none) (z5 : PySem.W.nsIn K mainGlobals "list" = some none) (z6 : PySem.W.nsIn K mainGlobals "isinstance" = some none) (z7 : PySem.W.nsIn K mainGlobals "bool" = some none) (z8 : PySem.W.nsIn K mainGlobals "str" = some none) (z9 : PySem.W.nsIn K mainGlobals "any" = some none) (z10 : PySem.W.nsIn K mainGlobals "all" = some none) (z11 : PySem.W.nsIn K mainGlobals "zip" = some none) (z12 : PySem.W.nsIn K mainGlobals "enumerate" = some none) (z13 : PySem.W.nsIn K mainGlobals "sorted" = some none) (z14 : PySem.W.nsIn K mainGlobals "divmod" = some none) (z15 : PySem.W.nsIn K mainGlobals "min" = some none) (z16 : PySem.W.nsIn K mainGlobals "max" = some none) (z17 : PySem.W.nsIn K mainGlobals "sum" = some none) (z18 : PySem.W.nsIn K mainGlobals "reversed" = some none) (zv : PySem.W.nsIn K mainGlobals "ValueError" = some none) (n_Fault : PySem.W.nsIn K mainGlobals "Fault" = some (some (.ref a_Fault))) (n_Malformed : PySem.W.nsIn K mainGlobals "Malformed" = some (some (.ref a_Malformed))) (n_Refused : PySem.W.nsIn K mainGlobals "Refused" = some (some (.ref a_Refused))) (n_Field : PySem.W.nsIn K mainGlobals "Field" = some (some (.ref a_Field))) (n_CHARACTERISTICS : PySem.W.nsIn K mainGlobals "CHARACTERISTICS" = some (some (.ref k_CHARACTERISTICS))) (t_CHARACTERISTICS : kdB K k_CHARACTERISTICS [(2, .int 2), (3, .int 3), (4, .int 2), (5, .int 5), (7, .int 7), (9, .int 3)] = true) (n_SQUARES_OF_T : PySem.W.nsIn K mainGlobals "SQUARES_OF_T" = some (some (.ref k_SQUARES_OF_T))) (t_SQUARES_OF_T : kdB K k_SQUARES_OF_T [(4, .tup [.int 1, .int 1]), (9, .tup [.int 2, .int 0])] = true) (d_is_integer : Dd K "is_integer" s_is_integer) (d_Field_is_number : Dm K a_Field "is_number" "Field.is_number" s_Field_is_number) (d_is_row : Dd K "is_row" s_is_row) (d_unit_row : Dd K "unit_row" s_unit_row) (t_unit_row : tabB K (gAt K "unit_row") = true) (d_scaled : Dd K "scaled" s_scaled) (t_scaled : tabB K (gAt K "scaled") = true) (d_add : Dd K "add" s_add) (t_add : tabB K (gAt K "add") = true) (d_add_multiple : Dd K "add_multiple" s_add_multiple) (d_Field_negative : Dm K a_Field "negative" "Field.negative" s_Field_negative) (d__cleared : Dd K "_cleared" s__cleared) (d_Field_inverse : Dm K a_Field "inverse" "Field.inverse" s_Field_inverse) (d_reduced : Dd K "reduced" s_reduced) (d_span : Dd K "span" s_span) (d_is_space : Dd K "is_space" s_is_space) (d__sum_of : Dd K "_sum_of" s__sum_of) (d__product_of : Dd K "_product_of" s__product_of) (d_Field___init__ : Dm K a_Field "__init__" "Field.__init__" s_Field___init__) (t_Field___init__ : tabB K (mAt K a_Field "__init__") = true) (d__law_state : Dd K "_law_state" s__law_state) (d__law_take : Dd K "_law_take" s__law_take) (d__law_sum : Dd K "_law_sum" s__law_sum) (d__law_times : Dd K "_law_times" s__law_times) (d__law_combined : Dd K "_law_combined" s__law_combined) (d__law_unit : Dd K "_law_unit" s__law_unit) (d__law_mul : Dd K "_law_mul" s__law_mul) (d__law_negative : Dd K "_law_negative" s__law_negative) (d__law_inverse : Dd K "_law_inverse" s__law_inverse) (d__law_cleared : Dd K "_law_cleared" s__law_cleared) (d__law_rank : Dd K "_law_rank" s__law_rank) (d__law_any_row : Dd K "_law_any_row" s__law_any_row) (d__law_lines : Dd K "_law_lines" s__law_lines) (d__law_prime : Dd K "_law_prime" s__law_prime) (d__law_joined : Dd K "_law_joined" s__law_joined) (d__law_field : Dd K "_law_field" s__law_field) (d__law_some_field : Dd K "_law_some_field" s__law_some_field) (d__law_is_reduced : Dd K "_law_is_reduced" s__law_is_reduced) (d_law : Dd K "law" s_law) (b_Field : clsB K a_Field ["q", "p", "sums", "products"] = true) (o_Refused : ExcO K a_Refused) (e_Refused : exbB K a_Refused "reason" = true) (d_Refused___init__ : Dm K a_Refused "__init__" "Refused.__init__" s_Refused___init__) (e_Malformed : exaB K a_Malformed = true)
  (hf : ∀ ns : List Int, ns.length ≤ 63 → ∃ s', f_law [.lst (ns.map PV.int)] [] = .ok (.bl true) s') :
  ∃ fd : FuncData, (∀ (s : Shared) (u : Value), BindsTo s fd ⟨[u], []⟩ [("script", u)]) ∧ ∀ base : Heap, K.In base → base.Ns mainGlobals mg → (∀ p ∈ csOf K, LamX.TabB base mg p.1 p.2) → FnOk P w K mg base (L2.CX P w) 10 fa fd ["script"] (spLawT K) :=
  law_endT (T := (TT a_Fault a_Malformed a_Refused a_Field)) (D := 4) (D' := 0) KX G hm d_law (by decide) (fun z => absurd z (Nat.lt_irrefl _)) sc_law bi_law (fun base kb nb Gg => by
    have B : Bl ⟨P, w, K, mg, base, (TT a_Fault a_Malformed a_Refused a_Field), tbOf K 4⟩ := ⟨tbOf_ok (g := ⟨P, w, K, mg, base, (TT a_Fault a_Malformed a_Refused a_Field), tbOf K 4⟩) rfl, bl_n KX G ⟨z0, z1, z2, z3, z4, z5, z6, z7, z8, z9, z10, z11, z12, z13, z14, z15, z16, z17, z18⟩⟩
    have TG : TbGrow ⟨P, w, K, mg, base, (TT a_Fault a_Malformed a_Refused a_Field), tbOf K 4⟩ := tbOf_grow rfl
    have K_Field := clsAt_of (g := ⟨P, w, K, mg, base, (TT a_Fault a_Malformed a_Refused a_Field), tbOf K 4⟩) (c := 4) (clsX_of b_Field) rfl (by decide)
    have XB_Refused := exB_of (g := ⟨P, w, K, mg, base, (TT a_Fault a_Malformed a_Refused a_Field), tbOf K 4⟩) (c := 2) (PySem.W.mg_of KX G n_Refused) rfl o_Refused e_Refused d_Refused___init__ sc_Refused___init__ bi_Refused___init__ rfl (by decide +kernel) (by decide +kernel) rfl rfl rfl rfl (fun _ => rfl)
    have KD_CHARACTERISTICS := kdc_of (g := ⟨P, w, K, mg, base, (TT a_Fault a_Malformed a_Refused a_Field), tbOf K 4⟩) (PySem.W.mg_of KX G n_CHARACTERISTICS) t_CHARACTERISTICS
    have XA_Malformed := exA_of (g := ⟨P, w, K, mg, base, (TT a_Fault a_Malformed a_Refused a_Field), tbOf K 4⟩) (c := 1) (PySem.W.mg_of KX G n_Malformed) rfl e_Malformed
    have KD_SQUARES_OF_T := kdc_of (g := ⟨P, w, K, mg, base, (TT a_Fault a_Malformed a_Refused a_Field), tbOf K 4⟩) (PySem.W.mg_of KX G n_SQUARES_OF_T) t_SQUARES_OF_T
    have D_is_integer := df_ofT (g := ⟨P, w, K, mg, base, (TT a_Fault a_Malformed a_Refused a_Field), tbOf K 4⟩) (D := 0) kb nb (fun _ => ⟨4, by decide, Gg⟩) d_is_integer (fun z => absurd z (Nat.lt_irrefl _)) sc_is_integer bi_is_integer (sd_is_integer B)
    have M_Field_is_number := mf_of (g := ⟨P, w, K, mg, base, (TT a_Fault a_Malformed a_Refused a_Field), tbOf K 4⟩) (c := 4) (D := 0) (fun _ => ⟨4, by decide, Gg⟩) K_Field (by decide) d_Field_is_number (fun z => absurd z (Nat.lt_irrefl _)) sc_Field_is_number bi_Field_is_number (sd_Field_is_number B D_is_integer K_Field)
    have D_is_row := df_ofT (g := ⟨P, w, K, mg, base, (TT a_Fault a_Malformed a_Refused a_Field), tbOf K 4⟩) (D := 0) kb nb (fun _ => ⟨4, by decide, Gg⟩) d_is_row (fun z => absurd z (Nat.lt_irrefl _)) sc_is_row bi_is_row (sd_is_row B K_Field M_Field_is_number)
    have D_unit_row := df_ofT (g := ⟨P, w, K, mg, base, (TT a_Fault a_Malformed a_Refused a_Field), tbOf K 4⟩) (D := 1) kb nb (fun _ => ⟨4, by decide, Gg⟩) d_unit_row (fun _ => t_unit_row) sc_unit_row bi_unit_row (sd_unit_row B TG)
    have D_scaled := df_ofT (g := ⟨P, w, K, mg, base, (TT a_Fault a_Malformed a_Refused a_Field), tbOf K 4⟩) (D := 1) kb nb (fun _ => ⟨4, by decide, Gg⟩) d_scaled (fun _ => t_scaled) sc_scaled bi_scaled (sd_scaled B K_Field TG)
    have D_add := df_ofT (g := ⟨P, w, K, mg, base, (TT a_Fault a_Malformed a_Refused a_Field), tbOf K 4⟩) (D := 1) kb nb (fun _ => ⟨4, by decide, Gg⟩) d_add (fun _ => t_add) sc_add bi_add (sd_add B K_Field TG)
    have D_add_multiple := df_ofT (g := ⟨P, w, K, mg, base, (TT a_Fault a_Malformed a_Refused a_Field), tbOf K 4⟩) (D := 0) kb nb (fun _ => ⟨4, by decide, Gg⟩) d_add_multiple (fun z => absurd z (Nat.lt_irrefl _)) sc_add_multiple bi_add_multiple (sd_add_multiple B D_scaled D_add)
    have M_Field_negative := mf_of (g := ⟨P, w, K, mg, base, (TT a_Fault a_Malformed a_Refused a_Field), tbOf K 4⟩) (c := 4) (D := 0) (fun _ => ⟨4, by decide, Gg⟩) K_Field (by decide) d_Field_negative (fun z => absurd z (Nat.lt_irrefl _)) sc_Field_negative bi_Field_negative (sd_Field_negative B K_Field)
    have D__cleared := df_ofT (g := ⟨P, w, K, mg, base, (TT a_Fault a_Malformed a_Refused a_Field), tbOf K 4⟩) (D := 0) kb nb (fun _ => ⟨4, by decide, Gg⟩) d__cleared (fun z => absurd z (Nat.lt_irrefl _)) sc__cleared bi__cleared (sd__cleared B K_Field M_Field_negative D_add_multiple)
    have M_Field_inverse := mf_of (g := ⟨P, w, K, mg, base, (TT a_Fault a_Malformed a_Refused a_Field), tbOf K 4⟩) (c := 4) (D := 0) (fun _ => ⟨4, by decide, Gg⟩) K_Field (by decide) d_Field_inverse (fun z => absurd z (Nat.lt_irrefl _)) sc_Field_inverse bi_Field_inverse (sd_Field_inverse B XB_Refused K_Field)
    have D_reduced := df_ofT (g := ⟨P, w, K, mg, base, (TT a_Fault a_Malformed a_Refused a_Field), tbOf K 4⟩) (D := 0) kb nb (fun _ => ⟨4, by decide, Gg⟩) d_reduced (fun z => absurd z (Nat.lt_irrefl _)) sc_reduced bi_reduced (sd_reduced B K_Field M_Field_inverse D_scaled D__cleared)
    have D_span := df_ofT (g := ⟨P, w, K, mg, base, (TT a_Fault a_Malformed a_Refused a_Field), tbOf K 4⟩) (D := 0) kb nb (fun _ => ⟨4, by decide, Gg⟩) d_span (fun z => absurd z (Nat.lt_irrefl _)) sc_span bi_span (sd_span B D_reduced)
    have D_is_space := df_ofT (g := ⟨P, w, K, mg, base, (TT a_Fault a_Malformed a_Refused a_Field), tbOf K 4⟩) (D := 0) kb nb (fun _ => ⟨4, by decide, Gg⟩) d_is_space (fun z => absurd z (Nat.lt_irrefl _)) sc_is_space bi_is_space (sd_is_space B D_is_row D_span)
    have D__sum_of := df_ofT (g := ⟨P, w, K, mg, base, (TT a_Fault a_Malformed a_Refused a_Field), tbOf K 4⟩) (D := 0) kb nb (fun _ => ⟨4, by decide, Gg⟩) d__sum_of (fun z => absurd z (Nat.lt_irrefl _)) sc__sum_of bi__sum_of (sd__sum_of B)
    have D__product_of := df_ofT (g := ⟨P, w, K, mg, base, (TT a_Fault a_Malformed a_Refused a_Field), tbOf K 4⟩) (D := 0) kb nb (fun _ => ⟨4, by decide, Gg⟩) d__product_of (fun z => absurd z (Nat.lt_irrefl _)) sc__product_of bi__product_of (sd__product_of B)
    have Mk_Field := mc_of (g := ⟨P, w, K, mg, base, (TT a_Fault a_Malformed a_Refused a_Field), tbOf K 4⟩) (c := 4) (D := 2) (fun _ => ⟨4, by decide, Gg⟩) (PySem.W.mg_of KX G n_Field) (clsX_of b_Field).mkC (clsX_of b_Field).kp d_Field___init__ (fun _ => t_Field___init__) sc_Field___init__ bi_Field___init__ (sd_Field___init__ B D_is_integer KD_CHARACTERISTICS XA_Malformed KD_SQUARES_OF_T K_Field D__sum_of TG D__product_of)
    have D__law_state := df_ofT (g := ⟨P, w, K, mg, base, (TT a_Fault a_Malformed a_Refused a_Field), tbOf K 4⟩) (D := 0) kb nb (fun _ => ⟨4, by decide, Gg⟩) d__law_state (fun z => absurd z (Nat.lt_irrefl _)) sc__law_state bi__law_state (sd__law_state B)
    have D__law_take := df_ofT (g := ⟨P, w, K, mg, base, (TT a_Fault a_Malformed a_Refused a_Field), tbOf K 4⟩) (D := 0) kb nb (fun _ => ⟨4, by decide, Gg⟩) d__law_take (fun z => absurd z (Nat.lt_irrefl _)) sc__law_take bi__law_take (sd__law_take B)
    have D__law_sum := df_ofT (g := ⟨P, w, K, mg, base, (TT a_Fault a_Malformed a_Refused a_Field), tbOf K 4⟩) (D := 0) kb nb (fun _ => ⟨4, by decide, Gg⟩) d__law_sum (fun z => absurd z (Nat.lt_irrefl _)) sc__law_sum bi__law_sum (sd__law_sum B)
    have D__law_times := df_ofT (g := ⟨P, w, K, mg, base, (TT a_Fault a_Malformed a_Refused a_Field), tbOf K 4⟩) (D := 0) kb nb (fun _ => ⟨4, by decide, Gg⟩) d__law_times (fun z => absurd z (Nat.lt_irrefl _)) sc__law_times bi__law_times (sd__law_times B)
    have D__law_combined := df_ofT (g := ⟨P, w, K, mg, base, (TT a_Fault a_Malformed a_Refused a_Field), tbOf K 4⟩) (D := 0) kb nb (fun _ => ⟨4, by decide, Gg⟩) d__law_combined (fun z => absurd z (Nat.lt_irrefl _)) sc__law_combined bi__law_combined (sd__law_combined B D__law_times D__law_sum)
    have D__law_unit := df_ofT (g := ⟨P, w, K, mg, base, (TT a_Fault a_Malformed a_Refused a_Field), tbOf K 4⟩) (D := 0) kb nb (fun _ => ⟨4, by decide, Gg⟩) d__law_unit (fun z => absurd z (Nat.lt_irrefl _)) sc__law_unit bi__law_unit (sd__law_unit B)
    have D__law_mul := df_ofT (g := ⟨P, w, K, mg, base, (TT a_Fault a_Malformed a_Refused a_Field), tbOf K 4⟩) (D := 0) kb nb (fun _ => ⟨4, by decide, Gg⟩) d__law_mul (fun z => absurd z (Nat.lt_irrefl _)) sc__law_mul bi__law_mul (sd__law_mul B)
    have D__law_negative := df_ofT (g := ⟨P, w, K, mg, base, (TT a_Fault a_Malformed a_Refused a_Field), tbOf K 4⟩) (D := 0) kb nb (fun _ => ⟨4, by decide, Gg⟩) d__law_negative (fun z => absurd z (Nat.lt_irrefl _)) sc__law_negative bi__law_negative (sd__law_negative B)
    have D__law_inverse := df_ofT (g := ⟨P, w, K, mg, base, (TT a_Fault a_Malformed a_Refused a_Field), tbOf K 4⟩) (D := 0) kb nb (fun _ => ⟨4, by decide, Gg⟩) d__law_inverse (fun z => absurd z (Nat.lt_irrefl _)) sc__law_inverse bi__law_inverse (sd__law_inverse B)
    have D__law_cleared := df_ofT (g := ⟨P, w, K, mg, base, (TT a_Fault a_Malformed a_Refused a_Field), tbOf K 4⟩) (D := 0) kb nb (fun _ => ⟨4, by decide, Gg⟩) d__law_cleared (fun z => absurd z (Nat.lt_irrefl _)) sc__law_cleared bi__law_cleared (sd__law_cleared B D__law_inverse D__law_mul D__law_negative D__law_times D__law_sum)
    have D__law_rank := df_ofT (g := ⟨P, w, K, mg, base, (TT a_Fault a_Malformed a_Refused a_Field), tbOf K 4⟩) (D := 0) kb nb (fun _ => ⟨4, by decide, Gg⟩) d__law_rank (fun z => absurd z (Nat.lt_irrefl _)) sc__law_rank bi__law_rank (sd__law_rank B D__law_cleared)
    have D__law_any_row := df_ofT (g := ⟨P, w, K, mg, base, (TT a_Fault a_Malformed a_Refused a_Field), tbOf K 4⟩) (D := 0) kb nb (fun _ => ⟨4, by decide, Gg⟩) d__law_any_row (fun z => absurd z (Nat.lt_irrefl _)) sc__law_any_row bi__law_any_row (sd__law_any_row B D__law_take)
    have D__law_lines := df_ofT (g := ⟨P, w, K, mg, base, (TT a_Fault a_Malformed a_Refused a_Field), tbOf K 4⟩) (D := 0) kb nb (fun _ => ⟨4, by decide, Gg⟩) d__law_lines (fun z => absurd z (Nat.lt_irrefl _)) sc__law_lines bi__law_lines (sd__law_lines B D__law_any_row D__law_take D__law_times D__law_sum)
    have D__law_prime := df_ofT (g := ⟨P, w, K, mg, base, (TT a_Fault a_Malformed a_Refused a_Field), tbOf K 4⟩) (D := 0) kb nb (fun _ => ⟨4, by decide, Gg⟩) d__law_prime (fun z => absurd z (Nat.lt_irrefl _)) sc__law_prime bi__law_prime (sd__law_prime B)
    have D__law_joined := df_ofT (g := ⟨P, w, K, mg, base, (TT a_Fault a_Malformed a_Refused a_Field), tbOf K 4⟩) (D := 0) kb nb (fun _ => ⟨4, by decide, Gg⟩) d__law_joined (fun z => absurd z (Nat.lt_irrefl _)) sc__law_joined bi__law_joined (sd__law_joined B D__law_prime)
    have D__law_field := df_ofT (g := ⟨P, w, K, mg, base, (TT a_Fault a_Malformed a_Refused a_Field), tbOf K 4⟩) (D := 0) kb nb (fun _ => ⟨4, by decide, Gg⟩) d__law_field (fun z => absurd z (Nat.lt_irrefl _)) sc__law_field bi__law_field (sd__law_field B D__law_prime D__law_joined)
    have D__law_some_field := df_ofT (g := ⟨P, w, K, mg, base, (TT a_Fault a_Malformed a_Refused a_Field), tbOf K 4⟩) (D := 0) kb nb (fun _ => ⟨4, by decide, Gg⟩) d__law_some_field (fun z => absurd z (Nat.lt_irrefl _)) sc__law_some_field bi__law_some_field (sd__law_some_field B D__law_take D__law_field)
    have D__law_is_reduced := df_ofT (g := ⟨P, w, K, mg, base, (TT a_Fault a_Malformed a_Refused a_Field), tbOf K 4⟩) (D := 0) kb nb (fun _ => ⟨4, by decide, Gg⟩) d__law_is_reduced (fun z => absurd z (Nat.lt_irrefl _)) sc__law_is_reduced bi__law_is_reduced (sd__law_is_reduced B)
    exact sd_law B D__law_state D__law_some_field K_Field Mk_Field D__law_take D__law_lines D_reduced D__law_rank D__law_is_reduced D__law_combined D_span D_is_space D_is_row D_unit_row D__law_unit) hf
end K02

namespace K02
open PySem L2 Wi
abbrev x1 : DenS := (sSet 1 (dCall 1 f__law_state (aCons (dVar 0) aNil)))
abbrev x2 : DenS := (sSet 2 (dCall 1 f__law_some_field (aCons (dVar 1) aNil)))
abbrev x3 : DenS := (sSet 3 (dMake 4 4 2 f_Field___init__ (aCons (dOp2 oIx (dVar 2) (dC (.int 0))) aNil)))
abbrev x4 : DenS := (sPar 10 11 (aCons (dCall 2 f__law_take (aCons (dVar 1) (aCons (dC (.int 5)) aNil))) (aCons (dCall 2 f__law_take (aCons (dVar 1) (aCons (dC (.int 5)) aNil))) aNil)))
abbrev x5 : DenS := (sSet 4 (dCall 4 f__law_lines (aCons (dVar 1) (aCons (dVar 2) (aCons (dVar 10) (aCons (dVar 11) aNil))))))
abbrev x6 : DenS := (sSet 5 (dCall 3 f_reduced (aCons (dVar 3) (aCons (dVar 4) (aCons (dVar 11) aNil)))))
abbrev c7 : DenT := (tOrD (tNotD (dTru (dIsi "tuple" (dVar 5)))) (dB (dOp2 oNe (dFn cLen (aCons (dVar 5) aNil)) (dC (.int 2)))))
abbrev x7t_1 : DenS := (sRet (dC (.bl false)))
abbrev x7 : DenS := (sIf c7 x7t_1 sSkip)
abbrev x8 : DenS := (sAsg (dVar 5) (gTupD 2 (gsCons (gN 12) (gsCons (gN 13) gsNil))))
abbrev c9 : DenT := (tOrD (tNotD (dTru (dIsi "tuple" (dVar 12)))) (tOrD (tNotD (dTru (dIsi "tuple" (dVar 13)))) (dB (dOp2 oNe (dFn cLen (aCons (dVar 12) aNil)) (dFn cLen (aCons (dVar 13) aNil))))))
abbrev x9t_1 : DenS := (sRet (dC (.bl false)))
abbrev x9 : DenS := (sIf c9 x9t_1 sSkip)
abbrev c10 : DenT := (tOrD (dB (dOp2 oNe (dFn cLen (aCons (dVar 12) aNil)) (dCall 3 f__law_rank (aCons (dVar 2) (aCons (dVar 4) (aCons (dVar 11) aNil)))))) (tNotD (dTru (dCall 3 f__law_is_reduced (aCons (dVar 12) (aCons (dVar 13) (aCons (dVar 11) aNil)))))))
abbrev x10t_1 : DenS := (sRet (dC (.bl false)))
abbrev x10 : DenS := (sIf c10 x10t_1 sSkip)
abbrev c11_1 : DenT := (dB (dOp2 oNe (dCall 4 f__law_combined (aCons (dVar 2) (aCons (dVar 12) (aCons (dFrz (lComp (iSeq (dVar 13)) (.n 9) tYesD (dOp2 oIx (dVar 6) (dVar 9)) [9])) (aCons (dVar 11) aNil))))) (dVar 6)))
abbrev x11_1t_1 : DenS := (sRet (dC (.bl false)))
abbrev x11_1 : DenS := (sIf c11_1 x11_1t_1 sSkip)
abbrev x11_b : DenS := x11_1
abbrev x11 : DenS := (sFor (iSeq (dVar 4)) (gN 6) x11_b)
abbrev c12 : DenT := (tOrD (dB (dOp2 oNe (dCall 3 f_span (aCons (dVar 3) (aCons (dFrz (lList (dVar 4))) (aCons (dVar 11) aNil)))) (dVar 12))) (dB (dOp2 (oIs true) (dCall 3 f_is_space (aCons (dVar 3) (aCons (dVar 12) (aCons (dVar 11) aNil)))) (dC (.bl true)))))
abbrev x12t_1 : DenS := (sRet (dC (.bl false)))
abbrev x12 : DenS := (sIf c12 x12t_1 sSkip)
abbrev c13 : DenT := (dB (dOp2 oNe (dCall 3 f_is_space (aCons (dVar 3) (aCons (dVar 4) (aCons (dVar 11) aNil)))) (dOp2 oEq (dVar 4) (dVar 12))))
abbrev x13t_1 : DenS := (sRet (dC (.bl false)))
abbrev x13 : DenS := (sIf c13 x13t_1 sSkip)
abbrev x14 : DenS := (sSet 7 (dFn cTup (aCons (dFrz (lComp (iRng (dVar 11)) (.n 14) tYesD (dC (.int 0)) [14])) aNil)))
abbrev c15_1 : DenT := (dB (dOp2 (oIs true) (dCall 3 f_is_space (aCons (dVar 3) (aCons (dVar 8) (aCons (dVar 11) aNil)))) (dC (.bl false))))
abbrev x15_1t_1 : DenS := (sRet (dC (.bl false)))
abbrev x15_1 : DenS := (sIf c15_1 x15_1t_1 sSkip)
abbrev x15_b : DenS := x15_1
abbrev x15 : DenS := (sFor (iSeq (dTup (aCons (dC .non) (aCons (dFrz (lList (dVar 12))) (aCons (dOp2 oAdd (dVar 12) (dTup (aCons (dVar 7) aNil))) (aCons (dOp2 oAdd (dVar 12) (dTup (aCons (dOp2 oAdd (dVar 7) (dTup (aCons (dC (.int 0)) aNil))) aNil))) (aCons (dC (.int 3)) (aCons (dTup (aCons (dC (.int 3)) aNil)) aNil)))))))) (gN 8) x15_b)
abbrev c16_1 : DenT := (tOrD (dB (dOp2 (oIs true) (dCall 3 f_is_row (aCons (dVar 3) (aCons (dVar 6) (aCons (dVar 11) aNil)))) (dC (.bl true)))) (tOrD (dTru (dCall 3 f_is_row (aCons (dVar 3) (aCons (dVar 6) (aCons (dOp2 oAdd (dVar 11) (dC (.int 1))) aNil))))) (dTru (dCall 3 f_is_row (aCons (dVar 3) (aCons (dFrz (lList (dVar 6))) (aCons (dVar 11) aNil)))))))
abbrev x16_1t_1 : DenS := (sRet (dC (.bl false)))
abbrev x16_1 : DenS := (sIf c16_1 x16_1t_1 sSkip)
abbrev x16_b : DenS := x16_1
abbrev x16 : DenS := (sFor (iSeq (dVar 4)) (gN 6) x16_b)
abbrev c17_1 : DenT := (dB (dOp2 (oIs true) (dCall 3 f_is_row (aCons (dVar 3) (aCons (dVar 8) (aCons (dOp2 oAdd (dVar 11) (dC (.int 1))) aNil)))) (dC (.bl false))))
abbrev x17_1t_1 : DenS := (sRet (dC (.bl false)))
abbrev x17_1 : DenS := (sIf c17_1 x17_1t_1 sSkip)
abbrev x17_b : DenS := x17_1
abbrev x17 : DenS := (sFor (iSeq (dTup (aCons (dC .non) (aCons (dC (.int 5)) (aCons (dC (.str "00")) (aCons (dOp2 oAdd (dTup (aCons (dOp2 oIx (dVar 2) (dC (.int 0))) aNil)) (dVar 7)) (aCons (dOp2 oAdd (dTup (aCons (dC (.bl true)) aNil)) (dVar 7)) (aCons (dOp2 oAdd (dTup (aCons (dTup aNil) aNil)) (dVar 7)) (aCons (dOp2 oAdd (dTup (aCons (dNeg (dC (.int 1))) aNil)) (dVar 7)) aNil))))))))) (gN 8) x17_b)
abbrev x18 : DenS := (sSet 9 (dCall 2 f__law_take (aCons (dVar 1) (aCons (dOp2 oAdd (dVar 11) (dC (.int 1))) aNil))))
abbrev x19 : DenS := (sRet (dOp2 oEq (dCall 2 f_unit_row (aCons (dOp2 oAdd (dVar 11) (dC (.int 1))) (aCons (dVar 9) aNil))) (dCall 2 f__law_unit (aCons (dOp2 oAdd (dVar 11) (dC (.int 1))) (aCons (dVar 9) aNil)))))
theorem law_eq : b_law = (sSeq x1 (sSeq x2 (sSeq x3 (sSeq x4 (sSeq x5 (sSeq x6 (sSeq x7 (sSeq x8 (sSeq x9 (sSeq x10 (sSeq x11 (sSeq x12 (sSeq x13 (sSeq x14 (sSeq x15 (sSeq x16 (sSeq x17 (sSeq x18 x19)))))))))))))))))) := rfl
end K02

namespace K02
open PySem L2 Wi
/-! k02: what the law asks -/
theorem tupAdd {xs ys : List PV} (h : xs.length + ys.length ≤ 16777216) (st : Store) : oAdd (.tup xs) (.tup ys) st = .ok (.tup (xs ++ ys)) st := by
  show oTup (.tup xs) (.tup ys) st = _
  unfold oTup
  dsimp only
  rw [if_pos (by unfold lineB; rw [Nat.ble_eq]; exact h)]
theorem dTup_ok {da : DenA} {ρ : Sl} {st st1 : Store} {vs : List PV} (h : da ρ st = .ok vs st1) (ha : (vs.all isTree && lineB vs.length) = true) : dTup da ρ st = .ok (.tup vs) st1 := by
  unfold dTup
  rw [h]
  show (if (vs.all isTree && lineB vs.length) = true then _ else _) = _
  rw [if_pos ha]
abbrev S (l : PV) (q h n : Nat) (R T : List (List Nat)) (P : List Nat) (a5 a6 a7 a8 a9 a14 : Option PV) : Sl := [some l, some (.ref 0), some (Fl q), some (Fo q), some (tabP R), a5, a6, a7, a8, a9, some (.int (h : Nat)), some (.int (n : Nat)), some (tabP T), some (.tup (pns P)), a14]
section
variable {l : PV} {q h n : Nat} (hq : q ∈ qs) {R T : List (List Nat)} {P : List Nat}
include hq in
theorem rows11 (hn : n ≤ 500) (hR : ∀ r ∈ R, Rw q n r) (hT : T = (red q n R).2.1) (hP : P = (red q n R).2.2) (lP : P.length ≤ 1000) (st : Store) (a5 a7 a8 a9 a14 : Option PV) : ∀ (rs : List (List Nat)) (a6 : Option PV), (∀ r ∈ rs, r ∈ R) →
    ∃ b6, forL (gN 6) x11_b (rs.map rowP) (S l q h n R T P a5 a6 a7 a8 a9 a14) st = .nx (S l q h n R T P a5 b6 a7 a8 a9 a14) st
  | [], a6, _ => ⟨a6, rfl⟩
  | r :: rs, a6, hr => by
    have rR := hr r List.mem_cons_self
    have rr := hR r rR
    have I := red_ri hq hR
    obtain ⟨b6, e⟩ := rows11 hn hR hT hP lP st a5 a7 a8 a9 a14 rs (some (rowP r)) (fun x hx => hr x (List.mem_cons_of_mem _ hx))
    refine ⟨b6, (for_one (ρ := S l q h n R T P a5 a6 a7 a8 a9 a14) (ρ' := S l q h n R T P a5 (some (rowP r)) a7 a8 a9 a14) (st' := st) ?_).trans e⟩
    have v6 : dVar 6 (S l q h n R T P a5 (some (rowP r)) a7 a8 a9 a14) st = .ok (rowP r) st := dVar_ok rfl rfl
    have w := comp_pns1 (n := 9) (own := [9]) (ns := P) (i := iSeq (dVar 13)) (e := dOp2 oIx (dVar 6) (dVar 9)) (ρ := S l q h n R T P a5 (some (rowP r)) a7 a8 a9 a14) (st := st) (fun p => .int (r.getD p 0 : Nat)) (iSeq_tp (dVar_ok rfl rfl)) (fun p hp st' => dOp2_ok (dVar_ok (i := 6) (v := rowP r) rfl rfl) (dVar_ok (i := 9) (v := .int (p : Nat)) rfl rfl) (ix_pns (by rw [rr.1]; rw [hP] at hp; exact I.lt p hp) st')) (fun _ => rfl) (by omega)
    have w' : lComp (iSeq (dVar 13)) (.n 9) tYesD (dOp2 oIx (dVar 6) (dVar 9)) [9] (S l q h n R T P a5 (some (rowP r)) a7 a8 a9 a14) st = .ok (pns (wts r P)) st := w.trans (by rw [pns, List.map_map]; rfl)
    have cb := (dCall_ok (np := 4) (f := f__law_combined) (aCons_ok (dVar_ok (i := 2) (v := Fl q) rfl rfl) (a3_ok (dVar_ok (i := 12) (v := tabP T) rfl rfl) (dFrz_ok w') (dVar_ok (i := 11) (v := .int (n : Nat)) rfl rfl))) rfl).trans (law_combined_ok hq (by omega) rr (by rw [hT]; exact I.T) (by rw [hT, hP]; exact I.len) lP st)
    have ce : totR q n r T P P.length = r := by rw [hT, hP]; exact combined_is hq hR rR
    rw [ce] at cb
    exact (if_f (c := c11_1) (dB_ok (dOp2_ok cb v6 ((oNe_row r r st).trans (by rw [decide_eq_true rfl]; rfl))))).trans rfl
include hq in
theorem rows16 (hn : n ≤ 500) (hR : ∀ r ∈ R, Rw q n r) (st : Store) (a5 a7 a8 a9 a14 : Option PV) : ∀ (rs : List (List Nat)) (a6 : Option PV), (∀ r ∈ rs, r ∈ R) →
    ∃ b6, forL (gN 6) x16_b (rs.map rowP) (S l q h n R T P a5 a6 a7 a8 a9 a14) st = .nx (S l q h n R T P a5 b6 a7 a8 a9 a14) st
  | [], a6, _ => ⟨a6, rfl⟩
  | r :: rs, a6, hr => by
    have rr := hR r (hr r List.mem_cons_self)
    obtain ⟨b6, e⟩ := rows16 hn hR st a5 a7 a8 a9 a14 rs (some (rowP r)) (fun x hx => hr x (List.mem_cons_of_mem _ hx))
    refine ⟨b6, (for_one (ρ := S l q h n R T P a5 a6 a7 a8 a9 a14) (ρ' := S l q h n R T P a5 (some (rowP r)) a7 a8 a9 a14) (st' := st) ?_).trans e⟩
    have v3 : dVar 3 (S l q h n R T P a5 (some (rowP r)) a7 a8 a9 a14) st = .ok (Fo q) st := dVar_ok rfl rfl
    have v6 : dVar 6 (S l q h n R T P a5 (some (rowP r)) a7 a8 a9 a14) st = .ok (rowP r) st := dVar_ok rfl rfl
    have v11 : dVar 11 (S l q h n R T P a5 (some (rowP r)) a7 a8 a9 a14) st = .ok (.int (n : Nat)) st := dVar_ok rfl rfl
    have p1 := (dCall_ok (np := 3) (f := f_is_row) (a3_ok v3 v6 v11) rfl).trans (is_row_row (m := n) (by omega) rr st)
    rw [decide_eq_true rfl] at p1
    have p2 := (dCall_ok (np := 3) (f := f_is_row) (a3_ok v3 v6 (dOp2_ok (f := oAdd) (r := .ok (.int ((n + 1 : Nat) : Int)) st) v11 (dC_ok (.int 1) _ _) rfl)) rfl).trans (is_row_row (m := n + 1) (by omega) rr st)
    rw [decide_eq_false (by omega)] at p2
    have p3 := (dCall_ok (np := 3) (f := f_is_row) (a3_ok v3 (dFrz_ok (lList_ok v6 (xs := pns r) (b := false) rfl)) v11) rfl).trans (is_row_other (q := q) (w := .lst (pns r)) (m := .int (n : Nat)) rfl st)
    exact (if_f (c := c16_1) (or_ff (dB_ok (dOp2_ok p1 (dC_ok _ _ _) rfl)) (or_ff (dTru_bl p2) (dTru_bl p3)))).trans rfl
abbrev zs (n : Nat) : List Nat := (List.range' 0 n).map fun _ => 0
theorem zs_rw (hq : q ∈ qs) (n : Nat) : Rw q n (zs n) := ⟨by simp, fun x hx => by have := qs_lt hq; obtain ⟨_, _, rfl⟩ := List.mem_map.mp hx; omega⟩
theorem zs_nz (n : Nat) : nz (zs n) = false := by
  rw [nz_false (n := n) (by simp)]
  intro j hj
  simp [List.getD_eq_getElem?_getD, hj]
/-- values, one after another -/
theorem vals {i : Nat} {b : DenS} {ρ : Sl} {st : Store} (step : PV → Prop) (hs : ∀ v, step v → ∀ x, b ((ρ.set i x).set i (some v)) st = .nx ((ρ.set i x).set i (some v)) st) : ∀ (vs : List PV) (x : Option PV), (∀ v ∈ vs, step v) → ∃ y, forL (gN i) b vs (ρ.set i x) st = .nx (ρ.set i y) st
  | [], x, _ => ⟨x, rfl⟩
  | v :: vs, x, h => by
    obtain ⟨y, e⟩ := vals step hs vs (some v) (fun w hw => h w (List.mem_cons_of_mem _ hw))
    refine ⟨y, (for_one (hs v (h v List.mem_cons_self) x)).trans ?_⟩
    rw [List.set_set]
    exact e
include hq in
theorem space_false (hn : n ≤ 500) (hR : ∀ r ∈ R, Rw q n r) (hT : T = (red q n R).2.1) (lT : T.length ≤ 500) (st : Store) : ∀ v ∈ [PV.non, .lst (T.map rowP), .tup (T.map rowP ++ [rowP (zs n)]), .tup (T.map rowP ++ [.tup (pns (zs n) ++ [.int 0])]), .int 3, .tup [.int 3]], isTree v = true ∧ f_is_space [Fo q, v, .int (n : Nat)] st = .ok (.bl false) st := by
  have I := red_ri hq hR
  have tR : ∀ t ∈ T, Rw q n t := by rw [hT]; exact I.T
  intro v hv
  simp only [List.mem_cons, List.not_mem_nil, or_false] at hv
  rcases hv with rfl | rfl | rfl | rfl | rfl | rfl
  · exact ⟨rfl, is_space_other rfl st⟩
  · exact ⟨rfl, is_space_other rfl st⟩
  · refine ⟨rfl, ?_⟩
    have e : PV.tup (T.map rowP ++ [rowP (zs n)]) = tabP (T ++ [zs n]) := by
      show PV.tup _ = PV.tup ((T ++ [zs n]).map rowP)
      rw [List.map_append]
      rfl
    have rw' : ∀ t ∈ T ++ [zs n], Rw q n t := fun t ht => by
      rcases List.mem_append.mp ht with ht | ht
      · exact tR t ht
      · rw [List.mem_singleton.mp ht]; exact zs_rw hq n
    rw [e, is_space_tab hq (by omega) rw' (by rw [List.length_append]; show _ + 1 ≤ _; omega) st, decide_eq_false]
    intro z
    have := (red_rdc hq rw').nz (zs n) (by rw [z]; exact List.mem_append_right _ (List.mem_singleton.mpr rfl))
    rw [zs_nz] at this
    cases this
  · refine ⟨rfl, is_space_bad (fun w => match w with | .tup ws => decide (ws.length = n) | _ => false) (fun w hw => ?_) (fun w hw st' => ?_) (by rw [List.length_append, List.length_map]; show _ + 1 ≤ _; omega) ?_ st⟩
    · rcases List.mem_append.mp hw with hw | hw
      · obtain ⟨t, _, rfl⟩ := List.mem_map.mp hw; rfl
      · rw [List.mem_singleton.mp hw]; rfl
    · rcases List.mem_append.mp hw with hw | hw
      · obtain ⟨t, ht, rfl⟩ := List.mem_map.mp hw
        have tr := tR t ht
        refine (is_row_row (m := n) (by omega) tr st').trans ?_
        show _ = Res.ok (PV.bl (decide ((pns t).length = n))) st'
        rw [pns, List.length_map, tr.1]
      · rw [List.mem_singleton.mp hw]
        have ln : (pns (zs n) ++ [PV.int 0]).length = n + 1 := by simp [pns]
        refine (is_row_tup (m := n) (fun w hw => ?_) (by rw [ln]; omega) st').trans ?_
        · rcases List.mem_append.mp hw with hw | hw
          · exact simple_pns _ w hw
          · rw [List.mem_singleton.mp hw]; rfl
        · show _ = Res.ok (PV.bl (decide ((pns (zs n) ++ [PV.int 0]).length = n))) st'
          rw [ln, decide_eq_false (by omega)]
          rfl
    · rw [List.all_append, Bool.and_eq_false_iff]
      right
      have ln : (pns (zs n) ++ [PV.int 0]).length = n + 1 := by simp [pns]
      show (decide ((pns (zs n) ++ [PV.int 0]).length = n) && true) = false
      rw [ln, decide_eq_false (by omega)]
      rfl
  · exact ⟨rfl, is_space_other rfl st⟩
  · exact ⟨rfl, is_space_bad (fun _ => false) (fun w hw => by rw [List.mem_singleton.mp hw]; rfl) (fun w hw st' => by rw [List.mem_singleton.mp hw]; exact is_row_other rfl st') (by decide) rfl st⟩
include hq in
theorem row_false (hn : n ≤ 500) (st : Store) : ∀ v ∈ [PV.non, .int 5, .str "00", .tup ([.int (q : Nat)] ++ pns (zs n)), .tup ([.bl true] ++ pns (zs n)), .tup ([.tup []] ++ pns (zs n)), .tup ([.int (-1)] ++ pns (zs n))], isTree v = true ∧ f_is_row [Fo q, v, .int ((n + 1 : Nat) : Int)] st = .ok (.bl false) st := by
  have key : ∀ w : PV, simple w = true → num q w = false → f_is_row [Fo q, .tup ([w] ++ pns (zs n)), .int ((n + 1 : Nat) : Int)] st = .ok (.bl false) st := by
    intro w h1 h2
    refine (is_row_tup (fun x hx => ?_) (by simp [pns]; omega) st).trans ?_
    · rcases List.mem_append.mp hx with hx | hx
      · rw [List.mem_singleton.mp hx]; exact h1
      · exact simple_pns _ x hx
    · rw [List.all_append, show [w].all (num q) = false from by simp [h2], Bool.false_and, Bool.and_false]
  intro v hv
  simp only [List.mem_cons, List.not_mem_nil, or_false] at hv
  rcases hv with rfl | rfl | rfl | rfl | rfl | rfl | rfl
  · exact ⟨rfl, is_row_other rfl st⟩
  · exact ⟨rfl, is_row_other rfl st⟩
  · exact ⟨rfl, is_row_other rfl st⟩
  · refine ⟨rfl, key _ rfl ?_⟩
    show (decide ((0 : Int) ≤ (q : Nat)) && decide (((q : Nat) : Int) < (q : Nat))) = false
    rw [decide_eq_false (by omega : ¬ ((q : Nat) : Int) < (q : Nat)), Bool.and_false]
  · exact ⟨rfl, key _ rfl rfl⟩
  · exact ⟨rfl, key _ rfl rfl⟩
  · exact ⟨rfl, key _ rfl rfl⟩
end
theorem piv_ge {P : List Nat} (h : P.Pairwise (· < ·)) : ∀ i < P.length, i ≤ P.getD i 0
  | 0, _ => Nat.zero_le _
  | i + 1, hi => by
    have := piv_ge h i (by omega)
    have : P.getD i 0 < P.getD (i + 1) 0 := pw_lt h (Nat.lt_succ_self i) hi
    omega
theorem piv_len {q n : Nat} {T : List (List Nat)} {P : List Nat} (F : Rdc q n T P) : P.length ≤ n := by
  rcases Nat.lt_or_ge n P.length with c | c
  · have h1 := piv_ge F.up n c
    have h2 := F.lt _ (getD_mem (d := 0) c)
    omega
  · exact c
theorem claim : ∀ ns : List Int, ns.length ≤ 63 → ∃ s', f_law [.lst (ns.map PV.int)] [] = .ok (.bl true) s' := by
  intro ns hl
  obtain ⟨s0, t0, hs0, ht0, e0⟩ := law_state_ok ns hl []
  generalize hL : PV.lst (ns.map PV.int) = l at e0 ⊢
  have tl : isTree l = true := by rw [← hL]; rfl
  obtain ⟨q, hq, s1, t1, hs1, ht1, e1⟩ := some_field_ok hs0 ht0
  have hq2 := qs_lt hq
  obtain ⟨v2, s2, t2, a2, b2, hs2, ht2, e2⟩ := take_cons hs1 ht1 (m := 5) (by decide) (by decide) []
  obtain ⟨h, rfl⟩ : ∃ k : Nat, v2 = k := ⟨v2.toNat, by omega⟩
  obtain ⟨v3, s3, t3, a3, b3, hs3, ht3, e3⟩ := take_cons hs2 ht2 (m := 5) (by decide) (by decide) []
  obtain ⟨n, rfl⟩ : ∃ k : Nat, v3 = k := ⟨v3.toNat, by omega⟩
  have hn : n ≤ 500 := by omega
  obtain ⟨R, s4, t4, lR, hR, hs4, ht4, e4⟩ := law_lines_ok hq (h := h) (w := n) (by omega) (by omega) hs3 ht3
  have I := red_ri hq hR
  have F := red_rdc hq hR
  have er := reduced_ok hq (v := tabP R) (b := false) (by omega : n ≤ 1000) hR (by omega) [cS s4 t4] rfl rfl
  have ek := law_rank_ok hq hn hR (by omega) [cS s4 t4]
  have lP := piv_len F
  obtain ⟨T, hT⟩ : ∃ T, T = (red q n R).2.1 := ⟨_, rfl⟩
  obtain ⟨P, hP⟩ : ∃ P, P = (red q n R).2.2 := ⟨_, rfl⟩
  have lT : T.length = P.length := by rw [hT, hP]; exact I.len
  have F' : Rdc q n T P := by rw [hT, hP]; exact F
  rw [← hT, ← hP] at er
  rw [← hP] at ek lP
  have ei := law_is_reduced_ok (by omega) F' [cS s4 t4]
  obtain ⟨b11, e11⟩ := rows11 (l := l) (h := h) hq hn hR hT hP (by omega) [cS s4 t4] (some (.tup [tabP T, .tup (pns P)])) none none none none R none (fun r hr => hr)
  obtain ⟨s5, t5, hs5, ht5, v5, v50, v51, e5⟩ : ∃ s5 t5 : Int, 0 ≤ s5 ∧ 0 ≤ t5 ∧ ∃ v : Nat, 0 ≤ v ∧ v < n + 1 ∧ f__law_take [.ref 0, .int ((n + 1 : Nat) : Int)] [cS s4 t4] = .ok (.int (v : Nat)) [cS s5 t5] := by
    obtain ⟨v, s', t', x, y, z, w, e⟩ := take_cons hs4 ht4 (m := ((n + 1 : Nat) : Int)) (by omega) (by omega) []
    obtain ⟨k, rfl⟩ : ∃ k : Nat, v = k := ⟨v.toNat, by omega⟩
    exact ⟨s', t', z, w, k, Nat.zero_le _, by omega, e⟩
  refine ⟨[], ?_⟩
  refine mkFn_ok (xs := [cS s5 t5]) ?_ rfl
  rw [law_eq, List.nil_append]
  refine (sSeq_nx (sSet_ok (i := 1) ((dCall_ok (np := 1) (f := f__law_state) (a1_ok (dVar_ok (i := 0) rfl tl)) rfl).trans e0))).trans ?_
  refine (sSeq_nx (sSet_ok (i := 2) ((dCall_ok (np := 1) (f := f__law_some_field) (a1_ok (var_ref0 (i := 1) (rest := []) rfl)) rfl).trans e1))).trans ?_
  refine (sSeq_nx (sSet_ok (i := 3) (mkField_ok hq (dOp2_ok (dVar_ok (i := 2) (v := Fl q) rfl rfl) (dC_ok _ _ _) rfl)))).trans ?_
  refine (sSeq_nx (sPar_ok (a2_ok ((dCall_ok (np := 2) (f := f__law_take) (a2_ok (var_ref0 (i := 1) (rest := []) rfl) (dC_ok _ _ _)) rfl).trans e2) ((dCall_ok (np := 2) (f := f__law_take) (a2_ok (var_ref0 (i := 1) (rest := []) rfl) (dC_ok _ _ _)) rfl).trans e3)))).trans ?_
  refine (sSeq_nx (sSet_ok (i := 4) ((dCall_ok (np := 4) (f := f__law_lines) (aCons_ok (var_ref0 (i := 1) (rest := []) rfl) (a3_ok (dVar_ok (i := 2) (v := Fl q) rfl rfl) (dVar_ok (i := 10) (v := .int (h : Nat)) rfl rfl) (dVar_ok (i := 11) (v := .int (n : Nat)) rfl rfl))) rfl).trans e4))).trans ?_
  refine (sSeq_nx (sSet_ok (i := 5) ((dCall_ok (np := 3) (f := f_reduced) (a3_ok (dVar_ok (i := 3) (v := Fo q) rfl rfl) (dVar_ok (i := 4) (v := tabP R) rfl rfl) (dVar_ok (i := 11) (v := .int (n : Nat)) rfl rfl)) rfl).trans er))).trans ?_
  refine (sSeq_nx ((if_f (c := c7) (st1 := [cS s4 t4]) rfl).trans rfl)).trans ?_
  refine (sSeq_nx (ρ' := S l q h n R T P (some (.tup [tabP T, .tup (pns P)])) none none none none none) (st' := [cS s4 t4]) rfl).trans ?_
  have lenT : ∀ (ρ : Sl) (st : Store), ρ[12]? = some (some (tabP T)) → dFn cLen (aCons (dVar 12) aNil) ρ st = .ok (.int (P.length : Nat)) st := fun ρ st hh => (len_tup (dVar_ok (i := 12) hh rfl)).trans (by rw [List.length_map, lT])
  have lenP : ∀ (ρ : Sl) (st : Store), ρ[13]? = some (some (.tup (pns P))) → dFn cLen (aCons (dVar 13) aNil) ρ st = .ok (.int (P.length : Nat)) st := fun ρ st hh => (len_tup (dVar_ok (i := 13) hh rfl)).trans (by rw [pns, List.length_map])
  refine (sSeq_nx ((if_f (c := c9) (st1 := [cS s4 t4]) (or_ff (not_ok (dTru_bl (b := true) rfl)) (or_ff (not_ok (dTru_bl (b := true) rfl)) (ne_same (lenT _ _ rfl) (lenP _ _ rfl))))).trans rfl)).trans ?_
  have rk := (dCall_ok (np := 3) (f := f__law_rank) (a3_ok (dVar_ok (i := 2) (ρ := S l q h n R T P (some (.tup [tabP T, .tup (pns P)])) none none none none none) (st := [cS s4 t4]) (v := Fl q) rfl rfl) (dVar_ok (i := 4) (v := tabP R) rfl rfl) (dVar_ok (i := 11) (v := .int (n : Nat)) rfl rfl)) rfl).trans ek
  have ri := (dCall_ok (np := 3) (f := f__law_is_reduced) (a3_ok (dVar_ok (i := 12) (ρ := S l q h n R T P (some (.tup [tabP T, .tup (pns P)])) none none none none none) (st := [cS s4 t4]) (v := tabP T) rfl rfl) (dVar_ok (i := 13) (v := .tup (pns P)) rfl rfl) (dVar_ok (i := 11) (v := .int (n : Nat)) rfl rfl)) rfl).trans ei
  refine (sSeq_nx ((if_f (c := c10) (st1 := [cS s4 t4]) (or_ff (ne_same (lenT _ _ rfl) rk) ((not_ok (dTru_bl ri)).trans rfl))).trans rfl)).trans ?_
  refine (sSeq_nx ((sFor_ok (iSeq_tp (dVar_ok (i := 4) (v := tabP R) rfl rfl))).trans e11)).trans ?_
  generalize hfd : some (PV.tup [tabP T, .tup (pns P)]) = fd
  have v3 : ∀ (a6 a7 a8 a9 a14 : Option PV) (st : Store), dVar 3 (S l q h n R T P fd a6 a7 a8 a9 a14) st = .ok (Fo q) st := fun _ _ _ _ _ _ => dVar_ok rfl rfl
  have v4 : ∀ (a6 a7 a8 a9 a14 : Option PV) (st : Store), dVar 4 (S l q h n R T P fd a6 a7 a8 a9 a14) st = .ok (tabP R) st := fun _ _ _ _ _ _ => dVar_ok rfl rfl
  have v11 : ∀ (a6 a7 a8 a9 a14 : Option PV) (st : Store), dVar 11 (S l q h n R T P fd a6 a7 a8 a9 a14) st = .ok (.int (n : Nat)) st := fun _ _ _ _ _ _ => dVar_ok rfl rfl
  have v12 : ∀ (a6 a7 a8 a9 a14 : Option PV) (st : Store), dVar 12 (S l q h n R T P fd a6 a7 a8 a9 a14) st = .ok (tabP T) st := fun _ _ _ _ _ _ => dVar_ok rfl rfl
  have sp := (dCall_ok (np := 3) (f := f_span) (a3_ok (v3 b11 none none none none [cS s4 t4]) (dFrz_ok (lList_ok (v4 b11 none none none none [cS s4 t4]) (xs := R.map rowP) (b := false) rfl)) (v11 _ _ _ _ _ _)) rfl).trans (span_ok hq (v := .lst (R.map rowP)) (b := true) (by omega : n ≤ 1000) hR (by omega) [cS s4 t4] rfl rfl)
  rw [← hT] at sp
  have is1 := (dCall_ok (np := 3) (f := f_is_space) (a3_ok (v3 b11 none none none none [cS s4 t4]) (v12 _ _ _ _ _ _) (v11 _ _ _ _ _ _)) rfl).trans (is_space_tab hq (by omega : n ≤ 1000) F'.rows (by omega) [cS s4 t4])
  rw [decide_eq_true (red_again hq F')] at is1
  refine (sSeq_nx ((if_f (c := c12) (st1 := [cS s4 t4]) (or_ff (dB_ok (dOp2_ok sp (v12 _ _ _ _ _ _) ((oNe_tab _ _ _).trans (by rw [decide_eq_true rfl]; rfl)))) (dB_ok (dOp2_ok is1 (dC_ok _ _ _) rfl)))).trans rfl)).trans ?_
  have is2 := (dCall_ok (np := 3) (f := f_is_space) (a3_ok (v3 b11 none none none none [cS s4 t4]) (v4 _ _ _ _ _ _) (v11 _ _ _ _ _ _)) rfl).trans (is_space_tab hq (by omega : n ≤ 1000) hR (by omega) [cS s4 t4])
  rw [← hT] at is2
  have dcomm : decide (R = T) = decide (T = R) := by
    by_cases c : T = R
    · rw [decide_eq_true c, decide_eq_true c.symm]
    · rw [decide_eq_false c, decide_eq_false fun z => c z.symm]
  refine (sSeq_nx ((if_f (c := c13) (st1 := [cS s4 t4]) (dB_ok (dOp2_ok is2 (dOp2_ok (v4 _ _ _ _ _ _) (v12 _ _ _ _ _ _) (oEq_tab _ _ _)) ((ne_bl _ _ _).trans (by rw [dcomm, bne_self_eq_false]))))).trans rfl)).trans ?_
  have z7 := comp_pns1 (n := 14) (own := [14]) (ns := List.range' 0 n) (i := iRng (dVar 11)) (e := dC (.int 0)) (ρ := S l q h n R T P fd b11 none none none none) (st := [cS s4 t4]) (fun _ => .int (0 : Nat)) (iRng_nat (n := n) rfl (by omega)) (fun _ _ _ => rfl) (fun _ => rfl) (by simp; omega)
  have e7 : (List.range' 0 n).map (fun _ => PV.int ((0 : Nat) : Int)) = pns (zs n) := by
    rw [pns, List.map_map]
    rfl
  rw [e7] at z7
  refine (sSeq_nx (sSet_ok (i := 7) (cTup_lst (dFrz_ok z7)))).trans ?_
  have v7 : ∀ (a6 a8 a9 a14 : Option PV) (st : Store), dVar 7 (S l q h n R T P fd a6 (some (rowP (zs n))) a8 a9 a14) st = .ok (rowP (zs n)) st := fun _ _ _ _ _ => dVar_ok rfl rfl
  have lz : (pns (zs n)).length = n := by simp [pns]
  -- no spaces
  obtain ⟨b8, e15⟩ := vals (i := 8) (b := x15_b) (ρ := S l q h n R T P fd b11 (some (rowP (zs n))) none none none) (st := [cS s4 t4]) (fun v => isTree v = true ∧ f_is_space [Fo q, v, .int (n : Nat)] [cS s4 t4] = .ok (.bl false) [cS s4 t4]) (fun v hv x => by
    show x15_b (S l q h n R T P fd b11 (some (rowP (zs n))) (some v) none none) [cS s4 t4] = _
    exact (if_f (c := c15_1) (dB_ok (dOp2_ok ((dCall_ok (np := 3) (f := f_is_space) (a3_ok (v3 _ _ _ _ _ _) (dVar_ok (i := 8) (v := v) rfl hv.1) (v11 _ _ _ _ _ _)) rfl).trans hv.2) (dC_ok _ _ _) rfl))).trans rfl) _ none (space_false hq hn hR hT (by omega) [cS s4 t4])
  have i15 : iSeq (dTup (aCons (dC .non) (aCons (dFrz (lList (dVar 12))) (aCons (dOp2 oAdd (dVar 12) (dTup (aCons (dVar 7) aNil))) (aCons (dOp2 oAdd (dVar 12) (dTup (aCons (dOp2 oAdd (dVar 7) (dTup (aCons (dC (.int 0)) aNil))) aNil))) (aCons (dC (.int 3)) (aCons (dTup (aCons (dC (.int 3)) aNil)) aNil))))))) (S l q h n R T P fd b11 (some (rowP (zs n))) none none none) [cS s4 t4] = .ok [PV.non, .lst (T.map rowP), .tup (T.map rowP ++ [rowP (zs n)]), .tup (T.map rowP ++ [.tup (pns (zs n) ++ [.int 0])]), .int 3, .tup [.int 3]] [cS s4 t4] := by
    refine iSeq_tp ?_
    have t1 : dTup (aCons (dVar 7) aNil) (S l q h n R T P fd b11 (some (rowP (zs n))) none none none) [cS s4 t4] = .ok (.tup [rowP (zs n)]) [cS s4 t4] := dTup_ok (a1_ok (v7 _ _ _ _ _)) rfl
    have t2 : dOp2 oAdd (dVar 7) (dTup (aCons (dC (.int 0)) aNil)) (S l q h n R T P fd b11 (some (rowP (zs n))) none none none) [cS s4 t4] = .ok (.tup (pns (zs n) ++ [.int 0])) [cS s4 t4] := dOp2_ok (v7 _ _ _ _ _) (w := .tup [.int 0]) rfl (tupAdd (by rw [lz]; show n + 1 ≤ _; omega) _)
    have t3 : dTup (aCons (dOp2 oAdd (dVar 7) (dTup (aCons (dC (.int 0)) aNil))) aNil) (S l q h n R T P fd b11 (some (rowP (zs n))) none none none) [cS s4 t4] = .ok (.tup [.tup (pns (zs n) ++ [.int 0])]) [cS s4 t4] := dTup_ok (a1_ok t2) rfl
    have lt' : (T.map rowP).length ≤ 500 := by rw [List.length_map]; omega
    refine dTup_ok (aCons_ok (dC_ok .non _ _) (aCons_ok (dFrz_ok (lList_ok (v12 b11 (some (rowP (zs n))) none none none [cS s4 t4]) (xs := T.map rowP) (b := false) rfl)) (aCons_ok (dOp2_ok (v12 _ _ _ _ _ _) t1 (tupAdd (by show _ + 1 ≤ _; omega) _)) (aCons_ok (dOp2_ok (v12 _ _ _ _ _ _) t3 (tupAdd (by show _ + 1 ≤ _; omega) _)) (aCons_ok (dC_ok (.int 3) _ _) (a1_ok (d := dTup (aCons (dC (.int 3)) aNil)) (v := .tup [.int 3]) (st1 := [cS s4 t4]) rfl)))))) rfl
  refine (sSeq_nx ((sFor_ok i15).trans e15)).trans ?_
  obtain ⟨b16, e16⟩ := rows16 (l := l) (h := h) (R := R) (T := T) (P := P) hq hn hR [cS s4 t4] fd (some (rowP (zs n))) b8 none none R b11 (fun r hr => hr)
  refine (sSeq_nx ((sFor_ok (iSeq_tp (v4 _ _ _ _ _ _))).trans e16)).trans ?_
  -- no rows
  obtain ⟨c8, e17⟩ := vals (i := 8) (b := x17_b) (ρ := S l q h n R T P fd b16 (some (rowP (zs n))) none none none) (st := [cS s4 t4]) (fun v => isTree v = true ∧ f_is_row [Fo q, v, .int ((n + 1 : Nat) : Int)] [cS s4 t4] = .ok (.bl false) [cS s4 t4]) (fun v hv x => by
    show x17_b (S l q h n R T P fd b16 (some (rowP (zs n))) (some v) none none) [cS s4 t4] = _
    exact (if_f (c := c17_1) (dB_ok (dOp2_ok ((dCall_ok (np := 3) (f := f_is_row) (a3_ok (v3 _ _ _ _ _ _) (dVar_ok (i := 8) (v := v) rfl hv.1) (dOp2_ok (f := oAdd) (r := .ok (.int ((n + 1 : Nat) : Int)) [cS s4 t4]) (v11 _ _ _ _ _ _) (dC_ok (.int 1) _ _) rfl)) rfl).trans hv.2) (dC_ok _ _ _) rfl))).trans rfl) _ b8 (row_false hq hn [cS s4 t4])
  have i17 : iSeq (dTup (aCons (dC .non) (aCons (dC (.int 5)) (aCons (dC (.str "00")) (aCons (dOp2 oAdd (dTup (aCons (dOp2 oIx (dVar 2) (dC (.int 0))) aNil)) (dVar 7)) (aCons (dOp2 oAdd (dTup (aCons (dC (.bl true)) aNil)) (dVar 7)) (aCons (dOp2 oAdd (dTup (aCons (dTup aNil) aNil)) (dVar 7)) (aCons (dOp2 oAdd (dTup (aCons (dNeg (dC (.int 1))) aNil)) (dVar 7)) aNil)))))))) (S l q h n R T P fd b16 (some (rowP (zs n))) b8 none none) [cS s4 t4] = .ok [PV.non, .int 5, .str "00", .tup ([.int (q : Nat)] ++ pns (zs n)), .tup ([.bl true] ++ pns (zs n)), .tup ([.tup []] ++ pns (zs n)), .tup ([.int (-1)] ++ pns (zs n))] [cS s4 t4] := by
    refine iSeq_tp ?_
    have tq : dTup (aCons (dOp2 oIx (dVar 2) (dC (.int 0))) aNil) (S l q h n R T P fd b16 (some (rowP (zs n))) b8 none none) [cS s4 t4] = .ok (.tup [.int (q : Nat)]) [cS s4 t4] := dTup_ok (a1_ok (dOp2_ok (v := Fl q) (w := .int 0) (r := .ok (.int (q : Nat)) [cS s4 t4]) (dVar_ok (i := 2) rfl rfl) (dC_ok _ _ _) rfl)) rfl
    have add : ∀ {d : Den} {w : PV}, d (S l q h n R T P fd b16 (some (rowP (zs n))) b8 none none) [cS s4 t4] = .ok (.tup [w]) [cS s4 t4] → dOp2 oAdd d (dVar 7) (S l q h n R T P fd b16 (some (rowP (zs n))) b8 none none) [cS s4 t4] = .ok (.tup ([w] ++ pns (zs n))) [cS s4 t4] := fun hd => dOp2_ok hd (v7 _ _ _ _ _) (tupAdd (by rw [lz]; show 1 + n ≤ _; omega) _)
    refine dTup_ok (aCons_ok (dC_ok .non _ _) (aCons_ok (dC_ok (.int 5) _ _) (aCons_ok (dC_ok (.str "00") _ _) (aCons_ok (add tq) (aCons_ok (add (w := .bl true) rfl) (aCons_ok (add (w := .tup []) rfl) (a1_ok (add (w := .int (-1)) rfl)))))))) rfl
  refine (sSeq_nx ((sFor_ok i17).trans e17)).trans ?_
  have n1 : ∀ (a9 : Option PV) (st : Store), dOp2 oAdd (dVar 11) (dC (.int 1)) (S l q h n R T P fd b16 (some (rowP (zs n))) c8 a9 none) st = .ok (.int ((n + 1 : Nat) : Int)) st := fun a9 st => dOp2_ok (f := oAdd) (v11 _ _ _ _ _ _) (dC_ok (.int 1) _ _) rfl
  refine (sSeq_nx (ρ' := S l q h n R T P fd b16 (some (rowP (zs n))) c8 (some (.int (v5 : Nat))) none) (st' := [cS s5 t5]) (sSet_ok (i := 9) (ρ := S l q h n R T P fd b16 (some (rowP (zs n))) c8 none none) ((dCall_ok (np := 2) (f := f__law_take) (a2_ok (var_ref0 (i := 1) (rest := []) rfl) (n1 none _)) rfl).trans e5))).trans ?_
  have v9 : dVar 9 (S l q h n R T P fd b16 (some (rowP (zs n))) c8 (some (.int (v5 : Nat))) none) [cS s5 t5] = .ok (.int (v5 : Nat)) [cS s5 t5] := dVar_ok rfl rfl
  exact sRet_ok (dOp2_ok ((dCall_ok (np := 2) (f := f_unit_row) (a2_ok (n1 _ _) v9) rfl).trans (unit_ok (by omega) _)) ((dCall_ok (np := 2) (f := f__law_unit) (a2_ok (n1 _ _) v9) rfl).trans (law_unit_ok (by omega) _)) ((oEq_row _ _ _).trans (by rw [decide_eq_true rfl])))
end K02

namespace K02
open PySem PySem.W PyProof.Rows
set_option maxHeartbeats 0 in
open_top head for PySem.Challenge.rw_wittspaces_k02_reduced_tables
end K02

open PySem PySem.W PyProof.Rows Wi in
set_option maxRecDepth 100000 in
set_option maxHeartbeats 0 in
theorem PySem.Challenge.cw_wittspaces_k02_reduced_tables_holds : PySem.Challenge.rw_wittspaces_k02_reduced_tables.Holds := by
  w_on; o_law; o_head (PySem.W.kmHook K02.head.heap_39 [2, 3, 15, 17, 18, 20, 21, 22, 29, 30, 31, 32, 35, 42, 43, 44, 47, 54, 56, 57, 59, 60, 61, 62, 63, 66, 69, 70, 71, 73, 74, 76, 77, 78, 80, 81, 83, 84, 85, 87, 88, 90, 91, 92, 94, 95, 97, 98, 99, 102, 103, 104, 107, 108, 109, 111, 112, 114, 115, 116, 119, 120, 121, 123, 124, 126, 127, 128, 129, 130, 131, 132, 134, 135, 137, 138, 139, 141, 142, 144, 145, 153, 155, 156, 158, 159, 160, 162, 163, 165, 166, 167, 169, 170, 172, 173, 174, 176, 177, 179, 180, 181, 183, 184, 186, 187, 188, 190, 191, 193, 194, 195, 197, 198, 200, 201, 202, 204, 205, 207, 208, 209, 211, 212, 214, 215, 216, 218, 219, 221, 222, 223, 225, 226, 228, 229, 230, 232, 233, 235, 236, 237, 239, 240, 242, 243, 244, 246, 247, 249, 250, 251, 253, 254, 256, 257, 258, 260, 261, 263, 264, 265, 267, 268, 270, 271, 272, 274, 275, 277, 278, 279, 281, 282, 284, 285, 286, 288, 289, 291, 292, 293, 294, 295, 296, 297, 300, 302, 303, 305, 306, 307, 309, 310, 312, 313, 314, 316, 317, 319, 320, 321, 323, 324, 326, 327, 328, 330, 331, 333, 334, 335, 337, 338, 340, 341, 342, 344, 345, 347, 348, 349, 351, 352, 354, 355, 356, 359, 360, 361, 364, 365, 366, 369, 370, 371, 374, 375, 376, 379, 380, 381, 383, 384, 386, 387, 388, 391, 392, 393, 396, 397, 398, 400, 401, 403, 404, 405, 407, 408, 410, 411, 412, 415, 416] (fun _ => by kernel_rfl) [16, 55, 67, 72, 79, 86, 93, 100, 105, 110, 117, 122, 133, 140, 154, 161, 168, 175, 182, 189, 196, 203, 210, 217, 224, 231, 238, 245, 252, 259, 266, 273, 280, 287, 301, 308, 315, 322, 329, 336, 343, 350, 357, 362, 367, 372, 377, 382, 389, 394, 399, 406, 413]); (case hw => w_witness2)
  k_fill
  refine Wi.walkT (n := 10) (l := PySem.Challenge.rw_wittspaces_k02_reduced_tables) rfl rfl ⟨rfl, by decide, by decide⟩ ?T ?F
  case T => exact fun P => Wi.mem_all (by kernel_rfl)
  case F =>
    intro w mg fa h KX G hmg
    refine' K02.all KX G hmg ?z0 ?z1 ?z2 ?z3 ?z4 ?z5 ?z6 ?z7 ?z8 ?z9 ?z10 ?z11 ?z12 ?z13 ?z14 ?z15 ?z16 ?z17 ?z18 ?zv ?n_Fault ?n_Malformed ?n_Refused ?n_Field ?n_CHARACTERISTICS ?t_CHARACTERISTICS ?n_SQUARES_OF_T ?t_SQUARES_OF_T ?d_is_integer ?d_Field_is_number ?d_is_row ?d_unit_row ?t_unit_row ?d_scaled ?t_scaled ?d_add ?t_add ?d_add_multiple ?d_Field_negative ?d__cleared ?d_Field_inverse ?d_reduced ?d_span ?d_is_space ?d__sum_of ?d__product_of ?d_Field___init__ ?t_Field___init__ ?d__law_state ?d__law_take ?d__law_sum ?d__law_times ?d__law_combined ?d__law_unit ?d__law_mul ?d__law_negative ?d__law_inverse ?d__law_cleared ?d__law_rank ?d__law_any_row ?d__law_lines ?d__law_prime ?d__law_joined ?d__law_field ?d__law_some_field ?d__law_is_reduced ?d_law ?b_Field ?o_Refused ?e_Refused ?d_Refused___init__ ?e_Malformed K02.claim
    (case z0 => k_is)
    (case z1 => k_is)
    (case z2 => k_is)
    (case z3 => k_is)
    (case z4 => k_is)
    (case z5 => k_is)
    (case z6 => k_is)
    (case z7 => k_is)
    (case z8 => k_is)
    (case z9 => k_is)
    (case z10 => k_is)
    (case z11 => k_is)
    (case z12 => k_is)
    (case z13 => k_is)
    (case z14 => k_is)
    (case z15 => k_is)
    (case z16 => k_is)
    (case z17 => k_is)
    (case z18 => k_is)
    (case zv => k_is)
    (case n_Fault => k_is)
    (case n_Malformed => k_is)
    (case n_Refused => k_is)
    (case n_Field => k_is)
    (case n_CHARACTERISTICS => k_is)
    (case t_CHARACTERISTICS => first | kernel_rfl | decide +kernel)
    (case n_SQUARES_OF_T => k_is)
    (case t_SQUARES_OF_T => first | kernel_rfl | decide +kernel)
    (case d_is_integer => refine' dd_mk ?a_d_is_integer ?l_d_is_integer ?c_d_is_integer ?k_d_is_integer; (case a_d_is_integer => k_is); (case l_d_is_integer => k_is); (case c_d_is_integer => k_is); (case k_d_is_integer => k_is))
    (case d_Field_is_number => refine' dm_mk ?a_d_Field_is_number ?l_d_Field_is_number ?c_d_Field_is_number ?k_d_Field_is_number ?f_d_Field_is_number; (case a_d_Field_is_number => k_is); (case l_d_Field_is_number => k_is); (case c_d_Field_is_number => k_is); (case k_d_Field_is_number => k_is); (case f_d_Field_is_number => k_is))
    (case d_is_row => refine' dd_mk ?a_d_is_row ?l_d_is_row ?c_d_is_row ?k_d_is_row; (case a_d_is_row => k_is); (case l_d_is_row => k_is); (case c_d_is_row => k_is); (case k_d_is_row => k_is))
    (case d_unit_row => refine' dd_mk ?a_d_unit_row ?l_d_unit_row ?c_d_unit_row ?k_d_unit_row; (case a_d_unit_row => k_is); (case l_d_unit_row => k_is); (case c_d_unit_row => k_is); (case k_d_unit_row => k_is))
    (case t_unit_row => first | kernel_rfl | decide +kernel)
    (case d_scaled => refine' dd_mk ?a_d_scaled ?l_d_scaled ?c_d_scaled ?k_d_scaled; (case a_d_scaled => k_is); (case l_d_scaled => k_is); (case c_d_scaled => k_is); (case k_d_scaled => k_is))
    (case t_scaled => first | kernel_rfl | decide +kernel)
    (case d_add => refine' dd_mk ?a_d_add ?l_d_add ?c_d_add ?k_d_add; (case a_d_add => k_is); (case l_d_add => k_is); (case c_d_add => k_is); (case k_d_add => k_is))
    (case t_add => first | kernel_rfl | decide +kernel)
    (case d_add_multiple => refine' dd_mk ?a_d_add_multiple ?l_d_add_multiple ?c_d_add_multiple ?k_d_add_multiple; (case a_d_add_multiple => k_is); (case l_d_add_multiple => k_is); (case c_d_add_multiple => k_is); (case k_d_add_multiple => k_is))
    (case d_Field_negative => refine' dm_mk ?a_d_Field_negative ?l_d_Field_negative ?c_d_Field_negative ?k_d_Field_negative ?f_d_Field_negative; (case a_d_Field_negative => k_is); (case l_d_Field_negative => k_is); (case c_d_Field_negative => k_is); (case k_d_Field_negative => k_is); (case f_d_Field_negative => k_is))
    (case d__cleared => refine' dd_mk ?a_d__cleared ?l_d__cleared ?c_d__cleared ?k_d__cleared; (case a_d__cleared => k_is); (case l_d__cleared => k_is); (case c_d__cleared => k_is); (case k_d__cleared => k_is))
    (case d_Field_inverse => refine' dm_mk ?a_d_Field_inverse ?l_d_Field_inverse ?c_d_Field_inverse ?k_d_Field_inverse ?f_d_Field_inverse; (case a_d_Field_inverse => k_is); (case l_d_Field_inverse => k_is); (case c_d_Field_inverse => k_is); (case k_d_Field_inverse => k_is); (case f_d_Field_inverse => k_is))
    (case d_reduced => refine' dd_mk ?a_d_reduced ?l_d_reduced ?c_d_reduced ?k_d_reduced; (case a_d_reduced => k_is); (case l_d_reduced => k_is); (case c_d_reduced => k_is); (case k_d_reduced => k_is))
    (case d_span => refine' dd_mk ?a_d_span ?l_d_span ?c_d_span ?k_d_span; (case a_d_span => k_is); (case l_d_span => k_is); (case c_d_span => k_is); (case k_d_span => k_is))
    (case d_is_space => refine' dd_mk ?a_d_is_space ?l_d_is_space ?c_d_is_space ?k_d_is_space; (case a_d_is_space => k_is); (case l_d_is_space => k_is); (case c_d_is_space => k_is); (case k_d_is_space => k_is))
    (case d__sum_of => refine' dd_mk ?a_d__sum_of ?l_d__sum_of ?c_d__sum_of ?k_d__sum_of; (case a_d__sum_of => k_is); (case l_d__sum_of => k_is); (case c_d__sum_of => k_is); (case k_d__sum_of => k_is))
    (case d__product_of => refine' dd_mk ?a_d__product_of ?l_d__product_of ?c_d__product_of ?k_d__product_of; (case a_d__product_of => k_is); (case l_d__product_of => k_is); (case c_d__product_of => k_is); (case k_d__product_of => k_is))
    (case d_Field___init__ => refine' dm_mk ?a_d_Field___init__ ?l_d_Field___init__ ?c_d_Field___init__ ?k_d_Field___init__ ?f_d_Field___init__; (case a_d_Field___init__ => k_is); (case l_d_Field___init__ => k_is); (case c_d_Field___init__ => k_is); (case k_d_Field___init__ => k_is); (case f_d_Field___init__ => k_is))
    (case t_Field___init__ => first | kernel_rfl | decide +kernel)
    (case d__law_state => refine' dd_mk ?a_d__law_state ?l_d__law_state ?c_d__law_state ?k_d__law_state; (case a_d__law_state => k_is); (case l_d__law_state => k_is); (case c_d__law_state => k_is); (case k_d__law_state => k_is))
    (case d__law_take => refine' dd_mk ?a_d__law_take ?l_d__law_take ?c_d__law_take ?k_d__law_take; (case a_d__law_take => k_is); (case l_d__law_take => k_is); (case c_d__law_take => k_is); (case k_d__law_take => k_is))
    (case d__law_sum => refine' dd_mk ?a_d__law_sum ?l_d__law_sum ?c_d__law_sum ?k_d__law_sum; (case a_d__law_sum => k_is); (case l_d__law_sum => k_is); (case c_d__law_sum => k_is); (case k_d__law_sum => k_is))
    (case d__law_times => refine' dd_mk ?a_d__law_times ?l_d__law_times ?c_d__law_times ?k_d__law_times; (case a_d__law_times => k_is); (case l_d__law_times => k_is); (case c_d__law_times => k_is); (case k_d__law_times => k_is))
    (case d__law_combined => refine' dd_mk ?a_d__law_combined ?l_d__law_combined ?c_d__law_combined ?k_d__law_combined; (case a_d__law_combined => k_is); (case l_d__law_combined => k_is); (case c_d__law_combined => k_is); (case k_d__law_combined => k_is))
    (case d__law_unit => refine' dd_mk ?a_d__law_unit ?l_d__law_unit ?c_d__law_unit ?k_d__law_unit; (case a_d__law_unit => k_is); (case l_d__law_unit => k_is); (case c_d__law_unit => k_is); (case k_d__law_unit => k_is))
    (case d__law_mul => refine' dd_mk ?a_d__law_mul ?l_d__law_mul ?c_d__law_mul ?k_d__law_mul; (case a_d__law_mul => k_is); (case l_d__law_mul => k_is); (case c_d__law_mul => k_is); (case k_d__law_mul => k_is))
    (case d__law_negative => refine' dd_mk ?a_d__law_negative ?l_d__law_negative ?c_d__law_negative ?k_d__law_negative; (case a_d__law_negative => k_is); (case l_d__law_negative => k_is); (case c_d__law_negative => k_is); (case k_d__law_negative => k_is))
    (case d__law_inverse => refine' dd_mk ?a_d__law_inverse ?l_d__law_inverse ?c_d__law_inverse ?k_d__law_inverse; (case a_d__law_inverse => k_is); (case l_d__law_inverse => k_is); (case c_d__law_inverse => k_is); (case k_d__law_inverse => k_is))
    (case d__law_cleared => refine' dd_mk ?a_d__law_cleared ?l_d__law_cleared ?c_d__law_cleared ?k_d__law_cleared; (case a_d__law_cleared => k_is); (case l_d__law_cleared => k_is); (case c_d__law_cleared => k_is); (case k_d__law_cleared => k_is))
    (case d__law_rank => refine' dd_mk ?a_d__law_rank ?l_d__law_rank ?c_d__law_rank ?k_d__law_rank; (case a_d__law_rank => k_is); (case l_d__law_rank => k_is); (case c_d__law_rank => k_is); (case k_d__law_rank => k_is))
    (case d__law_any_row => refine' dd_mk ?a_d__law_any_row ?l_d__law_any_row ?c_d__law_any_row ?k_d__law_any_row; (case a_d__law_any_row => k_is); (case l_d__law_any_row => k_is); (case c_d__law_any_row => k_is); (case k_d__law_any_row => k_is))
    (case d__law_lines => refine' dd_mk ?a_d__law_lines ?l_d__law_lines ?c_d__law_lines ?k_d__law_lines; (case a_d__law_lines => k_is); (case l_d__law_lines => k_is); (case c_d__law_lines => k_is); (case k_d__law_lines => k_is))
    (case d__law_prime => refine' dd_mk ?a_d__law_prime ?l_d__law_prime ?c_d__law_prime ?k_d__law_prime; (case a_d__law_prime => k_is); (case l_d__law_prime => k_is); (case c_d__law_prime => k_is); (case k_d__law_prime => k_is))
    (case d__law_joined => refine' dd_mk ?a_d__law_joined ?l_d__law_joined ?c_d__law_joined ?k_d__law_joined; (case a_d__law_joined => k_is); (case l_d__law_joined => k_is); (case c_d__law_joined => k_is); (case k_d__law_joined => k_is))
    (case d__law_field => refine' dd_mk ?a_d__law_field ?l_d__law_field ?c_d__law_field ?k_d__law_field; (case a_d__law_field => k_is); (case l_d__law_field => k_is); (case c_d__law_field => k_is); (case k_d__law_field => k_is))
    (case d__law_some_field => refine' dd_mk ?a_d__law_some_field ?l_d__law_some_field ?c_d__law_some_field ?k_d__law_some_field; (case a_d__law_some_field => k_is); (case l_d__law_some_field => k_is); (case c_d__law_some_field => k_is); (case k_d__law_some_field => k_is))
    (case d__law_is_reduced => refine' dd_mk ?a_d__law_is_reduced ?l_d__law_is_reduced ?c_d__law_is_reduced ?k_d__law_is_reduced; (case a_d__law_is_reduced => k_is); (case l_d__law_is_reduced => k_is); (case c_d__law_is_reduced => k_is); (case k_d__law_is_reduced => k_is))
    (case d_law => refine' dd_mk ?a_d_law ?l_d_law ?c_d_law ?k_d_law; (case a_d_law => k_is); (case l_d_law => k_is); (case c_d_law => k_is); (case k_d_law => k_is))
    (case b_Field => first | kernel_rfl | decide +kernel)
    (case o_Refused => refine' exo_mk ?a_o_Refused ?b_o_Refused; (case a_o_Refused => k_is); (case b_o_Refused => decide +kernel))
    (case e_Refused => first | kernel_rfl | decide +kernel)
    (case d_Refused___init__ => refine' dm_mk ?a_d_Refused___init__ ?l_d_Refused___init__ ?c_d_Refused___init__ ?k_d_Refused___init__ ?f_d_Refused___init__; (case a_d_Refused___init__ => k_is); (case l_d_Refused___init__ => k_is); (case c_d_Refused___init__ => k_is); (case k_d_Refused___init__ => k_is); (case f_d_Refused___init__ => k_is))
    (case e_Malformed => first | kernel_rfl | decide +kernel)
