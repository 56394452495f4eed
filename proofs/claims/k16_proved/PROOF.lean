import PyProof.Rows.All
import Wide.All
import OpenK.AllK
import Wide.FinOn
import HandS.ForMost
import HandS.IsInst
import HandS.Conv
import HandS.DictComp
import HandS.Deep
import HandS.NoneIn
import HandS.Style
import HandS.TupAny
import HandS.OwnEq
import HandS.More
import HandS.Flow
import HandS.Codes
import HandS.Walk
import HandS.StrMore
import KE.GoesMore
import KE.GoesEnum
import HandS.Defaults
import HandS.IterNext
import HandS.IterVal
import KE.KOwnIter
import HandS.DeepEq
import KE.KOpsOwn
import HandS.DictTup
import KE.KDictKeyed
import KE.KDictDisplayH
import HandS.Dict
import HandS.List
import PyProof.WalkInts
import PySem.Challenge.RW_turnsets_k16_whole_fewest_deeds
set_option Elab.async false
set_option linter.all false

set_option maxRecDepth 100000
set_option maxHeartbeats 4000000
namespace Ts
open PySem L2
section
variable {X : Cx} {CX : CXT} {k : Nat} {f C : Addr} {fd : FuncData} {ps : List Str} {sp : Sp} {E : XK}
/-- a def of the text run below a builtin of this body -/
theorem run_at {A : Around} {pins : List (Addr × Obj)} {σ : St} {H : Hp} {s : Shared} {Q : VK} {us : List Value} {vs : List V} (F : FnOk X.prog X.w X.K X.mg X.base CX k f fd ps sp) (hr : Room k A) (hfr : A.frames = X.A.frames) (hb : Binds X.K fd ps []) (hx : Passes CX X E)
    (I : Inv X pins σ H s) (r : Vals vs us) (h : sp vs H Q E) : wpAny (model X.prog X.w) A (call (.ref f) us) (EP X pins σ Q) X.xe s := by
  have hl : us.length = ps.length := by rw [← r.length]; exact F.len _ _ _ _ h
  have e0 : Env0 X.prog X.w X.K X.mg X.base A X.stack s H := by
    have e := I.env0
    exact ⟨by rw [hfr]; exact e.frames, e.mod, e.bs, e.bsz, e.funs, e.frf, e.hok, e.bare⟩
  refine wpAny_call (codeAny_mono (F.run A X.stack s H ⟨us, []⟩ us vs Q E hr e0 (by
    have := hb s us I.kIn (by simpa using hl)
    simpa using this) r h) fun r s' hq => ?_)
  cases r with
  | error e => exact hx pins σ H s e s' I hq
  | ok fl =>
    cases fl with
    | ret u => exact I.after hq
    | next => exact False.elim hq
    | brk => exact False.elim hq
    | cont => exact False.elim hq
/-- x in o, o of an own class with its own look -/
def rInC (C : Addr) (sp : Sp) (E : XK) : R2 := fun x y H Q => ∃ a dx fs, y = .ref a ∧ H a = some (.ins C dx fs) ∧ sp [.ref a, x] H (fun v H' => ∃ b, v = .bl b ∧ Q (.bl b) H') E
def rNotInC (C : Addr) (sp : Sp) (E : XK) : R2 := fun x y H Q => ∃ a dx fs, y = .ref a ∧ H a = some (.ins C dx fs) ∧ sp [.ref a, x] H (fun v H' => ∃ b, v = .bl b ∧ Q (.bl (!b)) H') E
theorem op_inC (F : FnOk X.prog X.w X.K X.mg X.base CX k f fd ps sp) (m : Meth X.K C "__contains__" f) (hr : Room k X.A) (hb : Binds X.K fd ps []) (hx : Passes CX X E) : OpR X (compareOp .In) (rInC C sp E) := by
  intro pins s σ H x y v u Q I rx ry hq
  obtain ⟨a, dx, fs, rfl, ha, hsp⟩ := hq
  cases ry
  obtain ⟨mA, J, _⟩ := ins_get I.hok ha
  obtain ⟨od, J, _⟩ := J.look
  obtain ⟨mm, hF⟩ := I.fr
  refine PySem.W.in_K hF I.ok.mod.kin J m.at_ m.fn ?_
  refine wpAny_mono (run_at F hr rfl hb hx I (us := [.ref a, v]) (.cons (show RelV (.ref a) (.ref a) from rfl) (.cons rx .nil)) hsp) (fun r s' hq => ?_) fun _ _ x => x
  obtain ⟨z, H', I', rz, b, rfl, q⟩ := hq
  cases rz
  exact wpAny_truthy_bool ⟨.bl b, H', I', rfl, q⟩
theorem op_notinC (F : FnOk X.prog X.w X.K X.mg X.base CX k f fd ps sp) (m : Meth X.K C "__contains__" f) (hr : Room k X.A) (hb : Binds X.K fd ps []) (hx : Passes CX X E) : OpR X (compareOp .NotIn) (rNotInC C sp E) := by
  intro pins s σ H x y v u Q I rx ry hq
  obtain ⟨a, dx, fs, rfl, ha, hsp⟩ := hq
  cases ry
  obtain ⟨mA, J, _⟩ := ins_get I.hok ha
  obtain ⟨od, J, _⟩ := J.look
  obtain ⟨mm, hF⟩ := I.fr
  refine PySem.W.notIn_K hF I.ok.mod.kin J m.at_ m.fn ?_
  refine wpAny_mono (run_at F hr rfl hb hx I (us := [.ref a, v]) (.cons (show RelV (.ref a) (.ref a) from rfl) (.cons rx .nil)) hsp) (fun r s' hq => ?_) fun _ _ x => x
  obtain ⟨z, H', I', rz, b, rfl, q⟩ := hq
  cases rz
  exact wpAny_truthy_bool ⟨.bl (!b), H', I', rfl, q⟩
/-- len(o) -/
def rLenC (C : Addr) (sp : Sp) (E : XK) : List V → Hp → VK → Prop := fun xs H Q => ∃ a dx fs, xs = [.ref a] ∧ H a = some (.ins C dx fs) ∧ sp [.ref a] H (fun v H' => ∃ n : Int, v = .int n ∧ (0 ≤ n ∧ n < 2 ^ 63) ∧ Q (.int n) H') E
theorem call_lenC (F : FnOk X.prog X.w X.K X.mg X.base CX k f fd ps sp) (m : Meth X.K C "__len__" f) (hr : Room (k + 1) X.A) (hb : Binds X.K fd ps []) (hx : Passes CX X E) : CallR X (.builtin "len") (rLenC C sp E) := by
  intro pins s σ H xs us Q I r hq
  obtain ⟨a, dx, fs, rfl, ha, hsp⟩ := hq
  obtain ⟨u, rfl, ru⟩ := vals1 r
  cases ru
  obtain ⟨mA, J, _⟩ := ins_get I.hok ha
  obtain ⟨od, J, _⟩ := J.look
  obtain ⟨mm, hF⟩ := I.fr
  refine PySem.W.len_K hF I.ok.mod.kin J m.at_ m.fn ?_
  refine wpAny_mono (run_at F hr.in1 rfl hb hx I (us := [.ref a]) (.cons (show RelV (.ref a) (.ref a) from rfl) .nil) hsp) (fun r s' hq => ?_) fun _ _ x => x
  obtain ⟨z, H', I', rz, n, rfl, hn, q⟩ := hq
  obtain ⟨t, rfl⟩ := rz
  exact ⟨hn, .int n, H', I'.tok _, ⟨_, rfl⟩, q⟩
/-- the sort of a value, as == wants to know it -/
inductive TyE (H : Hp) : V → Value → Prop where
  | non : TyE H .non (.type "NoneType")
  | bl (x : Bool) : TyE H (.bl x) (.type "bool")
  | int (i : Int) : TyE H (.int i) (.type "int")
  | str (x : Str) : TyE H (.str x) (.type "str")
  | lst {a : Addr} {xs : List V} (e : H a = some (.lst xs)) : TyE H (.ref a) (.type "list")
  | tup {a : Addr} {xs : List V} (e : H a = some (.tup xs)) : TyE H (.ref a) (.type "tuple")
  | dK {a : Addr} {kvs : List (Key × V)} (e : H a = some (.dK kvs)) : TyE H (.ref a) (.type "dict")
  | ins {a C dx : Addr} {fs : List (Str × V)} (e : H a = some (.ins C dx fs)) : TyE H (.ref a) (.ref C)
theorem ty_looks {pins : List (Addr × Obj)} {σ : St} {H : Hp} {s : Shared} {y : V} {u tb : Value} (I : Inv X pins σ H s) (r : RelV y u) (ty : TyE H y tb) : PySem.W.Looks (model X.prog X.w) s.heap (typeOf u) tb := by
  have lk : ∀ {a : Addr} {o : Obj} {c : Value}, s.heap.get? a = some o → o.cls = c → PySem.W.Looks (model X.prog X.w) s.heap (typeOf (.ref a)) c := fun {a o c} e h => h ▸ (PySem.W.Looks.ld e).andThen .now
  cases ty with
  | non => cases (show u = Value.none from r); exact PySem.W.Looks.of_pure rfl
  | bl y => cases (show u = Value.bool y from r); exact PySem.W.Looks.of_pure rfl
  | int i => obtain ⟨t, q⟩ := (show ∃ t, u = Value.int i t from r); cases q; exact PySem.W.Looks.of_pure rfl
  | str y => obtain ⟨t, q⟩ := (show ∃ t, u = Value.str y t from r); cases q; exact PySem.W.Looks.of_pure rfl
  | @lst a xs ea =>
    cases (show u = Value.ref a from r)
    obtain ⟨_, _, n, _, h1⟩ := (show ObjOk X.prog X.w H s.heap a (.lst xs) from I.hok a _ ea)
    exact lk h1 rfl
  | @tup a xs ea =>
    cases (show u = Value.ref a from r)
    obtain ⟨_, _, _, o, h1, h2, _⟩ := (show ObjOk X.prog X.w H s.heap a (.tup xs) from I.hok a _ ea)
    exact lk h1 h2
  | @dK a kvs ea =>
    cases (show u = Value.ref a from r)
    obtain ⟨_, _, vs, _, o, es, ep, h1, h2, _⟩ := (show ObjOk X.prog X.w H s.heap a (.dK kvs) from I.hok a _ ea)
    exact lk h1 h2.1
  | @ins a C dx fs ea =>
    cases (show u = Value.ref a from r)
    obtain ⟨mA, J, _⟩ := ins_get I.hok ea
    obtain ⟨od, J, _⟩ := J.look
    exact J.type
/-- o == y -/
def rEqC (K : PySem.W.Frag) (C : Addr) (sp : Sp) (E : XK) : R2 := fun x y H Q => ∃ a dx fs tb, x = .ref a ∧ H a = some (.ins C dx fs) ∧ TyE H y tb ∧ PySem.W.notFirst K C tb = true ∧ sp [.ref a, y] H (fun v H' => ∃ b, v = .bl b ∧ Q (.bl b) H') E
def rNeC (K : PySem.W.Frag) (C : Addr) (sp : Sp) (E : XK) : R2 := fun x y H Q => ∃ a dx fs tb, x = .ref a ∧ H a = some (.ins C dx fs) ∧ TyE H y tb ∧ PySem.W.notFirst K C tb = true ∧ sp [.ref a, y] H (fun v H' => ∃ b, v = .bl b ∧ Q (.bl (!b)) H') E
theorem op_eqC (F : FnOk X.prog X.w X.K X.mg X.base CX k f fd ps sp) (m : Meth X.K C "__eq__" f) (hr : Room k X.A) (hb : Binds X.K fd ps []) (hx : Passes CX X E) : OpR X (compareOp .Eq) (rEqC X.K C sp E) := by
  intro pins s σ H x y v u Q I rx ry hq
  obtain ⟨a, dx, fs, tb, rfl, ha, ty, hn, hsp⟩ := hq
  cases rx
  obtain ⟨mA, J, _⟩ := ins_get I.hok ha
  obtain ⟨od, J, _⟩ := J.look
  obtain ⟨mm, hF⟩ := I.fr
  show wpAny (model X.prog X.w) X.A (richCompare .Eq _ u) (EP X pins σ Q) X.xe s
  refine PySem.W.cmp_K (op := .Eq) (tb := tb) hr.units0 hF I.ok.mod.kin J (ty_looks I ry ty) hn m.at_ m.fn ?_
  refine wpAny_mono (run_at F hr rfl hb hx I (us := [.ref a, u]) (.cons (show RelV (.ref a) (.ref a) from rfl) (.cons ry .nil)) hsp) (fun r s' hq => ?_) fun _ _ x => x
  obtain ⟨z, H', I', rz, b, rfl, q⟩ := hq
  cases rz
  exact ⟨.bl b, H', I', rfl, q⟩
section
open PySem.W
open PyProof.Rows (Fr)
variable {prog : Program} {w : World} {A : Around} {E : Value → Shared → Prop} {s : Shared} {K : Frag} {h₀ : Heap} {L : Addr} {m : Str → Option Value} {x f C : Addr} {ox : Obj} {od : Option Obj} {b tb : Value}
theorem ne_own_K {Q : Value → Shared → Prop} (hu : A.units + 1 < cLine) (F : Fr h₀ L s.heap m) (X₀ : K.In h₀) (I : InstAt s.heap x ox C od) (hb : Looks (model prog w) s.heap (typeOf b) tb) (hn : notFirst K C tb = true)
    (hne : findIn K (.ref C) "__ne__" = some (some (.builtin "object.__ne__"))) (hs : findIn K (.ref C) "__eq__" = some (some (.ref f))) (hf : isFn K (.ref f) = true) (ho : subIn K (.ref C) (.type "object") = some true)
    (h : wpAny (model prog w) A.in1 (call (.ref f) [.ref x, b]) (fun v s' => ∃ r, v = .bool r ∧ Q (.bool (!r)) s') E s) : wpAny (model prog w) A (richCompare .NotEq (.ref x) b) Q E s := by
  have X := X₀.keeps F.keep
  have body : wpAny (model prog w) A.in1 (Builtin.«object.__ne__» ⟨[.ref x, b], []⟩) (GQ.FinOf prog w A (wants (fun v s' => ∃ r, v = .bool r ∧ Q v s') E)) (fun e s' => wants (fun v s' => ∃ r, v = .bool r ∧ Q v s') E (.error e) s') s := by
    unfold Builtin.«object.__ne__»
    repeat (first
      | with_reducible refine wpAny_cRoomFor hu ?_
      | (refine wpAny_bind (m := callSpecialIfBound? (.ref x) (Str.ofString "__eq__") [b]) (ifBound_K X I hs hf (wpAny_mono h (fun r s' hr => by
          obtain ⟨r, rfl, hq⟩ := hr
          repeat (first | exact ⟨_, rfl, hq⟩ | exact wpAny_pure ⟨_, rfl, hq⟩ | (refine wpAny_bind (m := truthy (.bool _)) (wpAny_truthy_bool ?_)) | wp_step)) fun _ _ e => e)))
      | wp_step)
  have bind : bindSpecial (.builtin "object.__ne__") (.ref x) = pure (.builtin "object.__ne__", [.ref x]) := PySem.F.cmp_object.ne.bind (.ref x)
  have one : wpAny (model prog w) A (tryCompare (.ref x) "__ne__" b) (fun r s' => ∃ v, r = some v ∧ Q v s') E s := by
    unfold tryCompare
    refine wpAny_bind ?_
    simp only [callSpecialIfBound?, bindSpecialIfBound?]
    refine wpAny_holding (wpAny_bind (wpAny_bind (wpAny_bind (I.type.here ((looks_findIn X hne).here ?_)))))
    have fin : wpAny (model prog w) A (call (.builtin "object.__ne__") ([.ref x] ++ [b])) (fun v s' => ∃ r, v = .bool r ∧ Q v s') E s :=
      wpAny_call (codeAny_call_builtin PySem.F.cmp_object.ne.plain PySem.F.cmpEntry_ne (check_slot PySem.F.cmpKind_ne PySem.F.cmpSplit_ne (I.type.andThen (looks_subIn X ho)) (PySem.F.cmpArgs_ne _ _) body))
    simp only [bind]
    refine wpAny_bind (wpAny_askSetting (wpAny_ite ?_))
    split
    · refine wpAny_bind (wpAny_pure (wpAny_pure ?_))
      refine wpAny_bind (wpAny_mono fin (fun v s' z => ?_) fun _ _ e => e)
      obtain ⟨r, rfl, q⟩ := z
      refine wpAny_pure ?_
      exact wpAny_pure ⟨_, rfl, q⟩
    · refine wpAny_tryCatch (wpAny_bind (wpAny_pure (wpAny_pure ?_)))
      refine wpAny_bind (wpAny_mono fin (fun v s' z => ?_) fun _ _ e => e)
      obtain ⟨r, rfl, q⟩ := z
      refine wpAny_pure ?_
      exact wpAny_pure ⟨_, rfl, q⟩
  unfold richCompare
  simp only [oneThing_ref]
  refine wpAny_holding (wpAny_bind (wpAny_cRoomFor (Nat.lt_of_succ_lt hu) ?_))
  refine wpAny_bind (I.type.here (wpAny_bind (hb.here ?_)))
  split
  · rename_i q
    have e : subIn K tb (.ref C) = some false := by
      rcases Bool.or_eq_true_iff.mp hn with e | e
      · rw [beq_iff_eq.mp e] at q; simp at q
      · exact beq_iff_eq.mp e
    refine wpAny_bind ((looks_subIn X e).here ?_)
    simp only [Bool.false_eq_true, if_false]
    refine wpAny_bind (wpAny_mono one (fun r s' z => ?_) fun _ _ e => e)
    obtain ⟨v, rfl, hq⟩ := z
    exact wpAny_pure hq
  · refine wpAny_bind (wpAny_pure ?_)
    simp only [Bool.false_eq_true, if_false]
    refine wpAny_bind (wpAny_mono one (fun r s' z => ?_) fun _ _ e => e)
    obtain ⟨v, rfl, hq⟩ := z
    exact wpAny_pure hq
end
section
variable {X : Cx} {CX : CXT} {k : Nat} {f C : Addr} {fd : FuncData} {ps : List Str} {sp : Sp} {E : XK}
theorem op_neC (F : FnOk X.prog X.w X.K X.mg X.base CX k f fd ps sp) (m : Meth X.K C "__eq__" f) (hne : PySem.W.findIn X.K (.ref C) "__ne__" = some (some (.builtin "object.__ne__"))) (ho : PySem.W.subIn X.K (.ref C) (.type "object") = some true) (hr : Room (k + 1) X.A) (hb : Binds X.K fd ps []) (hx : Passes CX X E) : OpR X (compareOp .NotEq) (rNeC X.K C sp E) := by
  intro pins s σ H x y v u Q I rx ry hq
  obtain ⟨a, dx, fs, tb, rfl, ha, ty, hn, hsp⟩ := hq
  cases rx
  obtain ⟨mA, J, _⟩ := ins_get I.hok ha
  obtain ⟨od, J, _⟩ := J.look
  obtain ⟨mm, hF⟩ := I.fr
  show wpAny (model X.prog X.w) X.A (richCompare .NotEq _ u) (EP X pins σ Q) X.xe s
  refine ne_own_K (tb := tb) (by have := hr.un; omega) hF I.ok.mod.kin J (ty_looks I ry ty) hn hne m.at_ m.fn ho ?_
  refine wpAny_mono (run_at F hr.in1 rfl hb hx I (us := [.ref a, u]) (.cons (show RelV (.ref a) (.ref a) from rfl) (.cons ry .nil)) hsp) (fun r s' hq => ?_) fun _ _ x => x
  obtain ⟨z, H', I', rz, b, rfl, q⟩ := hq
  cases rz
  exact ⟨b, rfl, .bl (!b), H', I', rfl, q⟩
end
end
end Ts

set_option maxRecDepth 100000
set_option maxHeartbeats 4000000
namespace Ts
open PySem L2
/-! ### enumerate(tuple) -/
set_option maxHeartbeats 4000000 in
theorem meets_enum_T (t : Addr) (its : Array Value) :
    Meets (Builtin.«enumerate.__new__» ⟨[.type "enumerate", .ref t], []⟩) (fun _ R s => s.heap.IsTuple t its ∧
      R (.ok (.ret (.ref (s.heap.push { cls := .type "tuple_iterator", data := .fields #[.ref t, .int 0 0] }).objs.size)))
        { s with heap := (s.heap.push { cls := .type "tuple_iterator", data := .fields #[.ref t, .int 0 0] }).push { cls := .type "enumerate", data := .fields #[.none, .bool false, .ref s.heap.objs.size, rawInt 0, .none, .none] } }) :=
  .of_wp fun prog w A R s h => by
    obtain ⟨hp, g, d, tk, os⟩ := s
    obtain ⟨hT, h⟩ := h
    have hsub := sub_enumerate
    wp_walk
    refine wpAny_stack_any fun st => wpAny_pure ?_
    split
    · rename_i c _ _ _ _ _
      cases (c == Value.type "enumerate")
      · wp_walk using wpAny_pyIter_tuple hT
        exact ⟨_, rfl, h⟩
      · wp_walk using wpAny_pyIter_tuple hT
        exact ⟨_, rfl, h⟩
    · wp_walk using wpAny_pyIter_tuple hT
      exact ⟨_, rfl, h⟩

section
variable {prog : Program} {w : World} {A : Around} {E : Value → Shared → Prop} {s : Shared}
theorem call_enum_T {t : Addr} {its : Array Value} {Q : Value → Shared → Prop} (hT : s.heap.IsTuple t its)
    (k : ∀ g, IsEnum g (s.heap.objs.size + 1) s.heap.objs.size 0 .none → g.IsTupleIter s.heap.objs.size t 0 → (∀ b o, s.heap.get? b = some o → g.get? b = some o) → Q (.ref (s.heap.objs.size + 1)) { s with heap := g }) :
    wpAny (model prog w) A (call (.type "enumerate") [.ref t]) Q E s := by
  refine callType_new F.called_enumerate (by decide) (F.typeCall_enumerate_1 _) (F.newCall_enumerate_1 _) (fun o => F.args_object_init_2 o _) F.entry_enumerate_new (meets_enum_T t its) ⟨hT, ?_⟩
  have z : (s.heap.push { cls := .type "tuple_iterator", data := .fields #[.ref t, .int 0 0] }).objs.size = s.heap.objs.size + 1 := Heap.size_push ..
  show _ ∧ _
  rw [z]
  have en : IsEnum ((s.heap.push { cls := .type "tuple_iterator", data := .fields #[.ref t, .int 0 0] }).push { cls := .type "enumerate", data := .fields #[.none, .bool false, .ref s.heap.objs.size, rawInt 0, .none, .none] }) (s.heap.objs.size + 1) s.heap.objs.size 0 .none := by
    have q := Heap.get?_push_size (s.heap.push { cls := .type "tuple_iterator", data := .fields #[.ref t, .int 0 0] }) (o := { cls := .type "enumerate", data := .fields #[.none, .bool false, .ref s.heap.objs.size, rawInt 0, .none, .none] }) rfl
    rw [z] at q
    exact q
  exact ⟨⟨_, en, rfl⟩, k _ en ⟨_, Heap.get?_push_of_some _ (Heap.get?_push_size _ rfl), rfl, rfl⟩ fun b o y => Heap.get?_push_of_some _ (Heap.get?_push_of_some _ y)⟩
end
/-- the tuple at a as it stands at each turn, each item in a new pair -/
def IteT (K : PySem.W.Frag) (a : Addr) : It :=
  ⟨fun i H => ∃ (xs : List V) (x : V), SqT K H a xs ∧ xs[i]? = some x, fun i H v H' => ∃ T x, v = .ref T ∧ H T = none ∧ H' = upd H T (.tup [.int (i : Nat), x]) ∧ ∀ xs, SqT K H a xs → xs[i]? = some x, fun i H => ∃ xs : List V, SqT K H a xs ∧ xs.length = i⟩
theorem turn_enumT {P : Program} {w : World} {K : PySem.W.Frag} {elts : List Expr} {kk : Nat} {tpos : Pos} (a e it : Addr) :
    Turn P w K (.Tuple elts kk tpos) (IteT K a) [e, it] e (fun i h => (∃ old, IsEnum h e it ((i : Nat) : Int) old) ∧ h.IsTupleIter it a i ∧ e ≠ it ∧ a ≠ it ∧ e ≠ a) where
  mem := by simp
  obj := fun i h st b hb => by
    obtain ⟨⟨old, en⟩, ⟨o, ho, hc, hd⟩, _⟩ := st
    rcases (show b = e ∨ b = it by simpa using hb) with z | z
    · rw [z]; exact ⟨_, en, fun v q => nomatch q⟩
    · rw [z]; exact ⟨o, ho, fun v q => by rw [hd] at q; cases q⟩
  keep := fun i h h' st k => let ⟨⟨old, en⟩, hi, r⟩ := st; ⟨⟨old, k e (by simp) _ en⟩, hi.at fun o y => k it (by simp) o y, r⟩
  item := by
    intro X hP hw hK hc i pins s σ H E I hf st hg
    subst hP hw hK
    obtain ⟨⟨old, en⟩, hit, hne, hai, hea⟩ := st
    obtain ⟨xs, x, hq, hx⟩ := hg
    obtain ⟨its, rv, p, hz⟩ := I.tuple hq
    obtain ⟨u, hu, ru⟩ := rv.get hx
    have pT : s.heap.IsTuple a its.toArray := p
    have hil : i < its.toArray.size := by
      have q := (List.getElem?_eq_some_iff.mp hu).1
      simpa using q
    have l1 : e < s.heap.objs.size := Heap.lt_size en
    have l2 : it < s.heap.objs.size := by obtain ⟨_, q, _⟩ := hit; exact Heap.lt_size q
    have hh1 : X.A.in1.handled = none := I.ok.hd hc
    refine wpAny_pyNext_enum_itemD (Draws.tuple hh1 it a hai its.toArray) en ⟨hit, pT⟩ hil hne (by simp [hne, hea]) fun x' g tk hx' ho st' hT hsz hk => ?_
    have ex : x' = u := by
      have q : its.toArray[i]? = some u := by simpa using hu
      rw [q] at hx'
      exact (Option.some.inj hx').symm
    subst ex
    refine ⟨_, rfl, wpAny_letOwnedTupleGo_enum (s := { s with heap := g, toks := tk + 1 }) ho fun g2 he' sb => ?_⟩
    have hT2 : g2.get? s.heap.objs.size = some { cls := .type "tuple", data := .seq #[.int i tk, x'] } := (sb.2 _ (Nat.ne_of_gt l1)).trans hT
    have new : ObjOk X.prog X.w (upd H s.heap.objs.size (.tup [.int (i : Nat), x])) g2 s.heap.objs.size (.tup [.int (i : Nat), x]) :=
      ⟨by show 2 ≤ sizeLine; decide, [.int i tk, x'], .cons ⟨_, rfl⟩ (.cons ru .nil), ⟨_, hT2, rfl, _, rfl⟩⟩
    have I1 : Inv X pins σ (upd H s.heap.objs.size (.tup [.int (i : Nat), x])) { s with heap := g2, toks := tk + 1 } :=
      I.turnedNew (ch := [e, it]) (fun b o hb y => (sb.2 b (fun z => hb (by simp [z]))).trans (hk b o (fun z => hb (by simp [z])) (fun z => hb (by simp [z])) y)) hf (Nat.le_refl _) new
    refine ⟨.ref s.heap.objs.size, _, I1, rfl, ⟨_, x, rfl, I.hok.fresh (Nat.le_refl _), rfl, fun ys hy => by rw [I.tuple_inj hy hq]; exact hx⟩, ⟨⟨x', ?_⟩, st'.1.at fun o y => (sb.2 it (Ne.symm hne)).trans y, hne, hai, hea⟩, fun b hb => ?_⟩
    · rw [show ((i + 1 : Nat) : Int) = (i : Int) + 1 by omega]
      exact he'
    · have lb : b < s.heap.objs.size := by
        rcases (show b = e ∨ b = it by simpa using hb) with z | z
        · rw [z]; exact l1
        · rw [z]; exact l2
      rw [upd_ne (Nat.ne_of_lt lb)]
      exact (hf b hb).1
  done := by
    intro X hP hw hK hc i pins s σ H E I hf st hg
    subst hP hw hK
    obtain ⟨⟨old, en⟩, hit, hne, hai, hea⟩ := st
    obtain ⟨xs, hq, hx⟩ := hg
    obtain ⟨its, rv, p, hz⟩ := I.tuple hq
    have pT : s.heap.IsTuple a its.toArray := p
    have hh1 : X.A.in1.handled = none := I.ok.hd hc
    have ei : its.toArray.size = i := by rw [← hx, rv.length]; simp
    obtain ⟨f0, f1, f2, f3, f4, f5⟩ := hf it (by simp)
    refine wpAny_pyNext_enum_endD (Draws.tuple hh1 it a hai its.toArray) en (by rw [ei]; exact ⟨hit, pT⟩) fun g eb => ⟨rfl, I.turned (t' := s.toks) (fun b o hb y => eb b o hb y) f0 f1 f3 f4 f5⟩
  self := fun A i s Q E st h => let ⟨⟨_, en⟩, _⟩ := st; wpAny_pyIter_enum en h
def iEnumT (K : PySem.W.Frag) (ta : TA) : TI := fun σ H R => ta σ H fun vs H1 => ∃ a xs, vs = [.ref a] ∧ SqT K H1 a xs ∧ R (IteT K a) H1
theorem pi_enumT {X : Cx} {e : Expr} {ta : TA} {p pos tpos : Pos} {elts : List Expr} {kk : Nat} (hg : Gl X "enumerate") (hm : X.mg "enumerate" = none) (ha : PA X [e] ta) (hs : starEach [e] X.env = [(false, eval e X.env)] := by rfl) :
    PI X (.Tuple elts kk tpos) (.Call (.Name "enumerate" p) [e] [] pos) (iEnumT X.K ta) := by
  refine ⟨fun pins s σ H R I h => ?_⟩
  refine wpAny_Call_Name_kw (ld_blt I hg hm PyProof.Rows.boot_enumerate (PyProof.Rows.callWith_type1 (thn (ha.run pos pins s σ H _ I h) fun us s1 z => ?_) hs rfl))
  obtain ⟨vs, H1, I1, r1, a, xs, ex, hq, q⟩ := z
  subst ex
  obtain ⟨u, rfl, ru⟩ := vals1 r1
  cases ru
  obtain ⟨its, rv, p', hz⟩ := I1.tuple hq
  have pT : s1.heap.IsTuple a its.toArray := p'
  obtain ⟨oa, hoa, _⟩ := id pT
  have la : a < s1.heap.objs.size := Heap.lt_size hoa
  refine call_enum_T pT fun g en hit hk => wpAny_pyIter_enum en ?_
  have I2 : Inv X pins σ H1 { s1 with heap := g } := I1.kept (t' := s1.toks) hk
  refine ⟨s1.heap.objs.size + 1, [s1.heap.objs.size + 1, s1.heap.objs.size], _, _, H1, rfl, I2, turn_enumT a (s1.heap.objs.size + 1) s1.heap.objs.size, ⟨⟨.none, en⟩, hit, Nat.succ_ne_self _, Nat.ne_of_lt la, Nat.ne_of_gt (Nat.lt_succ_of_lt la)⟩, fun b hb => ?_, q⟩
  have ge : s1.heap.objs.size ≤ b := by
    rcases (show b = s1.heap.objs.size + 1 ∨ b = s1.heap.objs.size by simpa using hb) with z | z
    · rw [z]; exact Nat.le_add_right _ _
    · rw [z]; exact Nat.le_refl _
  exact I1.fpOk ge (I1.hok.fresh ge)
theorem walk_enumT {K : PySem.W.Frag} {a : Addr} {xs : List V} : Walk (IteT K a) xs.length (fun H => SqT K H a xs) (YPair (fun i => some (.int (i : Nat))) (fun i => xs[i]?)) := by
  refine ⟨fun i _ hi q => ⟨xs, xs[i], q, by simp [hi]⟩, fun _ q => ⟨xs, q, rfl⟩, fun i H v H' _ q y => ?_⟩
  obtain ⟨T, x, y1, y2, y3, y4⟩ := y
  exact ⟨T, .int (i : Nat), x, y1, y2, y3, rfl, y4 xs q⟩
/-! ### one rule or another -/
section
variable {X : Cx} {e : Expr}
theorem pe_or' {t u : TE} (a : PE X e t) (b : PE X e u) : PE X e (fun σ H Q => t σ H Q ∨ u σ H Q) := ⟨fun pins s σ H Q I h => h.elim (a.run pins s σ H Q I) (b.run pins s σ H Q I)⟩
theorem pg_or {t u : TG} (a : PG X e t) (b : PG X e u) : PG X e (fun v σ H Q => t v σ H Q ∨ u v σ H Q) := ⟨fun pins s σ H v w Q I r h => h.elim (a.run pins s σ H v w Q I r) (b.run pins s σ H v w Q I r)⟩
theorem pi_or {tg : Expr} {t u : TI} (a : PI X tg e t) (b : PI X tg e u) : PI X tg e (fun σ H R => t σ H R ∨ u σ H R) := ⟨fun pins s σ H R I h => h.elim (a.run pins s σ H R I) (b.run pins s σ H R I)⟩
theorem op_or' {f : Value → Value → Sem Value} {r q : R2} (a : OpR X f r) (b : OpR X f q) : OpR X f (fun x y H Q => r x y H Q ∨ q x y H Q) := fun pins s σ H x y v u Q I rx ry h => h.elim (a pins s σ H x y v u Q I rx ry) (b pins s σ H x y v u Q I rx ry)
theorem ps_or {st : Stmt} {t u : TS} (a : PS X st t) (b : PS X st u) : PS X st (fun D σ H => t D σ H ∨ u D σ H) := ⟨fun pins s σ H D I h => h.elim (a.run pins s σ H D I) (b.run pins s σ H D I)⟩
theorem call_or {f : Value} {r q : List V → Hp → VK → Prop} (a : CallR X f r) (b : CallR X f q) : CallR X f (fun xs H Q => r xs H Q ∨ q xs H Q) := fun pins s σ H xs us Q I rv h => h.elim (a pins s σ H xs us Q I rv) (b pins s σ H xs us Q I rv)
end
end Ts

set_option maxRecDepth 100000
set_option maxHeartbeats 4000000
namespace Ts
open PySem L2
section
variable {X : Cx}
/-- a local takes a dict comprehension on one line -/
theorem ps_setDc {i : Nat} {y : Str} {py : Pos} {kx vx tg iter : Expr} {ifs : List Expr} {scope : Scope} {own : List (Str × Nat)} {pos spos : Pos} {wi : TI} {g : TG} {tt : TT} {tk tv : TE} (hc : X.calm = true) (hN : X.N.Nodup) (hy : X.N[i]? = some y) (hyl : X.env.scope.names.lookup y = some .local)
    (hsw : swapsWith (.DictComp kx vx [⟨tg, iter, ifs, 0⟩] scope pos) (some (.Name y py)) spos.line X.env = pure true) (hi : PI X tg iter wi) (ok : BlkOk X.N X.env.scope scope own)
    (hg : ∀ (s : Shared) (H : Hp) (C : Addr) (cl : List (Str × Addr)) (fp : List Addr), PG (X.blk s H scope (compEnvC scope cl C X.env) fp) tg g) (ht : ∀ (s : Shared) (H : Hp) (C : Addr) (cl : List (Str × Addr)) (fp : List Addr), PTs (X.blk s H scope (compEnvC scope cl C X.env) fp) ifs tt)
    (hk : ∀ (s : Shared) (H : Hp) (C : Addr) (cl : List (Str × Addr)) (fp : List Addr), PE (X.blk s H scope (compEnvC scope cl C X.env) fp) kx tk)
    (he : ∀ (s : Shared) (H : Hp) (C : Addr) (cl : List (Str × Addr)) (fp : List Addr), PE (X.blk s H scope (compEnvC scope cl C X.env) fp) vx tv) (hs : ∀ x, foldedSetIterable iter X.env x = pure x := by intro _; rfl) :
    PS X (.Assign [.Name y py] (.DictComp kx vx [⟨tg, iter, ifs, 0⟩] scope pos) spos) (tAsg (tDc wi g tt tk tv (own.map (·.2))) (gName i)) := by
  refine ⟨fun pins s σ H D I h => ?_⟩
  rw [exec_Assign_Name_used _ _ _ _ hsw]
  refine wpAny_bind (wpAny_standAt (wpAny_bind ?_))
  show wpAny _ X.A (do let _ ← comprehension (.DictComp kx vx [⟨tg, iter, ifs, 0⟩] scope pos) scope X.env (firstIterPos [⟨tg, iter, ifs, 0⟩] pos) newDict false (eval iter X.env) (some (assign (.Name y py) X.env))) _ _ s
  have h' : tDc wi g tt tk tv (own.map (·.2)) σ H (fun x H1 => gName i x σ H1 D.nx) := h
  refine wpAny_bind (thn (dc_core (Qf := fun _ s' => SP X pins D .next s') hc hN I hi ok hg ht hk he hs h' fun L C s' m H' I' q hn f => ?_) fun _ s' z => wpAny_pure (wpAny_pure z))
  show wpAny _ _ (assign (.Name y py) X.env (.ref L)) _ _ _
  refine wpAny_assign_Name (store_ok2 (v := V.ref L) I' hN hy (.inl hyl) rfl (fun s2 I2 ⟨a, sb, za⟩ => ?_) (.inr hyl))
  obtain ⟨f0, f1, f2, f3, f4, f5⟩ := f
  have ca : C ≠ a := by
    rcases za with z | z
    · rw [z]; exact f1
    · exact fun e => f4 y a z e.symm
  refine ⟨m, hn.sameBut sb ca, fun h3 sb3 => ?_⟩
  exact ⟨_, H', I2.turned (t' := s2.toks) (fun b o hb e => (sb3.2 b hb).trans e) f0 f1 f3 f4 f5, q⟩
theorem swd_true {kx vx : Expr} {gs : List Comprehension} {scope : Scope} {pos py : Pos} {y : Str} {l : Nat} {env : Env} (hk : env.scope.kind = .function) (hy : env.scope.names.lookup y = some .local) (hl : (py.line == pos.line) = true)
    (ha : (scope.names.any fun (n, k) => n == y && (k == .local || k == .cell)) = false) : swapsWith (.DictComp kx vx gs scope pos) (some (.Name y py)) l env = pure true := by
  have k1 : env.kindOf y = some .local := hy
  have k2 : env.blockKind = .function := by unfold Env.blockKind; rw [hk]; rfl
  unfold swapsWith
  simp only [k1, k2, ha, Expr.pos, hl]
  rfl
/-- a dict comprehension over what walks -/
theorem dc_it {J : It} {n : Nat} {G : Hp → Prop} {Y : Nat → Hp → V → Hp → Prop} (w : Walk J n G Y) {g : TG} {tt : TT} {tk tv : TE} {vs : List Nat} {σ : St} {H1 : Hp} {D : Addr} {Qd : Hp → Prop} (Pv : Nat → Hp → Prop) (h0 : Pv 0 (upd H1 D (.dK []))) (hG : ∀ i H, i ≤ n → Pv i H → G H)
    (hs : ∀ i x H H', i < n → Pv i H → Y i H x H' → g x (wipe σ vs) H' fun σ2 H2 => wipe σ2 vs = wipe σ vs ∧ tt σ2 H2 fun b H3 =>
      if b = true then tk σ2 H3 fun y H4 => tv σ2 H4 fun z H5 => ∃ kvs k, y = kV k ∧ H5 D = some (.dK kvs) ∧ kvs.length < sizeLine ∧ Pv (i + 1) (upd H5 D (.dK (putK kvs k z))) else Pv (i + 1) H3) (hd : ∀ H, Pv n H → Qd H) :
    ∃ W : Nat → Nat → Hp → Prop, (∃ m, W 0 m (upd H1 D (.dK []))) ∧ ∀ i m H, W i m H →
      (J.stop i H ∧ Qd H) ∨ (J.go i H ∧ ∃ Nx : Hp → Prop, (∀ H', Nx H' → ∃ m', m' < m ∧ W (i + 1) m' H') ∧ ∀ x H', J.yld i H x H' → g x (wipe σ vs) H' fun σ2 H2 => wipe σ2 vs = wipe σ vs ∧ tt σ2 H2 fun b H3 =>
        if b = true then tk σ2 H3 fun y H4 => tv σ2 H4 fun z H5 => ∃ kvs k, y = kV k ∧ H5 D = some (.dK kvs) ∧ kvs.length < sizeLine ∧ Nx (upd H5 D (.dK (putK kvs k z))) else Nx H3) := by
  refine ⟨fun i m H => m = n - i ∧ i ≤ n ∧ Pv i H, ⟨n, by simp, Nat.zero_le _, h0⟩, ?_⟩
  rintro i m H ⟨rfl, le, p⟩
  have q := hG i H le p
  by_cases lt : i < n
  · exact .inr ⟨w.goes i H lt q, Pv (i + 1), fun H' p' => ⟨n - (i + 1), by omega, rfl, lt, p'⟩, fun x H' y => hs i x H H' lt p (w.yields i H x H' lt q y)⟩
  · obtain rfl : i = n := by omega
    exact .inl ⟨w.stops H q, hd H p⟩
end
end Ts

set_option maxRecDepth 100000
namespace Ts
open PySem L2
def top (i : Nat) : Stmt := PySem.Challenge.pw_turnsets_k16_whole_fewest_deeds.main.body.getD i (.Pass ⟨0, 0, 0, 0⟩)
abbrev s__wall : Stmt := top 0
abbrev s_BadRow_init : Stmt := inClass (top 3) 0
abbrev s_NoBox_init : Stmt := inClass (top 4) 0
abbrev s_Locked_init : Stmt := inClass (top 6) 0
abbrev s_BadDeed_init : Stmt := inClass (top 9) 0
abbrev s_is_name : Stmt := top 15
abbrev s_is_number : Stmt := top 16
abbrev s_is_price : Stmt := top 17
abbrev s_is_row : Stmt := top 18
abbrev s_check_rows : Stmt := top 19
abbrev s_check_box : Stmt := top 20
abbrev s_is_place : Stmt := top 21
abbrev s_check_place : Stmt := top 22
abbrev s_Tree_init : Stmt := inClass (top 23) 0
abbrev s_Tree_eq : Stmt := inClass (top 23) 1
abbrev s_Tree_len : Stmt := inClass (top 23) 2
abbrev s_Tree_contains : Stmt := inClass (top 23) 3
abbrev s_Tree_rows : Stmt := inClass (top 23) 4
abbrev s_Tree_folder : Stmt := inClass (top 23) 5
abbrev s_Tree_kind : Stmt := inClass (top 23) 6
abbrev s_Tree_price : Stmt := inClass (top 23) 7
abbrev s_Tree_inside : Stmt := inClass (top 23) 8
abbrev s_Tree_below : Stmt := inClass (top 23) 9
abbrev s_Tree_way : Stmt := inClass (top 23) 10
abbrev s_Tree_steps : Stmt := inClass (top 23) 11
abbrev s_Tree_more : Stmt := inClass (top 23) 12
abbrev s_Tree_less : Stmt := inClass (top 23) 13
abbrev s_Tree_moved : Stmt := inClass (top 23) 14
abbrev s_Tree_opened : Stmt := inClass (top 23) 15
abbrev s_check_turns : Stmt := top 25
abbrev s_check_trees : Stmt := top 26
abbrev s_values_of : Stmt := top 27
abbrev s_with_values : Stmt := top 28
abbrev s_Meaning_init : Stmt := inClass (top 29) 0
abbrev s_Meaning_eq : Stmt := inClass (top 29) 1
abbrev s_Meaning_len : Stmt := inClass (top 29) 2
abbrev s_Meaning_iter : Stmt := inClass (top 29) 3
abbrev s_Meaning_contains : Stmt := inClass (top 29) 4
abbrev s_Meaning_xor : Stmt := inClass (top 29) 5
abbrev s_Meaning_and : Stmt := inClass (top 29) 6
abbrev s_Meaning_or : Stmt := inClass (top 29) 7
abbrev s_Meaning_sub : Stmt := inClass (top 29) 8
abbrev s_Meaning_invert : Stmt := inClass (top 29) 9
abbrev s_Meaning_value : Stmt := inClass (top 29) 10
abbrev s_Meaning_states : Stmt := inClass (top 29) 11
abbrev s_Meaning_price : Stmt := inClass (top 29) 12
abbrev s_check_unlocked : Stmt := top 38
abbrev s_is_deed : Stmt := top 39
abbrev s_check_deeds : Stmt := top 40
abbrev s_effects_of : Stmt := top 41
abbrev s_effect_around : Stmt := top 42
abbrev s_entries_of : Stmt := top 43
abbrev s_row_of : Stmt := top 44
abbrev s_value_behind : Stmt := top 45
abbrev s_Row_init : Stmt := inClass (top 46) 0
abbrev s_Row_eq : Stmt := inClass (top 46) 1
abbrev s_Row_len : Stmt := inClass (top 46) 2
abbrev s_Row_add : Stmt := inClass (top 46) 3
abbrev s_Row_call : Stmt := inClass (top 46) 4
abbrev s_Row_deeds : Stmt := inClass (top 46) 5
abbrev s_Row_maps : Stmt := inClass (top 46) 6
abbrev s_Row_entries : Stmt := inClass (top 46) 7
abbrev s_Row_least : Stmt := inClass (top 46) 8
abbrev s_Row_undo : Stmt := inClass (top 46) 9
abbrev s_unlike : Stmt := top 47
abbrev s_entry_counts : Stmt := top 48
abbrev s_fewest_effects : Stmt := top 49
abbrev s_fewest_deeds : Stmt := top 50
abbrev s_L_stream : Stmt := top 52
abbrev s_L_draw : Stmt := top 53
abbrev s_L_pick : Stmt := top 54
abbrev s_L_name : Stmt := top 55
abbrev s_L_kinds : Stmt := top 56
abbrev s_L_rows : Stmt := top 57
abbrev s_L_free_rows : Stmt := top 58
abbrev s_L_way : Stmt := top 59
abbrev s_L_done : Stmt := top 60
abbrev s_L_some : Stmt := top 61
abbrev s_L_open : Stmt := top 62
abbrev s_L_meaning : Stmt := top 63
abbrev s_L_choices : Stmt := top 64
abbrev s_L_entries : Stmt := top 65
abbrev s_L_shorter : Stmt := top 66
abbrev s_L_least_entries : Stmt := top 67
abbrev s_L_chain : Stmt := top 68
abbrev s_L_great_right : Stmt := top 69
abbrev s_law : Stmt := top 70
end Ts

set_option maxRecDepth 100000
set_option maxHeartbeats 4000000
namespace Ts
open PySem L2
/-! ### how a def stands -/
structure DefAt (K : PySem.W.Frag) (mg : Str → Option Value) (x : Str) (st : Stmt) (ps : List Str) where
  f : Addr
  fd : FuncData
  F : Fun K x x st f fd
  b : Binds K fd ps []
  g : mg x = some (.ref f)
structure MethAt (K : PySem.W.Frag) (C : Addr) (x q : Str) (st : Stmt) (ps : List Str) where
  f : Addr
  fd : FuncData
  F : Fun K x q st f fd
  b : Binds K fd ps []
  m : Meth K C x f
structure TxB (mg : Str → Option Value) : Prop where
  len : mg "len" = none
  abs : mg "abs" = none
  int : mg "int" = none
  str : mg "str" = none
  bool : mg "bool" = none
  list : mg "list" = none
  tuple : mg "tuple" = none
  dict : mg "dict" = none
  range : mg "range" = none
  enumerate : mg "enumerate" = none
  isinstance : mg "isinstance" = none
  all : mg "all" = none
theorem lk {l : List (Option V)} {i : Nat} {v : V} (h : l[i]? = some (some v)) : l[i]? = some (some v) := h
/-! ### the draws -/
/-- all but a is kept -/
def SB (a : Addr) (H H' : Hp) : Prop := ∀ b o, b ≠ a → H b = some o → H' b = some o
theorem SB.refl (a : Addr) (H : Hp) : SB a H H := fun _ _ _ h => h
theorem SB.trans {a : Addr} {H H1 H2 : Hp} (x : SB a H H1) (y : SB a H1 H2) : SB a H H2 := fun b o n h => y b o n (x b o n h)
theorem SB.of {a : Addr} {H H' : Hp} (x : Same H H') : SB a H H' := fun b o _ h => x b o h
theorem Same.new {H : Hp} {p : Addr} {o : HO} (h : H p = none) : Same H (upd H p o) := fun b u e => by rw [upd_ne (ne_of_none e h)]; exact e
theorem SB.upd {a p : Addr} {H : Hp} {o : HO} (h : H p = none) : SB a H (L2.upd H p o) := SB.of (Same.new h)
theorem SB.seqL {K : PySem.W.Frag} {a l : Addr} {H H' : Hp} {xs : List V} (x : SB a H H') (n : l ≠ a) (h : SqL K H l xs) : SqL K H' l xs := by
  rcases h with (h | ⟨o, h⟩) | h
  · exact .inl (.inl (x _ _ n h))
  · exact .inl (.inr ⟨o, x _ _ n h⟩)
  · exact .inr h
theorem SB.free {a b : Addr} {H H' : Hp} (x : SB a H H') (n : b ≠ a) (h : H' b = none) : H b = none := by
  cases q : H b with
  | none => rfl
  | some o =>
    rw [x b o n q] at h
    cases h
/-- at a a stream of draws of which at most n are mixed numbers -/
def Stm (H : Hp) (a : Addr) (n : Int) : Prop := ∃ x y z : Int, H a = some (.lst [.int x, .int y, .int z]) ∧ 0 ≤ x ∧ 0 ≤ y ∧ y < 1099511627776 ∧ 0 ≤ z ∧ z ≤ n
theorem Stm.mono {H : Hp} {a : Addr} {n m : Int} (h : Stm H a n) (k : n ≤ m) : Stm H a m := by
  obtain ⟨x, y, z, e, h1, h2, h3, h4, h5⟩ := h
  exact ⟨x, y, z, e, h1, h2, h3, h4, Int.le_trans h5 k⟩
theorem Stm.ne {H : Hp} {a p : Addr} {n : Int} (h : Stm H a n) (hp : H p = none) : a ≠ p := by
  obtain ⟨x, y, z, e, _⟩ := h
  exact ne_of_none e hp
theorem Stm.same {H H' : Hp} {a : Addr} {n : Int} (h : Stm H a n) (s : Same H H') : Stm H' a n := by
  obtain ⟨x, y, z, e, r⟩ := h
  exact ⟨x, y, z, s _ _ e, r⟩
theorem Stm.upd {H : Hp} {a p : Addr} {o : HO} {n : Int} (h : Stm H a n) (hp : H p = none) : Stm (upd H p o) a n := h.same (Same.new hp)
theorem ne_lit {i : Int} (h : i ≠ 0) : i ≠ 0 := h
theorem fm_in (q : Int) {m : Int} (h : 1 ≤ m) : 0 ≤ q.fmod m ∧ q.fmod m < m := by
  rw [Int.fmod_eq_emod_of_nonneg q (by omega)]
  exact ⟨Int.emod_nonneg _ (by omega), Int.emod_lt_of_pos _ (by omega)⟩
def spStream (K : PySem.W.Frag) : Sp := fun vs H Q _ => ∃ (a : Addr) (ns : List Int) (k : Int), vs = [.ref a, .int k] ∧ SqL K H a (ns.map V.int) ∧ 0 ≤ k ∧ k ≤ 1000 ∧
  ∀ (p : Addr) (x y : Int), H p = none → 0 ≤ x → 0 ≤ y → y < 1099511627776 → Q (.ref p) (upd H p (.lst [.int x, .int y, .int 0]))
def spDraw : Sp := fun vs H Q _ => ∃ (a : Addr) (m n : Int), vs = [.ref a, .int m] ∧ Stm H a n ∧ n ≤ 1099511627776 ∧ 1 ≤ m ∧ m ≤ 1000000 ∧
  ∀ (r : Int) (H' : Hp), 0 ≤ r → r < m → Stm H' a (n + 1) → (∀ b, b ≠ a → H' b = H b) → Q (.int r) H'
section
variable {P : Program} {w : World} {K : PySem.W.Frag} {mg : Str → Option Value} {base : Heap}
theorem sc_stream : FnScope ["_law_script", "_law_k", "_law_cell"] ["_law_script", "_law_k"] (defScope s_L_stream) := ⟨rfl, rfl, rfl, by decide +kernel, rfl, by decide +kernel, by decide +kernel⟩
theorem ok_stream (D : DefAt K mg "_law_stream" s_L_stream ["_law_script", "_law_k"]) (B : TxB mg) : FnOk P w K mg base CX0 2 D.f D.fd ["_law_script", "_law_k"] (spStream K) := by
  refine D.F.ok sc_stream (fun vs H Q E h => ?_) (fun cdv A outer s H vs Q E hr h => ?_)
  · obtain ⟨a, ns, k, rfl, _⟩ := h
    rfl
  · obtain ⟨a, ns, k, rfl, hS, h0, h1, hq⟩ := h
    refine ⟨_, pss_cons (ps_set (i := 2) sc_stream.nd rfl (.inl rfl) (pe_ifExp (pt_cmpR op_lt (pv 1) (pe_callB call_len_seq (by rfl) B.len PySem.boot_len (pa_cons (pv 0) pa_nil)) (nomark _)) (pe_callB call_abs (by rfl) B.abs (by decide +kernel) (pa_cons (pe_ix ix_list (pv 0) (pv 1) (fun _ _ => rfl)) pa_nil)) pe_int))
      (pss_one (ps_ret (pe_lst (pa_cons (pe_ifExp (pt_cmpR op_ge (pv 2) (pe_op op_pow pe_int pe_int) (nomark _)) (pv 2) pe_int) (pa_cons (pe_op op_add (pe_op op_modN (pe_callTy call_int1 (by rfl) B.int (by decide +kernel) (pa_cons (pv 2) pa_nil)) pe_int) (pe_op op_mul pe_int (pv 1))) (pa_cons pe_int pa_nil)))))), ?_⟩
    refine ⟨_, rfl, _, rfl, a, _, rfl, .inl hS, _, _, rfl, rfl, _, rfl, ?_⟩
    have fin : ∀ c : Int, 0 ≤ c → 0 ≤ c.fmod 2147483647 + 31 * k ∧ c.fmod 2147483647 + 31 * k < 1099511627776 := fun c hc => by
      have e := Int.fmod_eq_emod_of_nonneg c (show (0 : Int) ≤ 2147483647 by decide)
      omega
    refine ite2 (fun h => ?_) (fun h => ?_)
    · have hlt := of_decide_eq_true h
      rw [List.length_map] at hlt
      obtain ⟨v, hv⟩ : ∃ v, ns[k.toNat]? = some v := ⟨ns[k.toNat]'(by omega), List.getElem?_eq_getElem (by omega)⟩
      refine ⟨_, rfl, _, rfl, a, _, _, .int v, rfl, rfl, hS, at_of (j := k.toNat) (by omega) (by rw [List.getElem?_map, hv]; rfl), _, rfl, ?_⟩
      have hc : (0 : Int) ≤ if v < 0 then -v else v := by split <;> omega
      generalize (if v < 0 then -v else v) = c at hc
      refine ⟨_, rfl, _, _, rfl, rfl, ⟨by decide, by decide, by decide⟩, _, _, rfl, rfl, _, rfl, ?_⟩
      refine ite2 (fun h => ?_) (fun h => ?_)
      · exact ⟨_, rfl, _, rfl, .inl ⟨_, rfl, _, _, rfl, rfl, ne_lit (by decide), _, rfl, _, _, rfl, rfl, .inl ⟨by decide, by decide⟩, _, _, rfl, rfl, (by show 3 ≤ sizeLine; decide), fun p hp => hq p _ _ hp hc (fin c hc).1 (fin c hc).2⟩⟩
      · exact ⟨_, rfl, .inl ⟨_, rfl, _, _, rfl, rfl, ne_lit (by decide), _, rfl, _, _, rfl, rfl, .inl ⟨by decide, by decide⟩, _, _, rfl, rfl, (by show 3 ≤ sizeLine; decide), fun p hp => hq p _ _ hp (by decide) (fin c hc).1 (fin c hc).2⟩⟩
    · have hc : (0 : Int) ≤ 0 := Int.le_refl 0
      refine ⟨_, rfl, _, _, rfl, rfl, ⟨by decide, by decide, by decide⟩, _, _, rfl, rfl, _, rfl, ?_⟩
      refine ite2 (fun h => ?_) (fun h => ?_)
      · exact ⟨_, rfl, _, rfl, .inl ⟨_, rfl, _, _, rfl, rfl, ne_lit (by decide), _, rfl, _, _, rfl, rfl, .inl ⟨by decide, by decide⟩, _, _, rfl, rfl, (by show 3 ≤ sizeLine; decide), fun p hp => hq p _ _ hp hc (fin 0 hc).1 (fin 0 hc).2⟩⟩
      · exact ⟨_, rfl, .inl ⟨_, rfl, _, _, rfl, rfl, ne_lit (by decide), _, rfl, _, _, rfl, rfl, .inl ⟨by decide, by decide⟩, _, _, rfl, rfl, (by show 3 ≤ sizeLine; decide), fun p hp => hq p _ _ hp (by decide) (fin 0 hc).1 (fin 0 hc).2⟩⟩
theorem sc_draw : FnScope ["_law_stream_here", "_law_many", "_law_digit", "_law_spread"] ["_law_stream_here", "_law_many"] (defScope s_L_draw) := ⟨rfl, rfl, rfl, by decide +kernel, rfl, by decide +kernel, by decide +kernel⟩
theorem ok_draw (D : DefAt K mg "_law_draw" s_L_draw ["_law_stream_here", "_law_many"]) (B : TxB mg) : FnOk P w K mg base CX0 2 D.f D.fd ["_law_stream_here", "_law_many"] spDraw := by
  refine D.F.ok sc_draw (fun vs H Q E h => ?_) (fun cdv A outer s H vs Q E hr h => ?_)
  · obtain ⟨a, m, n, rfl, _⟩ := h
    rfl
  · obtain ⟨a, m, n, rfl, ⟨x, y, z, e, hx, hy, hy1, hz, hzn⟩, hn, hm, hm1, hq⟩ := h
    have eS := SqL.of (K := K) e
    refine ⟨_, pss_cons (ps_if (pt_cmpR op_gt (pe_ix ix_list (pv 0) pe_int (fun _ _ => rfl)) pe_int (nomark _))
        (pss_cons (ps_set (i := 2) sc_draw.nd rfl (.inl rfl) (pe_op op_modN (pe_callTy call_int1 (by rfl) B.int (by decide +kernel) (pa_cons (pe_ix ix_list (pv 0) pe_int (fun _ _ => rfl)) pa_nil)) (pv 1)))
        (pss_cons (ps_asg (pe_op op_fdivN (pe_ix ix_list (pv 0) pe_int (fun _ _ => rfl)) (pv 1)) (pg_sub (pv 0) pe_int set_list))
        (pss_one (ps_ret (pv 2))))) pss_nil)
      (pss_cons (ps_asg (pe_op op_add (pe_ix ix_list (pv 0) pe_int (fun _ _ => rfl)) pe_int) (pg_sub (pv 0) pe_int set_list))
      (pss_cons (ps_set (i := 3) sc_draw.nd rfl (.inl rfl) (pe_op op_modN (pe_op op_pow (pe_callTy call_int1 (by rfl) B.int (by decide +kernel) (pa_cons (pe_op op_add (pe_op op_add (pe_ix ix_list (pv 0) pe_int (fun _ _ => rfl)) (pe_op op_mul pe_int (pe_ix ix_list (pv 0) pe_int (fun _ _ => rfl)))) pe_int) pa_nil)) pe_int) pe_int))
      (pss_one (ps_ret (pe_op op_modN (pe_op op_fdivN (pe_op op_modN (pe_callTy call_int1 (by rfl) B.int (by decide +kernel) (pa_cons (pe_op op_mul (pe_op op_add (pv 3) (pe_ix ix_list (pv 0) pe_int (fun _ _ => rfl))) pe_int) pa_nil)) pe_int) pe_int) (pv 1)))))), ?_⟩
    have g0 : ∀ x y z : Int, atI [V.int x, .int y, .int z] 0 = some (.int x) := fun _ _ _ => rfl
    have g1 : ∀ x y z : Int, atI [V.int x, .int y, .int z] 1 = some (.int y) := fun _ _ _ => rfl
    have g2 : ∀ x y z : Int, atI [V.int x, .int y, .int z] 2 = some (.int z) := fun _ _ _ => rfl
    refine ⟨_, rfl, a, _, _, _, rfl, rfl, eS, g0 _ _ _, _, _, rfl, rfl, _, rfl, ?_⟩
    refine ite2 (fun h => ?_) (fun h => ?_)
    · have hx0 := of_decide_eq_true h
      refine ⟨_, rfl, a, _, _, _, rfl, rfl, eS, g0 _ _ _, .inl ⟨_, rfl, _, rfl, _, _, rfl, rfl, (by omega), ?_⟩⟩
      refine ⟨_, rfl, a, _, _, _, rfl, rfl, eS, g0 _ _ _, _, rfl, _, _, rfl, rfl, ⟨by omega, by omega⟩, _, rfl, a, _, _, 0, rfl, rfl, e, rfl, _, rfl, ?_⟩
      have e2 := Int.fdiv_eq_ediv_of_nonneg x (show (0 : Int) ≤ m by omega)
      exact hq _ _ (fm_in _ hm).1 (fm_in _ hm).2 ⟨x.fdiv m, y, z, upd_same, by rw [e2]; exact Int.ediv_nonneg hx (by omega), hy, hy1, hz, by omega⟩ fun b hb => upd_ne hb
    · refine ⟨_, rfl, a, _, _, _, rfl, rfl, eS, g2 _ _ _, _, _, rfl, rfl, _, rfl, a, _, _, 2, rfl, rfl, e, rfl, ?_⟩
      have e' : (upd H a (.lst [V.int x, .int y, .int (z + 1)])) a = some (.lst [V.int x, .int y, .int (z + 1)]) := upd_same
      have eS' := SqL.of (K := K) e'
      refine ⟨_, rfl, a, _, _, _, rfl, rfl, eS', g1 _ _ _, _, rfl, a, _, _, _, rfl, rfl, eS', g2 _ _ _, _, _, rfl, rfl, .inl ⟨by decide, by decide⟩, _, _, rfl, rfl, _, _, rfl, rfl, .inl ⟨_, rfl, _, _, rfl, rfl, ⟨by decide, by decide, by omega⟩, _, _, rfl, rfl, ne_lit (by decide), ?_⟩⟩
      have e3 := Int.fmod_eq_emod_of_nonneg ((y + 7919 * (z + 1) + 104729) ^ (5 : Int).toNat) (show (0 : Int) ≤ 2147483647 by decide)
      generalize (y + 7919 * (z + 1) + 104729) ^ (5 : Int).toNat = g at e3
      have b1 := Int.emod_nonneg g (show (2147483647 : Int) ≠ 0 by decide)
      have b2 := Int.emod_lt_of_pos g (show (0 : Int) < 2147483647 by decide)
      rw [← e3] at b1 b2
      generalize g.fmod 2147483647 = u at b1 b2
      refine ⟨_, rfl, _, rfl, a, _, _, _, rfl, rfl, eS', g2 _ _ _, _, _, rfl, rfl, _, _, rfl, rfl, .inl ⟨by omega, by omega⟩, .inl ⟨_, rfl, _, _, rfl, rfl, ne_lit (by decide), _, _, rfl, rfl, ⟨by decide, by decide⟩, _, rfl, _, _, rfl, rfl, by omega, ?_⟩⟩
      exact hq _ _ (fm_in _ hm).1 (fm_in _ hm).2 ⟨x, y, z + 1, upd_same, hx, hy, hy1, by omega, by omega⟩ fun b hb => upd_ne hb
end
end Ts

set_option maxRecDepth 100000
set_option maxHeartbeats 4000000
namespace Ts
open PySem L2
/-- an item of a list, or a sign of a text, that is drawn -/
def spPick (K : PySem.W.Frag) : Sp := fun vs H Q _ =>
  (∃ (a l : Addr) (n : Int) (xs : List V), vs = [.ref a, .ref l] ∧ Stm H a n ∧ n ≤ 1099511627776 ∧ l ≠ a ∧ SqL K H l xs ∧ 1 ≤ xs.length ∧ xs.length ≤ 1000000 ∧
    ∀ (v : V) (H' : Hp), v ∈ xs → Stm H' a (n + 1) → SB a H H' → (∀ b, H b = none → H' b = none) → Q v H') ∨
  (∃ (a : Addr) (z : Str) (n : Int), vs = [.ref a, .str z] ∧ Stm H a n ∧ n ≤ 1099511627776 ∧ 1 ≤ z.length ∧ z.length ≤ 1000000 ∧
    ∀ (c : Nat) (H' : Hp), c ∈ z.cps.toList → Stm H' a (n + 1) → SB a H H' → (∀ b, H b = none → H' b = none) → Q (.str ⟨#[c]⟩) H')
theorem sb_eq {a : Addr} {H H' : Hp} (h : ∀ b, b ≠ a → H' b = H b) : SB a H H' := fun b o n e => by rw [h b n]; exact e
theorem free_eq {a : Addr} {n : Int} {H H' : Hp} (s : Stm H a n) (h : ∀ b, b ≠ a → H' b = H b) (b : Addr) (hb : H b = none) : H' b = none := by rw [h b (s.ne hb).symm]; exact hb
/-- a name as it is drawn: 1, 2, 3 or 8 letters -/
def Low (z : Str) : Prop := ∀ c ∈ z.cps.toList, 97 ≤ c ∧ c ≤ 122
def Drawn (z : Str) : Prop := (z.length = 1 ∨ z.length = 2 ∨ z.length = 3 ∨ z.length = 8) ∧ Low z
def NameShape (z : Str) : Prop := ((z.length = 1 ∨ z.length = 2 ∨ z.length = 3 ∨ z.length = 8) ∨ z.length = 4) ∧ Low z
theorem Drawn.shape {z : Str} (h : Drawn z) : NameShape z := ⟨.inl h.1, h.2⟩
def spName : Sp := fun vs H Q _ => ∃ (a : Addr) (n : Int), vs = [.ref a] ∧ Stm H a n ∧ n ≤ 549755813888 ∧
  ∀ (z : Str) (H' : Hp), Drawn z → Stm H' a (n + 9) → SB a H H' → Q (.str z) H'
theorem abc_low : ∀ c ∈ ("abcdefghijklmnopqrstuvwxyz" : Str).cps.toList, 97 ≤ c ∧ c ≤ 122 := by decide +kernel
theorem abc_len : ("abcdefghijklmnopqrstuvwxyz" : Str).length = 26 := by decide +kernel
theorem join_empty : ∀ (ys : List Str), (Str.join ("" : Str) ys).cps.toList = (ys.map fun y => y.cps.toList).flatten
  | [] => rfl
  | [x] => by simp [Str.join]
  | x :: y :: r => by
    have ih := join_empty (y :: r)
    have e : ("" : Str).cps.toList = [] := by decide +kernel
    show ((x.cps ++ ("" : Str).cps) ++ (Str.join "" (y :: r)).cps).toList = _
    rw [Array.toList_append, Array.toList_append, ih, e]
    simp
theorem tYes_if {σ : St} {H : Hp} {A B : Hp → Prop} (h : A H) : tYes σ H (fun b H3 => if b = true then A H3 else B H3) := by
  show if true = true then A H else B H
  rw [if_pos rfl]
  exact h
/-- signs put together -/
def signs (cs : List Nat) : List Str := cs.map fun c => ⟨#[c]⟩
theorem join_signs (cs : List Nat) : (Txt.join ("" : Str) (signs cs)).cps.toList = cs := by
  rw [TL.join_eq, join_empty]
  unfold signs
  induction cs with
  | nil => rfl
  | cons c r ih =>
    simp only [List.map_cons, List.flatten_cons] at ih ⊢
    rw [ih]
    rfl
theorem len_toList (z : Str) : z.length = z.cps.toList.length := by simp [Str.length]
section
variable {P : Program} {w : World} {K : PySem.W.Frag} {mg : Str → Option Value} {base : Heap}
theorem sc_pick : FnScope ["_law_stream_here", "_law_things"] ["_law_stream_here", "_law_things"] (defScope s_L_pick) := ⟨rfl, rfl, rfl, by decide +kernel, rfl, by decide +kernel, by decide +kernel⟩
theorem ok_pick (D : DefAt K mg "_law_pick" s_L_pick ["_law_stream_here", "_law_things"]) (Dd : DefAt K mg "_law_draw" s_L_draw ["_law_stream_here", "_law_many"]) (B : TxB mg) : FnOk P w K mg base CX0 3 D.f D.fd ["_law_stream_here", "_law_things"] (spPick K) := by
  have G : FnOk P w K mg base CX0 2 Dd.f Dd.fd ["_law_stream_here", "_law_many"] spDraw := ok_draw Dd B
  refine D.F.ok sc_pick (fun vs H Q E h => ?_) (fun cdv A outer s H vs Q E hr h => ?_)
  · rcases h with ⟨a, l, n, xs, rfl, _⟩ | ⟨a, z, n, rfl, _⟩ <;> rfl
  · rcases h with ⟨a, l, n, xs, rfl, hs, hn, la, hl, h1, h2, hq⟩ | ⟨a, z, n, rfl, hs, hn, h1, h2, hq⟩
    · refine ⟨_, pss_one (ps_ret (pe_ix ix_list (pv 1) (pe_call G hr rfl Dd.g Dd.F.kp Dd.b .nil pass0 (pa_cons (pv 0) (pa_cons (pe_callB call_len_seq (by rfl) B.len PySem.boot_len (pa_cons (pv 1) pa_nil)) pa_nil))) (fun _ _ => rfl))), ?_⟩
      refine ⟨_, rfl, _, rfl, _, rfl, l, xs, rfl, .inl hl, a, xs.length, n, rfl, hs, hn, by omega, by omega, fun r H' r0 r1 hs' he => ?_⟩
      have hk : r.toNat < xs.length := by omega
      exact ⟨l, xs, r, xs[r.toNat], rfl, rfl, (sb_eq he).seqL la hl, at_of (j := r.toNat) (by omega) (List.getElem?_eq_getElem hk), hq _ _ (List.getElem_mem hk) hs' (sb_eq he) (free_eq hs he)⟩
    · refine ⟨_, pss_one (ps_ret (pe_item_str (pv 1) (pe_call G hr rfl Dd.g Dd.F.kp Dd.b .nil pass0 (pa_cons (pv 0) (pa_cons (pe_callB call_len (by rfl) B.len PySem.boot_len (pa_cons (pv 1) pa_nil)) pa_nil))) (fun _ _ => rfl))), ?_⟩
      refine ⟨_, rfl, _, rfl, _, rfl, _, z.length, rfl, ⟨Nat.le_trans h2 (by decide), rfl⟩, a, z.length, n, rfl, hs, hn, by omega, by omega, fun r H' r0 r1 hs' he => ?_⟩
      have hk : r.toNat < z.cps.size := by
        have : z.length = z.cps.size := rfl
        omega
      exact ⟨z, r, z.cps[r.toNat], rfl, rfl, r0, by omega, r1, Array.getElem?_eq_getElem hk, hq _ _ (by simp) hs' (sb_eq he) (free_eq hs he)⟩
theorem sc_name : FnScope ["_law_stream_here", "_law_size", "_law_k"] ["_law_stream_here"] (defScope s_L_name) := ⟨rfl, rfl, rfl, by decide +kernel, rfl, by decide +kernel, by decide +kernel⟩
theorem ok_name (D : DefAt K mg "_law_name" s_L_name ["_law_stream_here"]) (Dp : DefAt K mg "_law_pick" s_L_pick ["_law_stream_here", "_law_things"]) (Dd : DefAt K mg "_law_draw" s_L_draw ["_law_stream_here", "_law_many"]) (B : TxB mg) :
    FnOk P w K mg base CX0 4 D.f D.fd ["_law_stream_here"] spName := by
  have Gd : FnOk P w K mg base CX0 2 Dd.f Dd.fd ["_law_stream_here", "_law_many"] spDraw := ok_draw Dd B
  have Gp : FnOk P w K mg base CX0 3 Dp.f Dp.fd ["_law_stream_here", "_law_things"] (spPick K) := ok_pick Dp Dd B
  refine D.F.ok sc_name (fun vs H Q E h => ?_) (fun cdv A outer s H vs Q E hr h => ?_)
  · obtain ⟨a, n, rfl, _⟩ := h
    rfl
  · obtain ⟨a, n, rfl, hs, hn, hq⟩ := h
    refine ⟨_, pss_cons (ps_set (i := 1) sc_name.nd rfl (.inl rfl) (pe_ix ix_list (pe_lst (pa_cons pe_int (pa_cons pe_int (pa_cons pe_int (pa_cons pe_int (pa_cons pe_int pa_nil)))))) (pe_call Gd (hr.mono (by decide)) rfl Dd.g Dd.F.kp Dd.b .nil pass0 (pa_cons (pv 0) (pa_cons pe_int pa_nil))) (fun _ _ => rfl)))
      (pss_one (ps_ret (pe_join pe_str (pe_lc (own := [("_law_k", 2)]) (g := gName 2) (tt := tYes) (by rfl) sc_name.nd (pi_range1 (by rfl) B.range (pa_cons (pv 1) pa_nil)) (blkOk_by (N := ["_law_stream_here", "_law_size", "_law_k"]) (sc := defScope s_L_name) (by decide +kernel))
        (fun _ _ _ _ _ => pg_name (i := 2) sc_name.nd rfl (Or.inl rfl)) (fun _ _ _ _ _ => pts_nil) (fun _ _ _ _ _ => pe_call Gp hr rfl Dp.g Dp.F.kp Dp.b .nil pass0 (pa_cons (pv 0) (pa_cons pe_str pa_nil))))))), ?_⟩
    refine ⟨(by show 5 ≤ sizeLine; decide), fun l hl => ?_⟩
    refine ⟨_, rfl, a, 5, n, rfl, hs.upd hl, by omega, by decide, by decide, fun r H1 r0 r1 hs1 he1 => ?_⟩
    have la : l ≠ a := (hs.ne hl).symm
    have e1 : H1 l = some (.lst [V.int 1, .int 1, .int 2, .int 3, .int 8]) := by rw [he1 l la]; exact upd_same
    have sb1 : SB a H H1 := (SB.upd hl).trans (sb_eq he1)
    obtain ⟨m, hm, hm4⟩ : ∃ m : Int, atI [V.int 1, .int 1, .int 2, .int 3, .int 8] r = some (.int m) ∧ (m = 1 ∨ m = 2 ∨ m = 3 ∨ m = 8) := by
      obtain rfl | rfl | rfl | rfl | rfl : r = 0 ∨ r = 1 ∨ r = 2 ∨ r = 3 ∨ r = 4 := by omega
      · exact ⟨1, rfl, by decide⟩
      · exact ⟨1, rfl, by decide⟩
      · exact ⟨2, rfl, by decide⟩
      · exact ⟨3, rfl, by decide⟩
      · exact ⟨8, rfl, by decide⟩
    refine ⟨l, _, r, .int m, rfl, rfl, SqL.of e1, hm, ⟨_, rfl⟩, ?_⟩
    refine ⟨_, rfl, m, rfl, by omega, by omega, fun Dl hD => ?_⟩
    refine lc_range (lo := 0) (n := m.toNat) (fun i H2 => ∃ cs : List Nat, cs.length = i ∧ (∀ c ∈ cs, 97 ≤ c ∧ c ≤ 122) ∧ H2 Dl = some (.lst ((signs cs).map V.str)) ∧ Stm H2 a (n + 1 + i) ∧ SB a H1 H2) ?_ ?_ ?_
    · exact ⟨[], rfl, (fun c hc => by cases hc), upd_same, (by simpa using hs1.upd (o := .lst []) hD), SB.upd hD⟩
    · rintro i H2 hi ⟨cs, hcl, hlow, hDl, hs2, sb2⟩
      refine ⟨rfl, tYes_if ?_⟩
      have Da : Dl ≠ a := (hs1.ne hD).symm
      refine ⟨_, rfl, .inr ⟨a, _, _, rfl, hs2, by omega, by rw [abc_len]; decide, by rw [abc_len]; decide, fun c H3 hc hs3 sb3 _ => ?_⟩⟩
      refine ⟨(signs cs).map V.str, sb3 _ _ Da hDl, ?_, cs ++ [c], by simp [hcl], ?_, ?_, ?_, ?_⟩
      · rw [List.length_map]
        unfold signs
        rw [List.length_map, hcl]
        exact Nat.lt_of_lt_of_le hi (Nat.le_trans (show m.toNat ≤ 8 by omega) (by decide))
      · intro d hd
        rcases List.mem_append.mp hd with h | h
        · exact hlow d h
        · rw [List.mem_singleton.mp h]; exact abc_low c hc
      · rw [upd_same]; simp [signs]
      · have q := hs3
        obtain ⟨x, y, z, e, r⟩ := q
        refine ⟨x, y, z, ?_, r.1, r.2.1, r.2.2.1, r.2.2.2.1, by have := r.2.2.2.2; push_cast; omega⟩
        rw [upd_ne Da.symm]; exact e
      · intro b o hb e
        rw [upd_ne (fun q => by rw [q, hD] at e; cases e)]
        exact sb3 b o hb (sb2 b o hb e)
    · rintro H2 ⟨cs, hcl, hlow, hDl, hs2, sb2⟩
      refine ⟨_, Dl, signs cs, rfl, rfl, .inl (SqL.of hDl), ?_, ?_⟩
      · have e0 : ("" : Str).length = 0 := by decide +kernel
        rw [e0]
        have : ((signs cs).map (·.length)).sum = cs.length := by
          unfold signs
          clear hDl hcl hlow
          induction cs with
          | nil => rfl
          | cons c r ih => simp only [List.map_cons, List.sum_cons, ih, List.length_cons]; show 1 + r.length = r.length + 1; omega
        rw [this, hcl]; omega
      · refine hq _ _ ⟨?_, ?_⟩ (hs2.mono (by omega)) (sb1.trans sb2)
        · rw [len_toList, join_signs, hcl]; omega
        · intro c hc
          rw [join_signs] at hc
          exact hlow c hc
end
end Ts

set_option maxRecDepth 100000
set_option maxHeartbeats 4000000
namespace Ts
open PySem L2
/-! ### rows of trees -/
structure Row where
  nm : Str
  fo : Str
  ki : Str
  pr : Option Int
  deriving DecidableEq
def prV : Option Int → V
  | none => .non
  | some i => .int i
def rowVs (r : Row) : List V := [.str r.nm, .str r.fo, .str r.ki, prV r.pr]
structure RowsAt (H : Hp) (as : List Addr) (rs : List Row) : Prop where
  len : as.length = rs.length
  at_ : ∀ (i : Nat) (a : Addr) (r : Row), as[i]? = some a → rs[i]? = some r → H a = some (.tup (rowVs r))
theorem RowsAt.same {H H' : Hp} {as : List Addr} {rs : List Row} (h : RowsAt H as rs) (s : Same H H') : RowsAt H' as rs := ⟨h.len, fun i a r ha hr => s _ _ (h.at_ i a r ha hr)⟩
theorem RowsAt.sb {H H' : Hp} {as : List Addr} {rs : List Row} {p : Addr} {xs : List V} (h : RowsAt H as rs) (hp : H p = some (.lst xs)) (s : SB p H H') : RowsAt H' as rs :=
  ⟨h.len, fun i a r ha hr => s _ _ (fun q => by have e := h.at_ i a r ha hr; rw [q, hp] at e; cases e) (h.at_ i a r ha hr)⟩
theorem RowsAt.nil {H : Hp} : RowsAt H [] [] := ⟨rfl, fun i a r ha => by simp at ha⟩
theorem RowsAt.snoc {H : Hp} {as : List Addr} {rs : List Row} {a : Addr} {r : Row} (h : RowsAt H as rs) (ha : H a = some (.tup (rowVs r))) : RowsAt H (as ++ [a]) (rs ++ [r]) := by
  refine ⟨by simp [h.len], fun i b q hb hq => ?_⟩
  rcases Nat.lt_or_ge i as.length with hi | hi
  · rw [List.getElem?_append_left hi] at hb
    rw [List.getElem?_append_left (h.len ▸ hi)] at hq
    exact h.at_ i b q hb hq
  · rw [List.getElem?_append_right hi] at hb
    rw [List.getElem?_append_right (h.len ▸ hi)] at hq
    have e0 : i - as.length = 0 := by
      have := (List.getElem?_eq_some_iff.mp hb).1
      simp at this
      omega
    have e1 : i - rs.length = 0 := by rw [← h.len]; exact e0
    rw [e0] at hb
    rw [e1] at hq
    simp at hb hq
    subst hb; subst hq
    exact ha
def kinds3 : List Str := ["folder", "item", "shut"]
def PriceOk : Option Int → Prop
  | none => True
  | some i => 1 ≤ i
/-- what a row must be behind others -/
structure Fits (pre : List Row) (r : Row) : Prop where
  shape : NameShape r.nm
  top : r.nm ≠ ("top" : Str)
  new : r.nm ∉ pre.map (·.nm)
  home : r.fo = ("top" : Str) ∨ ∃ q ∈ pre, q.nm = r.fo ∧ q.ki = ("folder" : Str)
  kind : r.ki ∈ kinds3
  price : PriceOk r.pr
def Valid (rs : List Row) : Prop := ∀ i r, rs[i]? = some r → Fits (rs.take i) r
theorem Valid.nil : Valid [] := fun i r h => by simp at h
theorem Valid.snoc {rs : List Row} {r : Row} (h : Valid rs) (f : Fits rs r) : Valid (rs ++ [r]) := by
  intro i q hq
  rcases Nat.lt_or_ge i rs.length with hi | hi
  · rw [List.getElem?_append_left hi] at hq
    rw [List.take_append_of_le_length (Nat.le_of_lt hi)]
    exact h i q hq
  · rw [List.getElem?_append_right hi] at hq
    have e0 : i - rs.length = 0 := by
      have := (List.getElem?_eq_some_iff.mp hq).1
      simp at this
      omega
    rw [e0] at hq
    simp at hq
    subst hq
    have e : i = rs.length := by omega
    rw [e, List.take_append_of_le_length (Nat.le_refl _), List.take_length]
    exact f
/-! ### looking for texts in lists -/
theorem eqV_str (x y : Str) : eqV (.str x) (.str y) = decide (x = y) := by
  by_cases h : x = y
  · subst h
    simp [eqV]
  · simp [eqV, h]
theorem inV_strs (z : Str) : ∀ l : List Str, inV (.str z) (l.map V.str) = decide (z ∈ l)
  | [] => by simp [inV]
  | x :: l => by
    have ih := inV_strs z l
    unfold inV at ih ⊢
    rw [List.map_cons, List.any_cons, ih, eqV_str]
    by_cases h : x = z
    · subst h; simp
    · have h' : ¬ z = x := fun e => h e.symm
      simp [h, h']
theorem flat_strs (l : List Str) : (l.map V.str).all flatV = true := by
  rw [List.all_eq_true]
  intro v hv
  obtain ⟨z, _, rfl⟩ := List.mem_map.mp hv
  rfl
theorem low_cat {x y : Str} (hx : Low x) (hy : Low y) : Low (x ++ y) := by
  intro c hc
  have e : (x ++ y).cps.toList = x.cps.toList ++ y.cps.toList := by
    show (x.cps ++ y.cps).toList = _
    simp
  rw [e] at hc
  rcases List.mem_append.mp hc with h | h
  · exact hx c h
  · exact hy c h
theorem len_cat (x y : Str) : (x ++ y).length = x.length + y.length := by
  show (x.cps ++ y.cps).size = _
  simp [Str.length]
end Ts
namespace Ts
open PySem L2
/-! ### dicts by what they have -/
structure MemD (H : Hp) (d : Addr) (l : List Str) : Prop where
  ex : ∃ kv : List (Key × V), H d = some (.dK kv) ∧ (∀ z : Str, (valV kv (.inr z : Key)).isSome = decide (z ∈ l)) ∧ kv.length ≤ l.length
theorem MemD.same {H H' : Hp} {d : Addr} {l : List Str} (m : MemD H d l) (e : H' d = H d) : MemD H' d l := by
  obtain ⟨kv, h⟩ := m.ex
  exact ⟨kv, by rw [e]; exact h⟩
theorem putK_le (kv : List (Key × V)) (k : Key) (v : V) : (putK kv k v).length ≤ kv.length + 1 := by
  unfold putK
  split
  · rw [List.length_map]; exact Nat.le_succ _
  · rw [List.length_append, List.length_singleton]; exact Nat.le_refl _
theorem mem_put {kv : List (Key × V)} {l : List Str} (h : ∀ z : Str, (valV kv (.inr z : Key)).isSome = decide (z ∈ l)) (x : Str) (v : V) (z : Str) : (valV (putK kv (.inr x) v) (.inr z : Key)).isSome = decide (z ∈ l ++ [x]) := by
  rw [valV_put]
  by_cases e : z = x
  · subst e
    simp
  · have e' : ¬ (Sum.inr z : Key) = Sum.inr x := fun q => e (Sum.inr.inj q)
    rw [if_neg e', h z]
    simp [e]
theorem MemD.put {H : Hp} {d : Addr} {l : List Str} {kv : List (Key × V)} (hk : ∀ z : Str, (valV kv (.inr z : Key)).isSome = decide (z ∈ l)) (hl : kv.length ≤ l.length) (x : Str) (v : V) : MemD (upd H d (.dK (putK kv (.inr x) v))) d (l ++ [x]) :=
  ⟨_, upd_same, mem_put hk x v, by have := putK_le kv (.inr x) v; rw [List.length_append, List.length_singleton]; omega⟩
/-- rows as tuples or lists -/
structure SeqRows (H : Hp) (as : List Addr) (rs : List Row) : Prop where
  len : as.length = rs.length
  at_ : ∀ (i : Nat) (a : Addr) (r : Row), as[i]? = some a → rs[i]? = some r → H a = some (.tup (rowVs r)) ∨ H a = some (.lst (rowVs r))
theorem SeqRows.same {H H' : Hp} {as : List Addr} {rs : List Row} (h : SeqRows H as rs) (s : Same H H') : SeqRows H' as rs := ⟨h.len, fun i a r ha hr => (h.at_ i a r ha hr).imp (s _ _) (s _ _)⟩
theorem RowsAt.seq {H : Hp} {as : List Addr} {rs : List Row} (h : RowsAt H as rs) : SeqRows H as rs := ⟨h.len, fun i a r ha hr => .inl (h.at_ i a r ha hr)⟩
/-- what a row must be behind others, names and folders that stand already -/
structure FitsB (ns hs : List Str) (pre : List Row) (r : Row) : Prop where
  shape : NameShape r.nm
  top : r.nm ≠ ("top" : Str)
  new : r.nm ∉ ns ++ pre.map (·.nm)
  home : r.fo ∈ hs ++ (pre.filter fun q => decide (q.ki = ("folder" : Str))).map (·.nm)
  kind : r.ki ∈ kinds3
  price : PriceOk r.pr
theorem Fits.b {pre : List Row} {r : Row} (f : Fits pre r) : FitsB [] [("top" : Str)] pre r :=
  ⟨f.shape, f.top, by simpa using f.new, by
    rcases f.home with h | ⟨q, hq, h1, h2⟩
    · rw [h]; simp
    · refine List.mem_append.mpr (.inr (List.mem_map.mpr ⟨q, List.mem_filter.mpr ⟨hq, decide_eq_true h2⟩, h1⟩)), f.kind, f.price⟩
end Ts

set_option maxRecDepth 100000
set_option maxHeartbeats 4000000
namespace Ts
open PySem L2
def kindsL : List Str := ["folder", "folder", "item", "item", "item", "shut"]
def pricesL : List (Option Int) := [some 1, some 1, some 1, some 2, some 3, some 7, none]
def spKinds : Sp := fun vs H Q _ => vs = [] ∧ ∀ p, H p = none → Q (.ref p) (upd H p (.lst (kindsL.map V.str)))
def spPrices : Sp := fun vs H Q _ => vs = [] ∧ ∀ p, H p = none → Q (.ref p) (upd H p (.lst (pricesL.map prV)))
/-- the rows of a drawn tree: n mixed draws before, at most 13 more a row -/
def spRows (K : PySem.W.Frag) : Sp := fun vs H Q _ => ∃ (a kl pl : Addr) (many n : Int) (ks : List Str) (ps : List (Option Int)), vs = [.ref a, .int many, .ref kl, .ref pl] ∧ Stm H a n ∧ n ≤ 549755800000 ∧ 0 ≤ many ∧ many ≤ 40 ∧ kl ≠ a ∧ pl ≠ a ∧
  SqL K H kl (ks.map V.str) ∧ SqL K H pl (ps.map prV) ∧ 1 ≤ ks.length ∧ ks.length ≤ 1000 ∧ 1 ≤ ps.length ∧ ps.length ≤ 1000 ∧ (∀ k ∈ ks, k ∈ kinds3) ∧ (∀ q ∈ ps, PriceOk q) ∧
  ∀ (p : Addr) (as : List Addr) (rs : List Row) (H' : Hp), H p = none → p ≠ a → H' p = some (.lst (as.map V.ref)) → RowsAt H' as rs → Valid rs → (rs.length : Int) ≤ many → (∀ r ∈ rs, r.ki ∈ ks ∧ r.pr ∈ ps ∧ Drawn r.nm) → SB a H H' → Stm H' a (n + 13 * many) → Q (.ref p) H'
def folderNames (rs : List Row) : List Str := (rs.filter fun r => decide (r.ki = ("folder" : Str))).map (·.nm)
theorem top_len : ("top" : Str).length = 3 := by decide +kernel
theorem mem_cutV {xs : List V} {lo hi : Option Int} {v : V} (h : v ∈ cutV xs lo hi) : v ∈ xs := List.mem_of_mem_drop (List.mem_of_mem_take h)
theorem seq_ref {K : PySem.W.Frag} {H H' : Hp} {l : Addr} {xs : List V} (e : H' l = H l) (h : SqL K H l xs) : SqL K H' l xs := by
  rcases h with (h | ⟨o, h⟩) | h
  · exact .inl (.inl (by rw [e]; exact h))
  · exact .inl (.inr ⟨o, by rw [e]; exact h⟩)
  · exact .inr h
section
variable {P : Program} {w : World} {K : PySem.W.Frag} {mg : Str → Option Value} {base : Heap}
theorem sc_kinds : FnScope [] [] (defScope s_L_kinds) := ⟨rfl, rfl, rfl, by decide +kernel, rfl, by decide +kernel, by decide +kernel⟩
theorem ok_kinds (D : DefAt K mg "_law_kinds" s_L_kinds []) : FnOk P w K mg base CX0 2 D.f D.fd [] spKinds := by
  refine D.F.ok sc_kinds (fun vs H Q E h => ?_) (fun cdv A outer s H vs Q E hr h => ?_)
  · obtain ⟨rfl, _⟩ := h
    rfl
  · obtain ⟨rfl, hq⟩ := h
    refine ⟨_, pss_one (ps_ret (pe_lst (pa_cons pe_str (pa_cons pe_str (pa_cons pe_str (pa_cons pe_str (pa_cons pe_str (pa_cons pe_str pa_nil)))))))), ?_⟩
    exact ⟨(by show 6 ≤ sizeLine; decide), fun p hp => hq p hp⟩
abbrev nRows : List Str := ["_law_stream_here", "_law_many", "_law_kinds_here", "_law_prices", "_law_rows_here", "_law_folders", "_law_names", "_law_k", "_law_name_here", "_law_kind", "_law_folder"]
theorem sc_rows : FnScope nRows ["_law_stream_here", "_law_many", "_law_kinds_here", "_law_prices"] (defScope s_L_rows) := ⟨rfl, rfl, rfl, by decide +kernel, rfl, by decide +kernel, by decide +kernel⟩
/-- what stands between two turns -/
structure RowsI (a p fl nl : Addr) (H0 H : Hp) (ks : List Str) (ps : List (Option Int)) (m : Int) (i : Nat) (as : List Addr) (rs : List Row) : Prop where
  hp : H p = some (.lst (as.map V.ref))
  hf : H fl = some (.lst ((("top" : Str) :: folderNames rs).map V.str))
  hn : H nl = some (.lst ((("top" : Str) :: rs.map (·.nm)).map V.str))
  rows : RowsAt H as rs
  val : Valid rs
  len : rs.length ≤ i
  mem : ∀ r ∈ rs, r.ki ∈ ks ∧ r.pr ∈ ps ∧ Drawn r.nm
  sb : SB a H0 H
  st : Stm H a m
theorem RowsI.step {a p fl nl : Addr} {H0 H H' : Hp} {ks : List Str} {ps : List (Option Int)} {m m' : Int} {i j : Nat} {as : List Addr} {rs : List Row} (h : RowsI a p fl nl H0 H ks ps m i as rs) (np : p ≠ a) (nf : fl ≠ a) (nn : nl ≠ a) (s : SB a H H') (hs : Stm H' a m') (hj : i ≤ j) :
    RowsI a p fl nl H0 H' ks ps m' j as rs := by
  obtain ⟨x, y, z, e, _⟩ := id h.st
  exact ⟨s _ _ np h.hp, s _ _ nf h.hf, s _ _ nn h.hn, h.rows.sb e s, h.val, Nat.le_trans h.len hj, h.mem, h.sb.trans s, hs⟩
theorem sign_at {z : Str} (h : Low z) {r : Int} (h0 : 0 ≤ r) (h1 : r < (z.length : Int)) : ∃ c, z.cps[r.toNat]? = some c ∧ Low ⟨#[c]⟩ := by
  have hk : r.toNat < z.cps.size := by
    have : z.length = z.cps.size := rfl
    omega
  refine ⟨z.cps[r.toNat], Array.getElem?_eq_getElem hk, fun c hc => ?_⟩
  have e : c = z.cps[r.toNat] := by simpa using hc
  rw [e]
  exact h _ (by simp)
theorem low_q : Low ("q" : Str) := by unfold Low; decide +kernel
theorem low_aj : Low ("abcdefghij" : Str) := by unfold Low; decide +kernel
theorem low_kp : Low ("klmnop" : Str) := by unfold Low; decide +kernel
theorem len_q : ("q" : Str).length = 1 := by decide +kernel
theorem len_aj : ("abcdefghij" : Str).length = 10 := by decide +kernel
theorem len_kp : ("klmnop" : Str).length = 6 := by decide +kernel
theorem szl {n : Nat} (h : n ≤ 1000) : n ≤ sizeLine := Nat.le_of_lt (small1000 h)
theorem folders_le (rs : List Row) : (folderNames rs).length ≤ rs.length := by
  unfold folderNames
  rw [List.length_map]
  exact List.length_filter_le _ _
theorem mem_folders {rs : List Row} {z : Str} (h : z ∈ folderNames rs) : ∃ q ∈ rs, q.nm = z ∧ q.ki = ("folder" : Str) := by
  obtain ⟨q, hq, e⟩ := List.mem_map.mp h
  obtain ⟨h1, h2⟩ := List.mem_filter.mp hq
  exact ⟨q, h1, e, of_decide_eq_true h2⟩
theorem folders_snoc (rs : List Row) (r : Row) : folderNames (rs ++ [r]) = folderNames rs ++ (if r.ki = ("folder" : Str) then [r.nm] else []) := by
  unfold folderNames
  rw [List.filter_append, List.map_append]
  by_cases h : r.ki = ("folder" : Str)
  · rw [if_pos h]; simp [h]
  · rw [if_neg h]; simp [h]
end
end Ts

set_option maxRecDepth 100000
set_option maxHeartbeats 4000000
namespace Ts
open PySem L2
theorem abc_uni : ∀ c ∈ List.range' 97 26, Unicode.isAlpha c = true ∧ Unicode.isLower c = true ∧ Unicode.isUpper c = false ∧ Unicode.isTitle c = false := by decide +kernel
theorem uni {c : Nat} (h : 97 ≤ c ∧ c ≤ 122) : Unicode.isAlpha c = true ∧ Unicode.isLower c = true ∧ Unicode.isUpper c = false ∧ Unicode.isTitle c = false :=
  abc_uni c (List.mem_range'_1.mpr ⟨h.1, by omega⟩)
theorem low_ascii {z : Str} (h : Low z) : Txt.isascii z = true := by
  unfold Txt.isascii
  rw [← Array.all_toList, List.all_eq_true]
  intro c hc
  have := h c hc
  simp; omega
theorem low_alpha {z : Str} (h : Low z) (h1 : 1 ≤ z.length) : Txt.isalpha z = true := by
  unfold Txt.isalpha
  rw [← Array.all_toList, Bool.and_eq_true, List.all_eq_true]
  exact ⟨decide_eq_true (by omega), fun c hc => (uni (h c hc)).1⟩
theorem low_lower {z : Str} (h : Low z) (h1 : 1 ≤ z.length) : Txt.islower z = true := by
  unfold Txt.islower
  rw [← Array.any_toList, ← Array.any_toList, Bool.and_eq_true]
  refine ⟨?_, ?_⟩
  · rw [List.any_eq_true]
    have hl : 0 < z.cps.toList.length := by rw [← len_toList]; omega
    exact ⟨z.cps.toList[0], List.getElem_mem hl, (uni (h _ (List.getElem_mem hl))).2.1⟩
  · rw [Bool.not_eq_true', List.any_eq_false]
    intro c hc
    have := uni (h c hc)
    simp [this.2.2.1, this.2.2.2]
theorem NameShape.pos {z : Str} (h : NameShape z) : 1 ≤ z.length ∧ z.length ≤ 8 := by have := h.1; omega
structure TxC (K : PySem.W.Frag) (mg : Str → Option Value) where
  top : ∃ t, mg "TOP" = some (.str "top" t)
  folder : ∃ t, mg "FOLDER" = some (.str "folder" t)
  long : ∃ t, mg "LONGEST_NAME" = some (.int 8 t)
  kindsA : Addr
  kinds : mg "KINDS" = some (.ref kindsA)
  num : DefAt K mg "is_number" s_is_number ["thing", "least"]
  kindsT : ∃ (o : Obj) (its : Array Value) (n : Nat), K.lookup kindsA = some o ∧ o.cls = .type "tuple" ∧ o.data = .seq its n ∧ its.size ≤ sizeLine ∧ Vals (kinds3.map V.str) its.toList
def spIsName : Sp := fun vs H Q _ => ∃ z, vs = [.str z] ∧ NameShape z ∧ z ≠ ("top" : Str) ∧ Q (.bl true) H
def spIsNumber : Sp := fun vs H Q _ => ∃ i n : Int, vs = [.int i, .int n] ∧ Q (.bl (decide (n ≤ i))) H
def spIsPrice : Sp := fun vs H Q _ => ∃ o, vs = [prV o] ∧ PriceOk o ∧ Q (.bl true) H
section
variable {P : Program} {w : World} {K : PySem.W.Frag} {mg : Str → Option Value} {base : Heap}
theorem sc_is_name : FnScope ["thing"] ["thing"] (defScope s_is_name) := ⟨rfl, rfl, rfl, by decide +kernel, rfl, by decide +kernel, by decide +kernel⟩
theorem ok_is_name (D : DefAt K mg "is_name" s_is_name ["thing"]) (B : TxB mg) (C : TxC K mg) : FnOk P w K mg base CX0 2 D.f D.fd ["thing"] spIsName := by
  obtain ⟨t1, gT⟩ := C.top
  obtain ⟨t2, gL⟩ := C.long
  refine D.F.ok sc_is_name (fun vs H Q E h => ?_) (fun cdv A outer s H vs Q E hr h => ?_)
  · obtain ⟨z, rfl, _⟩ := h
    rfl
  · obtain ⟨z, rfl, hz, ht, hq⟩ := h
    refine ⟨_, pss_cons (ps_if (PW.pt (pw_or (pt_not (pt_val (pe_callB call_isi (by rfl) B.isinstance (by decide +kernel) (pa_cons (pv 0) (pa_cons (pe_bltn (by rfl) B.str (by decide +kernel) (v := .ty "str") rfl) pa_nil)))))
        (pw_or (pt_cmpR op_eq (pv 0) (pe_glob (by rfl) gT (v := .str ("top" : Str)) ⟨_, rfl⟩) (nomark _)) (pw_or1 (pt_cmpR op_gt (pe_callB call_len (by rfl) B.len PySem.boot_len (pa_cons (pv 0) pa_nil)) (pe_glob (by rfl) gL (v := .int 8) ⟨_, rfl⟩) (nomark _)))))) (pss_one (ps_ret pe_bl)) pss_nil)
      (pss_one (ps_ret (pe_and (pe_m0 PySem.F.slot_str_isascii PySem.F.type_str_isascii mt_isascii (pv 0)) (pe_and (pe_m0 PySem.F.slot_str_isalpha PySem.F.type_str_isalpha mt_isalpha (pv 0)) (pe_one (pe_m0 PySem.F.slot_str_islower PySem.F.type_str_islower mt_islower (pv 0))))))), ?_⟩
    have hp := hz.pos
    refine ⟨_, rfl, _, _, _, _, true, rfl, .ty "str", .base (.str z), kit_ty (by decide +kernel), _, rfl, iteF ?_⟩
    refine ⟨_, rfl, rfl, _, rfl, ?_⟩
    rw [decide_eq_false (fun q => ht (V.str.inj q))]
    refine iteF ?_
    refine ⟨_, rfl, _, z.length, rfl, ⟨szl (by omega), rfl⟩, _, _, rfl, rfl, _, rfl, ?_⟩
    rw [decide_eq_false (by omega)]
    refine iteF ?_
    refine ⟨_, rfl, ⟨_, rfl⟩, _, rfl, rfl, trivial, _, rfl, ?_⟩
    rw [low_ascii hz.2]
    refine iteT ⟨_, rfl, ⟨_, rfl⟩, _, rfl, rfl, trivial, _, rfl, ?_⟩
    rw [low_alpha hz.2 hp.1]
    refine iteT ⟨_, rfl, ⟨_, rfl⟩, _, rfl, rfl, trivial, ?_⟩
    rw [low_lower hz.2 hp.1]
    exact hq
theorem sc_is_number : FnScope ["thing", "least"] ["thing", "least"] (defScope s_is_number) := ⟨rfl, rfl, rfl, by decide +kernel, rfl, by decide +kernel, by decide +kernel⟩
theorem ok_is_number (D : DefAt K mg "is_number" s_is_number ["thing", "least"]) (B : TxB mg) : FnOk P w K mg base CX0 1 D.f D.fd ["thing", "least"] spIsNumber := by
  refine D.F.ok sc_is_number (fun vs H Q E h => ?_) (fun cdv A outer s H vs Q E hr h => ?_)
  · obtain ⟨z, n, rfl, _⟩ := h
    rfl
  · obtain ⟨i, n, rfl, hq⟩ := h
    refine ⟨_, (pss_one (ps_ret (pe_and (pe_callB call_isi (by rfl) B.isinstance (by decide +kernel) (pa_cons (pv 0) (pa_cons (pe_bltn (by rfl) B.int (by decide +kernel) (v := .ty "int") rfl) pa_nil)))
        (pe_and (pe_not (pe_callB call_isi (by rfl) B.isinstance (by decide +kernel) (pa_cons (pv 0) (pa_cons (pe_bltn (by rfl) B.bool (by decide +kernel) (v := .ty "bool") rfl) pa_nil)))) (pe_one (pe_cmpR op_ge (pv 0) (pv 1) (nomark _))))))), ?_⟩
    refine ⟨_, rfl, _, _, _, _, true, rfl, .ty "int", .base (.int i), kit_ty (by decide +kernel), _, rfl, iteT ?_⟩
    refine ⟨_, rfl, _, _, _, _, false, rfl, .ty "bool", .base (.int i), kit_ty (by decide +kernel), _, rfl, _, rfl, iteT ?_⟩
    exact ⟨_, rfl, _, rfl, _, _, rfl, rfl, hq⟩
theorem sc_is_price : FnScope ["thing"] ["thing"] (defScope s_is_price) := ⟨rfl, rfl, rfl, by decide +kernel, rfl, by decide +kernel, by decide +kernel⟩
theorem ok_is_price (D : DefAt K mg "is_price" s_is_price ["thing"]) (B : TxB mg) (C : TxC K mg) : FnOk P w K mg base CX0 2 D.f D.fd ["thing"] spIsPrice := by
  have Gn : FnOk P w K mg base CX0 1 C.num.f C.num.fd ["thing", "least"] spIsNumber := ok_is_number C.num B
  refine D.F.ok sc_is_price (fun vs H Q E h => ?_) (fun cdv A outer s H vs Q E hr h => ?_)
  · obtain ⟨z, rfl, _⟩ := h
    rfl
  · obtain ⟨o, rfl, ho, hq⟩ := h
    refine ⟨_, (pss_one (ps_ret (pe_or (pe_cmpR op_isN (pv 0) pe_non (nomark _)) (pe_one (pe_call Gn hr rfl C.num.g C.num.F.kp C.num.b .nil pass0 (pa_cons (pv 0) (pa_cons pe_int pa_nil))))))), ?_⟩
    cases o with
    | none =>
      refine ⟨_, rfl, rfl, _, rfl, ?_⟩
      exact iteT hq
    | some i =>
      refine ⟨_, rfl, rfl, _, rfl, ?_⟩
      refine iteF ⟨_, rfl, i, 1, rfl, ?_⟩
      have hi : 1 ≤ i := ho
      rw [decide_eq_true hi]
      exact hq
end
end Ts

set_option maxRecDepth 100000
set_option maxHeartbeats 4000000
namespace Ts
open PySem L2
theorem kit_seqL {K : PySem.W.Frag} : PySem.W.kitAny K (.type "list") [.type "list", .type "tuple"] = some true := kitAny_cons (b := true) (kit_ty (by decide +kernel)) (fun e => nomatch e) fun _ => rfl
theorem kit_seqT {K : PySem.W.Frag} : PySem.W.kitAny K (.type "tuple") [.type "list", .type "tuple"] = some true := kitAny_cons (b := false) (kit_ty (by decide +kernel)) (fun _ => kitAny_cons (b := true) (kit_ty (by decide +kernel)) (fun e => nomatch e) fun _ => rfl) fun e => nomatch e
/-- a list or a tuple, made at run time -/
def Seq (H : Hp) (a : Addr) (xs : List V) : Prop := H a = some (.tup xs) ∨ H a = some (.lst xs)
theorem Seq.same {H H' : Hp} {a : Addr} {xs : List V} (h : Seq H a xs) (s : Same H H') : Seq H' a xs := h.imp (s _ _) (s _ _)
theorem Seq.ty {K : PySem.W.Frag} {H : Hp} {a : Addr} {xs : List V} (h : Seq H a xs) : ∃ t, TyX K H (.ref a) t ∧ PySem.W.kitAny K t [.type "list", .type "tuple"] = some true := by
  rcases h with h | h
  · exact ⟨_, .base (.tup h), kit_seqT⟩
  · exact ⟨_, .base (.lst h), kit_seqL⟩
theorem Seq.or {K : PySem.W.Frag} {H : Hp} {a : Addr} {xs : List V} (h : Seq H a xs) : SqL K H a xs ∨ SqT K H a xs := by
  rcases h with h | h
  · exact .inr (.inl (.inl h))
  · exact .inl (SqL.of h)
theorem sqT {K : PySem.W.Frag} {H : Hp} {a : Addr} {xs : List V} (h : H a = some (.tup xs)) : SqT K H a xs := .inl (.inl h)
/-- enumerate(x), x a list or a tuple in slot i -/
def iEnumS (i : Nat) : TI := fun σ H R => ∃ (a : Addr) (xs : List V), σ[i]? = some (some (.ref a)) ∧ Seq H a xs ∧ ∀ J, Walk J xs.length (fun H' => H' a = H a) (YPair (fun j => some (.int (j : Nat))) (fun j => xs[j]?)) → R J H
theorem pi_enumS {X : Cx} {x : Str} {px : Pos} {i : Nat} {p pos tpos : Pos} {elts : List Expr} {kk : Nat} (hg : Gl X "enumerate") (hm : X.mg "enumerate" = none) (he : PE X (.Name x px) (tVar i)) :
    PI X (.Tuple elts kk tpos) (.Call (.Name "enumerate" p) [.Name x px] [] pos) (iEnumS i) := by
  refine ⟨fun pins s σ H R I h => ?_⟩
  obtain ⟨a, xs, e1, hq, k⟩ := h
  rcases hq with hq | hq
  · exact (pi_enumT hg hm (pa_cons he pa_nil)).run pins s σ H R I ⟨_, e1, a, xs, rfl, sqT hq, k _ (walk_enumT.mono (fun H' e => sqT (e.trans hq)) fun _ _ _ _ _ _ y => y)⟩
  · exact (pi_enum hg hm (pa_cons he pa_nil)).run pins s σ H R I ⟨_, e1, a, xs, rfl, SqL.of hq, k _ (walk_enum.mono (fun H' e => SqL.of (e.trans hq)) fun _ _ _ _ _ _ y => y)⟩
/-- x itself, a list or a tuple in slot i -/
def iSeqS (i : Nat) : TI := fun σ H R => ∃ (a : Addr) (xs : List V), σ[i]? = some (some (.ref a)) ∧ Seq H a xs ∧ ∀ J, Walk J xs.length (fun H' => H' a = H a) (YAt xs) → R J H
theorem pi_seqS {X : Cx} {e tg : Expr} {i : Nat} (he : PE X e (tVar i)) : PI X tg e (iSeqS i) := by
  refine ⟨fun pins s σ H R I h => ?_⟩
  obtain ⟨a, xs, e1, hq, k⟩ := h
  rcases hq with hq | hq
  · exact (pi_tup he).run pins s σ H R I ⟨_, e1, a, rfl, ⟨_, sqT hq⟩, k _ (walk_tup.mono (fun H' e => sqT (e.trans hq)) fun _ _ _ _ _ _ y => y)⟩
  · exact (pi_list he).run pins s σ H R I ⟨_, e1, a, rfl, ⟨_, SqL.of hq⟩, k _ (walk_list.mono (fun H' e => SqL.of (e.trans hq)) fun _ _ _ _ _ _ y => y)⟩
theorem take_more {α : Type} : ∀ {l : List α} {i : Nat} {x : α}, l[i]? = some x → l.take (i + 1) = l.take i ++ [x]
  | [], i, x, h => by simp at h
  | a :: l, 0, x, h => by
    have e : a = x := Option.some.inj h
    subst e
    rfl
  | a :: l, i + 1, x, h => by
    have ih := take_more (l := l) (i := i) (x := x) (by simpa using h)
    rw [List.take_succ_cons, ih]
    rfl
theorem fold_take {rs : List Row} {i : Nat} {r : Row} (h : rs[i]? = some r) : folderNames (rs.take (i + 1)) = folderNames (rs.take i) ++ (if r.ki = ("folder" : Str) then [r.nm] else []) := by
  rw [take_more h, folders_snoc]
def spIsRow : Sp := fun vs H Q _ => ∃ (a d1 d2 : Addr) (r : Row) (kv1 kv2 : List (Key × V)), vs = [.ref a, .ref d1, .ref d2] ∧ Seq H a (rowVs r) ∧ H d1 = some (.dK kv1) ∧ valV kv1 (.inr r.nm : Key) = none ∧ H d2 = some (.dK kv2) ∧ (valV kv2 (.inr r.fo : Key)).isSome = true ∧
  NameShape r.nm ∧ r.nm ≠ ("top" : Str) ∧ r.ki ∈ kinds3 ∧ PriceOk r.pr ∧ ∀ H', Same H H' → Q (.bl true) H'
def spCheckRows (K : PySem.W.Frag) : Sp := fun vs H Q _ => ∃ (rw nm fo : Addr) (ns hs : List Str) (as : List Addr) (rs : List Row), vs = [.ref rw, .ref nm, .ref fo] ∧ Seq H rw (as.map V.ref) ∧ SeqRows H as rs ∧ SqT K H nm (ns.map V.str) ∧ SqT K H fo (hs.map V.str) ∧ rs.length ≤ 100 ∧ ns.length ≤ 100 ∧ hs.length ≤ 100 ∧
  (∀ i r, rs[i]? = some r → FitsB ns hs (rs.take i) r) ∧ ∀ H', Same H H' → Q .non H'
section
variable {P : Program} {w : World} {K : PySem.W.Frag} {mg : Str → Option Value} {base : Heap}
abbrev nIsRow : List Str := ["thing", "taken", "homes", "name", "folder", "kind", "price"]
theorem sc_is_row : FnScope nIsRow ["thing", "taken", "homes"] (defScope s_is_row) := ⟨rfl, rfl, rfl, by decide +kernel, rfl, by decide +kernel, by decide +kernel⟩
theorem ok_is_row (D : DefAt K mg "is_row" s_is_row ["thing", "taken", "homes"]) (Dn : DefAt K mg "is_name" s_is_name ["thing"]) (Dp : DefAt K mg "is_price" s_is_price ["thing"]) (B : TxB mg) (C : TxC K mg) : FnOk P w K mg base CX0 3 D.f D.fd ["thing", "taken", "homes"] spIsRow := by
  have Gn : FnOk P w K mg base CX0 2 Dn.f Dn.fd ["thing"] spIsName := ok_is_name Dn B C
  have Gp : FnOk P w K mg base CX0 2 Dp.f Dp.fd ["thing"] spIsPrice := ok_is_price Dp B C
  refine D.F.ok sc_is_row (fun vs H Q E h => ?_) (fun cdv A outer s H vs Q E hr h => ?_)
  · obtain ⟨a, d1, d2, r, kv1, kv2, rfl, _⟩ := h
    rfl
  · obtain ⟨a, d1, d2, r, kv1, kv2, rfl, ha, h1, v1, h2, v2, hn, ht, hk, hp, hq⟩ := h
    have hu := hu_of hr
    refine ⟨_, pss_cons (ps_if (PW.pt (pw_or (pt_not (pt_val (pe_callB call_isiT (by rfl) B.isinstance (by decide +kernel) (pa_cons (pv 0) (pa_cons (pe_tup (pa_cons (pe_bltn (by rfl) B.list (by decide +kernel) (v := .ty "list") rfl) (pa_cons (pe_bltn (by rfl) B.tuple (by decide +kernel) (v := .ty "tuple") rfl) pa_nil))) pa_nil)))))
        (pw_or1 (pt_cmpR op_ne (pe_callB call_len_seq (by rfl) B.len PySem.boot_len (pa_cons (pv 0) pa_nil)) pe_int (nomark _))))) (pss_one (ps_ret pe_bl)) pss_nil)
      (C8.pss_cut (ps_asg (pv 0) (pg_or (pg_tup rfl (pgs_cons (pg_name (i := 3) sc_is_row.nd rfl (.inl rfl)) (pgs_cons (pg_name (i := 4) sc_is_row.nd rfl (.inl rfl)) (pgs_cons (pg_name (i := 5) sc_is_row.nd rfl (.inl rfl)) (pgs_cons (pg_name (i := 6) sc_is_row.nd rfl (.inl rfl)) pgs_nil)))))
          (pg_unl rfl (pgs_cons (pg_name (i := 3) sc_is_row.nd rfl (.inl rfl)) (pgs_cons (pg_name (i := 4) sc_is_row.nd rfl (.inl rfl)) (pgs_cons (pg_name (i := 5) sc_is_row.nd rfl (.inl rfl)) (pgs_cons (pg_name (i := 6) sc_is_row.nd rfl (.inl rfl)) pgs_nil)))))))
      (pss_cons (ps_if (PW.pt (pw_or (pt_not (pt_val (pe_call Gn hr rfl Dn.g Dn.F.kp Dn.b .nil pass0 (pa_cons (pv 3) pa_nil)))) (pw_or1 (pt_cmp (pc_din hu (pv 3) (pv 1)))))) (pss_one (ps_ret pe_bl)) pss_nil)
      (pss_cons (ps_if (PW.pt (pw_or (pt_not (pt_val (pe_callB call_isi (by rfl) B.isinstance (by decide +kernel) (pa_cons (pv 4) (pa_cons (pe_bltn (by rfl) B.str (by decide +kernel) (v := .ty "str") rfl) pa_nil))))) (pw_or1 (pt_cmp (pc_dnotin hu (pv 4) (pv 2)))))) (pss_one (ps_ret pe_bl)) pss_nil)
      (pss_one (ps_ret (pe_and (pe_cmpR op_in_seq (pv 5) (pe_glob (by rfl) C.kinds (v := .ref C.kindsA) rfl) (by rfl)) (pe_one (pe_call Gp hr rfl Dp.g Dp.F.kp Dp.b .nil pass0 (pa_cons (pv 6) pa_nil)))))))))
      , ?_⟩
    refine ⟨_, rfl, (by show 2 ≤ sizeLine; decide), fun tp htp => ?_⟩
    have s1 : Same H (upd H tp (.tup [.ty "list", .ty "tuple"])) := Same.new htp
    obtain ⟨t, ty, kk⟩ := (ha.same s1).ty (K := K)
    refine ⟨_, tp, _, t, _, true, rfl, upd_same, .cons (.ty "list") (.cons (.ty "tuple") .nil), ty, kk, _, rfl, iteF ?_⟩
    refine ⟨_, rfl, a, _, rfl, (ha.same s1).or, rfl, _, rfl, ?_⟩
    refine iteF ?_
    have un : SqT K (upd H tp (.tup [.ty "list", .ty "tuple"])) a (rowVs r) ∨ SqL K (upd H tp (.tup [.ty "list", .ty "tuple"])) a (rowVs r) := (ha.same s1).or.symm
    refine ⟨fun σ' H' => σ' = [some (.ref a), some (.ref d1), some (.ref d2), some (.str r.nm), some (.str r.fo), some (.str r.ki), some (prV r.pr)] ∧ H' = upd H tp (.tup [.ty "list", .ty "tuple"]), ?_, ?_⟩
    · refine ⟨_, rfl, ?_⟩
      rcases un with un | un
      · exact .inl ⟨a, _, rfl, un, rfl, _, _, rfl, _, _, rfl, _, _, rfl, _, _, rfl, rfl, rfl, rfl⟩
      · exact .inr ⟨a, _, rfl, un, rfl, _, _, rfl, _, _, rfl, _, _, rfl, _, _, rfl, rfl, rfl, rfl⟩
    rintro σ' H' ⟨rfl, rfl⟩
    refine ⟨_, rfl, r.nm, rfl, hn, ht, _, rfl, iteF ?_⟩
    refine ⟨_, rfl, _, rfl, d1, _, rfl, DGet.k (k := Sum.inr r.nm) (s1 _ _ h1), _, rfl, ?_⟩
    rw [v1]
    refine iteF ?_
    refine ⟨_, rfl, _, _, _, _, true, rfl, .ty "str", .base (.str r.fo), kit_ty (by decide +kernel), _, rfl, iteF ?_⟩
    refine ⟨_, rfl, _, rfl, d2, _, rfl, DGet.k (k := Sum.inr r.fo) (s1 _ _ h2), _, rfl, ?_⟩
    rw [v2]
    refine iteF ?_
    refine ⟨_, rfl, C.kindsA, _, rfl, .inr (.inr C.kindsT), rfl, flat_strs _, _, rfl, ?_⟩
    have e : (if false = true then !inV (.str r.ki) (kinds3.map V.str) else inV (.str r.ki) (kinds3.map V.str)) = true := by
      rw [if_neg Bool.false_ne_true, inV_strs]
      exact decide_eq_true hk
    rw [e]
    exact iteT ⟨_, rfl, r.pr, rfl, hp, hq _ s1⟩
abbrev nCheckRows : List Str := ["rows", "names", "folders", "taken", "homes", "index", "row", "name", "folder", "kind", "price"]
theorem sc_check_rows : FnScope nCheckRows ["rows", "names", "folders"] (defScope s_check_rows) := ⟨rfl, rfl, rfl, by decide +kernel, rfl, by decide +kernel, by decide +kernel⟩
theorem ok_check_rows (D : DefAt K mg "check_rows" s_check_rows ["rows", "names", "folders"]) (Dr : DefAt K mg "is_row" s_is_row ["thing", "taken", "homes"]) (Dn : DefAt K mg "is_name" s_is_name ["thing"]) (Dp : DefAt K mg "is_price" s_is_price ["thing"]) (B : TxB mg) (C : TxC K mg) :
    FnOk P w K mg base CX0 4 D.f D.fd ["rows", "names", "folders"] (spCheckRows K) := by
  have Gr : FnOk P w K mg base CX0 3 Dr.f Dr.fd ["thing", "taken", "homes"] spIsRow := ok_is_row Dr Dn Dp B C
  obtain ⟨t1, gF⟩ := C.folder
  refine D.F.ok sc_check_rows (fun vs H Q E h => ?_) (fun cdv A outer s H vs Q E hr h => ?_)
  · obtain ⟨rw, nm, fo, ns, hs, as, rs, rfl, _⟩ := h
    rfl
  · obtain ⟨rw, nm, fo, ns, hs, as, rs, rfl, hrw, hrows, hnm, hfo, hl, hln, hlh, hfit, hq⟩ := h
    have hu := hu_of hr
    refine ⟨_, pss_cons (ps_if (pt_not (pt_val (pe_callB call_isiT (by rfl) B.isinstance (by decide +kernel) (pa_cons (pv 0) (pa_cons (pe_tup (pa_cons (pe_bltn (by rfl) B.list (by decide +kernel) (v := .ty "list") rfl) (pa_cons (pe_bltn (by rfl) B.tuple (by decide +kernel) (v := .ty "tuple") rfl) pa_nil))) pa_nil))))) (pss_one ps_never) pss_nil)
      (pss_cons (ps_setDc (i := 3) (own := [("name", 7)]) (g := gName 7) (tt := tYes) rfl sc_check_rows.nd rfl rfl (swd_true rfl rfl rfl (by decide +kernel)) (pi_tup (pv 1)) (blkOk_by (N := nCheckRows) (sc := defScope s_check_rows) (by decide +kernel))
        (fun _ _ _ _ _ => pg_name (i := 7) sc_check_rows.nd rfl (Or.inl rfl)) (fun _ _ _ _ _ => pts_nil) (fun _ _ _ _ _ => pv 7) (fun _ _ _ _ _ => pe_bl))
      (pss_cons (ps_setDc (i := 4) (own := [("folder", 8)]) (g := gName 8) (tt := tYes) rfl sc_check_rows.nd rfl rfl (swd_true rfl rfl rfl (by decide +kernel)) (pi_tup (pv 2)) (blkOk_by (N := nCheckRows) (sc := defScope s_check_rows) (by decide +kernel))
        (fun _ _ _ _ _ => pg_name (i := 8) sc_check_rows.nd rfl (Or.inl rfl)) (fun _ _ _ _ _ => pts_nil) (fun _ _ _ _ _ => pv 8) (fun _ _ _ _ _ => pe_bl))
      (pss_one (ps_for PassesOwn.never rfl (pi_enumS (by rfl) B.enumerate (pv 0)) (pg_tup rfl (pgs_cons (pg_name (i := 5) sc_check_rows.nd rfl (.inl rfl)) (pgs_cons (pg_name (i := 6) sc_check_rows.nd rfl (.inl rfl)) pgs_nil)))
        (pss_cons (ps_if (pt_not (pt_val (pe_call Gr hr rfl Dr.g Dr.F.kp Dr.b .nil pass0 (pa_cons (pv 6) (pa_cons (pv 3) (pa_cons (pv 4) pa_nil)))))) (pss_one ps_never) pss_nil)
        (C8.pss_cut (ps_asg (pv 6) (pg_or (pg_tup rfl (pgs_cons (pg_name (i := 7) sc_check_rows.nd rfl (.inl rfl)) (pgs_cons (pg_name (i := 8) sc_check_rows.nd rfl (.inl rfl)) (pgs_cons (pg_name (i := 9) sc_check_rows.nd rfl (.inl rfl)) (pgs_cons (pg_name (i := 10) sc_check_rows.nd rfl (.inl rfl)) pgs_nil)))))
          (pg_unl rfl (pgs_cons (pg_name (i := 7) sc_check_rows.nd rfl (.inl rfl)) (pgs_cons (pg_name (i := 8) sc_check_rows.nd rfl (.inl rfl)) (pgs_cons (pg_name (i := 9) sc_check_rows.nd rfl (.inl rfl)) (pgs_cons (pg_name (i := 10) sc_check_rows.nd rfl (.inl rfl)) pgs_nil)))))))
        (pss_cons (ps_dput hu (pv 3) (pv 7) pe_bl rfl)
        (pss_one (ps_if (pt_cmpR op_eq (pv 9) (pe_glob (by rfl) gF (v := .str ("folder" : Str)) ⟨_, rfl⟩) (nomark _)) (pss_one (ps_dput hu (pv 4) (pv 7) pe_bl rfl)) pss_nil)))))))))
      , ?_⟩
    refine ⟨_, rfl, (by show 2 ≤ sizeLine; decide), fun tp htp => ?_⟩
    have s1 : Same H (upd H tp (.tup [.ty "list", .ty "tuple"])) := Same.new htp
    obtain ⟨t, ty, kk⟩ := (hrw.same s1).ty (K := K)
    refine ⟨_, tp, _, t, _, true, rfl, upd_same, .cons (.ty "list") (.cons (.ty "tuple") .nil), ty, kk, _, rfl, iteF ?_⟩
    generalize upd H tp (.tup [.ty "list", .ty "tuple"]) = H1 at s1 ty
    have dict : ∀ (l : List Str) (td : Addr) (H1 H' : Hp) (i : Nat) (x : V), (l.map V.str)[i]? = some x → MemD H' td (l.take i) → ∃ (z : Str) (kv : List (Key × V)), x = .str z ∧ l[i]? = some z ∧ H' td = some (.dK kv) ∧ (∀ z : Str, (valV kv (.inr z : Key)).isSome = decide (z ∈ l.take i)) ∧ kv.length ≤ (l.take i).length := by
      intro l td H1 H' i x hx m
      rw [List.getElem?_map] at hx
      obtain ⟨z, hz, rfl⟩ := Option.map_eq_some_iff.mp hx
      obtain ⟨kv, e1, e2, e3⟩ := m.ex
      exact ⟨z, kv, rfl, hz, e1, e2, e3⟩
    refine ⟨_, rfl, nm, rfl, ⟨_, hnm.ext s1⟩, fun td htd => ?_⟩
    refine dc_tup (K := K) (a := nm) (xs := ns.map V.str) (fun i H' => Same H1 H' ∧ MemD H' td (ns.take i)) ⟨Same.new htd, [], upd_same, fun z => rfl, Nat.le_refl _⟩ (fun i H' _ m => hnm.ext (s1.trans m.1)) ?_ ?_
    · rintro i x H' hx ⟨sm, m⟩
      obtain ⟨z, kv, rfl, hz, e1, e2, e3⟩ := dict ns td H1 H' i x hx m
      refine ⟨rfl, tYes_if ⟨_, rfl, kv, .inr z, rfl, e1, small1000 (by rw [List.length_take] at e3; omega), fun b o e => ?_, ?_⟩⟩
      · rw [upd_ne (fun q => by rw [q, htd] at e; cases e)]
        exact sm b o e
      · rw [take_more hz]
        exact MemD.put e2 e3 z _
    · rintro H2 ⟨sm, m⟩
      rw [List.length_map, List.take_length] at m
      have s2 := s1.trans sm
      refine ⟨_, rfl, fo, rfl, ⟨_, hfo.ext s2⟩, fun hd hhd => ?_⟩
      have nth : td ≠ hd := by obtain ⟨kv, e1, _⟩ := m.ex; exact ne_of_none e1 hhd
      refine dc_tup (K := K) (a := fo) (xs := hs.map V.str) (fun i H' => Same H2 H' ∧ MemD H' hd (hs.take i)) ⟨Same.new hhd, [], upd_same, fun z => rfl, Nat.le_refl _⟩ (fun i H' _ m => hfo.ext (s2.trans m.1)) ?_ ?_
      · rintro i x H' hx ⟨sm, m⟩
        obtain ⟨z, kv, rfl, hz, e1, e2, e3⟩ := dict hs hd H2 H' i x hx m
        refine ⟨rfl, tYes_if ⟨_, rfl, kv, .inr z, rfl, e1, small1000 (by rw [List.length_take] at e3; omega), fun b o e => ?_, ?_⟩⟩
        · rw [upd_ne (fun q => by rw [q, hhd] at e; cases e)]
          exact sm b o e
        · rw [take_more hz]
          exact MemD.put e2 e3 z _
      · rintro H3 ⟨sm3, m3⟩
        rw [List.length_map, List.take_length] at m3
        have s3 := s2.trans sm3
        have mt : MemD H3 td ns := by
          obtain ⟨kv, e1, e⟩ := m.ex
          exact ⟨kv, sm3 _ _ e1, e⟩
        have ftd : H td = none := s1.free htd
        have fhd : H hd = none := s2.free hhd
        refine ⟨rw, _, rfl, hrw.same s3, fun J W => ?_⟩
        refine for_it W (fun i σ H' => ∃ (v5 v6 v7 v8 v9 v10 : Option V), σ = [some (.ref rw), some (.ref nm), some (.ref fo), some (.ref td), some (.ref hd), v5, v6, v7, v8, v9, v10] ∧ Same H H' ∧ H' rw = H3 rw ∧ MemD H' td (ns ++ (rs.take i).map (·.nm)) ∧ MemD H' hd (hs ++ folderNames (rs.take i))) ⟨none, none, none, none, none, none, rfl, s3, rfl, by simpa using mt, by simpa [folderNames] using m3⟩ (fun i σ H' _ ⟨_, _, _, _, _, _, _, _, e, _⟩ => e) ?_ ?_
        · rintro i x σ H4 H5 hi ⟨v5, v6, v7, v8, v9, v10, rfl, s4, e4, mt, mh⟩ ⟨T, xi, xr, rfl, hT, rfl, exi, exr⟩
          rw [List.length_map] at hi
          have exr' : (as.map V.ref)[i]? = some xr := exr
          rw [List.getElem?_map] at exr'
          obtain ⟨ra, hra, rfl⟩ := Option.map_eq_some_iff.mp exr'
          obtain ⟨r, hr'⟩ : ∃ r, rs[i]? = some r := ⟨rs[i]'(by rw [← hrows.len]; exact hi), List.getElem?_eq_getElem _⟩
          have fit := hfit i r hr'
          obtain rfl := Option.some.inj exi
          have s5 : Same H (upd H4 T (.tup [.int (i : Nat), .ref ra])) := s4.trans (Same.new hT)
          have rr : Seq (upd H4 T (.tup [.int (i : Nat), .ref ra])) ra (rowVs r) := Seq.same (hrows.at_ i ra r hra hr') s5
          obtain ⟨kt, et, pt, lt⟩ := mt.ex
          obtain ⟨kh, eh, ph, lh⟩ := mh.ex
          have nt : td ≠ T := ne_of_none et hT
          have nh : hd ≠ T := ne_of_none eh hT
          have i100 : i < 100 := by rw [← hrows.len] at hl; omega
          refine ⟨T, _, rfl, sqT upd_same, rfl, _, _, rfl, _, _, rfl, rfl, ?_⟩
          refine ⟨_, rfl, _, rfl, _, rfl, ra, td, hd, r, kt, kh, rfl, rr, by rw [upd_ne nt]; exact et, ?_, by rw [upd_ne nh]; exact eh, ?_, fit.shape, fit.top, fit.kind, fit.price, fun H6 s6 => ?_⟩
          · have q := pt r.nm
            rw [decide_eq_false fit.new] at q
            simpa using q
          · rw [ph r.fo]
            exact decide_eq_true fit.home
          refine ⟨_, rfl, iteF ?_⟩
          refine ⟨fun σ' H' => σ' = [some (.ref rw), some (.ref nm), some (.ref fo), some (.ref td), some (.ref hd), some (.int (i : Nat)), some (.ref ra), some (.str r.nm), some (.str r.fo), some (.str r.ki), some (prV r.pr)] ∧ H' = H6, ?_, ?_⟩
          · refine ⟨_, rfl, ?_⟩
            rcases rr.same s6 with un | un
            · exact .inl ⟨ra, _, rfl, sqT un, rfl, _, _, rfl, _, _, rfl, _, _, rfl, _, _, rfl, rfl, rfl, rfl⟩
            · exact .inr ⟨ra, _, rfl, SqL.of un, rfl, _, _, rfl, _, _, rfl, _, _, rfl, _, _, rfl, rfl, rfl, rfl⟩
          rintro σ' H' ⟨rfl, rfl⟩
          have et6 : H' td = some (.dK kt) := s6 _ _ (by rw [upd_ne nt]; exact et)
          have eh6 : H' hd = some (.dK kh) := s6 _ _ (by rw [upd_ne nh]; exact eh)
          have lt' : kt.length ≤ 300 := by
            rw [List.length_append, List.length_map, List.length_take] at lt; omega
          have lh' : kh.length ≤ 300 := by
            have := folders_le (rs.take i)
            rw [List.length_take] at this
            rw [List.length_append] at lh; omega
          refine ⟨_, rfl, _, rfl, td, _, rfl, DPut.k (k := Sum.inr r.nm) et6 (small1000 (by omega)), ?_⟩
          have s7 : Same H (upd H' td (.dK (putK kt (.inr r.nm) (.bl true)))) := fun b o e => by
            rw [upd_ne (fun q => by rw [q, ftd] at e; cases e)]
            exact s6 _ _ (s5 b o e)
          have mt7 : ns ++ (rs.take (i + 1)).map (·.nm) = ns ++ (rs.take i).map (·.nm) ++ [r.nm] := by rw [take_more hr', List.map_append, List.append_assoc]; rfl
          have mT : MemD (upd H' td (.dK (putK kt (.inr r.nm) (.bl true)))) td (ns ++ (rs.take (i + 1)).map (·.nm)) := by rw [mt7]; exact MemD.put pt lt _ _
          have rw4 : H4 rw = some (.tup (as.map V.ref)) ∨ H4 rw = some (.lst (as.map V.ref)) := hrw.same s4
          have keep : ∀ {b : Addr} {o : HO}, H4 b = some o → b ≠ td → (upd H' td (.dK (putK kt (.inr r.nm) (.bl true)))) b = some o := fun {b o} e nb => by
            rw [upd_ne nb]
            exact s6 _ _ (by rw [upd_ne (ne_of_none e hT)]; exact e)
          have ert : rw ≠ td := fun q => by rcases rw4 with z | z <;> (rw [q, et] at z; cases z)
          have erh : rw ≠ hd := fun q => by rcases rw4 with z | z <;> (rw [q, eh] at z; cases z)
          have erw : (upd H' td (.dK (putK kt (.inr r.nm) (.bl true)))) rw = H3 rw := by
            rw [← e4]
            rcases rw4 with z | z <;> (rw [z]; exact keep z ert)
          refine ⟨_, rfl, rfl, _, rfl, ?_⟩
          refine ite2 (fun hk => ?_) (fun hk => ?_)
          · have hk' : r.ki = ("folder" : Str) := V.str.inj (of_decide_eq_true hk)
            refine ⟨_, rfl, _, rfl, hd, _, rfl, DPut.k (k := Sum.inr r.nm) (Eq.trans (upd_ne nth.symm) eh6) (small1000 (by omega)), ?_⟩
            refine ⟨_, _, _, _, _, _, rfl, fun b o e => ?_, ?_, mT.same (upd_ne nth), ?_⟩
            · rw [upd_ne (fun q => by rw [q, fhd] at e; cases e)]
              exact s7 b o e
            · rw [upd_ne erh]; exact erw
            · rw [fold_take hr', if_pos hk', ← List.append_assoc]
              exact MemD.put ph lh _ _
          · have hk' : ¬ r.ki = ("folder" : Str) := fun q => hk (decide_eq_true (by rw [q]))
            refine ⟨_, _, _, _, _, _, rfl, s7, erw, mT, ?_⟩
            rw [fold_take hr', if_neg hk', List.append_nil]
            exact ⟨kh, Eq.trans (upd_ne nth.symm) eh6, ph, lh⟩
        · rintro σ H4 ⟨v5, v6, v7, v8, v9, v10, rfl, s4, _⟩
          exact hq _ s4
end
end Ts

set_option maxRecDepth 100000
set_option maxHeartbeats 4000000
namespace Ts
open PySem L2
/-! ### a tree as it stands -/
theorem qf_ : ¬ (("quads" : Str) = "folders") := by decide +kernel
theorem qk_ : ¬ (("quads" : Str) = "kinds") := by decide +kernel
theorem qp_ : ¬ (("quads" : Str) = "prices") := by decide +kernel
theorem fk_ : ¬ (("folders" : Str) = "kinds") := by decide +kernel
theorem fp_ : ¬ (("folders" : Str) = "prices") := by decide +kernel
theorem kp_ : ¬ (("kinds" : Str) = "prices") := by decide +kernel
def tf (q f k p : Addr) : List (Str × V) := putF "prices" (.ref p) (putF "kinds" (.ref k) (putF "folders" (.ref f) (putF "quads" (.ref q) [])))
theorem tf_q (q f k p : Addr) : (tf q f k p).lookup ("quads" : Str) = some (.ref q) := by
  unfold tf
  rw [lookup_putF, if_neg qp_, lookup_putF, if_neg qk_, lookup_putF, if_neg qf_, lookup_putF, if_pos rfl]
theorem tf_f (q f k p : Addr) : (tf q f k p).lookup ("folders" : Str) = some (.ref f) := by
  unfold tf
  rw [lookup_putF, if_neg fp_, lookup_putF, if_neg fk_, lookup_putF, if_pos rfl]
theorem tf_k (q f k p : Addr) : (tf q f k p).lookup ("kinds" : Str) = some (.ref k) := by
  unfold tf
  rw [lookup_putF, if_neg kp_, lookup_putF, if_pos rfl]
theorem tf_p (q f k p : Addr) : (tf q f k p).lookup ("prices" : Str) = some (.ref p) := by
  unfold tf
  rw [lookup_putF, if_pos rfl]
theorem tf_no (q f k p : Addr) {m : Str} (h1 : ¬ m = "quads") (h2 : ¬ m = "folders") (h3 : ¬ m = "kinds") (h4 : ¬ m = "prices") : (tf q f k p).lookup m = none := by
  unfold tf
  rw [lookup_putF, if_neg h4, lookup_putF, if_neg h3, lookup_putF, if_neg h2, lookup_putF, if_neg h1]
  rfl
theorem putF_len (n : Str) (v : V) : ∀ l : List (Str × V), (putF n v l).length ≤ l.length + 1
  | [] => Nat.le_refl _
  | p :: r => by
    have ih := putF_len n v r
    show (if p.1 = n then (p.1, v) :: r else p :: putF n v r).length ≤ _
    split
    · exact Nat.le_succ _
    · rw [List.length_cons, List.length_cons]; omega
def kvF (g : Row → V) (l : List Row) : List (Key × V) := l.map fun r => (.inr r.nm, g r)
theorem valV_kvF (g : Row → V) (z : Str) : ∀ l : List Row, valV (kvF g l) (.inr z : Key) = (l.find? fun r => decide (r.nm = z)).map g
  | [] => rfl
  | r :: l => by
    have ih := valV_kvF g z l
    by_cases e : r.nm = z
    · show valV ((.inr r.nm, g r) :: kvF g l) (.inr z : Key) = _
      rw [valV_pos (by rw [e]), List.find?_cons_of_pos (by simpa using e)]
      rfl
    · show valV ((.inr r.nm, g r) :: kvF g l) (.inr z : Key) = _
      rw [valV_neg (fun q => e (Sum.inr.inj q)), List.find?_cons_of_neg (by simpa using e)]
      exact ih
theorem find_none {l : List Row} {z : Str} (h : z ∉ l.map (·.nm)) : (l.find? fun r => decide (r.nm = z)) = none := by
  rw [List.find?_eq_none]
  intro r hr
  simp only [decide_eq_true_eq]
  exact fun q => h (List.mem_map.mpr ⟨r, hr, q⟩)
theorem kvF_more {g : Row → V} {rs : List Row} {i : Nat} {r : Row} (h : rs[i]? = some r) (hn : r.nm ∉ (rs.take i).map (·.nm)) : putK (kvF g (rs.take i)) (.inr r.nm) (g r) = kvF g (rs.take (i + 1)) := by
  rw [putK_new _ (by rw [valV_kvF, find_none hn]; rfl), take_more h]
  unfold kvF
  rw [List.map_append]
  rfl
structure TreeAt (C : Addr) (H : Hp) (t : Addr) (rs : List Row) : Prop where
  ex : ∃ (dx q f k p : Addr) (qs : List Addr), H t = some (.ins C dx (tf q f k p)) ∧ H q = some (.tup (qs.map V.ref)) ∧ RowsAt H qs rs ∧ H f = some (.dK (kvF (fun r => .str r.fo) rs)) ∧ H k = some (.dK (kvF (fun r => .str r.ki) rs)) ∧ H p = some (.dK (kvF (fun r => prV r.pr) rs))
  val : Valid rs
  len : rs.length ≤ 100
theorem TreeAt.same {C : Addr} {H H' : Hp} {t : Addr} {rs : List Row} (h : TreeAt C H t rs) (s : Same H H') : TreeAt C H' t rs := by
  obtain ⟨dx, q, f, k, p, qs, h1, h2, h3, h4, h5, h6⟩ := h.ex
  exact ⟨⟨dx, q, f, k, p, qs, s _ _ h1, s _ _ h2, h3.same s, s _ _ h4, s _ _ h5, s _ _ h6⟩, h.val, h.len⟩
structure TxT (K : PySem.W.Frag) (mg : Str → Option Value) (C : Addr) : Prop where
  cl : Cls K C
  nq : NoAttr K C "quads"
  nf : NoAttr K C "folders"
  nk : NoAttr K C "kinds"
  np : NoAttr K C "prices"
  g : mg "Tree" = some (.ref C)
def rTupOf (K : PySem.W.Frag) : List V → Hp → VK → Prop := fun xs H Q => ∃ p ys, xs = [V.ref p] ∧ ((SqL K H p ys ∧ ∀ l, H l = none → Q (V.ref l) (upd H l (.tup ys))) ∨ (SqT K H p ys ∧ Q (V.ref p) H))
def spTreeInit (C : Addr) : Sp := fun vs H Q _ => ∃ (t dx rw : Addr) (as : List Addr) (rs : List Row), vs = [.ref t, .ref rw] ∧ H t = some (.ins C dx []) ∧ Seq H rw (as.map V.ref) ∧ SeqRows H as rs ∧ rs.length ≤ 100 ∧ Valid rs ∧
  ∀ H', SB t H H' → TreeAt C H' t rs → Q .non H'
section
variable {P : Program} {w : World} {K : PySem.W.Frag} {mg : Str → Option Value} {base : Heap} {C : Addr}
abbrev nTreeInit : List Str := ["self", "rows", "row", "name", "folder", "kind", "price"]
theorem sc_Tree_init : FnScope nTreeInit ["self", "rows"] (defScope s_Tree_init) := ⟨rfl, rfl, rfl, by decide +kernel, rfl, by decide +kernel, by decide +kernel⟩
theorem ok_Tree_init {f : Addr} {fd : FuncData} (F : Fun K "__init__" "Tree.__init__" s_Tree_init f fd) (Dc : DefAt K mg "check_rows" s_check_rows ["rows", "names", "folders"]) (Gc : FnOk P w K mg base CX0 4 Dc.f Dc.fd ["rows", "names", "folders"] (spCheckRows K)) (B : TxB mg) (TC : TxC K mg) (T : TxT K mg C) :
    FnOk P w K mg base CX0 5 f fd ["self", "rows"] (spTreeInit C) := by
  obtain ⟨t1, gT⟩ := TC.top
  refine F.ok sc_Tree_init (fun vs H Q E h => ?_) (fun cdv A outer s H vs Q E hr h => ?_)
  · obtain ⟨t, dx, rw, as, rs, rfl, _⟩ := h
    rfl
  · obtain ⟨t, dx, rw, as, rs, rfl, ht, hrw, hrows, hl, hv, hq⟩ := h
    refine ⟨_, pss_cons (ps_expr (pe_call Gc hr rfl Dc.g Dc.F.kp Dc.b .nil pass0 (pa_cons (pv 1) (pa_cons (pe_tup pa_nil) (pa_cons (pe_tup (pa_cons (pe_glob (by rfl) gT (v := .str ("top" : Str)) ⟨_, rfl⟩) pa_nil)) pa_nil)))))
      (pss_cons (ps_fld (pv 0) (pe_callTy call_tuple_of (by rfl) B.tuple (by decide +kernel) (pa_cons (pe_lc (own := [("row", 2)]) (g := gName 2) (tt := tYes) (te := tCB (rTupOf K) (tCons (tVar 2) tNil)) rfl sc_Tree_init.nd (pi_seqS (i := 1) (pv 1)) (blkOk_by (N := nTreeInit) (sc := defScope s_Tree_init) (by decide +kernel))
          (fun _ _ _ _ _ => pg_name (i := 2) sc_Tree_init.nd rfl (Or.inl rfl)) (fun _ _ _ _ _ => pts_nil) (fun _ _ _ _ _ => by exact pe_callTy (T := "tuple") call_tuple_of (by rfl) B.tuple (by decide +kernel) (pa_cons (pv 2) pa_nil))) pa_nil)) rfl)
      (pss_cons (ps_fld (pv 0) (pe_dc (own := [("name", 3), ("folder", 4), ("kind", 5), ("price", 6)]) (g := gTup K 4 (gCons (gName 3) (gCons (gName 4) (gCons (gName 5) (gCons (gName 6) gNil))))) (tt := tYes) rfl sc_Tree_init.nd (pi_tup (pe_fld (pv 0) rfl)) (blkOk_by (N := nTreeInit) (sc := defScope s_Tree_init) (by decide +kernel))
          (fun _ _ _ _ _ => by exact pg_tup rfl (pgs_cons (pg_name (i := 3) sc_Tree_init.nd rfl (.inl rfl)) (pgs_cons (pg_name (i := 4) sc_Tree_init.nd rfl (.inl rfl)) (pgs_cons (pg_name (i := 5) sc_Tree_init.nd rfl (.inl rfl)) (pgs_cons (pg_name (i := 6) sc_Tree_init.nd rfl (.inl rfl)) pgs_nil))))) (fun _ _ _ _ _ => pts_nil) (fun _ _ _ _ _ => pv 3) (fun _ _ _ _ _ => pv 4)) rfl)
      (pss_cons (ps_fld (pv 0) (pe_dc (own := [("name", 3), ("folder", 4), ("kind", 5), ("price", 6)]) (g := gTup K 4 (gCons (gName 3) (gCons (gName 4) (gCons (gName 5) (gCons (gName 6) gNil))))) (tt := tYes) rfl sc_Tree_init.nd (pi_tup (pe_fld (pv 0) rfl)) (blkOk_by (N := nTreeInit) (sc := defScope s_Tree_init) (by decide +kernel))
          (fun _ _ _ _ _ => by exact pg_tup rfl (pgs_cons (pg_name (i := 3) sc_Tree_init.nd rfl (.inl rfl)) (pgs_cons (pg_name (i := 4) sc_Tree_init.nd rfl (.inl rfl)) (pgs_cons (pg_name (i := 5) sc_Tree_init.nd rfl (.inl rfl)) (pgs_cons (pg_name (i := 6) sc_Tree_init.nd rfl (.inl rfl)) pgs_nil))))) (fun _ _ _ _ _ => pts_nil) (fun _ _ _ _ _ => pv 3) (fun _ _ _ _ _ => pv 5)) rfl)
      (pss_one (ps_fld (pv 0) (pe_dc (own := [("name", 3), ("folder", 4), ("kind", 5), ("price", 6)]) (g := gTup K 4 (gCons (gName 3) (gCons (gName 4) (gCons (gName 5) (gCons (gName 6) gNil))))) (tt := tYes) rfl sc_Tree_init.nd (pi_tup (pe_fld (pv 0) rfl)) (blkOk_by (N := nTreeInit) (sc := defScope s_Tree_init) (by decide +kernel))
          (fun _ _ _ _ _ => by exact pg_tup rfl (pgs_cons (pg_name (i := 3) sc_Tree_init.nd rfl (.inl rfl)) (pgs_cons (pg_name (i := 4) sc_Tree_init.nd rfl (.inl rfl)) (pgs_cons (pg_name (i := 5) sc_Tree_init.nd rfl (.inl rfl)) (pgs_cons (pg_name (i := 6) sc_Tree_init.nd rfl (.inl rfl)) pgs_nil))))) (fun _ _ _ _ _ => pts_nil) (fun _ _ _ _ _ => pv 3) (fun _ _ _ _ _ => pv 6)) rfl))))), ?_⟩
    refine ⟨_, rfl, Nat.zero_le _, fun u1 hu1 => ⟨(by show 1 ≤ sizeLine; decide), fun u2 hu2 => ?_⟩⟩
    have s0 : Same H (upd (upd H u1 (.tup [])) u2 (.tup [V.str ("top" : Str)])) := (Same.new hu1).trans (Same.new hu2)
    have n12 : u1 ≠ u2 := fun q => by rw [← q, upd_same] at hu2; cases hu2
    refine ⟨rw, u1, u2, [], [("top" : Str)], as, rs, rfl, hrw.same s0, hrows.same s0, sqT (by rw [upd_ne n12]; exact upd_same), sqT upd_same, hl, Nat.zero_le _, (by decide), fun i r h => (hv i r h).b, fun H1 s1 => ?_⟩
    have s01 := s0.trans s1
    have hq1 := hrw.same s01
    refine ⟨rw, _, rfl, hq1, fun J W => fun D hD => ?_⟩
    refine lc_it W (fun i H' => ∃ qs : List Addr, Same H1 H' ∧ RowsAt H' qs (rs.take i) ∧ H' D = some (.lst (qs.map V.ref))) ⟨[], Same.new hD, RowsAt.nil, upd_same⟩ (fun i H' _ ⟨_, sm, _, _⟩ => ?_) ?_ ?_
    · rcases hq1 with z | z <;> rw [z] <;> exact sm _ _ z
    · rintro i x H2 H2' hi ⟨qs, sm, rq, hD2⟩ ⟨rfl, hx⟩
      rw [List.length_map] at hi
      rw [List.getElem?_map] at hx
      obtain ⟨ra, hra, rfl⟩ := Option.map_eq_some_iff.mp hx
      obtain ⟨r, hr'⟩ : ∃ r, rs[i]? = some r := ⟨rs[i]'(by rw [← hrows.len]; exact hi), List.getElem?_eq_getElem _⟩
      have rr : Seq H2' ra (rowVs r) := Seq.same (hrows.at_ i ra r hra hr') (s01.trans sm)
      have sz : (qs.map V.ref).length < sizeLine := small1000 (by rw [List.length_map, rq.len, List.length_take]; omega)
      have fin : ∀ (l : Addr) (H3 : Hp), H3 l = some (.tup (rowVs r)) → Same H2' H3 → ∃ qs' : List Addr, Same H1 (upd H3 D (.lst (qs.map V.ref ++ [V.ref l]))) ∧ RowsAt (upd H3 D (.lst (qs.map V.ref ++ [V.ref l]))) qs' (rs.take (i + 1)) ∧ (upd H3 D (.lst (qs.map V.ref ++ [V.ref l]))) D = some (.lst (qs'.map V.ref)) := by
        intro l H3 hl3 s3
        have kt : ∀ {b : Addr} {xs : List V}, H3 b = some (.tup xs) → (upd H3 D (.lst (qs.map V.ref ++ [V.ref l]))) b = some (.tup xs) := fun {b xs} h => by
          rw [upd_ne (fun q => by rw [q, s3 _ _ hD2] at h; cases h)]
          exact h
        refine ⟨qs ++ [l], fun b o e => ?_, ?_, ?_⟩
        · rw [upd_ne (fun q => by rw [q, hD] at e; cases e)]
          exact s3 _ _ (sm _ _ e)
        · rw [take_more hr']
          exact RowsAt.snoc ⟨rq.len, fun j b q hb hq' => kt (s3 _ _ (rq.at_ j b q hb hq'))⟩ (kt hl3)
        · rw [upd_same, List.map_append]; rfl
      refine ⟨rfl, tYes_if ⟨_, rfl, ra, rowVs r, rfl, ?_⟩⟩
      rcases rr with z | z
      · exact .inr ⟨sqT z, qs.map V.ref, hD2, sz, fin ra _ z (Same.refl _)⟩
      · exact .inl ⟨SqL.of z, fun l hl' => ⟨qs.map V.ref, (Same.new hl') _ _ hD2, sz, fin l _ upd_same (Same.new hl')⟩⟩
    · rintro H2 ⟨qs, sm, rq, hD2⟩
      rw [List.length_map, hrows.len, List.take_length] at rq
      refine ⟨D, _, rfl, .inl ⟨SqL.of hD2, fun q hq' => ?_⟩⟩
      have fresh_t : ∀ {b : Addr} {o : HO}, H t = some o → H2 t = some o := fun {b o} e => sm _ _ (s01 _ _ e)
      have ht2 : H2 t = some (.ins C dx []) := sm _ _ (s01 _ _ ht)
      have tq : t ≠ q := ne_of_none ht2 hq'
      refine ⟨_, rfl, t, C, dx, _, rfl, Eq.trans (upd_ne tq) ht2, T.cl, T.nq, (by show 0 < 1000; decide), ?_⟩
      obtain ⟨aH, aE⟩ : ∃ Hx, Hx = upd (upd H2 q (.tup (qs.map V.ref))) t (.ins C dx (putF "quads" (.ref q) [])) := ⟨_, rfl⟩
      have at_ : aH t = some (.ins C dx (putF "quads" (.ref q) [])) := by rw [aE]; exact upd_same
      have aq : aH q = some (.tup (qs.map V.ref)) := by rw [aE, upd_ne tq.symm]; exact upd_same
      have keepA : ∀ b o, b ≠ t → H2 b = some o → aH b = some o := fun b o nb e => by rw [aE, upd_ne nb, upd_ne (ne_of_none e hq')]; exact e
      have nt : ∀ {b : Addr} {xs : List V}, H2 b = some (.tup xs) → b ≠ t := fun {b xs} e y => by rw [y, ht2] at e; cases e
      have ar : RowsAt aH qs rs := ⟨rq.len, fun j b r hb hr => keepA _ _ (nt (rq.at_ j b r hb hr)) (rq.at_ j b r hb hr)⟩
      have asb : SB t H aH := fun b o nb e => keepA b o nb (sm b o (s01 b o e))
      rw [← aE]
      clear aE keepA

      refine ⟨_, rfl, t, C, dx, _, _, rfl, at_, T.cl, T.nq, (by rw [lookup_putF, if_pos rfl]), q, rfl, ⟨_, sqT aq⟩, fun DF hDF => ?_⟩
      refine dc_tup (K := K) (a := q) (xs := qs.map V.ref) (fun i H' => Same aH H' ∧ H' DF = some (.dK (kvF (fun r => V.str r.fo) (rs.take i)))) ⟨Same.new hDF, upd_same⟩ (fun i H' _ m => sqT (m.1 _ _ aq)) ?_ ?_
      · rintro i x H' hx ⟨sm, hDi⟩
        rw [List.getElem?_map] at hx
        obtain ⟨qa, hqa, rfl⟩ := Option.map_eq_some_iff.mp hx
        obtain ⟨r, hr'⟩ : ∃ r, rs[i]? = some r := ⟨rs[i]'(by rw [← rq.len]; exact (List.getElem?_eq_some_iff.mp hqa).1), List.getElem?_eq_getElem _⟩
        have e := sm _ _ (ar.at_ i qa r hqa hr')
        refine ⟨qa, _, rfl, sqT e, rfl, _, _, rfl, _, _, rfl, _, _, rfl, _, _, rfl, rfl, rfl, tYes_if ⟨_, rfl, _, rfl, _, .inr r.nm, rfl, hDi, small1000 (by unfold kvF; rw [List.length_map, List.length_take]; omega), fun b o e => ?_, ?_⟩⟩
        · rw [upd_ne (fun y => by rw [y, hDF] at e; cases e)]
          exact sm b o e
        · rw [upd_same]
          exact congrArg (fun l => some (HO.dK l)) (kvF_more (g := (fun r => V.str r.fo)) hr' (hv i r hr').new)
      rintro H5 ⟨sm, hDD⟩
      rw [List.length_map, rq.len, List.take_length] at hDD
      refine ⟨_, rfl, t, C, dx, _, rfl, sm _ _ at_, T.cl, T.nf, ?_, ?_⟩
      · exact Nat.lt_of_le_of_lt (putF_len _ _ _) (by decide)
      obtain ⟨cH, cE⟩ : ∃ Hx, Hx = upd H5 t (.ins C dx (putF "folders" (.ref DF) (putF "quads" (.ref q) []))) := ⟨_, rfl⟩
      have ct : cH t = some (.ins C dx (putF "folders" (.ref DF) (putF "quads" (.ref q) []))) := by rw [cE]; exact upd_same
      have keepX : ∀ b o, b ≠ t → aH b = some o → cH b = some o := fun b o nb e => by rw [cE, upd_ne nb]; exact sm b o e
      have cq : cH q = some (.tup (qs.map V.ref)) := keepX _ _ tq.symm aq
      have cr : RowsAt cH qs rs := ⟨rq.len, fun j b r hb hr => keepX _ _ (nt (rq.at_ j b r hb hr)) (ar.at_ j b r hb hr)⟩
      have csb : SB t H cH := fun b o nb e => keepX b o nb (asb b o nb e)
      have nDF : DF ≠ t := fun y => by rw [y, at_] at hDF; cases hDF
      have cF : cH DF = some (.dK (kvF (fun r => V.str r.fo) rs)) := by rw [cE, upd_ne nDF]; exact hDD
      rw [← cE]
      clear cE keepX sm hDD H5

      refine ⟨_, rfl, t, C, dx, _, _, rfl, ct, T.cl, T.nq, (by rw [lookup_putF, if_neg qf_, lookup_putF, if_pos rfl]), q, rfl, ⟨_, sqT cq⟩, fun DK hDK => ?_⟩
      refine dc_tup (K := K) (a := q) (xs := qs.map V.ref) (fun i H' => Same cH H' ∧ H' DK = some (.dK (kvF (fun r => V.str r.ki) (rs.take i)))) ⟨Same.new hDK, upd_same⟩ (fun i H' _ m => sqT (m.1 _ _ cq)) ?_ ?_
      · rintro i x H' hx ⟨sm, hDi⟩
        rw [List.getElem?_map] at hx
        obtain ⟨qa, hqa, rfl⟩ := Option.map_eq_some_iff.mp hx
        obtain ⟨r, hr'⟩ : ∃ r, rs[i]? = some r := ⟨rs[i]'(by rw [← rq.len]; exact (List.getElem?_eq_some_iff.mp hqa).1), List.getElem?_eq_getElem _⟩
        have e := sm _ _ (cr.at_ i qa r hqa hr')
        refine ⟨qa, _, rfl, sqT e, rfl, _, _, rfl, _, _, rfl, _, _, rfl, _, _, rfl, rfl, rfl, tYes_if ⟨_, rfl, _, rfl, _, .inr r.nm, rfl, hDi, small1000 (by unfold kvF; rw [List.length_map, List.length_take]; omega), fun b o e => ?_, ?_⟩⟩
        · rw [upd_ne (fun y => by rw [y, hDK] at e; cases e)]
          exact sm b o e
        · rw [upd_same]
          exact congrArg (fun l => some (HO.dK l)) (kvF_more (g := (fun r => V.str r.ki)) hr' (hv i r hr').new)
      rintro H5 ⟨sm, hDD⟩
      rw [List.length_map, rq.len, List.take_length] at hDD
      refine ⟨_, rfl, t, C, dx, _, rfl, sm _ _ ct, T.cl, T.nk, ?_, ?_⟩
      · exact Nat.lt_of_le_of_lt (Nat.le_trans (putF_len _ _ _) (Nat.succ_le_succ (putF_len _ _ _))) (by decide)
      obtain ⟨dH, dE⟩ : ∃ Hx, Hx = upd H5 t (.ins C dx (putF "kinds" (.ref DK) (putF "folders" (.ref DF) (putF "quads" (.ref q) [])))) := ⟨_, rfl⟩
      have dt : dH t = some (.ins C dx (putF "kinds" (.ref DK) (putF "folders" (.ref DF) (putF "quads" (.ref q) [])))) := by rw [dE]; exact upd_same
      have keepX : ∀ b o, b ≠ t → cH b = some o → dH b = some o := fun b o nb e => by rw [dE, upd_ne nb]; exact sm b o e
      have dq : dH q = some (.tup (qs.map V.ref)) := keepX _ _ tq.symm cq
      have dr : RowsAt dH qs rs := ⟨rq.len, fun j b r hb hr => keepX _ _ (nt (rq.at_ j b r hb hr)) (cr.at_ j b r hb hr)⟩
      have dsb : SB t H dH := fun b o nb e => keepX b o nb (csb b o nb e)
      have nDK : DK ≠ t := fun y => by rw [y, ct] at hDK; cases hDK
      have dK : dH DK = some (.dK (kvF (fun r => V.str r.ki) rs)) := by rw [dE, upd_ne nDK]; exact hDD
      have dF : dH DF = some (.dK (kvF (fun r => V.str r.fo) rs)) := keepX _ _ nDF cF
      rw [← dE]
      clear dE keepX sm hDD H5

      refine ⟨_, rfl, t, C, dx, _, _, rfl, dt, T.cl, T.nq, (by rw [lookup_putF, if_neg qk_, lookup_putF, if_neg qf_, lookup_putF, if_pos rfl]), q, rfl, ⟨_, sqT dq⟩, fun DP hDP => ?_⟩
      refine dc_tup (K := K) (a := q) (xs := qs.map V.ref) (fun i H' => Same dH H' ∧ H' DP = some (.dK (kvF (fun r => prV r.pr) (rs.take i)))) ⟨Same.new hDP, upd_same⟩ (fun i H' _ m => sqT (m.1 _ _ dq)) ?_ ?_
      · rintro i x H' hx ⟨sm, hDi⟩
        rw [List.getElem?_map] at hx
        obtain ⟨qa, hqa, rfl⟩ := Option.map_eq_some_iff.mp hx
        obtain ⟨r, hr'⟩ : ∃ r, rs[i]? = some r := ⟨rs[i]'(by rw [← rq.len]; exact (List.getElem?_eq_some_iff.mp hqa).1), List.getElem?_eq_getElem _⟩
        have e := sm _ _ (dr.at_ i qa r hqa hr')
        refine ⟨qa, _, rfl, sqT e, rfl, _, _, rfl, _, _, rfl, _, _, rfl, _, _, rfl, rfl, rfl, tYes_if ⟨_, rfl, _, rfl, _, .inr r.nm, rfl, hDi, small1000 (by unfold kvF; rw [List.length_map, List.length_take]; omega), fun b o e => ?_, ?_⟩⟩
        · rw [upd_ne (fun y => by rw [y, hDP] at e; cases e)]
          exact sm b o e
        · rw [upd_same]
          exact congrArg (fun l => some (HO.dK l)) (kvF_more (g := (fun r => prV r.pr)) hr' (hv i r hr').new)
      rintro H5 ⟨sm, hDD⟩
      rw [List.length_map, rq.len, List.take_length] at hDD
      refine ⟨_, rfl, t, C, dx, _, rfl, sm _ _ dt, T.cl, T.np, ?_, ?_⟩
      · exact Nat.lt_of_le_of_lt (Nat.le_trans (putF_len _ _ _) (Nat.succ_le_succ (Nat.le_trans (putF_len _ _ _) (Nat.succ_le_succ (putF_len _ _ _))))) (by decide)
      obtain ⟨eH, eE⟩ : ∃ Hx, Hx = upd H5 t (.ins C dx (putF "prices" (.ref DP) (putF "kinds" (.ref DK) (putF "folders" (.ref DF) (putF "quads" (.ref q) []))))) := ⟨_, rfl⟩
      have et : eH t = some (.ins C dx (putF "prices" (.ref DP) (putF "kinds" (.ref DK) (putF "folders" (.ref DF) (putF "quads" (.ref q) []))))) := by rw [eE]; exact upd_same
      have keepX : ∀ b o, b ≠ t → dH b = some o → eH b = some o := fun b o nb e => by rw [eE, upd_ne nb]; exact sm b o e
      have eq : eH q = some (.tup (qs.map V.ref)) := keepX _ _ tq.symm dq
      have er : RowsAt eH qs rs := ⟨rq.len, fun j b r hb hr => keepX _ _ (nt (rq.at_ j b r hb hr)) (dr.at_ j b r hb hr)⟩
      have esb : SB t H eH := fun b o nb e => keepX b o nb (dsb b o nb e)
      have nDP : DP ≠ t := fun y => by rw [y, dt] at hDP; cases hDP
      have eP : eH DP = some (.dK (kvF (fun r => prV r.pr) rs)) := by rw [eE, upd_ne nDP]; exact hDD
      have eF : eH DF = some (.dK (kvF (fun r => V.str r.fo) rs)) := keepX _ _ nDF dF
      have eK : eH DK = some (.dK (kvF (fun r => V.str r.ki) rs)) := keepX _ _ nDK dK
      rw [← eE]
      clear eE keepX sm hDD H5
      exact hq eH esb ⟨⟨dx, q, DF, DK, DP, qs, et, eq, er, eF, eK, eP⟩, hv, hl⟩
end
end Ts

set_option maxRecDepth 100000
set_option maxHeartbeats 4000000
namespace Ts
open PySem L2
/-! ### rows as data -/
def prD : Option Int → PyData
  | none => .none
  | some i => .int i
def rowD (r : Row) : PyData := .tuple [.str r.nm, .str r.fo, .str r.ki, prD r.pr]
theorem prD_ok {K : PySem.W.Frag} {H : Hp} (o : Option Int) : Dp K H (prV o) (prD o) := by
  cases o with
  | none => exact .non
  | some i => exact .int i
theorem row_dp {K : PySem.W.Frag} {H : Hp} {a : Addr} {r : Row} (h : H a = some (.tup (rowVs r))) : Dp K H (.ref a) (rowD r) :=
  .tup (sqT h) (.cons (.str _) (.cons (.str _) (.cons (.str _) (.cons (prD_ok _) .nil))))
theorem rows_dp {K : PySem.W.Frag} {H : Hp} : ∀ {as : List Addr} {rs : List Row}, RowsAt H as rs → DpAll K H (as.map V.ref) (rs.map rowD)
  | [], [], _ => .nil
  | [], _ :: _, h => by have := h.len; simp at this
  | _ :: _, [], h => by have := h.len; simp at this
  | a :: as, r :: rs, h => .cons (row_dp (h.at_ 0 a r rfl rfl)) (rows_dp ⟨by simpa using h.len, fun i b q hb hq => h.at_ (i + 1) b q (by simpa using hb) (by simpa using hq)⟩)
theorem str_beq (x y : Str) : (x == y) = decide (x = y) := by
  by_cases h : x = y
  · subst h; simp
  · rw [decide_eq_false h]; exact beq_eq_false_iff_ne.mpr h
theorem prD_eqv (a b : Option Int) : PyData.eqv (prD a) (prD b) = decide (a = b) := by
  cases a <;> cases b <;> simp [prD, PyData.eqv]
  rename_i i j
  by_cases h : i = j <;> simp [h]
theorem row_eqv (a b : Row) : PyData.eqv (rowD a) (rowD b) = decide (a = b) := by
  obtain ⟨n1, f1, k1, p1⟩ := a
  obtain ⟨n2, f2, k2, p2⟩ := b
  unfold rowD
  simp only [PyData.eqv, PyData.eqvAll, prD_eqv, str_beq, Bool.and_true]
  by_cases h1 : n1 = n2 <;> by_cases h2 : f1 = f2 <;> by_cases h3 : k1 = k2 <;> by_cases h4 : p1 = p2 <;> simp [h1, h2, h3, h4]
theorem rows_eqv : ∀ (a b : List Row), PyData.eqvAll (a.map rowD) (b.map rowD) = decide (a = b)
  | [], [] => by simp [PyData.eqvAll]
  | [], _ :: _ => by simp [PyData.eqvAll]
  | _ :: _, [] => by simp [PyData.eqvAll]
  | x :: a, y :: b => by
    simp only [List.map_cons, PyData.eqvAll, row_eqv, rows_eqv a b]
    by_cases h1 : x = y <;> by_cases h2 : a = b <;> simp [h1, h2]
theorem low_ok {z : Str} (h : ∀ c ∈ z.cps.toList, c ≤ 122) : PyData.strOk z = true := by
  unfold PyData.strOk
  rw [← Array.all_toList, List.all_eq_true]
  intro c hc
  have := h c hc
  exact decide_eq_true (by omega)
theorem top_ok : PyData.strOk ("top" : Str) = true := by decide +kernel
theorem kinds_ok : ∀ k ∈ kinds3, PyData.strOk k = true := by decide +kernel
structure RowOk (r : Row) : Prop where
  n : PyData.strOk r.nm = true
  f : PyData.strOk r.fo = true
  k : PyData.strOk r.ki = true
theorem rowD_lay {r : Row} (h : RowOk r) : (rowD r).canLay0 = true := by
  obtain ⟨h1, h2, h3⟩ := h
  obtain ⟨n, f, k, p⟩ := r
  cases p <;> simp_all [rowD, prD, PyData.canLay0, PyData.canLayAll0]
theorem rowD_depth (r : Row) : (rowD r).depth = 1 := by
  obtain ⟨n, f, k, p⟩ := r
  cases p <;> simp [rowD, prD, PyData.depth, PyData.depthAll]
theorem rows_lay : ∀ (rs : List Row), (∀ r ∈ rs, RowOk r) → PyData.canLayAll0 (rs.map rowD) = true
  | [], _ => by simp [PyData.canLayAll0]
  | r :: rs, h => by
    simp only [List.map_cons, PyData.canLayAll0, rowD_lay (h r (List.mem_cons_self ..)), rows_lay rs (fun q hq => h q (List.mem_cons_of_mem _ hq)), Bool.and_self]
theorem rows_depth : ∀ (rs : List Row), PyData.depthAll (rs.map rowD) ≤ 1
  | [] => by simp [PyData.depthAll]
  | r :: rs => by
    have ih := rows_depth rs
    simp only [List.map_cons, PyData.depthAll, rowD_depth]
    omega
theorem shaped_tup {rs : List Row} (h : ∀ r ∈ rs, RowOk r) : SeqAt.shaped (.tuple (rs.map rowD)) = true := by
  have q := rows_depth rs
  unfold SeqAt.shaped
  rw [Bool.and_eq_true]
  refine ⟨by simp only [PyData.canLay0]; exact rows_lay rs h, decide_eq_true ?_⟩
  simp only [PyData.depth]
  omega
theorem shaped_lst {rs : List Row} (h : ∀ r ∈ rs, RowOk r) : SeqAt.shaped (.list (rs.map rowD)) = true := by
  have q := rows_depth rs
  unfold SeqAt.shaped
  rw [Bool.and_eq_true]
  refine ⟨by simp only [PyData.canLay0]; exact rows_lay rs h, decide_eq_true ?_⟩
  simp only [PyData.depth]
  omega
theorem shaped_row {r : Row} (h : RowOk r) : SeqAt.shaped (rowD r) = true := by
  simp only [SeqAt.shaped, rowD_lay h, rowD_depth, Bool.true_and]
  decide
theorem low_sok {z : Str} (h : Low z) : PyData.strOk z = true := low_ok fun c hc => (h c hc).2
theorem Valid.ok {rs : List Row} (h : Valid rs) : ∀ r ∈ rs, RowOk r := by
  intro r hr
  obtain ⟨i, hi, rfl⟩ := List.mem_iff_getElem.mp hr
  have f := h i rs[i] (List.getElem?_eq_getElem hi)
  refine ⟨low_sok f.shape.2, ?_, kinds_ok _ f.kind⟩
  rcases f.home with e | ⟨q, hq, e, _⟩
  · rw [e]; exact top_ok
  · obtain ⟨j, hj, rfl⟩ := List.mem_iff_getElem.mp (List.mem_of_mem_take hq)
    rw [← e]
    exact low_sok (h j rs[j] (List.getElem?_eq_getElem hj)).shape.2
/-! ### promises of the methods -/
def names (rs : List Row) : List Str := rs.map (·.nm)
def rowOf (rs : List Row) (z : Str) : Option Row := rs.find? fun r => decide (r.nm = z)
theorem rowOf_some {rs : List Row} {z : Str} (h : z ∈ names rs) : ∃ r, rowOf rs z = some r ∧ r ∈ rs ∧ r.nm = z := by
  unfold rowOf
  obtain ⟨q, hq, e⟩ := List.mem_map.mp h
  cases e1 : rs.find? fun r => decide (r.nm = z) with
  | none =>
    rw [List.find?_eq_none] at e1
    exact absurd (decide_eq_true e) (e1 q hq)
  | some r => exact ⟨r, rfl, List.mem_of_find?_eq_some e1, of_decide_eq_true (List.find?_some (p := fun (r : Row) => decide (r.nm = z)) e1)⟩
def spLen (C : Addr) : Sp := fun vs H Q _ => ∃ (t : Addr) (rs : List Row), vs = [.ref t] ∧ TreeAt C H t rs ∧ Q (.int rs.length) H
def Other (K : PySem.W.Frag) (H : Hp) (x : V) (c : Value) : Prop := ∃ ty, TyX K H x ty ∧ PySem.W.kitOne K ty c = some false
def spContains (K : PySem.W.Frag) (C : Addr) : Sp := fun vs H Q _ => ∃ (t : Addr) (x : V) (rs : List Row), vs = [.ref t, x] ∧ TreeAt C H t rs ∧
  ((∃ z, x = .str z ∧ Q (.bl (decide (z ∈ names rs))) H) ∨ (Other K H x (.type "str") ∧ Q (.bl false) H))
def spEqT (K : PySem.W.Frag) (C : Addr) : Sp := fun vs H Q _ => ∃ (t : Addr) (x : V) (rs : List Row), vs = [.ref t, x] ∧ TreeAt C H t rs ∧
  ((∃ (u : Addr) (qs : List Row), x = .ref u ∧ TreeAt C H u qs ∧ Q (.bl (decide (rs = qs))) H) ∨ (Other K H x (.ref C) ∧ Q (.bl false) H))
def spRowsM (C : Addr) : Sp := fun vs H Q _ => ∃ (t : Addr) (rs : List Row), vs = [.ref t] ∧ TreeAt C H t rs ∧ ∀ p (qs : List Addr), H p = none → RowsAt H qs rs → Q (.ref p) (upd H p (.lst (qs.map V.ref)))
def spBox (C : Addr) : Sp := fun vs H Q _ => ∃ (t : Addr) (z : Str) (rs : List Row), vs = [.ref t, .str z] ∧ TreeAt C H t rs ∧ z ∈ names rs ∧ Q .non H
def spIsPlace (C : Addr) : Sp := fun vs H Q _ => ∃ (t : Addr) (z : Str) (rs : List Row), vs = [.ref t, .str z] ∧ TreeAt C H t rs ∧ Q (.bl (decide (z = ("top" : Str) ∨ z ∈ names rs))) H
def spPlace (C : Addr) : Sp := fun vs H Q _ => ∃ (t : Addr) (z : Str) (rs : List Row), vs = [.ref t, .str z] ∧ TreeAt C H t rs ∧ (z = ("top" : Str) ∨ z ∈ names rs) ∧ Q .non H
def spGet (C : Addr) (g : Row → V) : Sp := fun vs H Q _ => ∃ (t : Addr) (z : Str) (rs : List Row) (r : Row), vs = [.ref t, .str z] ∧ TreeAt C H t rs ∧ rowOf rs z = some r ∧ Q (g r) H
section
variable {P : Program} {w : World} {K : PySem.W.Frag} {mg : Str → Option Value} {base : Heap} {C : Addr}
theorem sc_Tree_len : FnScope ["self"] ["self"] (defScope s_Tree_len) := ⟨rfl, rfl, rfl, by decide +kernel, rfl, by decide +kernel, by decide +kernel⟩
theorem ok_Tree_len {f : Addr} {fd : FuncData} (F : Fun K "__len__" "Tree.__len__" s_Tree_len f fd) (B : TxB mg) (T : TxT K mg C) : FnOk P w K mg base CX0 2 f fd ["self"] (spLen C) := by
  refine F.ok sc_Tree_len (fun vs H Q E h => ?_) (fun cdv A outer s H vs Q E hr h => ?_)
  · obtain ⟨t, rs, rfl, _⟩ := h
    rfl
  · obtain ⟨t, rs, rfl, ht, hq⟩ := h
    obtain ⟨dx, q, f, k, p, qs, h1, h2, h3, h4, h5, h6⟩ := ht.ex
    refine ⟨_, pss_one (ps_ret (pe_callB call_len_seq (by rfl) B.len PySem.boot_len (pa_cons (pe_fld (pv 0) rfl) pa_nil))), ?_⟩
    refine ⟨_, rfl, t, C, dx, _, _, rfl, h1, T.cl, T.nq, tf_q _ _ _ _, q, _, rfl, .inr (sqT h2), ?_⟩
    rw [List.length_map, h3.len]
    exact hq
theorem sc_Tree_contains : FnScope ["self", "x"] ["self", "x"] (defScope s_Tree_contains) := ⟨rfl, rfl, rfl, by decide +kernel, rfl, by decide +kernel, by decide +kernel⟩
theorem ok_Tree_contains {f : Addr} {fd : FuncData} (F : Fun K "__contains__" "Tree.__contains__" s_Tree_contains f fd) (B : TxB mg) (T : TxT K mg C) : FnOk P w K mg base CX0 2 f fd ["self", "x"] (spContains K C) := by
  refine F.ok sc_Tree_contains (fun vs H Q E h => ?_) (fun cdv A outer s H vs Q E hr h => ?_)
  · obtain ⟨t, x, rs, rfl, _⟩ := h
    rfl
  · obtain ⟨t, x, rs, rfl, ht, h⟩ := h
    have hu := hu_of hr
    obtain ⟨dx, q, f, k, p, qs, h1, h2, h3, h4, h5, h6⟩ := ht.ex
    refine ⟨_, pss_one (ps_ret (pe_and (pe_callB call_isi (by rfl) B.isinstance (by decide +kernel) (pa_cons (pv 1) (pa_cons (pe_bltn (by rfl) B.str (by decide +kernel) (v := .ty "str") rfl) pa_nil))) (pe_one (pe_cmp (pc_din hu (pv 1) (pe_fld (pv 0) rfl)) rfl)))), ?_⟩
    rcases h with ⟨z, rfl, hq⟩ | ⟨⟨ty, hty, hk⟩, hq⟩
    · refine ⟨_, rfl, _, _, _, _, true, rfl, .ty "str", .base (.str z), kit_ty (by decide +kernel), _, rfl, iteT ?_⟩
      refine ⟨_, rfl, _, rfl, t, C, dx, _, _, rfl, h1, T.cl, T.nk, tf_k _ _ _ _, k, _, rfl, DGet.k (k := Sum.inr z) h5, ?_⟩
      rw [valV_kvF]
      have e : ((rs.find? fun r => decide (r.nm = z)).map fun r => V.str r.ki).isSome = decide (z ∈ names rs) := by
        by_cases hz : z ∈ names rs
        · obtain ⟨r, e1, _⟩ := rowOf_some hz
          unfold rowOf at e1
          rw [e1, decide_eq_true hz]; rfl
        · rw [find_none hz, decide_eq_false hz]; rfl
      rw [e]
      exact hq
    · exact ⟨_, rfl, _, _, _, _, false, rfl, .ty "str", hty, hk, _, rfl, iteF hq⟩
theorem sc_Tree_eq : FnScope ["self", "other"] ["self", "other"] (defScope s_Tree_eq) := ⟨rfl, rfl, rfl, by decide +kernel, rfl, by decide +kernel, by decide +kernel⟩
theorem ok_Tree_eq {f : Addr} {fd : FuncData} (F : Fun K "__eq__" "Tree.__eq__" s_Tree_eq f fd) (B : TxB mg) (T : TxT K mg C) (I : C8.InsC K C) : FnOk P w K mg base CX0 2 f fd ["self", "other"] (spEqT K C) := by
  refine F.ok sc_Tree_eq (fun vs H Q E h => ?_) (fun cdv A outer s H vs Q E hr h => ?_)
  · obtain ⟨t, x, rs, rfl, _⟩ := h
    rfl
  · obtain ⟨t, x, rs, rfl, ht, h⟩ := h
    obtain ⟨dx, q, f, k, p, qs, h1, h2, h3, h4, h5, h6⟩ := ht.ex
    refine ⟨_, pss_one (ps_ret (pe_and (pe_callB call_isi (by rfl) B.isinstance (by decide +kernel) (pa_cons (pv 1) (pa_cons (pe_glob (by rfl) T.g (v := .ref C) rfl) pa_nil))) (pe_one (pe_cmpR (op_eqD (by have := hr.units; exact this)) (pe_fld (pv 0) rfl) (pe_fld (pv 1) rfl) (nomark _))))), ?_⟩
    rcases h with ⟨u, ys, rfl, hu, hq⟩ | ⟨⟨ty, hty, hk⟩, hq⟩
    · obtain ⟨dx', q', f', k', p', qs', g1, g2, g3, g4, g5, g6⟩ := hu.ex
      refine ⟨_, rfl, _, _, _, _, true, rfl, .own C, .base (.ins g1 I.cl I.ha I.hn I.htk I.hm), I.me, _, rfl, iteT ?_⟩
      refine ⟨_, rfl, t, C, dx, _, _, rfl, h1, T.cl, T.nq, tf_q _ _ _ _, _, rfl, u, C, dx', _, _, rfl, g1, T.cl, T.nq, tf_q _ _ _ _, _, _, .tup (sqT h2) (rows_dp h3), .tup (sqT g2) (rows_dp g3), shaped_tup ht.val.ok, shaped_tup hu.val.ok, ?_⟩
      have e : PyData.eqv (.tuple (rs.map rowD)) (.tuple (ys.map rowD)) = decide (rs = ys) := by
        simp only [PyData.eqv]
        exact rows_eqv rs ys
      rw [e]
      exact hq
    · exact ⟨_, rfl, _, _, _, _, false, rfl, .own C, hty, hk, _, rfl, iteF hq⟩
theorem sc_Tree_rows : FnScope ["self"] ["self"] (defScope s_Tree_rows) := ⟨rfl, rfl, rfl, by decide +kernel, rfl, by decide +kernel, by decide +kernel⟩
theorem ok_Tree_rows {f : Addr} {fd : FuncData} (F : Fun K "rows" "Tree.rows" s_Tree_rows f fd) (B : TxB mg) (T : TxT K mg C) : FnOk P w K mg base CX0 2 f fd ["self"] (spRowsM C) := by
  refine F.ok sc_Tree_rows (fun vs H Q E h => ?_) (fun cdv A outer s H vs Q E hr h => ?_)
  · obtain ⟨t, rs, rfl, _⟩ := h
    rfl
  · obtain ⟨t, rs, rfl, ht, hq⟩ := h
    obtain ⟨dx, q, f, k, p, qs, h1, h2, h3, h4, h5, h6⟩ := ht.ex
    refine ⟨_, pss_one (ps_ret (pe_callTy call_list_of (by rfl) B.list (by decide +kernel) (pa_cons (pe_fld (pv 0) rfl) pa_nil))), ?_⟩
    exact ⟨_, rfl, t, C, dx, _, _, rfl, h1, T.cl, T.nq, tf_q _ _ _ _, q, _, rfl, .inr (sqT h2), fun l hl => hq l qs hl h3⟩
theorem sc_check_box : FnScope ["tree", "thing"] ["tree", "thing"] (defScope s_check_box) := ⟨rfl, rfl, rfl, by decide +kernel, rfl, by decide +kernel, by decide +kernel⟩
theorem ok_check_box (D : DefAt K mg "check_box" s_check_box ["tree", "thing"]) (M : MethAt K C "__contains__" "Tree.__contains__" s_Tree_contains ["self", "x"]) (B : TxB mg) (T : TxT K mg C) : FnOk P w K mg base CX0 3 D.f D.fd ["tree", "thing"] (spBox C) := by
  have G : FnOk P w K mg base CX0 2 M.f M.fd ["self", "x"] (spContains K C) := ok_Tree_contains M.F B T
  refine D.F.ok sc_check_box (fun vs H Q E h => ?_) (fun cdv A outer s H vs Q E hr h => ?_)
  · obtain ⟨t, z, rs, rfl, _⟩ := h
    rfl
  · obtain ⟨t, z, rs, rfl, ht, hz, hq⟩ := h
    obtain ⟨dx, q, f, k, p, qs, h1, h2⟩ := ht.ex
    refine ⟨_, pss_one (ps_if (pt_cmpR (op_notinC G M.m hr M.b pass0) (pv 1) (pv 0) (by rfl)) (pss_one ps_never) pss_nil), ?_⟩
    refine ⟨_, rfl, _, rfl, t, dx, _, rfl, h1, t, _, rs, rfl, ht, .inl ⟨z, rfl, _, rfl, _, rfl, ?_⟩⟩
    rw [decide_eq_true hz]
    exact iteF hq
theorem sc_is_place : FnScope ["tree", "thing"] ["tree", "thing"] (defScope s_is_place) := ⟨rfl, rfl, rfl, by decide +kernel, rfl, by decide +kernel, by decide +kernel⟩
theorem ok_is_place (D : DefAt K mg "is_place" s_is_place ["tree", "thing"]) (M : MethAt K C "__contains__" "Tree.__contains__" s_Tree_contains ["self", "x"]) (B : TxB mg) (TC : TxC K mg) (T : TxT K mg C) : FnOk P w K mg base CX0 3 D.f D.fd ["tree", "thing"] (spIsPlace C) := by
  have G : FnOk P w K mg base CX0 2 M.f M.fd ["self", "x"] (spContains K C) := ok_Tree_contains M.F B T
  obtain ⟨t1, gT⟩ := TC.top
  refine D.F.ok sc_is_place (fun vs H Q E h => ?_) (fun cdv A outer s H vs Q E hr h => ?_)
  · obtain ⟨t, z, rs, rfl, _⟩ := h
    rfl
  · obtain ⟨t, z, rs, rfl, ht, hq⟩ := h
    obtain ⟨dx, q, f, k, p, qs, h1, h2⟩ := ht.ex
    refine ⟨_, pss_one (ps_ret (pe_or (pe_cmpR op_eq (pv 1) (pe_glob (by rfl) gT (v := .str ("top" : Str)) ⟨_, rfl⟩) (nomark _)) (pe_one (pe_cmpR (op_inC G M.m hr M.b pass0) (pv 1) (pv 0) (by rfl))))), ?_⟩
    refine ⟨_, rfl, rfl, _, rfl, ?_⟩
    have e0 : decide (V.str z = V.str ("top" : Str)) = decide (z = ("top" : Str)) := decide_eq_decide.mpr ⟨fun h => V.str.inj h, fun h => congrArg _ h⟩
    rw [e0]
    refine ite2 (fun hc => ?_) (fun hc => ?_)
    · have hc' : z = ("top" : Str) := of_decide_eq_true hc
      rw [decide_eq_true (Or.inl hc')] at hq
      exact hq
    · have hc' : ¬ z = ("top" : Str) := fun e => hc (decide_eq_true e)
      refine ⟨_, rfl, _, rfl, t, dx, _, rfl, h1, t, _, rs, rfl, ht, .inl ⟨z, rfl, _, rfl, ?_⟩⟩
      have e1 : decide (z = ("top" : Str) ∨ z ∈ names rs) = decide (z ∈ names rs) := decide_eq_decide.mpr ⟨fun h => h.resolve_left hc', Or.inr⟩
      rw [e1] at hq
      exact hq
theorem sc_check_place : FnScope ["tree", "thing"] ["tree", "thing"] (defScope s_check_place) := ⟨rfl, rfl, rfl, by decide +kernel, rfl, by decide +kernel, by decide +kernel⟩
theorem ok_check_place (D : DefAt K mg "check_place" s_check_place ["tree", "thing"]) (Db : DefAt K mg "is_place" s_is_place ["tree", "thing"]) (Gb : FnOk P w K mg base CX0 3 Db.f Db.fd ["tree", "thing"] (spIsPlace C)) : FnOk P w K mg base CX0 4 D.f D.fd ["tree", "thing"] (spPlace C) := by
  refine D.F.ok sc_check_place (fun vs H Q E h => ?_) (fun cdv A outer s H vs Q E hr h => ?_)
  · obtain ⟨t, z, rs, rfl, _⟩ := h
    rfl
  · obtain ⟨t, z, rs, rfl, ht, hz, hq⟩ := h
    refine ⟨_, pss_one (ps_if (pt_not (pt_val (pe_call Gb hr rfl Db.g Db.F.kp Db.b .nil pass0 (pa_cons (pv 0) (pa_cons (pv 1) pa_nil))))) (pss_one ps_never) pss_nil), ?_⟩
    refine ⟨_, rfl, _, rfl, t, z, rs, rfl, ht, _, rfl, ?_⟩
    rw [decide_eq_true hz]
    exact iteF hq
theorem sc_Tree_folder : FnScope ["self", "box"] ["self", "box"] (defScope s_Tree_folder) := ⟨rfl, rfl, rfl, by decide +kernel, rfl, by decide +kernel, by decide +kernel⟩
theorem ok_Tree_folder {f : Addr} {fd : FuncData} (F : Fun K "folder" "Tree.folder" s_Tree_folder f fd) (Db : DefAt K mg "check_box" s_check_box ["tree", "thing"]) (Gb : FnOk P w K mg base CX0 3 Db.f Db.fd ["tree", "thing"] (spBox C)) (T : TxT K mg C) : FnOk P w K mg base CX0 4 f fd ["self", "box"] (spGet C (fun r => V.str r.fo)) := by
  refine F.ok sc_Tree_folder (fun vs H Q E h => ?_) (fun cdv A outer s H vs Q E hr h => ?_)
  · obtain ⟨t, z, rs, r, rfl, _⟩ := h
    rfl
  · obtain ⟨t, z, rs, r, rfl, ht, hz, hq⟩ := h
    have hu := hu_of hr
    obtain ⟨dx, q, f, k, p, qs, h1, h2, h3, h4, h5, h6⟩ := ht.ex
    refine ⟨_, pss_cons (ps_expr (pe_call Gb hr rfl Db.g Db.F.kp Db.b .nil pass0 (pa_cons (pv 0) (pa_cons (pv 1) pa_nil)))) (pss_one (ps_ret (pe_dget hu (pe_fld (pv 0) rfl) (pv 1) (fun _ _ => rfl)))), ?_⟩
    have hin : z ∈ names rs := List.mem_map.mpr ⟨r, List.mem_of_find?_eq_some hz, of_decide_eq_true (List.find?_some (p := fun (r : Row) => decide (r.nm = z)) (show rs.find? (fun (r : Row) => decide (r.nm = z)) = some r from hz))⟩
    refine ⟨_, rfl, _, rfl, t, z, rs, rfl, ht, hin, _, rfl, t, C, dx, _, _, rfl, h1, T.cl, T.nf, tf_f _ _ _ _, _, rfl, f, _, rfl, ?_, hq⟩
    have e := DGet.k (k := Sum.inr z) h4
    rw [valV_kvF, show (rs.find? fun r => decide (r.nm = z)) = some r from hz] at e
    exact e
theorem sc_Tree_kind : FnScope ["self", "box"] ["self", "box"] (defScope s_Tree_kind) := ⟨rfl, rfl, rfl, by decide +kernel, rfl, by decide +kernel, by decide +kernel⟩
theorem ok_Tree_kind {f : Addr} {fd : FuncData} (F : Fun K "kind" "Tree.kind" s_Tree_kind f fd) (Db : DefAt K mg "check_box" s_check_box ["tree", "thing"]) (Gb : FnOk P w K mg base CX0 3 Db.f Db.fd ["tree", "thing"] (spBox C)) (T : TxT K mg C) : FnOk P w K mg base CX0 4 f fd ["self", "box"] (spGet C (fun r => V.str r.ki)) := by
  refine F.ok sc_Tree_kind (fun vs H Q E h => ?_) (fun cdv A outer s H vs Q E hr h => ?_)
  · obtain ⟨t, z, rs, r, rfl, _⟩ := h
    rfl
  · obtain ⟨t, z, rs, r, rfl, ht, hz, hq⟩ := h
    have hu := hu_of hr
    obtain ⟨dx, q, f, k, p, qs, h1, h2, h3, h4, h5, h6⟩ := ht.ex
    refine ⟨_, pss_cons (ps_expr (pe_call Gb hr rfl Db.g Db.F.kp Db.b .nil pass0 (pa_cons (pv 0) (pa_cons (pv 1) pa_nil)))) (pss_one (ps_ret (pe_dget hu (pe_fld (pv 0) rfl) (pv 1) (fun _ _ => rfl)))), ?_⟩
    have hin : z ∈ names rs := List.mem_map.mpr ⟨r, List.mem_of_find?_eq_some hz, of_decide_eq_true (List.find?_some (p := fun (r : Row) => decide (r.nm = z)) (show rs.find? (fun (r : Row) => decide (r.nm = z)) = some r from hz))⟩
    refine ⟨_, rfl, _, rfl, t, z, rs, rfl, ht, hin, _, rfl, t, C, dx, _, _, rfl, h1, T.cl, T.nk, tf_k _ _ _ _, _, rfl, k, _, rfl, ?_, hq⟩
    have e := DGet.k (k := Sum.inr z) h5
    rw [valV_kvF, show (rs.find? fun r => decide (r.nm = z)) = some r from hz] at e
    exact e
theorem sc_Tree_price : FnScope ["self", "box"] ["self", "box"] (defScope s_Tree_price) := ⟨rfl, rfl, rfl, by decide +kernel, rfl, by decide +kernel, by decide +kernel⟩
theorem ok_Tree_price {f : Addr} {fd : FuncData} (F : Fun K "price" "Tree.price" s_Tree_price f fd) (Db : DefAt K mg "check_box" s_check_box ["tree", "thing"]) (Gb : FnOk P w K mg base CX0 3 Db.f Db.fd ["tree", "thing"] (spBox C)) (T : TxT K mg C) : FnOk P w K mg base CX0 4 f fd ["self", "box"] (spGet C (fun r => prV r.pr)) := by
  refine F.ok sc_Tree_price (fun vs H Q E h => ?_) (fun cdv A outer s H vs Q E hr h => ?_)
  · obtain ⟨t, z, rs, r, rfl, _⟩ := h
    rfl
  · obtain ⟨t, z, rs, r, rfl, ht, hz, hq⟩ := h
    have hu := hu_of hr
    obtain ⟨dx, q, f, k, p, qs, h1, h2, h3, h4, h5, h6⟩ := ht.ex
    refine ⟨_, pss_cons (ps_expr (pe_call Gb hr rfl Db.g Db.F.kp Db.b .nil pass0 (pa_cons (pv 0) (pa_cons (pv 1) pa_nil)))) (pss_one (ps_ret (pe_dget hu (pe_fld (pv 0) rfl) (pv 1) (fun _ _ => rfl)))), ?_⟩
    have hin : z ∈ names rs := List.mem_map.mpr ⟨r, List.mem_of_find?_eq_some hz, of_decide_eq_true (List.find?_some (p := fun (r : Row) => decide (r.nm = z)) (show rs.find? (fun (r : Row) => decide (r.nm = z)) = some r from hz))⟩
    refine ⟨_, rfl, _, rfl, t, z, rs, rfl, ht, hin, _, rfl, t, C, dx, _, _, rfl, h1, T.cl, T.np, tf_p _ _ _ _, _, rfl, p, _, rfl, ?_, hq⟩
    have e := DGet.k (k := Sum.inr z) h6
    rw [valV_kvF, show (rs.find? fun r => decide (r.nm = z)) = some r from hz] at e
    exact e
end
end Ts

set_option maxRecDepth 100000
set_option maxHeartbeats 4000000
namespace Ts
open PySem L2
/-! ### ways -/
def wayR : List Row → Str → List Str
  | [], _ => []
  | r :: rest, z => if r.nm = z then wayR rest r.fo ++ [z] else wayR rest z
def wayOf (rs : List Row) (z : Str) : List Str := wayR rs.reverse z
structure FitR (rest : List Row) (r : Row) : Prop where
  top : r.nm ≠ ("top" : Str)
  new : r.nm ∉ rest.map (·.nm)
  home : r.fo = ("top" : Str) ∨ r.fo ∈ rest.map (·.nm)
def ValidR : List Row → Prop
  | [] => True
  | r :: rest => FitR rest r ∧ ValidR rest
theorem Valid.init {rs : List Row} {r : Row} (h : Valid (rs ++ [r])) : Valid rs := fun i q hq => by
  have hi : i < rs.length := (List.getElem?_eq_some_iff.mp hq).1
  have f := h i q (by rw [List.getElem?_append_left hi]; exact hq)
  rw [List.take_append_of_le_length (Nat.le_of_lt hi)] at f
  exact f
theorem Valid.last {rs : List Row} {r : Row} (h : Valid (rs ++ [r])) : Fits rs r := by
  have f := h rs.length r (by simp)
  rw [List.take_append_of_le_length (Nat.le_refl _), List.take_length] at f
  exact f
theorem validR : ∀ l : List Row, Valid l.reverse → ValidR l
  | [], _ => trivial
  | r :: l, h => by
    rw [List.reverse_cons] at h
    have f := h.last
    refine ⟨⟨f.top, by simpa using f.new, ?_⟩, validR l h.init⟩
    rcases f.home with e | ⟨q, hq, e, _⟩
    · exact .inl e
    · exact .inr (List.mem_map.mpr ⟨q, List.mem_reverse.mp hq, e⟩)
theorem wayR_mem : ∀ {l : List Row} {z x : Str}, x ∈ wayR l z → x ∈ l.map (·.nm)
  | [], _, _, h => by cases h
  | r :: l, z, x, h => by
    unfold wayR at h
    by_cases e : r.nm = z
    · rw [if_pos e] at h
      rcases List.mem_append.mp h with h | h
      · exact List.mem_cons_of_mem _ (wayR_mem h)
      · rw [List.mem_singleton.mp h, ← e]; exact List.mem_cons_self ..
    · rw [if_neg e] at h
      exact List.mem_cons_of_mem _ (wayR_mem h)
theorem wayR_out : ∀ {l : List Row} {z : Str}, z ∉ l.map (·.nm) → wayR l z = []
  | [], _, _ => rfl
  | r :: l, z, h => by
    unfold wayR
    rw [if_neg fun e => h (List.mem_map.mpr ⟨r, List.mem_cons_self .., e⟩)]
    exact wayR_out fun q => h (List.mem_cons_of_mem _ q)
theorem ValidR.home : ∀ {l : List Row} {r : Row}, ValidR l → r ∈ l → r.fo = ("top" : Str) ∨ r.fo ∈ l.map (·.nm)
  | q :: l, r, h, hr => by
    rcases List.mem_cons.mp hr with e | hr
    · subst e; exact h.1.home.imp id (List.mem_cons_of_mem _)
    · exact (h.2.home hr).imp id (List.mem_cons_of_mem _)
theorem ValidR.top : ∀ {l : List Row}, ValidR l → ("top" : Str) ∉ l.map (·.nm)
  | [], _, h => by cases h
  | r :: l, h, hm => by
    rcases List.mem_cons.mp hm with e | hm
    · exact h.1.top e.symm
    · exact h.2.top hm
theorem wayR_step : ∀ {l : List Row} {r : Row}, ValidR l → r ∈ l → wayR l r.nm = wayR l r.fo ++ [r.nm]
  | q :: l, r, h, hr => by
    rcases List.mem_cons.mp hr with e | hr'
    · subst e
      have ne : ¬ r.nm = r.fo := fun e => by
        rcases h.1.home with e2 | e2
        · exact h.1.top (e.trans e2)
        · exact h.1.new (e ▸ e2)
      show (if r.nm = r.nm then wayR l r.fo ++ [r.nm] else wayR l r.nm) = (if r.nm = r.fo then wayR l r.fo ++ [r.fo] else wayR l r.fo) ++ [r.nm]
      rw [if_pos rfl, if_neg ne]
    · have n1 : ¬ q.nm = r.nm := fun e => h.1.new (List.mem_map.mpr ⟨r, hr', e.symm⟩)
      have n2 : ¬ q.nm = r.fo := fun e => by
        rcases h.2.home hr' with e2 | e2
        · exact h.1.top (e.trans e2)
        · exact h.1.new (e ▸ e2)
      show (if q.nm = r.nm then wayR l q.fo ++ [r.nm] else wayR l r.nm) = (if q.nm = r.fo then wayR l q.fo ++ [r.fo] else wayR l r.fo) ++ [r.nm]
      rw [if_neg n1, if_neg n2]
      exact wayR_step h.2 hr'
theorem Valid.r {rs : List Row} (h : Valid rs) : ValidR rs.reverse := validR rs.reverse (by rw [List.reverse_reverse]; exact h)
theorem way_step {rs : List Row} (h : Valid rs) {r : Row} (hr : r ∈ rs) : wayOf rs r.nm = wayOf rs r.fo ++ [r.nm] := wayR_step h.r (List.mem_reverse.mpr hr)
theorem way_out {rs : List Row} {z : Str} (h : z ∉ names rs) : wayOf rs z = [] := wayR_out (by rw [List.map_reverse]; exact fun q => h (List.mem_reverse.mp q))
theorem top_not {rs : List Row} (h : Valid rs) : ("top" : Str) ∉ names rs := fun q => h.r.top (by rw [List.map_reverse]; exact List.mem_reverse.mpr q)
theorem way_top {rs : List Row} (h : Valid rs) : wayOf rs ("top" : Str) = [] := way_out (top_not h)
theorem way_mem {rs : List Row} {z x : Str} (h : x ∈ wayOf rs z) : x ∈ names rs := by
  have q := wayR_mem h
  rw [List.map_reverse] at q
  exact List.mem_reverse.mp q
theorem way_self {rs : List Row} (h : Valid rs) {z : Str} (hz : z ∈ names rs) : z ∈ wayOf rs z := by
  obtain ⟨r, hr, rfl⟩ := List.mem_map.mp hz
  rw [way_step h hr]
  simp
theorem Valid.fo {rs : List Row} (h : Valid rs) {i : Nat} {r : Row} (hr : rs[i]? = some r) : r.fo = ("top" : Str) ∨ r.fo ∈ names (rs.take i) := by
  rcases (h i r hr).home with e | ⟨q, hq, e, _⟩
  · exact .inl e
  · exact .inr (List.mem_map.mpr ⟨q, hq, e⟩)
theorem names_take {rs : List Row} {i : Nat} {z : Str} (h : z ∈ names (rs.take i)) : z ∈ names rs := by
  obtain ⟨r, hr, rfl⟩ := List.mem_map.mp h
  exact List.mem_map.mpr ⟨r, List.mem_of_mem_take hr, rfl⟩
theorem names_at {rs : List Row} {i : Nat} {z : Str} (h : z ∈ names (rs.take i)) : ∃ j r, j < i ∧ rs[j]? = some r ∧ r.nm = z := by
  obtain ⟨r, hr, rfl⟩ := List.mem_map.mp h
  obtain ⟨j, hj, e⟩ := List.mem_iff_getElem.mp hr
  rw [List.length_take] at hj
  refine ⟨j, r, by omega, ?_, rfl⟩
  rw [← e, List.getElem_take]
  exact List.getElem?_eq_getElem _
theorem way_pre {rs : List Row} (h : Valid rs) : ∀ (i : Nat) {z x : Str}, z ∈ names (rs.take i) → x ∈ wayOf rs z → x ∈ names (rs.take i) := by
  intro i
  induction i using Nat.strongRecOn with
  | _ i ih =>
    intro z x hz hx
    obtain ⟨j, r, hj, hr, rfl⟩ := names_at hz
    rw [way_step h (List.mem_of_getElem? hr)] at hx
    rcases List.mem_append.mp hx with hx | hx
    · rcases h.fo hr with e | e
      · rw [e, way_top h] at hx; cases hx
      · have q := ih j hj e hx
        obtain ⟨j2, r2, hj2, hr2, rfl⟩ := names_at q
        exact List.mem_map.mpr ⟨r2, List.mem_take_iff_getElem.mpr ⟨j2, by have := (List.getElem?_eq_some_iff.mp hr2).1; omega, (List.getElem?_eq_some_iff.mp hr2).2⟩, rfl⟩
    · rw [List.mem_singleton.mp hx]; exact hz
/-- what lies within z -/
def isIn (rs : List Row) (z : Str) (r : Row) : Bool := decide (r.nm ≠ z) && (decide (z = ("top" : Str)) || decide (z ∈ wayOf rs r.nm))
def belowL (rs : List Row) (z : Str) : List Str := (rs.filter (isIn rs z)).map (·.nm)
def insideL (rs : List Row) (z : Str) : List Str := (rs.filter fun r => decide (r.fo = z)).map (·.nm)
theorem below_in {rs : List Row} (h : Valid rs) {z : Str} (hz : z = ("top" : Str) ∨ z ∈ names rs) {i : Nat} {r : Row} (hr : rs[i]? = some r) :
    decide (r.fo ∈ z :: ((rs.take i).filter (isIn rs z)).map (·.nm)) = isIn rs z r := by
  have hrm := List.mem_of_getElem? hr
  have hfo := h.fo hr
  have f := h i r hr
  have mem : ∀ x : Str, x ∈ ((rs.take i).filter (isIn rs z)).map (·.nm) ↔ (x ∈ names (rs.take i) ∧ x ≠ z ∧ (z = ("top" : Str) ∨ z ∈ wayOf rs x)) := by
    intro x
    constructor
    · intro hx
      obtain ⟨q, hq, rfl⟩ := List.mem_map.mp hx
      obtain ⟨h1, h2⟩ := List.mem_filter.mp hq
      unfold isIn at h2
      simp at h2
      exact ⟨List.mem_map.mpr ⟨q, h1, rfl⟩, h2.1, h2.2⟩
    · rintro ⟨hx, h1, h2⟩
      obtain ⟨q, hq, rfl⟩ := List.mem_map.mp hx
      refine List.mem_map.mpr ⟨q, List.mem_filter.mpr ⟨hq, ?_⟩, rfl⟩
      unfold isIn
      simp
      exact ⟨h1, h2⟩
  by_cases e : r.nm = z
  · have e1 : isIn rs z r = false := by unfold isIn; simp [e]
    rw [e1]
    refine decide_eq_false fun hm => ?_
    rcases List.mem_cons.mp hm with q | q
    · rcases hfo with e2 | e2
      · exact f.top (e.trans (q.symm.trans e2))
      · rw [q, ← e] at e2; exact f.new e2
    · obtain ⟨q1, q2, q3⟩ := (mem _).mp q
      rcases q3 with q3 | q3
      · exact f.top (e.trans q3)
      · have := way_pre h i q1 q3
        rw [← e] at this
        exact f.new this
  · have e1 : isIn rs z r = (decide (z = ("top" : Str)) || decide (z ∈ wayOf rs r.nm)) := by unfold isIn; simp [e]
    rw [e1]
    have w : z ∈ wayOf rs r.nm ↔ z ∈ wayOf rs r.fo := by
      rw [way_step h hrm, List.mem_append, List.mem_singleton]
      exact ⟨fun q => q.resolve_right fun q => e q.symm, .inl⟩
    by_cases ht : z = ("top" : Str)
    · rw [decide_eq_true ht, Bool.true_or]
      refine decide_eq_true ?_
      rcases hfo with e2 | e2
      · rw [e2, ht]; exact List.mem_cons_self ..
      · refine List.mem_cons_of_mem _ ((mem _).mpr ⟨e2, fun q => ?_, .inl ht⟩)
        rw [q, ht] at e2
        exact top_not h (names_take e2)
    · rw [decide_eq_false ht, Bool.false_or]
      refine decide_eq_decide.mpr ?_
      rw [w]
      constructor
      · intro hm
        rcases List.mem_cons.mp hm with q | q
        · rw [q]; exact way_self h (hz.resolve_left ht)
        · exact ((mem _).mp q).2.2.resolve_left ht
      · intro hm
        by_cases q : r.fo = z
        · rw [q]; exact List.mem_cons_self ..
        · rcases hfo with e2 | e2
          · rw [e2, way_top h] at hm; cases hm
          · exact List.mem_cons_of_mem _ ((mem _).mpr ⟨e2, q, .inr hm⟩)
end Ts

set_option maxRecDepth 100000
set_option maxHeartbeats 4000000
namespace Ts
open PySem L2
def kvB (l : List Str) : List (Key × V) := l.map fun x => (.inr x, .bl true)
theorem valV_kvB (z : Str) : ∀ l : List Str, (valV (kvB l) (.inr z : Key)).isSome = decide (z ∈ l)
  | [] => by simp [kvB, valV]
  | x :: l => by
    have ih := valV_kvB z l
    show (valV ((.inr x, V.bl true) :: kvB l) (.inr z : Key)).isSome = _
    by_cases e : x = z
    · rw [valV_pos (by rw [e])]
      subst e
      simp
    · rw [valV_neg (fun q => e (Sum.inr.inj q)), ih]
      have e' : ¬ z = x := fun q => e q.symm
      simp [e']
theorem kvB_put {l : List Str} {x : Str} (h : x ∉ l) : putK (kvB l) (.inr x) (.bl true) = kvB (l ++ [x]) := by
  rw [putK_new]
  · unfold kvB; rw [List.map_append]; rfl
  · have q := valV_kvB x l
    rw [decide_eq_false h] at q
    simpa using q
def spListOf (C : Addr) (g : List Row → Str → List Str) : Sp := fun vs H Q _ => ∃ (t : Addr) (z : Str) (rs : List Row), vs = [.ref t, .str z] ∧ TreeAt C H t rs ∧ (z = ("top" : Str) ∨ z ∈ names rs) ∧
  ∀ D H', H D = none → Same H H' → H' D = some (.lst ((g rs z).map V.str)) → Q (.ref D) H'
theorem filter_take {rs : List Row} {i : Nat} {r : Row} (h : rs[i]? = some r) (p : Row → Bool) : ((rs.take (i + 1)).filter p).map (·.nm) = ((rs.take i).filter p).map (·.nm) ++ (if p r = true then [r.nm] else []) := by
  rw [take_more h, List.filter_append, List.map_append]
  by_cases e : p r = true
  · rw [if_pos e, List.filter_cons_of_pos e]; rfl
  · rw [if_neg e, List.filter_cons_of_neg e]; rfl
theorem kvF_at {g : Row → V} {rs : List Row} {i : Nat} {k : Key} {v : V} (h : (kvF g rs)[i]? = some (k, v)) : ∃ r, rs[i]? = some r ∧ k = .inr r.nm ∧ v = g r := by
  unfold kvF at h
  rw [List.getElem?_map] at h
  obtain ⟨r, e, q⟩ := Option.map_eq_some_iff.mp h
  injection q with q1 q2
  exact ⟨r, e, q1.symm, q2.symm⟩
theorem rowOf_at {rs : List Row} (h : Valid rs) {i : Nat} {r : Row} (hr : rs[i]? = some r) : rowOf rs r.nm = some r := by
  unfold rowOf
  rw [List.find?_eq_some_iff_getElem]
  have hi := (List.getElem?_eq_some_iff.mp hr).1
  refine ⟨decide_eq_true rfl, i, hi, (List.getElem?_eq_some_iff.mp hr).2, fun j hj => ?_⟩
  simp only [Bool.not_eq_true', decide_eq_false_iff_not]
  intro e
  exact (h i r hr).new (List.mem_map.mpr ⟨rs[j], List.mem_take_iff_getElem.mpr ⟨j, by omega, rfl⟩, e⟩)
section
variable {P : Program} {w : World} {K : PySem.W.Frag} {mg : Str → Option Value} {base : Heap} {C : Addr}
abbrev nBelow : List Str := ["self", "box", "within", "name"]
theorem sc_Tree_below : FnScope nBelow ["self", "box"] (defScope s_Tree_below) := ⟨rfl, rfl, rfl, by decide +kernel, rfl, by decide +kernel, by decide +kernel⟩
theorem cutV_tail (x : V) (xs : List V) : cutV (x :: xs) (some 1) none = xs := by
  unfold cutV
  rw [HT.sIx_none, show HT.sIx (x :: xs).length 0 (some 1) = 1 from by rw [show (some 1 : Option Int) = some ((1 : Nat) : Int) from rfl, HT.sIx_nat, List.length_cons]; omega]
  show (xs.take ((x :: xs).length - 1)) = xs
  rw [List.length_cons, Nat.add_sub_cancel, List.take_length]
theorem ok_Tree_below {f : Addr} {fd : FuncData} (F : Fun K "below" "Tree.below" s_Tree_below f fd) (Dp : DefAt K mg "check_place" s_check_place ["tree", "thing"]) (Gp : FnOk P w K mg base CX0 4 Dp.f Dp.fd ["tree", "thing"] (spPlace C)) (B : TxB mg) (T : TxT K mg C) : FnOk P w K mg base CX0 5 f fd ["self", "box"] (spListOf C belowL) := by
  refine F.ok sc_Tree_below (fun vs H Q E h => ?_) (fun cdv A outer s H vs Q E hr h => ?_)
  · obtain ⟨t, z, rs, rfl, _⟩ := h
    rfl
  · obtain ⟨t, z, rs, rfl, ht, hz, hq⟩ := h
    have hu := hu_of hr
    obtain ⟨dx, q, f, k, p, qs, h1, h2, h3, h4, h5, h6⟩ := ht.ex
    refine ⟨_, pss_cons (ps_expr (pe_call Gp hr rfl Dp.g Dp.F.kp Dp.b .nil pass0 (pa_cons (pv 0) (pa_cons (pv 1) pa_nil))))
      (pss_cons (ps_set (i := 2) sc_Tree_below.nd rfl (.inl rfl) (pe_disp (pps_cons (pv 1) pe_bl pps_nil) (by rfl) (by rfl) (fun z => by cases z) (by decide)))
      (pss_cons (ps_lock (ps_for PassesOwn.never rfl (pi_keys (pe_fld (pv 0) rfl)) (pg_name (i := 3) sc_Tree_below.nd rfl (.inl rfl))
        (pss_one (ps_if (pt_cmp (pc_din hu (pe_dget hu (pe_fld (pv 0) rfl) (pv 3) (fun _ _ => rfl)) (pv 2))) (pss_one (ps_dput hu (pv 2) (pv 3) pe_bl rfl)) pss_nil))))
      (pss_one (ps_ret (pe_slice sl_list (pe_callTy (call_list_dK rfl) (by rfl) B.list (by decide +kernel) (pa_cons (pv 2) pa_nil)) (po_some pe_int) po_none))))), ?_⟩
    refine ⟨_, rfl, _, rfl, t, z, rs, rfl, ht, hz, ?_⟩
    refine fun wd hwd => ⟨_, rfl, upd_same, [(.inr z, .bl true)], rfl, (by show 1 ≤ 15; decide), ?_⟩
    have tw : t ≠ wd := ne_of_none h1 hwd
    have fw : f ≠ wd := ne_of_none h4 hwd
    have tf_ : t ≠ f := ne_of h1 h4 (by intro x; cases x)
    have fw' : f ≠ wd := fw
    refine ⟨f, _, Eq.trans (upd_ne fw) (Eq.trans (upd_ne fw) h4), trivial, fun od => ?_⟩
    obtain ⟨Hl, El⟩ : ∃ Hx, Hx = upd (upd (upd H wd (.dK [])) wd (.dK (mergeK [] [(.inr z, .bl true)]))) f (.frz od (.dK (kvF (fun r => .str r.fo) rs))) := ⟨_, rfl⟩
    have l1 : Hl t = some (.ins C dx (tf q f k p)) := by rw [El, upd_ne tf_, upd_ne tw, upd_ne tw]; exact h1
    have l2 : Hl f = some (.frz od (.dK (kvF (fun r => .str r.fo) rs))) := by rw [El]; exact upd_same
    have l3 : Hl wd = some (.dK (kvB [z])) := by rw [El, upd_ne fw.symm]; exact upd_same
    have l4 : ∀ b o, b ≠ f → H b = some o → Hl b = some o := fun b o nb e => by rw [El, upd_ne nb, upd_ne (ne_of_none e hwd), upd_ne (ne_of_none e hwd)]; exact e
    have l5 : Same Hl Hl := Same.refl _
    rw [← El]
    clear El
    refine ⟨_, rfl, t, C, dx, _, _, rfl, l1, T.cl, T.nf, tf_f _ _ _ _, f, od, rfl, .inl ⟨_, l2, ?_⟩⟩
    refine for_it (walk_keys (d := f) (o := od) (kvs := kvF (fun r => .str r.fo) rs)) (fun i σ H' => ∃ v : Option V, σ = [some (.ref t), some (.str z), some (.ref wd), v] ∧ SB wd Hl H' ∧ H' wd = some (.dK (kvB (z :: ((rs.take i).filter (isIn rs z)).map (·.nm)))))
      ⟨none, rfl, SB.refl _ _, l3⟩ (fun i σ H' _ ⟨_, _, sb, _⟩ => sb _ _ fw l2) ?_ ?_
    · rintro i x σ H2 H2' hi ⟨v, rfl, sb, hw⟩ ⟨rfl, k', v', hk, rfl⟩
      obtain ⟨r, hr', rfl, rfl⟩ := kvF_at hk
      have e1 : H2' t = some (.ins C dx (tf q f k p)) := sb _ _ tw l1
      have e2 : H2' f = some (.frz od (.dK (kvF (fun r => .str r.fo) rs))) := sb _ _ fw l2
      have dg : DGet H2' f (.str r.nm) (some (.str r.fo)) := by
        have e := rowOf_at ht.val hr'
        refine .inl ⟨_, .inr r.nm, .inr ⟨od, e2⟩, rfl, ?_⟩
        rw [valV_kvF, show (rs.find? fun r' => decide (r'.nm = r.nm)) = some r from e]
        rfl
      refine ⟨_, rfl, t, C, dx, _, _, rfl, e1, T.cl, T.nf, tf_f _ _ _ _, _, rfl, f, _, rfl, dg, _, rfl, wd, _, rfl, DGet.k (k := Sum.inr r.fo) hw, _, rfl, ?_⟩
      rw [valV_kvB, below_in ht.val hz hr']
      have i100 : i < 100 := by
        have := (List.getElem?_eq_some_iff.mp hr').1
        have := ht.len
        omega
      refine ite2 (fun hc => ?_) (fun hc => ?_)
      · have nw : r.nm ∉ z :: ((rs.take i).filter (isIn rs z)).map (·.nm) := fun hm => by
          rcases List.mem_cons.mp hm with y | y
          · unfold isIn at hc
            simp [y] at hc
          · obtain ⟨q1, hq1, e⟩ := List.mem_map.mp y
            exact (ht.val i r hr').new (List.mem_map.mpr ⟨q1, (List.mem_filter.mp hq1).1, e⟩)
        refine ⟨_, rfl, _, rfl, wd, _, rfl, DPut.k (k := Sum.inr r.nm) hw (small1000 ?_), ?_⟩
        · unfold kvB
          rw [List.length_map, List.length_cons, List.length_map]
          have := List.length_filter_le (isIn rs z) (rs.take i)
          rw [List.length_take] at this
          omega
        · refine ⟨_, rfl, fun b o nb e => by rw [upd_ne nb]; exact sb b o nb e, ?_⟩
          rw [upd_same, kvB_put nw, filter_take hr', if_pos hc]
          rfl
      · refine ⟨_, rfl, sb, ?_⟩
        rw [filter_take hr', if_neg hc, List.append_nil]
        exact hw
    · rintro σ H2 ⟨v, rfl, sb, hw⟩
      have e : (kvF (fun r => V.str r.fo) rs).length = rs.length := by unfold kvF; rw [List.length_map]
      rw [e, List.take_length] at hw
      refine ⟨sb _ _ fw l2, ?_⟩
      have hw' : (upd H2 f (.dK (kvF (fun r => .str r.fo) rs))) wd = some (.dK (kvB (z :: belowL rs z))) := by rw [upd_ne fw.symm]; exact hw
      have sH : Same H (upd H2 f (.dK (kvF (fun r => .str r.fo) rs))) := fun b o eb => by
        by_cases hb : b = f
        · rw [hb, upd_same, ← h4, ← hb]; exact eb
        · rw [upd_ne hb]
          exact sb b o (ne_of_none eb hwd) (l4 b o hb eb)
      refine ⟨_, rfl, wd, _, rfl, hw', fun u hu' => ⟨_, rfl, u, _, rfl, SqL.of upd_same, fun D hD => ?_⟩⟩
      refine hq D _ ?_ ((sH.trans (Same.new hu')).trans (Same.new hD)) ?_
      · exact (sH.trans (Same.new hu')).free hD
      · have e3 : (kvB (z :: belowL rs z)).map (fun kv => kV kv.1) = V.str z :: (belowL rs z).map V.str := by
          unfold kvB
          rw [List.map_map]
          rfl
        rw [upd_same, e3, cutV_tail]
end
end Ts

set_option maxRecDepth 100000
set_option maxHeartbeats 4000000
namespace Ts
open PySem L2
/-- a list of rows, all tuples -/
structure RowsL (H : Hp) (p : Addr) (rs : List Row) : Prop where
  ex : ∃ as : List Addr, H p = some (.lst (as.map V.ref)) ∧ RowsAt H as rs
theorem RowsL.same {H H' : Hp} {p : Addr} {rs : List Row} (h : RowsL H p rs) (s : Same H H') : RowsL H' p rs := by
  obtain ⟨as, h1, h2⟩ := h.ex
  exact ⟨as, s _ _ h1, h2.same s⟩
def spWay : Sp := fun vs H Q _ => ∃ (p : Addr) (z : Str) (rs : List Row), vs = [.ref p, .str z] ∧ RowsL H p rs ∧ Valid rs ∧ rs.length ≤ 100 ∧ (z = ("top" : Str) ∨ z ∈ names rs) ∧
  ∀ D H', H D = none → Same H H' → H' D = some (.lst ((wayOf rs z).map V.str)) → Q (.ref D) H'
theorem atI0 (a b c d : V) : atI [a, b, c, d] 0 = some a := rfl
theorem atI1 (a b c d : V) : atI [a, b, c, d] 1 = some b := rfl
theorem atI2 (a b c d : V) : atI [a, b, c, d] 2 = some c := rfl
theorem atI3 (a b c d : V) : atI [a, b, c, d] 3 = some d := rfl
theorem merge_kvF (g : Row → V) {rs : List Row} (h : Valid rs) : ∀ n, n ≤ rs.length → mergeK [] (kvF g (rs.take n)) = kvF g (rs.take n) := by
  intro n
  induction n with
  | zero => intro _; rfl
  | succ n ih =>
    intro hn
    have hr : rs[n]? = some rs[n] := List.getElem?_eq_getElem (by omega)
    have e : kvF g (rs.take (n + 1)) = kvF g (rs.take n) ++ [(.inr rs[n].nm, g rs[n])] := by
      rw [take_more hr]; unfold kvF; rw [List.map_append]; rfl
    rw [e]
    unfold mergeK
    rw [List.foldl_append]
    have ih' := ih (by omega)
    unfold mergeK at ih'
    rw [ih']
    show putK (kvF g (rs.take n)) (.inr rs[n].nm) (g rs[n]) = _
    rw [kvF_more hr (h n _ hr).new, e]
theorem merge_all (g : Row → V) {rs : List Row} (h : Valid rs) : mergeK [] (kvF g rs) = kvF g rs := by
  have := merge_kvF g h rs.length (Nat.le_refl _)
  rw [List.take_length] at this
  exact this
def muWay (rs : List Row) : List (Option V) → Hp → Nat
  | _ :: some (.str z) :: _, _ => (wayOf rs z).length
  | _, _ => 0
theorem way_len {rs : List Row} {z : Str} : (wayOf rs z).length ≤ rs.length := by
  have : ∀ (l : List Row) (z : Str), (wayR l z).length ≤ l.length := by
    intro l
    induction l with
    | nil => intro z; exact Nat.le_refl _
    | cons r l ih =>
      intro z
      unfold wayR
      split
      · rw [List.length_append, List.length_singleton, List.length_cons]; have := ih r.fo; omega
      · rw [List.length_cons]; have := ih z; omega
  have q := this rs.reverse z
  rw [List.length_reverse] at q
  exact q
theorem Valid.foAll {rs : List Row} (h : Valid rs) {r : Row} (hr : r ∈ rs) : r.fo = ("top" : Str) ∨ r.fo ∈ names rs := by
  obtain ⟨i, hi, e⟩ := List.mem_iff_getElem.mp hr
  have := h.fo (i := i) (r := r) (by rw [← e]; exact List.getElem?_eq_getElem hi)
  exact this.imp id names_take
section
variable {P : Program} {w : World} {K : PySem.W.Frag} {mg : Str → Option Value} {base : Heap} {C : Addr}
abbrev nWay : List Str := ["_law_rows_here", "_law_box", "_law_folders", "_law_found", "_law_row"]
theorem sc_way : FnScope nWay ["_law_rows_here", "_law_box"] (defScope s_L_way) := ⟨rfl, rfl, rfl, by decide +kernel, rfl, by decide +kernel, by decide +kernel⟩
theorem ok_way (D : DefAt K mg "_law_way" s_L_way ["_law_rows_here", "_law_box"]) (B : TxB mg) : FnOk P w K mg base CX0 2 D.f D.fd ["_law_rows_here", "_law_box"] spWay := by
  refine D.F.ok sc_way (fun vs H Q E h => ?_) (fun cdv A outer s H vs Q E hr h => ?_)
  · obtain ⟨p, z, rs, rfl, _⟩ := h
    rfl
  · obtain ⟨p, z, rs, rfl, ⟨as, hp, hrows⟩, hv, hl, hz, hq⟩ := h
    have hu := hu_of hr
    refine ⟨_, pss_cons (ps_par (i := 2) (j := 3) rfl sc_way.nd rfl rfl (by decide) rfl rfl (pa_cons (pe_callTy (call_dictP rfl) (by rfl) B.dict (by decide +kernel) (pa_cons (pe_lc (own := [("_law_row", 4)]) (g := gName 4) (tt := tYes) (te := tTup (tCons (tOp (rIxT K) (tVar 4) (tC (.int 0))) (tCons (tOp (rIxT K) (tVar 4) (tC (.int 1))) tNil))) rfl sc_way.nd (pi_list (pv 0)) (blkOk_by (N := nWay) (sc := defScope s_L_way) (by decide +kernel))
        (fun _ _ _ _ _ => pg_name (i := 4) sc_way.nd rfl (Or.inl rfl)) (fun _ _ _ _ _ => pts_nil) (fun _ _ _ _ _ => by exact pe_tup (pa_cons (pe_ix ix_tup (pv 4) pe_int (fun _ _ => rfl)) (pa_cons (pe_ix ix_tup (pv 4) pe_int (fun _ _ => rfl)) pa_nil)))) pa_nil)) (pa_cons (pe_lst pa_nil) pa_nil)) (by rfl))
      (pss_cons (ps_while PassesOwn.never (pt_cmpR op_ne (pv 1) pe_str (nomark _))
        (pss_cons (ps_expr (pe_bm PySem.F.plainAttrs_list PySem.F.slot_list_insert PySem.F.type_list_insert mt_insert (pv 3) (pa_cons pe_int (pa_cons (pv 1) pa_nil))))
        (pss_one (ps_set (i := 1) sc_way.nd rfl (.inl rfl) (pe_dget hu (pv 2) (pv 1) (fun _ _ => rfl))))))
      (pss_one (ps_ret (pv 3)))), ?_⟩
    refine ⟨_, rfl, p, rfl, ⟨_, SqL.of hp⟩, fun Dl hDl => ?_⟩
    refine lc_list (K := K) (a := p) (xs := as.map V.ref) (fun i H' => ∃ ps : List Addr, Same H H' ∧ H' Dl = some (.lst (ps.map V.ref)) ∧ Paired (fun q (kv : Key × V) => SqT K H' q [kV kv.1, kv.2]) ps (kvF (fun r => .str r.fo) (rs.take i))) ⟨[], Same.new hDl, upd_same, .nil⟩ (fun i H' _ ⟨_, s, _⟩ => s.seq (SqL.of hp)) ?_ ?_
    · rintro i x H2 hx ⟨ps, sm, hD2, pr⟩
      rw [List.getElem?_map] at hx
      obtain ⟨ra, hra, rfl⟩ := Option.map_eq_some_iff.mp hx
      obtain ⟨r, hr'⟩ : ∃ r, rs[i]? = some r := ⟨rs[i]'(by rw [← hrows.len]; exact (List.getElem?_eq_some_iff.mp hra).1), List.getElem?_eq_getElem _⟩
      have e := sm _ _ (hrows.at_ i ra r hra hr')
      refine ⟨rfl, tYes_if ⟨_, rfl, ra, _, _, _, rfl, rfl, sqT e, atI0 _ _ _ _, _, rfl, ra, _, _, _, rfl, rfl, sqT e, atI1 _ _ _ _, (by show 2 ≤ sizeLine; decide), fun t ht => ?_⟩⟩
      have nDt : Dl ≠ t := ne_of_none hD2 ht
      have pl := pr.length
      refine ⟨ps.map V.ref, by rw [upd_ne nDt]; exact hD2, small1000 (by rw [List.length_map, pl]; unfold kvF; rw [List.length_map, List.length_take]; omega), ps ++ [t], fun b o eb => ?_, by rw [upd_same, List.map_append]; rfl, ?_⟩
      · rw [upd_ne (fun y => by rw [y, hDl] at eb; cases eb), upd_ne (ne_of_none (sm _ _ eb) ht)]
        exact sm _ _ eb
      · have ek : kvF (fun r => V.str r.fo) (rs.take (i + 1)) = kvF (fun r => V.str r.fo) (rs.take i) ++ [(.inr r.nm, .str r.fo)] := by
          rw [take_more hr']; unfold kvF; rw [List.map_append]; rfl
        rw [ek]
        have keep : ∀ {b : Addr} {xs : List V}, SqT K H2 b xs → SqT K (upd (upd H2 t (.tup [V.str r.nm, .str r.fo])) Dl (.lst (ps.map V.ref ++ [V.ref t]))) b xs := fun {b xs} h => by
          rcases h with (h | ⟨o, h⟩) | h
          · exact .inl (.inl (by rw [upd_ne (fun y => by rw [y, hD2] at h; cases h), upd_ne (ne_of_none h ht)]; exact h))
          · exact .inl (.inr ⟨o, by rw [upd_ne (fun y => by rw [y, hD2] at h; cases h), upd_ne (ne_of_none h ht)]; exact h⟩)
          · exact .inr h
        exact (pr.mono fun _ _ h => keep h).snoc (sqT (by rw [upd_ne nDt.symm]; exact upd_same))
    · rintro H2 ⟨ps, sm, hD2, pr⟩
      rw [List.length_map, hrows.len, List.take_length] at pr
      refine ⟨Dl, ps, kvF (fun r => .str r.fo) rs, rfl, SqL.of hD2, pr, fun fd hfd => ?_⟩
      rw [merge_all _ hv]
      refine ⟨Nat.zero_le _, fun fo hfo => ⟨_, _, rfl, ?_⟩⟩
      have n1 : fd ≠ fo := fun y => by rw [← y, upd_same] at hfo; cases hfo
      have s3 : Same H (upd (upd H2 fd (.dK (kvF (fun r => .str r.fo) rs))) fo (.lst [])) := (sm.trans (Same.new hfd)).trans (Same.new hfo)
      have fofree : H fo = none := (sm.trans (Same.new hfd)).free hfo
      refine while_by (fun σ H' => ∃ (z' : Str) (v : Option V) (fs : List Str), σ = [some (.ref p), some (.str z'), some (.ref fd), some (.ref fo), v] ∧ (z' = ("top" : Str) ∨ z' ∈ names rs) ∧ Same H H' ∧ H' fd = some (.dK (kvF (fun r => .str r.fo) rs)) ∧ H' fo = some (.lst (fs.map V.str)) ∧ wayOf rs z' ++ fs = wayOf rs z) (muWay rs)
        ⟨z, none, [], rfl, hz, s3, by rw [upd_ne n1]; exact upd_same, upd_same, by simp⟩ ?_ (fun σ H Q Q' hQ ⟨v, e, sc, k, e2, q⟩ => ⟨v, e, sc, k, e2, hQ _ _ q⟩)
      rintro σ H4 ⟨z', v, fs, rfl, hz', s4, hfd4, hfo4, ew⟩
      refine ⟨_, rfl, rfl, _, rfl, ?_⟩
      refine ite2 (fun hc => ?_) (fun hc => ?_)
      · have hn : z' ≠ ("top" : Str) := fun e => by rw [e] at hc; simp at hc
        have hin := hz'.resolve_left hn
        obtain ⟨r, e1, hrm, rfl⟩ := rowOf_some hin
        have ws := way_step hv hrm
        have lw := way_len (rs := rs) (z := z)
        have lf : fs.length ≤ 100 := by
          have := congrArg List.length ew
          rw [List.length_append] at this
          omega
        refine ⟨_, rfl, .inl ⟨rfl, _, SqL.of hfo4⟩, _, rfl, fo, _, 0, _, rfl, rfl, hfo4, small1000 (by rw [List.length_map]; omega), by decide, by decide, ?_⟩
        have n1' : fd ≠ fo := n1
        refine ⟨_, rfl, _, rfl, fd, .str r.fo, rfl, ?_, ?_⟩
        · have dg := DGet.k (k := Sum.inr r.nm) (show (upd H4 fo (.lst ((fs.map V.str).take (0 : Int).toNat ++ [V.str r.nm] ++ (fs.map V.str).drop (0 : Int).toNat))) fd = some (.dK (kvF (fun r => .str r.fo) rs)) from by rw [upd_ne n1']; exact hfd4)
          rw [valV_kvF, show (rs.find? fun q => decide (q.nm = r.nm)) = some r from e1] at dg
          exact dg
        · refine ⟨⟨r.fo, v, r.nm :: fs, rfl, hv.foAll hrm, fun b o e => ?_, by rw [upd_ne n1']; exact hfd4, upd_same, ?_⟩, ?_⟩
          · rw [upd_ne (fun y => by rw [y, fofree] at e; cases e)]
            exact s4 _ _ e
          · rw [← ew, ws]; simp
          · show (wayOf rs r.fo).length < (wayOf rs r.nm).length
            rw [ws]; simp
      · have ht : z' = ("top" : Str) := Classical.byContradiction fun e => hc (by
          show (!decide (V.str z' = V.str ("top" : Str))) = true
          rw [decide_eq_false (fun q => e (V.str.inj q))]; rfl)
        refine ⟨_, rfl, hq fo H4 fofree s4 ?_⟩
        rw [hfo4, ← ew, ht, way_top hv]; rfl
end
end Ts

set_option maxRecDepth 100000
set_option maxHeartbeats 4000000
namespace Ts
open PySem L2
/-- what stands between two turns -/
structure RowsJ (a p fl nl : Addr) (H0 H : Hp) (ks : List Str) (ps : List (Option Int)) (m : Int) (i : Nat) (as : List Addr) (rs : List Row) (fs : List Str) : Prop where
  hp : H p = some (.lst (as.map V.ref))
  hf : H fl = some (.lst ((("top" : Str) :: fs).map V.str))
  fsub : ∀ z ∈ fs, z ∈ folderNames rs
  flen : fs.length ≤ i
  hn : H nl = some (.lst ((("top" : Str) :: rs.map (·.nm)).map V.str))
  rows : RowsAt H as rs
  val : Valid rs
  len : rs.length ≤ i
  mem : ∀ r ∈ rs, r.ki ∈ ks ∧ r.pr ∈ ps ∧ Drawn r.nm
  sb : SB a H0 H
  st : Stm H a m
theorem RowsJ.step {a p fl nl : Addr} {H0 H H' : Hp} {ks : List Str} {ps : List (Option Int)} {m m' : Int} {i j : Nat} {as : List Addr} {rs : List Row} {fs : List Str} (h : RowsJ a p fl nl H0 H ks ps m i as rs fs) (np : p ≠ a) (nf : fl ≠ a) (nn : nl ≠ a) (s : SB a H H') (hs : Stm H' a m') (hj : i ≤ j) :
    RowsJ a p fl nl H0 H' ks ps m' j as rs fs := by
  obtain ⟨x, y, z, e, _⟩ := id h.st
  exact ⟨s _ _ np h.hp, s _ _ nf h.hf, h.fsub, Nat.le_trans h.flen hj, s _ _ nn h.hn, h.rows.sb e s, h.val, Nat.le_trans h.len hj, h.mem, h.sb.trans s, hs⟩
section
variable {P : Program} {w : World} {K : PySem.W.Frag} {mg : Str → Option Value} {base : Heap}
theorem ok_rows (Dw : DefAt K mg "_law_way" s_L_way ["_law_rows_here", "_law_box"]) (D : DefAt K mg "_law_rows" s_L_rows ["_law_stream_here", "_law_many", "_law_kinds_here", "_law_prices"]) (Dn : DefAt K mg "_law_name" s_L_name ["_law_stream_here"]) (Dp : DefAt K mg "_law_pick" s_L_pick ["_law_stream_here", "_law_things"]) (Dd : DefAt K mg "_law_draw" s_L_draw ["_law_stream_here", "_law_many"]) (B : TxB mg) :
    FnOk P w K mg base CX0 5 D.f D.fd ["_law_stream_here", "_law_many", "_law_kinds_here", "_law_prices"] (spRows K) := by
  have Gp : FnOk P w K mg base CX0 3 Dp.f Dp.fd ["_law_stream_here", "_law_things"] (spPick K) := ok_pick Dp Dd B
  have Gn : FnOk P w K mg base CX0 4 Dn.f Dn.fd ["_law_stream_here"] spName := ok_name Dn Dp Dd B
  have Gw : FnOk P w K mg base CX0 2 Dw.f Dw.fd ["_law_rows_here", "_law_box"] spWay := ok_way Dw B
  refine D.F.ok sc_rows (fun vs H Q E h => ?_) (fun cdv A outer s H vs Q E hr h => ?_)
  · obtain ⟨a, kl, pl, many, n, ks, ps, rfl, _⟩ := h
    rfl
  · obtain ⟨a, kl, pl, many, n, ks, ps, rfl, hs, hn, hm0, hm1, hka, hpa, hks, hps, k1, k2, p1, p2, hkok, hpok, hq⟩ := h
    have hr2 : Room 3 _ := hr.mono (by decide)
    have hr1 : Room 2 _ := hr.mono (by decide)
    refine ⟨_, pss_cons (ps_par3 (i := 4) (j := 5) (l := 6) rfl sc_rows.nd rfl rfl rfl (by decide) (by decide) (by decide) rfl rfl rfl (pa_cons (pe_lst pa_nil) (pa_cons (pe_lst (pa_cons pe_str pa_nil)) (pa_cons (pe_lst (pa_cons pe_str pa_nil)) pa_nil))) (by rfl))
      (pss_cons (ps_for PassesOwn.never rfl (pi_range1 (by rfl) B.range (pa_cons (pv 1) pa_nil)) (pg_name (i := 7) sc_rows.nd rfl (Or.inl rfl))
        (pss_cons (ps_set (i := 8) sc_rows.nd rfl (.inl rfl) (pe_call Gn hr rfl Dn.g Dn.F.kp Dn.b .nil pass0 (pa_cons (pv 0) pa_nil)))
        (C8.pss_cut (ps_if (pt_cmpR op_in_seq (pv 8) (pv 6) (by rfl)) (pss_one (ps_set (i := 8) sc_rows.nd rfl (.inl rfl) (pe_op op_add_str (pe_op op_add_str pe_str (pe_item_str pe_str (pe_op op_mod (pv 7) pe_int) (fun _ _ => rfl))) (pe_item_str pe_str (pe_op op_mod (pe_op op_fdiv (pv 7) pe_int) pe_int) (fun _ _ => rfl))))) pss_nil)
        (pss_cons (ps_par (i := 9) (j := 10) rfl sc_rows.nd rfl rfl (by decide) rfl rfl (pa_cons (pe_call Gp hr2 rfl Dp.g Dp.F.kp Dp.b .nil pass0 (pa_cons (pv 0) (pa_cons (pv 2) pa_nil))) (pa_cons (pe_call Gp hr2 rfl Dp.g Dp.F.kp Dp.b .nil pass0 (pa_cons (pv 0) (pa_cons (pe_op op_cat (pe_slice sl_list (pv 5) (po_some (pe_un un_neg pe_int)) po_none) (pe_lst (pa_cons pe_str pa_nil))) pa_nil))) pa_nil)) (by rfl))
        (pss_one (ps_if (pt_cmpR op_notIn_seq (pv 8) (pv 6) (by rfl))
          (pss_cons (ps_expr (pe_bm PySem.F.plainAttrs_list PySem.F.slot_list_append PySem.F.type_list_append mt_append (pv 6) (pa_cons (pv 8) pa_nil)))
          (pss_cons (ps_expr (pe_bm PySem.F.plainAttrs_list PySem.F.slot_list_append PySem.F.type_list_append mt_append (pv 4) (pa_cons (pe_tup (pa_cons (pv 8) (pa_cons (pv 10) (pa_cons (pv 9) (pa_cons (pe_call Gp hr2 rfl Dp.g Dp.F.kp Dp.b .nil pass0 (pa_cons (pv 0) (pa_cons (pv 3) pa_nil))) pa_nil))))) pa_nil)))
          (pss_one (ps_if (PW.pt (pw_and (pt_cmpR op_eq (pv 9) pe_str (nomark _)) (pw_and1 (pt_cmpR op_lt (pe_callB call_len_seq (by rfl) B.len PySem.boot_len (pa_cons (pe_call Gw hr1 rfl Dw.g Dw.F.kp Dw.b .nil pass0 (pa_cons (pv 4) (pa_cons (pv 8) pa_nil))) pa_nil)) pe_int (nomark _))))) (pss_one (ps_expr (pe_bm PySem.F.plainAttrs_list PySem.F.slot_list_append PySem.F.type_list_append mt_append (pv 5) (pa_cons (pv 8) pa_nil)))) pss_nil)))) pss_nil))))))
      (pss_one (ps_ret (pv 4)))), ?_⟩
    refine ⟨Nat.zero_le _, fun p hp => ⟨(by show 1 ≤ sizeLine; decide), fun fl hfl => ⟨(by show 1 ≤ sizeLine; decide), fun nl hnl => ⟨_, _, _, rfl, ?_⟩⟩⟩⟩
    have hpf : p ≠ fl := fun q => by rw [← q, upd_same] at hfl; cases hfl
    have hfn : fl ≠ nl := fun q => by rw [← q, upd_same] at hnl; cases hnl
    have hpn : p ≠ nl := fun q => by rw [← q, upd_ne hpf, upd_same] at hnl; cases hnl
    have sp : Same H (upd (upd (upd H p (.lst [])) fl (.lst [V.str ("top" : Str)])) nl (.lst [V.str ("top" : Str)])) := (Same.new hp).trans ((Same.new hfl).trans (Same.new hnl))
    have pa : p ≠ a := (hs.ne hp).symm
    have fa : fl ≠ a := ((hs.upd hp).ne hfl).symm
    have na : nl ≠ a := (((hs.upd hp).upd hfl).ne hnl).symm
    refine ⟨_, rfl, many, rfl, by omega, by omega, ?_⟩
    refine for_range (lo := 0) (n := many.toNat) (fun i σ H' => ∃ (as : List Addr) (rs : List Row) (fs : List Str) (vk vn vki vf : Option V), σ = [some (.ref a), some (.int many), some (.ref kl), some (.ref pl), some (.ref p), some (.ref fl), some (.ref nl), vk, vn, vki, vf] ∧ RowsJ a p fl nl H H' ks ps (n + 13 * i) i as rs fs) ?_ ?_ ?_
    · refine ⟨[], [], [], none, none, none, none, rfl, ⟨?_, ?_, (fun z hz => by cases hz), Nat.le_refl _, upd_same, RowsAt.nil, Valid.nil, Nat.le_refl _, (fun r hr => by cases hr), SB.of sp, by simpa using hs.same sp⟩⟩
      · rw [upd_ne hpn, upd_ne hpf, upd_same]; rfl
      · rw [upd_ne hfn, upd_same]; rfl
    · rintro i σ H1 hi ⟨as, rs, fs, vk, vn, vki, vf, rfl, R⟩
      have hi40 : i < 40 := by omega
      have hrl := R.len
      refine ⟨_, rfl, a, _, rfl, R.st, by omega, fun z H2 hz hs2 sb2 => ?_⟩
      have R2 := R.step pa fa na sb2 hs2 (Nat.le_refl i)
      refine ⟨fun σ' H' => ∃ (z : Str), Drawn z ∧ σ' = [some (.ref a), some (.int many), some (.ref kl), some (.ref pl), some (.ref p), some (.ref fl), some (.ref nl), some (.int (0 + i)), some (.str z), vki, vf] ∧ H' = H2, ?_, ?_⟩
      · refine ⟨_, rfl, _, rfl, nl, _, rfl, .inl (SqL.of R2.hn), rfl, flat_strs _, _, rfl, ?_⟩
        refine ite2 (fun _ => ?_) (fun _ => ?_)
        · obtain ⟨c, hc, lc⟩ := sign_at low_aj (r := (0 + (i : Int)) % 10) (by omega) (by rw [len_aj]; omega)
          obtain ⟨d, hd, ld⟩ := sign_at low_kp (r := ((0 + (i : Int)) / 10) % 6) (by omega) (by rw [len_kp]; omega)
          refine ⟨_, rfl, _, _, rfl, rfl, (by show (0 : Int) < 10; decide), _, _, c, rfl, rfl, by omega, by omega, by rw [len_aj]; omega, hc, _, _, rfl, rfl, (by show 2 ≤ sizeLine; decide), ?_⟩
          refine ⟨_, rfl, _, _, rfl, rfl, ⟨by decide, by decide⟩, _, _, rfl, rfl, (by show (0 : Int) < 6; decide), _, _, d, rfl, rfl, by omega, by omega, by rw [len_kp]; omega, hd, _, _, rfl, rfl, (by show 3 ≤ sizeLine; decide), ?_⟩
          exact ⟨_, ⟨.inr (.inr (.inl (by rw [len_cat, len_cat, len_q]; rfl))), low_cat (low_cat low_q lc) ld⟩, rfl, rfl⟩
        · exact ⟨z, hz, rfl, rfl⟩
      · rintro σ' H' ⟨z, hz, rfl, rfl⟩
        refine ⟨_, rfl, _, rfl, .inl ⟨a, kl, _, _, rfl, R2.st, by omega, hka, R2.sb.seqL hka hks, by simpa using k1, by simp; omega, fun v H3 hv hs3 sb3 _ => ?_⟩⟩
        obtain ⟨ki, hki, rfl⟩ := List.mem_map.mp hv
        have R3 := R2.step pa fa na sb3 hs3 (Nat.le_refl i)
        refine ⟨_, rfl, _, rfl, _, rfl, _, rfl, fl, _, rfl, SqL.of R3.hf, fun q1 hq1 => ⟨(by show 1 ≤ sizeLine; decide), fun q2 hq2 => ?_⟩⟩
        have q12 : q1 ≠ q2 := fun e => by rw [← e, upd_same] at hq2; cases hq2
        have hcl := cutV_length ((("top" : Str) :: fs).map V.str) (some (-4)) none
        have hfle : fs.length ≤ rs.length + 40 := by have := R.flen; omega
        refine ⟨q1, q2, _, _, rfl, rfl, by rw [upd_ne q12]; exact upd_same, upd_same, ?_, fun q3 hq3 => ?_⟩
        · refine szl ?_
          rw [List.length_map, List.length_cons] at hcl
          show _ + 1 ≤ 1000
          omega
        have s4 := (Same.new (o := .lst (cutV ((("top" : Str) :: fs).map V.str) (some (-4)) none)) hq1).trans ((Same.new (o := .lst [V.str ("top" : Str)]) hq2).trans (Same.new (o := .lst (cutV ((("top" : Str) :: fs).map V.str) (some (-4)) none ++ [V.str ("top" : Str)])) hq3))
        have R4 := R3.step pa fa na (SB.of s4) (hs3.same s4) (Nat.le_refl i)
        have q3a : q3 ≠ a := (((hs3.upd hq1).upd hq2).ne hq3).symm
        refine .inl ⟨a, q3, _, _, rfl, R4.st, by omega, q3a, SqL.of upd_same, by simp, ?_, fun v2 H5 hv2 hs5 sb5 _ => ?_⟩
        · rw [List.length_append]
          rw [List.length_map, List.length_cons] at hcl
          show _ + 1 ≤ 1000000
          omega
        obtain ⟨fo, hfo, rfl⟩ : ∃ fo : Str, (fo = ("top" : Str) ∨ fo ∈ fs) ∧ v2 = .str fo := by
          rcases List.mem_append.mp hv2 with h | h
          · obtain ⟨fo, h1, rfl⟩ := List.mem_map.mp (mem_cutV h)
            exact ⟨fo, List.mem_cons.mp h1, rfl⟩
          · exact ⟨_, .inl rfl, List.mem_singleton.mp h⟩
        have R5 := R4.step pa fa na sb5 hs5 (Nat.le_refl i)
        refine ⟨_, _, rfl, _, rfl, _, rfl, nl, _, rfl, .inl (SqL.of R5.hn), rfl, flat_strs _, _, rfl, ?_⟩
        have hin : (if true = true then !inV (.str z) ((("top" : Str) :: rs.map (·.nm)).map V.str) else inV (.str z) ((("top" : Str) :: rs.map (·.nm)).map V.str)) = !decide (z ∈ (("top" : Str) :: rs.map (·.nm))) := by
          rw [if_pos rfl, inV_strs]
        refine ite2 (fun hc => ?_) (fun _ => ?_)
        · have hc' : (if true = true then !inV (.str z) ((("top" : Str) :: rs.map (·.nm)).map V.str) else inV (.str z) ((("top" : Str) :: rs.map (·.nm)).map V.str)) = true := hc
          rw [hin] at hc'
          have hz' : z ∉ (("top" : Str) :: rs.map (·.nm)) := by simpa using hc'
          have l41 : ((("top" : Str) :: rs.map (·.nm)).map V.str).length ≤ 1000 := by rw [List.length_map, List.length_cons, List.length_map]; omega
          refine ⟨_, rfl, .inl ⟨rfl, _, SqL.of R5.hn⟩, _, rfl, nl, _, _, rfl, rfl, R5.hn, small1000 l41, ?_⟩
          have n1 : ∀ {b : Addr}, b ≠ nl → (upd H5 nl (.lst ((("top" : Str) :: rs.map (·.nm)).map V.str ++ [V.str z]))) b = H5 b := fun h => upd_ne h
          have st6 : Stm (upd H5 nl (.lst ((("top" : Str) :: rs.map (·.nm)).map V.str ++ [V.str z]))) a (n + 13 * (i : Int) + 9 + 1 + 1) := by
            obtain ⟨x, y, u, e, r⟩ := R5.st
            exact ⟨x, y, u, by rw [n1 na.symm]; exact e, r⟩
          have sb6 : SB a H (upd H5 nl (.lst ((("top" : Str) :: rs.map (·.nm)).map V.str ++ [V.str z]))) := fun b o hb e => by
            rw [n1 (fun q => by rw [q] at e; have := sp _ _ e; rw [upd_same] at this; have h2 := (Same.new (o := .lst []) hp).trans (Same.new (o := .lst [V.str ("top" : Str)]) hfl); have h3 := h2.free hnl; rw [h3] at e; cases e)]
            exact R5.sb b o hb e
          refine ⟨_, rfl, .inl ⟨rfl, _, SqL.of (by rw [n1 hpn]; exact R5.hp)⟩, _, rfl, _, rfl, _, rfl, _, rfl, _, rfl, .inl ⟨a, pl, _, _, rfl, st6, by omega, hpa, sb6.seqL hpa hps, by simpa using p1, by simp; omega, fun v3 H7 hv3 hs7 sb7 _ => ?_⟩⟩
          obtain ⟨pr, hpr, rfl⟩ := List.mem_map.mp hv3
          refine ⟨(by show 4 ≤ sizeLine; decide), fun t ht => ?_⟩
          have hp7 : H7 p = some (.lst (as.map V.ref)) := sb7 _ _ pa (by rw [n1 hpn]; exact R5.hp)
          have hf7 : H7 fl = some (.lst ((("top" : Str) :: fs).map V.str)) := sb7 _ _ fa (by rw [n1 hfn]; exact R5.hf)
          have hn7 : H7 nl = some (.lst ((("top" : Str) :: rs.map (·.nm)).map V.str ++ [V.str z])) := sb7 _ _ na upd_same
          have tp : p ≠ t := ne_of_none hp7 ht
          have tf : fl ≠ t := ne_of_none hf7 ht
          have tn : nl ≠ t := ne_of_none hn7 ht
          have ta : a ≠ t := hs7.ne ht
          have rows7 : RowsAt H7 as rs := ⟨R5.rows.len, fun j b r hb hr => sb7 _ _ (fun q => by
            obtain ⟨x, y, u, e, _⟩ := R5.st
            have e2 := R5.rows.at_ j b r hb hr
            rw [q, e] at e2; cases e2) (by rw [n1 (fun q => by have e2 := R5.rows.at_ j b r hb hr; rw [q, R5.hn] at e2; cases e2)]; exact R5.rows.at_ j b r hb hr)⟩
          have al : (as.map V.ref).length ≤ 1000 := by rw [List.length_map, R5.rows.len]; omega
          refine ⟨p, _, _, rfl, rfl, by rw [upd_ne tp]; exact hp7, small1000 al, ?_⟩
          have g : ∀ {b : Addr}, b ≠ p → b ≠ t → (upd (upd H7 t (.tup [V.str z, V.str fo, V.str ki, prV pr])) p (.lst (as.map V.ref ++ [V.ref t]))) b = H7 b := fun h1 h2 => by rw [upd_ne h1, upd_ne h2]
          have fits : Fits rs ⟨z, fo, ki, pr⟩ := ⟨hz.shape, fun q => hz' (List.mem_cons.mpr (.inl q)), fun q => hz' (List.mem_cons.mpr (.inr q)), hfo.imp id (fun h => mem_folders (R5.fsub _ h)), hkok ki hki, hpok pr hpr⟩
          have valS := R5.val.snoc fits
          have rowsT : ∀ {b : Addr} {xs : List V}, H7 b = some (.tup xs) → (upd (upd H7 t (.tup [V.str z, V.str fo, V.str ki, prV pr])) p (.lst (as.map V.ref ++ [V.ref t]))) b = some (.tup xs) := fun {b xs} h => by
            rw [g (fun y => by rw [y, hp7] at h; cases h) (ne_of_none h ht)]; exact h
          have rows8 : RowsAt (upd (upd H7 t (.tup [V.str z, V.str fo, V.str ki, prV pr])) p (.lst (as.map V.ref ++ [V.ref t]))) (as ++ [t]) (rs ++ [⟨z, fo, ki, pr⟩]) := RowsAt.snoc ⟨rows7.len, fun j b r hb hr => rowsT (rows7.at_ j b r hb hr)⟩ (Eq.trans (upd_ne tp.symm) upd_same)
          have ep8 : (upd (upd H7 t (.tup [V.str z, V.str fo, V.str ki, prV pr])) p (.lst (as.map V.ref ++ [V.ref t]))) p = some (.lst ((as ++ [t]).map V.ref)) := by rw [upd_same, List.map_append]; rfl
          have ef8 := Eq.trans (g hpf.symm tf) hf7
          have en8 := Eq.trans (g hpn.symm tn) hn7
          have ea8 : ∀ {b : Addr} {o : HO}, b ≠ a → H b = some o → (upd (upd H7 t (.tup [V.str z, V.str fo, V.str ki, prV pr])) p (.lst (as.map V.ref ++ [V.ref t]))) b = some o := fun {b o} hb eb => by
            have e0 := sb7 b o hb (sb6 b o hb eb)
            rw [g (fun x => by rw [x, hp] at eb; cases eb) (ne_of_none e0 ht)]
            exact e0
          have st8 := hs7
          have es8 : (upd (upd H7 t (.tup [V.str z, V.str fo, V.str ki, prV pr])) p (.lst (as.map V.ref ++ [V.ref t]))) a = H7 a := g pa.symm ta
          generalize upd (upd H7 t (.tup [V.str z, V.str fo, V.str ki, prV pr])) p (.lst (as.map V.ref ++ [V.ref t])) = H8 at rows8 ep8 ef8 en8 ea8 es8
          have nfl : ∀ {b : Addr} {o : HO}, H b = some o → b ≠ fl := fun {b o} eb x => by rw [x, (Same.new (o := .lst []) hp).free hfl] at eb; cases eb
          have fin : ∀ (fs' : List Str) (H9 : Hp), (∀ y ∈ fs', y ∈ folderNames (rs ++ [⟨z, fo, ki, pr⟩])) → fs'.length ≤ i + 1 → (∀ b o, b ≠ fl → H8 b = some o → H9 b = some o) → H9 fl = some (.lst ((("top" : Str) :: fs').map V.str)) →
              RowsJ a p fl nl H H9 ks ps (n + 13 * ((i + 1 : Nat) : Int)) (i + 1) (as ++ [t]) (rs ++ [⟨z, fo, ki, pr⟩]) fs' := by
            intro fs' H9 hsub hlen hk hf9
            refine ⟨hk _ _ hpf ep8, hf9, hsub, hlen, ?_, ⟨rows8.len, fun j b r hb hr => hk _ _ (fun x => by have := rows8.at_ j b r hb hr; rw [x, ef8] at this; cases this) (rows8.at_ j b r hb hr)⟩, valS, by simp; omega, fun r hr => ?_, fun b o hb eb => hk _ _ (nfl eb) (ea8 hb eb), ?_⟩
            · rw [hk _ _ hfn.symm en8]; simp
            · rcases List.mem_append.mp hr with h | h
              · exact R5.mem r h
              · rw [List.mem_singleton.mp h]; exact ⟨hki, hpr, hz⟩
            · obtain ⟨x1, y1, u1, e1, r1⟩ := st8
              exact ⟨x1, y1, u1, hk _ _ fa.symm (es8.trans e1), r1.1, r1.2.1, r1.2.2.1, r1.2.2.2.1, by have := r1.2.2.2.2; push_cast; omega⟩
          have sub0 : ∀ y ∈ fs, y ∈ folderNames (rs ++ [⟨z, fo, ki, pr⟩]) := fun y hy => by
            rw [folders_snoc]
            exact List.mem_append_left _ (R5.fsub y hy)
          have flen5 := R5.flen
          refine ⟨_, rfl, rfl, _, rfl, ?_⟩
          refine ite2 (fun hk => ?_) (fun hk => ?_)
          · have hk' : ki = ("folder" : Str) := V.str.inj (of_decide_eq_true hk)
            refine ⟨_, rfl, _, rfl, p, z, _, rfl, ⟨_, ep8, rows8⟩, valS, by rw [List.length_append]; show _ + 1 ≤ 100; omega, .inr (List.mem_map.mpr ⟨⟨z, fo, ki, pr⟩, List.mem_append_right _ (List.mem_singleton.mpr rfl), rfl⟩), fun Dw H9 hDw s9 e9 => ?_⟩
            refine ⟨Dw, _, rfl, .inl (SqL.of e9), _, _, rfl, rfl, _, rfl, ?_⟩
            have ef9 := s9 _ _ ef8
            refine ite2 (fun _ => ?_) (fun _ => ?_)
            · refine ⟨_, rfl, .inl ⟨rfl, _, SqL.of ef9⟩, _, rfl, fl, _, _, rfl, rfl, ef9, small1000 (by rw [List.length_map, List.length_cons]; omega), ?_⟩
              refine ⟨_, _, fs ++ [z], _, _, _, _, rfl, fin (fs ++ [z]) _ (fun y hy => ?_) (by rw [List.length_append]; show _ + 1 ≤ _; omega) (fun b o nb e => by rw [upd_ne nb]; exact s9 _ _ e) ?_⟩
              · rcases List.mem_append.mp hy with hy | hy
                · exact sub0 y hy
                · rw [folders_snoc, List.mem_singleton.mp hy]
                  exact List.mem_append_right _ (by rw [if_pos hk']; exact List.mem_singleton.mpr rfl)
              · rw [upd_same]; simp
            · exact ⟨_, _, fs, _, _, _, _, rfl, fin fs H9 sub0 (by omega) (fun b o _ e => s9 _ _ e) ef9⟩
          · exact ⟨_, _, fs, _, _, _, _, rfl, fin fs H8 sub0 (by omega) (fun b o _ e => e) ef8⟩
        · exact ⟨as, rs, fs, _, _, _, _, rfl, R5.step pa fa na (SB.refl _ _) (R5.st.mono (by push_cast; omega)) (Nat.le_succ i)⟩
    · rintro σ H1 ⟨as, rs, fs, vk, vn, vki, vf, rfl, R⟩
      have e : ((many.toNat : Nat) : Int) = many := by omega
      exact ⟨_, rfl, hq p as rs H1 hp pa R.hp R.rows R.val (by have := R.len; omega) R.mem R.sb (by have := R.st; rw [e] at this; exact this)⟩
end
end Ts

set_option maxRecDepth 100000
set_option maxHeartbeats 4000000
namespace Ts
open PySem L2
/-! ### what changes a tree -/
theorem Valid.append {pre L : List Row} (h : Valid pre) (k : ∀ i r, L[i]? = some r → Fits (pre ++ L.take i) r) : Valid (pre ++ L) := by
  intro i r hr
  rcases Nat.lt_or_ge i pre.length with hi | hi
  · rw [List.getElem?_append_left hi] at hr
    rw [List.take_append_of_le_length (Nat.le_of_lt hi)]
    exact h i r hr
  · rw [List.getElem?_append_right hi] at hr
    have e : (pre ++ L).take i = pre ++ L.take (i - pre.length) := by
      rw [List.take_append, List.take_of_length_le hi]
    rw [e]
    exact k _ _ hr
/-- where a kept row stood -/
theorem filter_at {p : Row → Bool} : ∀ {rs : List Row} {i : Nat} {r : Row}, (rs.filter p)[i]? = some r → ∃ j, rs[j]? = some r ∧ p r = true ∧ (rs.filter p).take i = (rs.take j).filter p
  | [], _, _, h => by simp at h
  | q :: rs, i, r, h => by
    by_cases e : p q = true
    · rw [List.filter_cons_of_pos e] at h ⊢
      cases i with
      | zero =>
        have : q = r := by simpa using h
        subst this
        exact ⟨0, rfl, e, by simp⟩
      | succ i =>
        obtain ⟨j, h1, h2, h3⟩ := filter_at (rs := rs) (i := i) (r := r) (by simpa using h)
        refine ⟨j + 1, by simpa using h1, h2, ?_⟩
        rw [List.take_succ_cons, List.take_succ_cons, List.filter_cons_of_pos e, h3]
    · rw [List.filter_cons_of_neg e] at h ⊢
      obtain ⟨j, h1, h2, h3⟩ := filter_at (rs := rs) (i := i) (r := r) h
      refine ⟨j + 1, by simpa using h1, h2, ?_⟩
      rw [List.take_succ_cons, List.filter_cons_of_neg e, h3]
theorem Valid.filter {rs : List Row} {p : Row → Bool} (h : Valid rs) (hp : ∀ r ∈ rs, p r = true → ∀ q ∈ rs, q.nm = r.fo → p q = true) : Valid (rs.filter p) := by
  intro i r hr
  obtain ⟨j, h1, h2, h3⟩ := filter_at hr
  rw [h3]
  have f := h j r h1
  refine ⟨f.shape, f.top, fun hm => ?_, ?_, f.kind, f.price⟩
  · obtain ⟨q, hq, e⟩ := List.mem_map.mp hm
    exact f.new (List.mem_map.mpr ⟨q, (List.mem_filter.mp hq).1, e⟩)
  · rcases f.home with e | ⟨q, hq, e1, e2⟩
    · exact .inl e
    · exact .inr ⟨q, List.mem_filter.mpr ⟨hq, hp r (List.mem_of_getElem? h1) h2 q (List.mem_of_mem_take hq) e1⟩, e1, e2⟩
/-- what lies beneath z, z with it -/
def under (rs : List Row) (z : Str) (r : Row) : Bool := decide (z ∈ wayOf rs r.nm)
theorem under_self {rs : List Row} (h : Valid rs) {z : Str} {r : Row} (hr : r ∈ rs) (e : r.nm = z) : under rs z r = true := by
  unfold under
  rw [← e]
  exact decide_eq_true (way_self h (List.mem_map.mpr ⟨r, hr, rfl⟩))
theorem under_iff {rs : List Row} (h : Valid rs) {z : Str} (hz : z ≠ ("top" : Str)) {r : Row} (hr : r ∈ rs) : under rs z r = (decide (r.nm = z) || isIn rs z r) := by
  by_cases e : r.nm = z
  · rw [under_self h hr e, decide_eq_true e, Bool.true_or]
  · rw [decide_eq_false e, Bool.false_or]
    unfold isIn under
    rw [decide_eq_true e, decide_eq_false hz, Bool.true_and, Bool.false_or]
theorem gone_iff {rs : List Row} (h : Valid rs) {z : Str} (hz : z ≠ ("top" : Str)) {r : Row} (hr : r ∈ rs) : decide (r.nm ∈ z :: belowL rs z) = under rs z r := by
  rw [under_iff h hz hr]
  by_cases e : r.nm = z
  · rw [decide_eq_true e, Bool.true_or]
    exact decide_eq_true (by rw [e]; exact List.mem_cons_self ..)
  · rw [decide_eq_false e, Bool.false_or]
    by_cases i : isIn rs z r = true
    · rw [i]
      exact decide_eq_true (List.mem_cons_of_mem _ (List.mem_map.mpr ⟨r, List.mem_filter.mpr ⟨hr, i⟩, rfl⟩))
    · rw [Bool.not_eq_true] at i
      rw [i]
      refine decide_eq_false fun hm => ?_
      rcases List.mem_cons.mp hm with q | q
      · exact e q
      · obtain ⟨r2, h2, e2⟩ := List.mem_map.mp q
        obtain ⟨h3, h4⟩ := List.mem_filter.mp h2
        unfold isIn at h4 i
        rw [e2] at h4
        rw [h4] at i
        cases i
/-- a row whose folder lies beneath z does so, too -/
theorem under_up {rs : List Row} (h : Valid rs) {z : Str} {r q : Row} (hr : r ∈ rs) (hq : q ∈ rs) (e : q.nm = r.fo) (hu : under rs z q = true) : under rs z r = true := by
  unfold under at hu ⊢
  rw [way_step h hr, ← e]
  exact decide_eq_true (List.mem_append_left _ (of_decide_eq_true hu))
def lessL (rs : List Row) (z : Str) : List Row := rs.filter fun r => !under rs z r
theorem less_valid {rs : List Row} (h : Valid rs) (z : Str) : Valid (lessL rs z) :=
  h.filter fun r hr hp q hq e => by
    cases hu : under rs z q with
    | false => rfl
    | true => rw [under_up h hr hq e hu] at hp; cases hp
/-- the rows behind a move -/
def movedL (rs : List Row) (m : Row) (fo : Str) : List Row := lessL rs m.nm ++ ({ m with fo := fo } :: rs.filter (isIn rs m.nm))
theorem moved_valid {rs : List Row} (h : Valid rs) {m : Row} (hm : m ∈ rs) {fo : Str} (hf : fo = ("top" : Str) ∨ ∃ q ∈ rs, q.nm = fo ∧ q.ki = ("folder" : Str) ∧ under rs m.nm q = false) : Valid (movedL rs m fo) := by
  have mt : m.nm ≠ ("top" : Str) := fun e => top_not h (by rw [← e]; exact List.mem_map.mpr ⟨m, hm, rfl⟩)
  obtain ⟨k, hk, ek⟩ := List.mem_iff_getElem.mp hm
  have fm := h k m (by rw [← ek]; exact List.getElem?_eq_getElem hk)
  have v1 : Valid (lessL rs m.nm ++ [{ m with fo := fo }]) := by
    refine (less_valid h m.nm).snoc ⟨fm.shape, fm.top, fun hx => ?_, ?_, fm.kind, fm.price⟩
    · obtain ⟨q, hq, e⟩ := List.mem_map.mp hx
      obtain ⟨q1, q2⟩ := List.mem_filter.mp hq
      rw [under_self h q1 e] at q2
      cases q2
    · rcases hf with e | ⟨q, hq, e1, e2, e3⟩
      · exact .inl e
      · exact .inr ⟨q, List.mem_filter.mpr ⟨hq, by rw [e3]; rfl⟩, e1, e2⟩
  have e : movedL rs m fo = (lessL rs m.nm ++ [{ m with fo := fo }]) ++ rs.filter (isIn rs m.nm) := by unfold movedL; simp
  rw [e]
  refine v1.append fun i r hr => ?_
  obtain ⟨j, h1, h2, h3⟩ := filter_at hr
  have f := h j r h1
  have hrm := List.mem_of_getElem? h1
  have ur : under rs m.nm r = true := by rw [under_iff h mt hrm, h2, Bool.or_true]
  have nz : r.nm ≠ m.nm := fun e => by unfold isIn at h2; simp [e] at h2
  rw [h3]
  refine ⟨f.shape, f.top, fun hx => ?_, ?_, f.kind, f.price⟩
  · rw [List.map_append, List.map_append] at hx
    rcases List.mem_append.mp hx with hx | hx
    · rcases List.mem_append.mp hx with hx | hx
      · obtain ⟨q, hq, e⟩ := List.mem_map.mp hx
        obtain ⟨q1, q2⟩ := List.mem_filter.mp hq
        have : under rs m.nm q = true := by unfold under at ur ⊢; rw [e]; exact ur
        rw [this] at q2
        cases q2
      · simp at hx
        exact nz hx
    · obtain ⟨q, hq, e⟩ := List.mem_map.mp hx
      exact f.new (List.mem_map.mpr ⟨q, (List.mem_filter.mp hq).1, e⟩)
  · rcases f.home with e | ⟨q, hq, e1, e2⟩
    · exfalso
      unfold isIn at h2
      rw [decide_eq_true nz, decide_eq_false mt, Bool.true_and, Bool.false_or, way_step h hrm, e, way_top h] at h2
      simp at h2
      exact nz h2.symm
    · by_cases eq1 : q.nm = m.nm
      · have : q = m := by
          have a := rowOf_at h (i := k) (r := m) (by rw [← ek]; exact List.getElem?_eq_getElem hk)
          obtain ⟨k2, hk2, ek2⟩ := List.mem_iff_getElem.mp (List.mem_of_mem_take hq)
          have b := rowOf_at h (i := k2) (r := q) (by rw [← ek2]; exact List.getElem?_eq_getElem hk2)
          rw [eq1, a] at b
          exact (Option.some.inj b).symm
        subst this
        exact .inr ⟨{ q with fo := fo }, by simp, e1, e2⟩
      · refine .inr ⟨q, List.mem_append_right _ (List.mem_filter.mpr ⟨hq, ?_⟩), e1, e2⟩
        have hqm := List.mem_of_mem_take hq
        have : under rs m.nm q = true := by
          unfold under at ur ⊢
          rw [way_step h hrm, ← e1] at ur
          have := of_decide_eq_true ur
          rcases List.mem_append.mp this with x | x
          · exact decide_eq_true x
          · exact absurd (List.mem_singleton.mp x).symm nz
        rw [under_iff h mt hqm, decide_eq_false eq1, Bool.false_or] at this
        exact this
theorem names_inj {rs : List Row} (h : Valid rs) {q m : Row} (hq : q ∈ rs) (hm : m ∈ rs) (e : q.nm = m.nm) : q = m := by
  obtain ⟨k, hk, ek⟩ := List.mem_iff_getElem.mp hm
  obtain ⟨k2, hk2, ek2⟩ := List.mem_iff_getElem.mp hq
  have a := rowOf_at h (i := k) (r := m) (by rw [← ek]; exact List.getElem?_eq_getElem hk)
  have b := rowOf_at h (i := k2) (r := q) (by rw [← ek2]; exact List.getElem?_eq_getElem hk2)
  rw [e, a] at b
  exact (Option.some.inj b).symm
/-- of all beneath z, z stands first -/
theorem under_split {rs : List Row} (h : Valid rs) {m : Row} (hm : m ∈ rs) : rs.filter (under rs m.nm) = m :: rs.filter (isIn rs m.nm) := by
  have mt : m.nm ≠ ("top" : Str) := fun e => top_not h (by rw [← e]; exact List.mem_map.mpr ⟨m, hm, rfl⟩)
  obtain ⟨k, hk, ek⟩ := List.mem_iff_getElem.mp hm
  have hkm : rs[k]? = some m := by rw [← ek]; exact List.getElem?_eq_getElem hk
  have e0 : rs = rs.take k ++ m :: rs.drop (k + 1) := by
    rw [← ek, List.getElem_cons_drop, List.take_append_drop]
  have a1 : (rs.take k).filter (under rs m.nm) = [] := by
    rw [List.filter_eq_nil_iff]
    intro q hq hu
    have hqn : q.nm ∈ names (rs.take k) := List.mem_map.mpr ⟨q, hq, rfl⟩
    exact (h k m hkm).new (way_pre h k hqn (of_decide_eq_true hu))
  have a2 : (rs.take k).filter (isIn rs m.nm) = [] := by
    rw [List.filter_eq_nil_iff]
    intro q hq hu
    have hqr := List.mem_of_mem_take hq
    have : under rs m.nm q = true := by rw [under_iff h mt hqr, hu, Bool.or_true]
    exact (List.filter_eq_nil_iff.mp a1) q hq this
  have b1 : under rs m.nm m = true := under_self h hm rfl
  have b2 : isIn rs m.nm m = false := by unfold isIn; simp
  have c1 : (rs.drop (k + 1)).filter (under rs m.nm) = (rs.drop (k + 1)).filter (isIn rs m.nm) := by
    refine List.filter_congr fun q hq => ?_
    have hqr := List.mem_of_mem_drop hq
    rw [under_iff h mt hqr]
    have : ¬ q.nm = m.nm := fun e => by
      have e2 := names_inj h hqr hm e
      rw [e2] at hq
      obtain ⟨j, hj, ej⟩ := List.mem_iff_getElem.mp hq
      rw [List.getElem_drop] at ej
      rw [List.length_drop] at hj
      have f := h (k + 1 + j) m (by rw [← ej]; exact List.getElem?_eq_getElem _)
      exact f.new (List.mem_map.mpr ⟨m, List.mem_take_iff_getElem.mpr ⟨k, by omega, ek⟩, rfl⟩)
    rw [decide_eq_false this, Bool.false_or]
  have l : ∀ p : Row → Bool, rs.filter p = (rs.take k).filter p ++ (m :: rs.drop (k + 1)).filter p := fun p => by
    rw [← List.filter_append, ← e0]
  rw [l (under rs m.nm), l (isIn rs m.nm), a1, a2, List.filter_cons_of_pos b1, List.filter_cons_of_neg (by rw [b2]; simp), c1]
  rfl
end Ts

set_option maxRecDepth 100000
set_option maxHeartbeats 4000000
namespace Ts
open PySem L2
/-! ### what a meaning says of a box -/
/-- the default, turned as often as boxes on the way are turned -/
def turned (d : Bool) (ts : List Str) : List Str → Bool
  | [] => d
  | x :: l => turned (if x ∈ ts then !d else d) ts l
theorem turned_snoc (ts : List Str) (x : Str) : ∀ (l : List Str) (d : Bool), turned d ts (l ++ [x]) = if x ∈ ts then !(turned d ts l) else turned d ts l
  | [], d => rfl
  | y :: l, d => turned_snoc ts x l _
theorem turned_odd (ts : List Str) : ∀ (l : List Str) (d : Bool), turned d ts l = (d != decide ((l.filter fun x => decide (x ∈ ts)).length % 2 = 1))
  | [], d => by cases d <;> rfl
  | y :: l, d => by
    show turned (if y ∈ ts then !d else d) ts l = _
    rw [turned_odd ts l]
    by_cases h : y ∈ ts
    · rw [if_pos h, List.filter_cons_of_pos (by simpa using h), List.length_cons]
      rcases Nat.mod_two_eq_zero_or_one (l.filter fun x => decide (x ∈ ts)).length with e | e
      · rw [decide_eq_false (by omega), decide_eq_true (by omega)]; cases d <;> rfl
      · rw [decide_eq_true (by omega), decide_eq_false (by omega)]; cases d <;> rfl
    · rw [if_neg h, List.filter_cons_of_neg (by simpa using h)]
def valOf (rs : List Row) (d : Bool) (ts : List Str) (z : Str) : Bool := turned d ts (wayOf rs z)
theorem val_top {rs : List Row} (h : Valid rs) (d : Bool) (ts : List Str) : valOf rs d ts ("top" : Str) = d := by
  unfold valOf; rw [way_top h]; rfl
theorem val_step {rs : List Row} (h : Valid rs) (d : Bool) (ts : List Str) {r : Row} (hr : r ∈ rs) : valOf rs d ts r.nm = (valOf rs d ts r.fo != decide (r.nm ∈ ts)) := by
  unfold valOf
  rw [way_step h hr, turned_snoc]
  by_cases e : r.nm ∈ ts
  · rw [if_pos e, decide_eq_true e]; cases turned d ts (wayOf rs r.fo) <;> rfl
  · rw [if_neg e, decide_eq_false e]; cases turned d ts (wayOf rs r.fo) <;> rfl
theorem below_top {rs : List Row} (h : Valid rs) : belowL rs ("top" : Str) = names rs := by
  unfold belowL names
  have : rs.filter (isIn rs ("top" : Str)) = rs := by
    rw [List.filter_eq_self]
    intro r hr
    have : r.nm ≠ ("top" : Str) := fun e => top_not h (by rw [← e]; exact List.mem_map.mpr ⟨r, hr, rfl⟩)
    unfold isIn
    rw [decide_eq_true this, decide_eq_true rfl]; rfl
  rw [this]
/-- the values of all places, the top ahead -/
def kvM (rs : List Row) (d : Bool) (ts : List Str) (l : List Row) : List (Key × V) := (.inr ("top" : Str), .bl d) :: kvF (fun r => .bl (valOf rs d ts r.nm)) l
theorem valV_kvM {rs : List Row} (h : Valid rs) (d : Bool) (ts : List Str) {l : List Row} {z : Str} (hz : z = ("top" : Str) ∨ (z ≠ ("top" : Str) ∧ z ∈ names l)) : valV (kvM rs d ts l) (.inr z : Key) = some (.bl (valOf rs d ts z)) := by
  rcases hz with rfl | ⟨hn, hz⟩
  · show valV ((.inr ("top" : Str), .bl d) :: kvF (fun r => .bl (valOf rs d ts r.nm)) l) (.inr ("top" : Str) : Key) = _
    rw [valV_pos rfl, val_top h]
  · show valV ((.inr ("top" : Str), .bl d) :: kvF (fun r => .bl (valOf rs d ts r.nm)) l) (.inr z : Key) = _
    rw [valV_neg (fun q => hn (Sum.inr.inj q).symm), valV_kvF]
    obtain ⟨r, e, _, e2⟩ := rowOf_some hz
    rw [show (l.find? fun r => decide (r.nm = z)) = some r from e]
    show some (V.bl (valOf rs d ts r.nm)) = _
    rw [e2]
theorem kvM_more {rs : List Row} (h : Valid rs) (d : Bool) (ts : List Str) {i : Nat} {r : Row} (hr : rs[i]? = some r) : putK (kvM rs d ts (rs.take i)) (.inr r.nm) (.bl (valOf rs d ts r.nm)) = kvM rs d ts (rs.take (i + 1)) := by
  have f := h i r hr
  rw [putK_new _ (by
    show (valV ((.inr ("top" : Str), .bl d) :: kvF (fun r => .bl (valOf rs d ts r.nm)) (rs.take i)) (.inr r.nm : Key)) = none
    rw [valV_neg (fun q => f.top (Sum.inr.inj q).symm), valV_kvF, find_none f.new]; rfl), take_more hr]
  unfold kvM kvF
  rw [List.map_append]
  rfl
def spValues (C : Addr) : Sp := fun vs H Q _ => ∃ (t u : Addr) (d : Bool) (ts : List Str) (rs : List Row), vs = [.ref t, .bl d, .ref u] ∧ TreeAt C H t rs ∧ H u = some (.tup (ts.map V.str)) ∧
  ∀ D H', H D = none → Same H H' → H' D = some (.dK (kvM rs d ts rs)) → Q (.ref D) H'
section
variable {P : Program} {w : World} {K : PySem.W.Frag} {mg : Str → Option Value} {base : Heap} {C : Addr}
abbrev nValues : List Str := ["tree", "default", "turns", "values", "box"]
theorem sc_values_of : FnScope nValues ["tree", "default", "turns"] (defScope s_values_of) := ⟨rfl, rfl, rfl, by decide +kernel, rfl, by decide +kernel, by decide +kernel⟩
theorem ok_values_of (D : DefAt K mg "values_of" s_values_of ["tree", "default", "turns"]) (TC : TxC K mg) (T : TxT K mg C)
    (mB : MethAt K C "below" "Tree.below" s_Tree_below ["self", "box"]) (GB : FnOk P w K mg base CX0 5 mB.f mB.fd ["self", "box"] (spListOf C belowL))
    (mF : MethAt K C "folder" "Tree.folder" s_Tree_folder ["self", "box"]) (GF : FnOk P w K mg base CX0 4 mF.f mF.fd ["self", "box"] (spGet C fun r => .str r.fo)) : FnOk P w K mg base CX0 6 D.f D.fd ["tree", "default", "turns"] (spValues C) := by
  obtain ⟨t1, gT⟩ := TC.top
  refine D.F.ok sc_values_of (fun vs H Q E h => ?_) (fun cdv A outer s H vs Q E hr h => ?_)
  · obtain ⟨t, u, d, ts, rs, rfl, _⟩ := h
    rfl
  · obtain ⟨t, u, d, ts, rs, rfl, ht, hu', hq⟩ := h
    have hu := hu_of hr
    have hr3 : Room 4 _ := hr.mono (by decide)
    refine ⟨_, pss_cons (ps_set (i := 3) sc_values_of.nd rfl (.inl rfl) (pe_disp (pps_cons (pe_glob (by rfl) gT (v := .str ("top" : Str)) ⟨_, rfl⟩) (pv 1) pps_nil) (by rfl) (by rfl) (fun z => by cases z) (by decide)))
      (pss_cons (ps_for PassesOwn.never rfl (pi_list (pe_meth (pv 0) T.cl mB.m GB hr mB.b .nil pass0 (pa_cons (pe_glob (by rfl) gT (v := .str ("top" : Str)) ⟨_, rfl⟩) pa_nil))) (pg_name (i := 4) sc_values_of.nd rfl (.inl rfl))
        (pss_one (ps_dput hu (pv 3) (pv 4) (pe_cmpR op_ne (pe_dget hu (pv 3) (pe_meth (pv 0) T.cl mF.m GF hr3 mF.b .nil pass0 (pa_cons (pv 4) pa_nil)) (fun _ _ => rfl)) (pe_cmpR op_in_seq (pv 4) (pv 2) (by rfl)) (nomark _)) rfl)))
      (pss_one (ps_ret (pv 3)))), ?_⟩
    have hv := ht.val
    have l100 := ht.len
    obtain ⟨dx, q, f, k, p, qs, h1, h2, h3, h4, h5, h6⟩ := id ht.ex
    have noB : (tf q f k p).lookup ("below" : Str) = none := tf_no _ _ _ _ (by decide +kernel) (by decide +kernel) (by decide +kernel) (by decide +kernel)
    have noF : (tf q f k p).lookup ("folder" : Str) = none := tf_no _ _ _ _ (by decide +kernel) (by decide +kernel) (by decide +kernel) (by decide +kernel)
    refine fun wd hwd => ⟨_, rfl, upd_same, [(.inr ("top" : Str), .bl d)], rfl, (by show 1 ≤ 15; decide), ?_⟩
    have sA : Same H (upd (upd H wd (.dK [])) wd (.dK (mergeK [] [(.inr ("top" : Str), .bl d)]))) := fun b o e => by
      rw [upd_ne (ne_of_none e hwd), upd_ne (ne_of_none e hwd)]; exact e
    have eA : (upd (upd H wd (.dK [])) wd (.dK (mergeK [] [(.inr ("top" : Str), .bl d)]))) wd = some (.dK (kvM rs d ts [])) := upd_same
    generalize upd (upd H wd (.dK [])) wd (.dK (mergeK [] [(.inr ("top" : Str), .bl d)])) = H1 at sA eA
    refine ⟨_, rfl, t, dx, _, rfl, sA _ _ h1, noB, t, ("top" : Str), rs, rfl, ht.same sA, .inl rfl, fun bl H2 hbl s2 e2 => ?_⟩
    rw [below_top hv] at e2
    have sB := sA.trans s2
    have nw : ∀ {b : Addr} {o : HO}, H b = some o → b ≠ wd := fun {b o} e => ne_of_none e hwd
    have nbw : bl ≠ wd := fun e => by rw [← e, hbl] at eA; cases eA
    refine ⟨bl, rfl, ⟨_, SqL.of e2⟩, ?_⟩
    refine for_list (K := K) (a := bl) (xs := (names rs).map V.str) (fun i σ H' => ∃ v : Option V, σ = [some (.ref t), some (.bl d), some (.ref u), some (.ref wd), v] ∧ SB wd H2 H' ∧ H' wd = some (.dK (kvM rs d ts (rs.take i)))) ⟨_, rfl, SB.refl _ _, s2 _ _ eA⟩ (fun i σ H' _ ⟨_, _, sb, _⟩ => SqL.of (sb _ _ nbw e2)) ?_ ?_
    · rintro i x σ H3 hx ⟨v, rfl, sb, hw⟩
      unfold names at hx
      rw [List.getElem?_map, List.getElem?_map] at hx
      obtain ⟨n1, hn1, rfl⟩ := Option.map_eq_some_iff.mp hx
      obtain ⟨r, hr', rfl⟩ := Option.map_eq_some_iff.mp hn1
      have hrm := List.mem_of_getElem? hr'
      have ro := rowOf_at hv hr'
      have s3 : SB wd H H3 := (SB.of sB).trans sb
      have t3 : TreeAt C H3 t rs := by
        refine ⟨⟨dx, q, f, k, p, qs, s3 _ _ (nw h1) h1, s3 _ _ (nw h2) h2, ⟨h3.len, fun j b w hb hw => s3 _ _ (nw (h3.at_ j b w hb hw)) (h3.at_ j b w hb hw)⟩, s3 _ _ (nw h4) h4, s3 _ _ (nw h5) h5, s3 _ _ (nw h6) h6⟩, hv, l100⟩
      have fo : r.fo = ("top" : Str) ∨ (r.fo ≠ ("top" : Str) ∧ r.fo ∈ names (rs.take i)) := by
        by_cases e : r.fo = ("top" : Str)
        · exact .inl e
        · exact .inr ⟨e, (hv.fo hr').resolve_left e⟩
      have dg := DGet.k (k := Sum.inr r.fo) hw
      rw [valV_kvM hv d ts fo] at dg
      refine ⟨_, rfl, _, rfl, t, dx, _, rfl, s3 _ _ (nw h1) h1, noF, _, rfl, t, r.nm, rs, r, rfl, t3, ro, wd, _, rfl, dg, _, rfl, _, rfl, u, _, rfl, .inr (sqT (s3 _ _ (nw hu') hu')), rfl, flat_strs _, rfl, ?_⟩
      refine ⟨_, rfl, _, rfl, wd, _, rfl, DPut.k (k := Sum.inr r.nm) hw (small1000 (by unfold kvM kvF; rw [List.length_cons, List.length_map, List.length_take]; omega)), ?_⟩
      refine ⟨_, rfl, fun b o nb e => by rw [upd_ne nb]; exact sb b o nb e, ?_⟩
      rw [upd_same, ← kvM_more hv d ts hr', val_step hv d ts hrm]
      have e : (if false = true then !inV (.str r.nm) (ts.map V.str) else inV (.str r.nm) (ts.map V.str)) = decide (r.nm ∈ ts) := by
        rw [if_neg Bool.false_ne_true, inV_strs]
      rw [e]
      congr 3
      cases valOf rs d ts r.fo <;> cases decide (r.nm ∈ ts) <;> rfl
    · rintro σ H3 ⟨v, rfl, sb, hw⟩
      unfold names at hw
      rw [List.length_map, List.length_map, List.take_length] at hw
      exact ⟨_, rfl, hq wd H3 hwd (fun b o e => (SB.of sB).trans sb b o (nw e) e) hw⟩
end
end Ts

set_option maxRecDepth 100000
set_option maxHeartbeats 4000000
namespace Ts
open PySem L2
def Free (rs : List Row) (x : Str) : Prop := ∃ r, rowOf rs x = some r ∧ r.pr ≠ none
theorem Free.mem {rs : List Row} {x : Str} (h : Free rs x) : x ∈ names rs := by
  obtain ⟨r, e, _⟩ := h
  have e' : rs.find? (fun r => decide (r.nm = x)) = some r := e
  have e2 := List.find?_some e'
  exact List.mem_map.mpr ⟨r, List.mem_of_find?_eq_some e', of_decide_eq_true e2⟩
/-- a list or a tuple, the program's own ones too -/
def SqX (K : PySem.W.Frag) (H : Hp) (a : Addr) (xs : List V) : Prop := SqL K H a xs ∨ SqT K H a xs
theorem SqX.eq {K : PySem.W.Frag} {H H' : Hp} {a : Addr} {xs : List V} (h : SqX K H a xs) (e : H' a = H a) : SqX K H' a xs := by
  unfold SqX SqL SqT Rd at h ⊢
  rw [e]
  exact h
theorem SqX.keep {K : PySem.W.Frag} {H H' : Hp} {a : Addr} {xs : List V} (h : SqX K H a xs) (s : ∀ o, (∀ C dx fs, o ≠ HO.ins C dx fs) → H a = some o → H' a = some o) : SqX K H' a xs := by
  rcases h with ((h | ⟨o, h⟩) | h) | ((h | ⟨o, h⟩) | h)
  · exact .inl (.inl (.inl (s _ (fun _ _ _ z => by cases z) h)))
  · exact .inl (.inl (.inr ⟨o, s _ (fun _ _ _ z => by cases z) h⟩))
  · exact .inl (.inr h)
  · exact .inr (.inl (.inl (s _ (fun _ _ _ z => by cases z) h)))
  · exact .inr (.inl (.inr ⟨o, s _ (fun _ _ _ z => by cases z) h⟩))
  · exact .inr (.inr h)
theorem SqX.same {K : PySem.W.Frag} {H H' : Hp} {a : Addr} {xs : List V} (h : SqX K H a xs) (s : Same H H') : SqX K H' a xs := h.keep fun o _ e => s _ _ e
theorem SqX.sbm {K : PySem.W.Frag} {H H' : Hp} {a m C dx : Addr} {fs : List (Str × V)} {xs : List V} (h : SqX K H a xs) (hm : H m = some (.ins C dx fs)) (s : SB m H H') : SqX K H' a xs :=
  h.keep fun o no e => s _ _ (fun q => by rw [q, hm] at e; exact no _ _ _ (Option.some.inj e).symm) e
/-- x itself, a list or a tuple, in slot i -/
def iSeqX (K : PySem.W.Frag) (i : Nat) : TI := fun σ H R => ∃ (a : Addr) (xs : List V), σ[i]? = some (some (.ref a)) ∧ SqX K H a xs ∧ ∀ J, Walk J xs.length (fun H' => H' a = H a) (YAt xs) → R J H
theorem pi_seqX {X : Cx} {e tg : Expr} {i : Nat} (he : PE X e (tVar i)) : PI X tg e (iSeqX X.K i) := by
  refine ⟨fun pins s σ H R I h => ?_⟩
  obtain ⟨a, xs, e1, hq, k⟩ := h
  have sub : ∀ {H' : Hp}, H' a = H a → (SqL X.K H a xs → SqL X.K H' a xs) ∧ (SqT X.K H a xs → SqT X.K H' a xs) := fun {H'} e => by
    unfold SqL SqT Rd
    rw [e]
    exact ⟨id, id⟩
  rcases hq with hq | hq
  · exact (pi_list he).run pins s σ H R I ⟨_, e1, a, rfl, ⟨_, hq⟩, k _ (walk_list.mono (fun H' e => (sub e).1 hq) fun _ _ _ _ _ _ y => y)⟩
  · exact (pi_tup he).run pins s σ H R I ⟨_, e1, a, rfl, ⟨_, hq⟩, k _ (walk_tup.mono (fun H' e => (sub e).2 hq) fun _ _ _ _ _ _ y => y)⟩
def spCheckTurns (K : PySem.W.Frag) (C : Addr) : Sp := fun vs H Q _ => ∃ (t u : Addr) (xs : List Str) (rs : List Row), vs = [.ref t, .ref u] ∧ TreeAt C H t rs ∧ SqX K H u (xs.map V.str) ∧ (∀ x ∈ xs, Free rs x) ∧ Q .non H
def mf (t u k : Addr) (d : Bool) : List (Str × V) := putF "known" (.ref k) (putF "turns" (.ref u) (putF "default" (.bl d) (putF "tree" (.ref t) [])))
/-- the turned boxes, in the tree's order -/
def turnsL (rs : List Row) (xs : List Str) : List Str := (names rs).filter fun z => decide (z ∈ xs)
theorem turnsL_norm (rs : List Row) (xs : List Str) : turnsL rs xs = turnsL rs (turnsL rs xs) := by
  unfold turnsL
  refine List.filter_congr fun z hz => ?_
  by_cases e : z ∈ xs
  · simp [e, hz]
  · simp [e]
structure MeanAt (C CM : Addr) (H : Hp) (m t : Addr) (rs : List Row) (d : Bool) (ts : List Str) : Prop where
  ex : ∃ (dx u k : Addr), H m = some (.ins CM dx (mf t u k d)) ∧ H u = some (.tup (ts.map V.str)) ∧ H k = some (.dK (kvM rs d ts rs))
  tree : TreeAt C H t rs
  norm : ts = turnsL rs ts
theorem MeanAt.sub {C CM : Addr} {H : Hp} {m t : Addr} {rs : List Row} {d : Bool} {ts : List Str} (h : MeanAt C CM H m t rs d ts) : ∀ x ∈ ts, x ∈ names rs := fun x hx => by
  rw [h.norm] at hx
  exact (List.mem_filter.mp hx).1
theorem MeanAt.len {C CM : Addr} {H : Hp} {m t : Addr} {rs : List Row} {d : Bool} {ts : List Str} (h : MeanAt C CM H m t rs d ts) : ts.length ≤ 100 := by
  rw [h.norm]
  unfold turnsL names
  have h1 := List.length_filter_le (fun z => decide (z ∈ ts)) (rs.map (·.nm))
  have h2 := h.tree.len
  rw [List.length_map] at h1
  omega
theorem MeanAt.same {C CM : Addr} {H H' : Hp} {m t : Addr} {rs : List Row} {d : Bool} {ts : List Str} (h : MeanAt C CM H m t rs d ts) (s : Same H H') : MeanAt C CM H' m t rs d ts := by
  obtain ⟨dx, u, k, h1, h2, h3⟩ := h.ex
  exact ⟨⟨dx, u, k, s _ _ h1, s _ _ h2, s _ _ h3⟩, h.tree.same s, h.norm⟩
structure TxM (K : PySem.W.Frag) (mg : Str → Option Value) (CM : Addr) : Prop where
  cl : Cls K CM
  nt : NoAttr K CM "tree"
  nd : NoAttr K CM "default"
  nu : NoAttr K CM "turns"
  nk : NoAttr K CM "known"
  g : mg "Meaning" = some (.ref CM)
def spMeaningInit (K : PySem.W.Frag) (C CM : Addr) : Sp := fun vs H Q _ => ∃ (m dx t h : Addr) (d : Bool) (xs : List Str) (rs : List Row), vs = [.ref m, .ref t, .bl d, .ref h] ∧ H m = some (.ins CM dx []) ∧ TreeAt C H t rs ∧ SqX K H h (xs.map V.str) ∧ (∀ x ∈ xs, Free rs x) ∧
  ∀ H', SB m H H' → MeanAt C CM H' m t rs d (turnsL rs xs) → Q .non H'
section
variable {P : Program} {w : World} {K : PySem.W.Frag} {mg : Str → Option Value} {base : Heap} {C CM : Addr}
abbrev nCheckTurns : List Str := ["tree", "turns", "box"]
theorem sc_check_turns : FnScope nCheckTurns ["tree", "turns"] (defScope s_check_turns) := ⟨rfl, rfl, rfl, by decide +kernel, rfl, by decide +kernel, by decide +kernel⟩
theorem ok_check_turns (D : DefAt K mg "check_turns" s_check_turns ["tree", "turns"]) (Db : DefAt K mg "check_box" s_check_box ["tree", "thing"]) (Gb : FnOk P w K mg base CX0 3 Db.f Db.fd ["tree", "thing"] (spBox C)) (T : TxT K mg C)
    (mP : MethAt K C "price" "Tree.price" s_Tree_price ["self", "box"]) (GP : FnOk P w K mg base CX0 4 mP.f mP.fd ["self", "box"] (spGet C fun r => prV r.pr)) : FnOk P w K mg base CX0 5 D.f D.fd ["tree", "turns"] (spCheckTurns K C) := by
  refine D.F.ok sc_check_turns (fun vs H Q E h => ?_) (fun cdv A outer s H vs Q E hr h => ?_)
  · obtain ⟨t, u, xs, rs, rfl, _⟩ := h
    rfl
  · obtain ⟨t, u, xs, rs, rfl, ht, hx, hfree, hq⟩ := h
    have hr2 : Room 3 _ := hr.mono (by decide)
    obtain ⟨dx, q, f, k, p, qs, h1, h2, h3, h4, h5, h6⟩ := id ht.ex
    have noP : (tf q f k p).lookup ("price" : Str) = none := tf_no _ _ _ _ (by decide +kernel) (by decide +kernel) (by decide +kernel) (by decide +kernel)
    refine ⟨_, pss_cons (ps_for PassesOwn.never rfl (pi_seqX (i := 1) (pv 1)) (pg_name (i := 2) sc_check_turns.nd rfl (.inl rfl))
        (pss_one (ps_expr (pe_call Gb hr2 rfl Db.g Db.F.kp Db.b .nil pass0 (pa_cons (pv 0) (pa_cons (pv 2) pa_nil))))))
      (pss_one (ps_for PassesOwn.never rfl (pi_seqX (i := 1) (pv 1)) (pg_name (i := 2) sc_check_turns.nd rfl (.inl rfl))
        (pss_one (ps_if (pt_cmpR op_isN (pe_meth (pv 0) T.cl mP.m GP hr mP.b .nil pass0 (pa_cons (pv 2) pa_nil)) pe_non (nomark _)) (pss_one ps_never) pss_nil)))), ?_⟩
    have at_ : ∀ {i : Nat} {x : V}, (xs.map V.str)[i]? = some x → ∃ z, x = .str z ∧ Free rs z := fun {i x} hx => by
      rw [List.getElem?_map] at hx
      obtain ⟨z, hz, rfl⟩ := Option.map_eq_some_iff.mp hx
      exact ⟨z, rfl, hfree z (List.mem_of_getElem? hz)⟩
    refine ⟨u, _, rfl, hx, fun J W => ?_⟩
    refine for_it W (fun i σ H' => ∃ v : Option V, σ = [some (.ref t), some (.ref u), v] ∧ H' = H) ⟨none, rfl, rfl⟩ (fun i σ H' _ ⟨_, _, e⟩ => by rw [e]) ?_ ?_
    · rintro i x σ H2 H3 hi ⟨v, rfl, rfl⟩ ⟨rfl, hxi⟩
      obtain ⟨z, rfl, hz⟩ := at_ hxi
      exact ⟨_, rfl, _, rfl, t, z, rs, rfl, ht, hz.mem, _, rfl, rfl⟩
    rintro σ H2 ⟨v, rfl, rfl⟩
    refine ⟨u, _, rfl, hx, fun J W => ?_⟩
    refine for_it W (fun i σ H' => ∃ v : Option V, σ = [some (.ref t), some (.ref u), v] ∧ H' = H2) ⟨v, rfl, rfl⟩ (fun i σ H' _ ⟨_, _, e⟩ => by rw [e]) ?_ ?_
    · rintro i x σ H3 H4 hi ⟨v, rfl, rfl⟩ ⟨rfl, hxi⟩
      obtain ⟨z, rfl, r, hr', hp⟩ := at_ hxi
      refine ⟨_, rfl, t, dx, _, rfl, h1, noP, _, rfl, t, z, rs, r, rfl, ht, hr', ?_⟩
      have e2 : decide ((fun r : Row => prV r.pr) r = V.non) = false := by
        cases e : r.pr with
        | none => exact absurd e hp
        | some i => show decide (prV r.pr = V.non) = false; rw [e]; exact decide_eq_false (fun h => by cases h)
      refine ⟨rfl, _, rfl, ?_⟩
      rw [e2]
      exact iteF ⟨_, rfl, rfl⟩
    · rintro σ H3 ⟨v, rfl, rfl⟩
      exact hq
end
end Ts

set_option maxRecDepth 100000
set_option maxHeartbeats 4000000
namespace Ts
open PySem L2
theorem mtd_ : ¬ (("tree" : Str) = "default") := by decide +kernel
theorem mtu_ : ¬ (("tree" : Str) = "turns") := by decide +kernel
theorem mtk_ : ¬ (("tree" : Str) = "known") := by decide +kernel
theorem mdu_ : ¬ (("default" : Str) = "turns") := by decide +kernel
theorem mdk_ : ¬ (("default" : Str) = "known") := by decide +kernel
theorem muk_ : ¬ (("turns" : Str) = "known") := by decide +kernel
theorem mf_t (t u k : Addr) (d : Bool) : (mf t u k d).lookup ("tree" : Str) = some (.ref t) := by
  unfold mf
  rw [lookup_putF, if_neg mtk_, lookup_putF, if_neg mtu_, lookup_putF, if_neg mtd_, lookup_putF, if_pos rfl]
theorem mf_d (t u k : Addr) (d : Bool) : (mf t u k d).lookup ("default" : Str) = some (.bl d) := by
  unfold mf
  rw [lookup_putF, if_neg mdk_, lookup_putF, if_neg mdu_, lookup_putF, if_pos rfl]
theorem mf_u (t u k : Addr) (d : Bool) : (mf t u k d).lookup ("turns" : Str) = some (.ref u) := by
  unfold mf
  rw [lookup_putF, if_neg muk_, lookup_putF, if_pos rfl]
theorem mf_k (t u k : Addr) (d : Bool) : (mf t u k d).lookup ("known" : Str) = some (.ref k) := by
  unfold mf
  rw [lookup_putF, if_pos rfl]
theorem mf_no (t u k : Addr) (d : Bool) {m : Str} (h1 : ¬ m = "tree") (h2 : ¬ m = "default") (h3 : ¬ m = "turns") (h4 : ¬ m = "known") : (mf t u k d).lookup m = none := by
  unfold mf
  rw [lookup_putF, if_neg h4, lookup_putF, if_neg h3, lookup_putF, if_neg h2, lookup_putF, if_neg h1]
  rfl
theorem turns_more {rs : List Row} {i : Nat} {r : Row} (h : rs[i]? = some r) (xs : List Str) : (names (rs.take (i + 1))).filter (fun z => decide (z ∈ xs)) = (names (rs.take i)).filter (fun z => decide (z ∈ xs)) ++ (if decide (r.nm ∈ xs) = true then [r.nm] else []) := by
  unfold names
  rw [take_more h, List.map_append, List.filter_append]
  by_cases e : r.nm ∈ xs
  · simp [e]
  · simp [e]
theorem TreeAt.sbm {C CM : Addr} {H H' : Hp} {t m dx : Addr} {rs : List Row} (h : TreeAt C H t rs) (hm : H m = some (.ins CM dx [])) (s : SB m H H') : TreeAt C H' t rs := by
  obtain ⟨tx, q, f, k, p, qs, h1, h2, h3, h4, h5, h6⟩ := h.ex
  have w : ∀ {b : Addr} {o : HO}, H b = some o → o ≠ .ins CM dx [] → H' b = some o := fun {b o} e1 no => s b o (fun eb => by rw [eb, hm] at e1; exact no (Option.some.inj e1).symm) e1
  refine ⟨⟨tx, q, f, k, p, qs, w h1 (fun e => ?_), w h2 (fun h => by cases h), ⟨h3.len, fun i b r hb hr => w (h3.at_ i b r hb hr) (fun h => by cases h)⟩, w h4 (fun h => by cases h), w h5 (fun h => by cases h), w h6 (fun h => by cases h)⟩, h.val, h.len⟩
  injection e with _ _ e3
  have e4 := tf_p q f k p
  rw [e3] at e4
  cases e4
/-- a def with defaults that lets nothing out -/
theorem okD {w : World} {P : Program} {K : PySem.W.Frag} {base : Heap} {mg : Str → Option Value} {qual x : Str} {fd : FuncData} {f : Addr} {ar : Arguments} {bo : List Stmt} {sc : Scope} {kws : List (Str × V)} {dvs : List V} {ps N : List Str} {n : Nat} {sp : Sp} (F : FunD K x qual ar bo sc dvs kws f fd) (S : FnScope N ps sc)
    (ln : ∀ vs H Q E, sp vs H Q E → vs.length = ps.length) (hb : ∀ (cdv : Value) (A : Around) (outer : List Env) (s : Shared) (H : Hp) (vs : List V) (Q : VK) (E : XK), Room n (A.deeper (PyProof.Rows.envOfC qual sc s.heap.objs.size f cdv)) → sp vs H Q E → ∃ t, PSs (cxOf CX0 P w K mg base N qual sc f cdv A outer s H E).nox bo t ∧ t { nx := fun _ H' => Q .non H', rt := Q } (start N vs) H) :
    FnOk P w K mg base CX0 (n + 1) f fd ps sp := by
  refine F.ok S ln fun cdv A outer s H vs Q E r hsp => ?_
  obtain ⟨t, h, q⟩ := hb cdv A outer s H vs Q E r hsp
  exact ⟨t, h.nox, q⟩
section
variable {P : Program} {w : World} {K : PySem.W.Frag} {mg : Str → Option Value} {base : Heap} {C CM : Addr}
abbrev nMInit : List Str := ["self", "tree", "default", "turns", "box"]
theorem sc_M_init : FnScope nMInit ["self", "tree", "default", "turns"] (defScope s_Meaning_init) := ⟨rfl, rfl, rfl, by decide +kernel, rfl, by decide +kernel, by decide +kernel⟩
theorem ok_M_init {f : Addr} {fd : FuncData} {dvs : List V} (F : FunD K "__init__" "Meaning.__init__" (defArgs s_Meaning_init) (defBody s_Meaning_init) (defScope s_Meaning_init) dvs [] f fd) (B : TxB mg) (TC : TxC K mg) (T : TxT K mg C) (M : TxM K mg CM)
    (Dc : DefAt K mg "check_turns" s_check_turns ["tree", "turns"]) (Gc : FnOk P w K mg base CX0 5 Dc.f Dc.fd ["tree", "turns"] (spCheckTurns K C))
    (Dv : DefAt K mg "values_of" s_values_of ["tree", "default", "turns"]) (Gv : FnOk P w K mg base CX0 6 Dv.f Dv.fd ["tree", "default", "turns"] (spValues C))
    (mB : MethAt K C "below" "Tree.below" s_Tree_below ["self", "box"]) (GB : FnOk P w K mg base CX0 5 mB.f mB.fd ["self", "box"] (spListOf C belowL)) :
    FnOk P w K mg base CX0 7 f fd ["self", "tree", "default", "turns"] (spMeaningInit K C CM) := by
  obtain ⟨t1, gT⟩ := TC.top
  refine okD F sc_M_init (fun vs H Q E h => ?_) (fun cdv A outer s H vs Q E hr h => ?_)
  · obtain ⟨m, dx, t, h, d, xs, rs, rfl, _⟩ := h
    rfl
  · obtain ⟨m, dx, t, h, d, xs, rs, rfl, hm, ht, hx, hfree, hq⟩ := h
    have hr4 : Room 5 _ := hr.mono (by decide)
    refine ⟨_, pss_cons (ps_if (pt_not (pt_val (pe_callB call_isi (by rfl) B.isinstance (by decide +kernel) (pa_cons (pv 2) (pa_cons (pe_bltn (by rfl) B.bool (by decide +kernel) (v := .ty "bool") rfl) pa_nil))))) (pss_one ps_never) pss_nil)
      (pss_cons (ps_expr (pe_call Gc hr4 rfl Dc.g Dc.F.kp Dc.b .nil pass0 (pa_cons (pv 1) (pa_cons (pv 3) pa_nil))))
      (pss_cons (ps_fld (pv 0) (pv 1) rfl)
      (pss_cons (ps_fld (pv 0) (pv 2) rfl)
      (pss_cons (ps_fld (pv 0) (pe_callTy call_tuple_of (by rfl) B.tuple (by decide +kernel) (pa_cons (pe_lc (own := [("box", 4)]) (g := gName 4) (tt := tTest (tOp (rIn K false) (tVar 4) (tVar 3))) (te := tVar 4) rfl sc_M_init.nd (pi_list (pe_meth (pv 1) T.cl mB.m GB hr4 mB.b .nil pass0 (pa_cons (pe_glob (by rfl) gT (v := .str ("top" : Str)) ⟨_, rfl⟩) pa_nil))) (blkOk_by (N := nMInit) (sc := defScope s_Meaning_init) (by decide +kernel))
          (fun _ _ _ _ _ => pg_name (i := 4) sc_M_init.nd rfl (Or.inl rfl)) (fun _ _ _ _ _ => by exact pts_one (pt_cmpR op_in_seq (pv 4) (pv 3) (by rfl))) (fun _ _ _ _ _ => pv 4)) pa_nil)) rfl)
      (pss_one (ps_fld (pv 0) (pe_call Gv hr rfl Dv.g Dv.F.kp Dv.b .nil pass0 (pa_cons (pv 1) (pa_cons (pv 2) (pa_cons (pe_fld (pv 0) rfl) pa_nil)))) rfl)))))), ?_⟩
    have hv := ht.val
    have l100 := ht.len
    obtain ⟨tx, q, f, k, p, qs, h1, _⟩ := id ht.ex
    have noB : (tf q f k p).lookup ("below" : Str) = none := tf_no _ _ _ _ (by decide +kernel) (by decide +kernel) (by decide +kernel) (by decide +kernel)
    refine ⟨_, rfl, _, _, _, _, true, rfl, .ty "bool", .base (.bl d), kit_ty (by decide +kernel), _, rfl, iteF ?_⟩
    refine ⟨_, rfl, _, rfl, t, h, xs, rs, rfl, ht, hx, hfree, ?_⟩
    refine ⟨_, rfl, _, rfl, m, CM, dx, _, rfl, hm, M.cl, M.nt, (by show 0 < 1000; decide), ?_⟩
    refine ⟨_, rfl, _, rfl, m, CM, dx, _, rfl, upd_same, M.cl, M.nd, (Nat.lt_of_le_of_lt (putF_len _ _ _) (by decide)), ?_⟩
    obtain ⟨Hb, Eb⟩ : ∃ Hx, Hx = upd (upd H m (.ins CM dx (putF "tree" (.ref t) []))) m (.ins CM dx (putF "default" (.bl d) (putF "tree" (.ref t) []))) := ⟨_, rfl⟩
    have bm : Hb m = some (.ins CM dx (putF "default" (.bl d) (putF "tree" (.ref t) []))) := by rw [Eb]; exact upd_same
    have sb : SB m H Hb := fun b o nb e => by rw [Eb, upd_ne nb, upd_ne nb]; exact e
    rw [← Eb]
    clear Eb
    have tb := ht.sbm hm sb
    have hxb : SqX K Hb h (xs.map V.str) := hx.sbm hm sb
    have htm : Hb t = some (.ins C tx (tf q f k p)) := by
      refine sb _ _ (fun e => ?_) h1
      rw [e, hm] at h1
      have e3 := Option.some.inj h1
      injection e3 with _ _ e3
      have e4 := tf_p q f k p
      rw [← e3] at e4
      cases e4
    refine ⟨_, rfl, t, tx, _, rfl, htm, noB, t, ("top" : Str), rs, rfl, tb, .inl rfl, fun bl H2 hbl s2 e2 => ?_⟩
    rw [below_top hv] at e2
    refine ⟨bl, rfl, ⟨_, SqL.of e2⟩, fun D hD => ?_⟩
    have hx2 := hxb.same s2
    refine lc_list (K := K) (a := bl) (xs := (names rs).map V.str) (fun i H' => Same H2 H' ∧ H' D = some (.lst (((names (rs.take i)).filter (fun z => decide (z ∈ xs))).map V.str))) ⟨Same.new hD, upd_same⟩ (fun i H' _ m => m.1.seq (SqL.of e2)) ?_ ?_
    · rintro i x H3 hxi ⟨s3, hD3⟩
      unfold names at hxi
      rw [List.getElem?_map, List.getElem?_map] at hxi
      obtain ⟨n1, hn1, rfl⟩ := Option.map_eq_some_iff.mp hxi
      obtain ⟨r, hr', rfl⟩ := Option.map_eq_some_iff.mp hn1
      have sz : (((names (rs.take i)).filter (fun z => decide (z ∈ xs))).map V.str).length < sizeLine := small1000 (by
        rw [List.length_map]
        have h1 := List.length_filter_le (fun z => decide (z ∈ xs)) (names (rs.take i))
        unfold names at h1 ⊢
        rw [List.length_map, List.length_take] at h1
        omega)
      refine ⟨rfl, _, rfl, _, rfl, h, _, rfl, (hx2.same s3), rfl, flat_strs _, _, rfl, ?_⟩
      have e : (if false = true then !inV (.str r.nm) (xs.map V.str) else inV (.str r.nm) (xs.map V.str)) = decide (r.nm ∈ xs) := by
        rw [if_neg Bool.false_ne_true, inV_strs]
      rw [e]
      refine ite2 (fun hc => ?_) (fun hc => ?_)
      · refine ⟨_, rfl, _, hD3, sz, fun b o eb => ?_, ?_⟩
        · rw [upd_ne (fun y => by rw [y, hD] at eb; cases eb)]
          exact s3 _ _ eb
        · rw [upd_same, turns_more hr', if_pos hc, List.map_append]; rfl
      · refine ⟨s3, ?_⟩
        rw [turns_more hr', if_neg hc, List.append_nil]
        exact hD3
    rintro H3 ⟨s3, hD3⟩
    rw [show ((names rs).map V.str).length = rs.length from by unfold names; rw [List.length_map, List.length_map], List.take_length] at hD3
    refine ⟨D, _, rfl, .inl ⟨SqL.of hD3, fun u hu => ?_⟩⟩
    have s4 := (s2.trans s3).trans (Same.new (o := .tup ((turnsL rs xs).map V.str)) hu)
    have e4 : (upd H3 u (.tup ((turnsL rs xs).map V.str))) u = some (.tup ((turnsL rs xs).map V.str)) := upd_same
    have e4' : (upd H3 u (.tup (((names rs).filter (fun z => decide (z ∈ xs))).map V.str))) = upd H3 u (.tup ((turnsL rs xs).map V.str)) := rfl
    rw [e4']
    have num : u ≠ m := fun e => by rw [e, (s2.trans s3) _ _ bm] at hu; cases hu
    generalize upd H3 u (.tup ((turnsL rs xs).map V.str)) = H4 at s4 e4
    refine ⟨_, rfl, m, CM, dx, _, rfl, s4 _ _ bm, M.cl, M.nu, (Nat.lt_of_le_of_lt (Nat.le_trans (putF_len _ _ _) (Nat.succ_le_succ (putF_len _ _ _))) (by decide)), ?_⟩
    obtain ⟨H5, E5⟩ : ∃ Hx, Hx = upd H4 m (.ins CM dx (putF "turns" (.ref u) (putF "default" (.bl d) (putF "tree" (.ref t) [])))) := ⟨_, rfl⟩
    have m5 : H5 m = some (.ins CM dx (putF "turns" (.ref u) (putF "default" (.bl d) (putF "tree" (.ref t) [])))) := by rw [E5]; exact upd_same
    have sb5 : SB m H H5 := fun b o nb e => by rw [E5, upd_ne nb]; exact s4 _ _ (sb b o nb e)
    have u5 : H5 u = some (.tup ((turnsL rs xs).map V.str)) := by rw [E5, upd_ne num]; exact e4
    rw [← E5]
    clear E5
    refine ⟨_, rfl, _, rfl, _, rfl, m, CM, dx, _, _, rfl, m5, M.cl, M.nu, (by rw [lookup_putF, if_pos rfl]), t, u, d, turnsL rs xs, rs, rfl, ht.sbm hm sb5, u5, fun kd H6 hkd s6 e6 => ?_⟩
    refine ⟨_, rfl, m, CM, dx, _, rfl, s6 _ _ m5, M.cl, M.nk, (Nat.lt_of_le_of_lt (Nat.le_trans (putF_len _ _ _) (Nat.succ_le_succ (Nat.le_trans (putF_len _ _ _) (Nat.succ_le_succ (putF_len _ _ _))))) (by decide)), ?_⟩
    have sb7 : SB m H (upd H6 m (.ins CM dx (mf t u kd d))) := fun b o nb e => by rw [upd_ne nb]; exact s6 _ _ (sb5 b o nb e)
    have nkm : kd ≠ m := fun e => by rw [e, m5] at hkd; cases hkd
    exact hq _ sb7 ⟨⟨dx, u, kd, upd_same, by rw [upd_ne num]; exact s6 _ _ u5, by rw [upd_ne nkm]; exact e6⟩, ht.sbm hm sb7, turnsL_norm rs xs⟩
end
end Ts

set_option maxRecDepth 100000
set_option maxHeartbeats 4000000
namespace Ts
open PySem L2
def spMValue (C CM : Addr) : Sp := fun vs H Q _ => ∃ (m t : Addr) (z : Str) (rs : List Row) (d : Bool) (ts : List Str), vs = [.ref m, .str z] ∧ MeanAt C CM H m t rs d ts ∧ (z = ("top" : Str) ∨ z ∈ names rs) ∧ Q (.bl (valOf rs d ts z)) H
def spMLen (C CM : Addr) : Sp := fun vs H Q _ => ∃ (m t : Addr) (rs : List Row) (d : Bool) (ts : List Str), vs = [.ref m] ∧ MeanAt C CM H m t rs d ts ∧ ts.length ≤ 1000 ∧ Q (.int ts.length) H
/-- what the turned boxes cost -/
def costOf (rs : List Row) (ts : List Str) : List Int := ts.map fun z => (((rowOf rs z).bind (·.pr)).getD 0)
def spMPrice (C CM : Addr) : Sp := fun vs H Q _ => ∃ (m t : Addr) (rs : List Row) (d : Bool) (ts : List Str), vs = [.ref m] ∧ MeanAt C CM H m t rs d ts ∧ ts.length ≤ 1000 ∧ (∀ z ∈ ts, Free rs z) ∧ ∀ H', Same H H' → Q (.int (costOf rs ts).sum) H'
section
variable {P : Program} {w : World} {K : PySem.W.Frag} {mg : Str → Option Value} {base : Heap} {C CM : Addr}
theorem sc_M_len : FnScope ["self"] ["self"] (defScope s_Meaning_len) := ⟨rfl, rfl, rfl, by decide +kernel, rfl, by decide +kernel, by decide +kernel⟩
theorem ok_M_len {f : Addr} {fd : FuncData} (F : Fun K "__len__" "Meaning.__len__" s_Meaning_len f fd) (B : TxB mg) (M : TxM K mg CM) : FnOk P w K mg base CX0 2 f fd ["self"] (spMLen C CM) := by
  refine F.ok sc_M_len (fun vs H Q E h => ?_) (fun cdv A outer s H vs Q E hr h => ?_)
  · obtain ⟨m, t, rs, d, ts, rfl, _⟩ := h
    rfl
  · obtain ⟨m, t, rs, d, ts, rfl, hm, hl, hq⟩ := h
    obtain ⟨dx, u, k, h1, h2, h3⟩ := hm.ex
    refine ⟨_, pss_one (ps_ret (pe_callB call_len_seq (by rfl) B.len PySem.boot_len (pa_cons (pe_fld (pv 0) rfl) pa_nil))), ?_⟩
    refine ⟨_, rfl, m, CM, dx, _, _, rfl, h1, M.cl, M.nu, mf_u _ _ _ _, u, _, rfl, .inr (sqT h2), ?_⟩
    rw [List.length_map]
    exact hq
end
end Ts

set_option maxRecDepth 100000
set_option maxHeartbeats 4000000
namespace Ts
open PySem L2
def spMStates (C CM : Addr) : Sp := fun vs H Q _ => ∃ (m t : Addr) (rs : List Row) (d : Bool) (ts : List Str), vs = [.ref m] ∧ MeanAt C CM H m t rs d ts ∧ ∀ D, H D = none → Q (.ref D) (upd H D (.dK (kvM rs d ts rs)))
section
variable {P : Program} {w : World} {K : PySem.W.Frag} {mg : Str → Option Value} {base : Heap} {C CM : Addr}
theorem sc_M_states : FnScope ["self"] ["self"] (defScope s_Meaning_states) := ⟨rfl, rfl, rfl, by decide +kernel, rfl, by decide +kernel, by decide +kernel⟩
theorem ok_M_states {f : Addr} {fd : FuncData} (F : Fun K "states" "Meaning.states" s_Meaning_states f fd) (B : TxB mg) (M : TxM K mg CM) : FnOk P w K mg base CX0 2 f fd ["self"] (spMStates C CM) := by
  refine F.ok sc_M_states (fun vs H Q E h => ?_) (fun cdv A outer s H vs Q E hr h => ?_)
  · obtain ⟨m, t, rs, d, ts, rfl, _⟩ := h
    rfl
  · obtain ⟨m, t, rs, d, ts, rfl, hm, hq⟩ := h
    obtain ⟨dx, u, k, h1, h2, h3⟩ := hm.ex
    refine ⟨_, pss_one (ps_ret (pe_callTy (T := "dict") call_dictD (by rfl) B.dict (by decide +kernel) (pa_cons (pe_fld (pv 0) rfl) pa_nil))), ?_⟩
    exact ⟨_, rfl, m, CM, dx, _, _, rfl, h1, M.cl, M.nk, mf_k _ _ _ _, k, _, rfl, .inl h3, fun D hD => hq D hD⟩
abbrev nMPrice : List Str := ["self", "box"]
theorem sc_M_price : FnScope nMPrice ["self"] (defScope s_Meaning_price) := ⟨rfl, rfl, rfl, by decide +kernel, rfl, by decide +kernel, by decide +kernel⟩
theorem ok_M_price {f : Addr} {fd : FuncData} (F : Fun K "price" "Meaning.price" s_Meaning_price f fd) (hB : mg "sum" = none) (T : TxT K mg C) (M : TxM K mg CM)
    (mP : MethAt K C "price" "Tree.price" s_Tree_price ["self", "box"]) (GP : FnOk P w K mg base CX0 4 mP.f mP.fd ["self", "box"] (spGet C fun r => prV r.pr)) : FnOk P w K mg base CX0 5 f fd ["self"] (spMPrice C CM) := by
  refine F.ok sc_M_price (fun vs H Q E h => ?_) (fun cdv A outer s H vs Q E hr h => ?_)
  · obtain ⟨m, t, rs, d, ts, rfl, _⟩ := h
    rfl
  · obtain ⟨m, t, rs, d, ts, rfl, hm, hl, hfree, hq⟩ := h
    obtain ⟨dx, u, k, h1, h2, h3⟩ := hm.ex
    obtain ⟨tx, q, f, kk, p, qs, t1, _⟩ := id hm.tree.ex
    have noP : (tf q f kk p).lookup ("price" : Str) = none := tf_no _ _ _ _ (by decide +kernel) (by decide +kernel) (by decide +kernel) (by decide +kernel)
    refine ⟨_, pss_one (ps_ret (pe_callB (cr_sum rfl) (by rfl) hB (by decide +kernel) (pa_cons (pe_lc (own := [("box", 1)]) (g := gName 1) (tt := tYes) (te := tMeth C "price" (spGet C fun r => prV r.pr) [] E0 (tFld K (tVar 0) "tree") (tCons (tVar 1) tNil)) rfl sc_M_price.nd (pi_tup (pe_fld (pv 0) rfl)) (blkOk_by (N := nMPrice) (sc := defScope s_Meaning_price) (by decide +kernel))
        (fun _ _ _ _ _ => pg_name (i := 1) sc_M_price.nd rfl (Or.inl rfl)) (fun _ _ _ _ _ => pts_nil) (fun _ _ _ _ _ => by exact pe_meth (pe_fld (pv 0) rfl) T.cl mP.m GP hr mP.b .nil pass0 (pa_cons (pv 1) pa_nil))) pa_nil))), ?_⟩
    refine ⟨_, rfl, m, CM, dx, _, _, rfl, h1, M.cl, M.nu, mf_u _ _ _ _, u, rfl, ⟨_, sqT h2⟩, fun D hD => ?_⟩
    refine lc_tup (K := K) (a := u) (xs := ts.map V.str) (fun i H' => Same H H' ∧ H' D = some (.lst ((costOf rs (ts.take i)).map V.int))) ⟨Same.new hD, upd_same⟩ (fun i H' _ m => sqT (m.1 _ _ h2)) ?_ ?_
    · rintro i x H2 hx ⟨s2, hD2⟩
      rw [List.getElem?_map] at hx
      obtain ⟨z, hz, rfl⟩ := Option.map_eq_some_iff.mp hx
      obtain ⟨r, hr', hp⟩ := hfree z (List.mem_of_getElem? hz)
      obtain ⟨c, hc⟩ : ∃ c, r.pr = some c := Option.ne_none_iff_exists'.mp hp
      refine ⟨rfl, tYes_if ⟨_, rfl, m, CM, dx, _, _, rfl, s2 _ _ h1, M.cl, M.nt, mf_t _ _ _ _, t, tx, _, rfl, s2 _ _ t1, noP, _, rfl, t, z, rs, r, rfl, hm.tree.same s2, hr', _, hD2, small1000 (by unfold costOf; rw [List.length_map, List.length_map, List.length_take]; omega), fun b o eb => ?_, ?_⟩⟩
      · rw [upd_ne (fun y => by rw [y, hD] at eb; cases eb)]
        exact s2 _ _ eb
      · have e : prV r.pr = .int c := by rw [hc]; rfl
        rw [upd_same, take_more hz]
        unfold costOf
        rw [List.map_append, List.map_append]
        show some (HO.lst (_ ++ [prV r.pr])) = some (HO.lst (_ ++ [V.int (((rowOf rs z).bind (·.pr)).getD 0)]))
        rw [e, hr']
        show _ = some (HO.lst (_ ++ [V.int (r.pr.getD 0)]))
        rw [hc]; rfl
    · rintro H2 ⟨s2, hD2⟩
      rw [List.length_map, List.take_length] at hD2
      exact ⟨D, _, rfl, SqL.of hD2, hq H2 s2⟩
end
end Ts

set_option maxRecDepth 100000
set_option maxHeartbeats 4000000
namespace Ts
open PySem L2
/-! ### lists of texts as data -/
theorem strs_dpAll {K : PySem.W.Frag} {H : Hp} : ∀ l : List Str, DpAll K H (l.map V.str) (l.map PyData.str)
  | [] => .nil
  | x :: l => .cons (.str x) (strs_dpAll l)
theorem strs_dp {K : PySem.W.Frag} {H : Hp} {a : Addr} {l : List Str} (h : H a = some (.lst (l.map V.str))) : Dp K H (.ref a) (.list (l.map PyData.str)) := .lst (SqL.of h) (strs_dpAll l)
theorem strs_eqv : ∀ a b : List Str, PyData.eqvAll (a.map PyData.str) (b.map PyData.str) = decide (a = b)
  | [], [] => by simp [PyData.eqvAll]
  | [], _ :: _ => by simp [PyData.eqvAll]
  | _ :: _, [] => by simp [PyData.eqvAll]
  | x :: a, y :: b => by
    simp only [List.map_cons, PyData.eqvAll, PyData.eqv, str_beq, strs_eqv a b]
    by_cases h1 : x = y <;> by_cases h2 : a = b <;> simp [h1, h2]
theorem strs_same (l : List Str) : PyData.eqv (.list (l.map PyData.str)) (.list (l.map PyData.str)) = true := by
  simp only [PyData.eqv]
  rw [strs_eqv]
  exact decide_eq_true rfl
theorem strs_lay : ∀ l : List Str, (∀ x ∈ l, PyData.strOk x = true) → PyData.canLayAll0 (l.map PyData.str) = true
  | [], _ => by simp [PyData.canLayAll0]
  | x :: l, h => by
    simp only [List.map_cons, PyData.canLayAll0, PyData.canLay0, h x (List.mem_cons_self ..), strs_lay l (fun q hq => h q (List.mem_cons_of_mem _ hq)), Bool.and_self]
theorem strs_depth : ∀ l : List Str, PyData.depthAll (l.map PyData.str) = 0
  | [] => by simp [PyData.depthAll]
  | x :: l => by simp only [List.map_cons, PyData.depthAll, PyData.depth, strs_depth l]; rfl
theorem shaped_strs {l : List Str} (h : ∀ x ∈ l, PyData.strOk x = true) : SeqAt.shaped (.list (l.map PyData.str)) = true := by
  unfold SeqAt.shaped
  rw [Bool.and_eq_true]
  refine ⟨by simp only [PyData.canLay0]; exact strs_lay l h, decide_eq_true ?_⟩
  simp only [PyData.depth, strs_depth]
  omega
theorem names_ok {rs : List Row} (h : Valid rs) : ∀ x ∈ names rs, PyData.strOk x = true := fun x hx => by
  obtain ⟨r, hr, rfl⟩ := List.mem_map.mp hx
  exact (h.ok r hr).n
theorem inside_ok {rs : List Row} (h : Valid rs) (z : Str) : ∀ x ∈ insideL rs z, PyData.strOk x = true := fun x hx => by
  obtain ⟨r, hr, rfl⟩ := List.mem_map.mp hx
  exact (h.ok r (List.mem_filter.mp hr).1).n
theorem below_ok {rs : List Row} (h : Valid rs) (z : Str) : ∀ x ∈ belowL rs z, PyData.strOk x = true := fun x hx => by
  obtain ⟨r, hr, rfl⟩ := List.mem_map.mp hx
  exact (h.ok r (List.mem_filter.mp hr).1).n
theorem lst_same {rs : List Row} : PyData.eqv (.list (rs.map rowD)) (.list (rs.map rowD)) = true := by
  simp only [PyData.eqv]
  rw [rows_eqv]
  exact decide_eq_true rfl
def told (r : Row) : PyData := .tuple [.str r.fo, .str r.ki, prD r.pr]
theorem told_same (r : Row) : PyData.eqv (told r) (told r) = true := by
  simp [told, PyData.eqv, PyData.eqvAll, prD_eqv]
theorem told_shaped {r : Row} (h : RowOk r) : SeqAt.shaped (told r) = true := by
  obtain ⟨h1, h2, h3⟩ := h
  obtain ⟨n, f, k, p⟩ := r
  unfold SeqAt.shaped
  cases p <;> simp_all [told, prD, PyData.canLay0, PyData.canLayAll0, PyData.depth, PyData.depthAll]
end Ts

set_option maxRecDepth 100000
set_option maxHeartbeats 4000000
namespace Ts
open PySem L2
theorem shaped_strsT {l : List Str} (h : ∀ x ∈ l, PyData.strOk x = true) : SeqAt.shaped (.tuple (l.map PyData.str)) = true := by
  unfold SeqAt.shaped
  rw [Bool.and_eq_true]
  refine ⟨by simp only [PyData.canLay0]; exact strs_lay l h, decide_eq_true ?_⟩
  simp only [PyData.depth, strs_depth]
  omega
theorem nfM {K : PySem.W.Frag} {C : Addr} : PySem.W.notFirst K C (.ref C) = true := by simp [PySem.W.notFirst]
theorem MeanAt.ok {C CM : Addr} {H : Hp} {m t : Addr} {rs : List Row} {d : Bool} {ts : List Str} (h : MeanAt C CM H m t rs d ts) : ∀ x ∈ ts, PyData.strOk x = true := fun x hx => names_ok h.tree.val x (h.sub x hx)
def spMEq (K : PySem.W.Frag) (C CM : Addr) : Sp := fun vs H Q _ => ∃ (m t : Addr) (x : V) (rs : List Row) (d : Bool) (ts : List Str), vs = [.ref m, x] ∧ MeanAt C CM H m t rs d ts ∧
  ((∃ (m2 t2 : Addr) (rs2 : List Row) (d2 : Bool) (ts2 : List Str), x = .ref m2 ∧ MeanAt C CM H m2 t2 rs2 d2 ts2 ∧ Q (.bl (decide (rs = rs2) && (decide (d = d2) && decide (ts = ts2)))) H) ∨ (Other K H x (.ref CM) ∧ Q (.bl false) H))
def spMContains (K : PySem.W.Frag) (C CM : Addr) : Sp := fun vs H Q _ => ∃ (m t : Addr) (x : V) (rs : List Row) (d : Bool) (ts : List Str), vs = [.ref m, x] ∧ MeanAt C CM H m t rs d ts ∧
  ((∃ z : Str, x = .str z ∧ Q (.bl (decide (z = ("top" : Str) ∨ z ∈ names rs) && valOf rs d ts z)) H) ∨ (Other K H x (.type "str") ∧ Q (.bl false) H))
section
variable {P : Program} {w : World} {K : PySem.W.Frag} {mg : Str → Option Value} {base : Heap} {C CM : Addr}
theorem sc_M_eq : FnScope ["self", "other"] ["self", "other"] (defScope s_Meaning_eq) := ⟨rfl, rfl, rfl, by decide +kernel, rfl, by decide +kernel, by decide +kernel⟩
theorem ok_M_eq {f : Addr} {fd : FuncData} (F : Fun K "__eq__" "Meaning.__eq__" s_Meaning_eq f fd) (B : TxB mg) (M : TxM K mg CM) (I : C8.InsC K CM)
    (mE : MethAt K C "__eq__" "Tree.__eq__" s_Tree_eq ["self", "other"]) (GE : FnOk P w K mg base CX0 2 mE.f mE.fd ["self", "other"] (spEqT K C)) : FnOk P w K mg base CX0 3 f fd ["self", "other"] (spMEq K C CM) := by
  refine F.ok sc_M_eq (fun vs H Q E h => ?_) (fun cdv A outer s H vs Q E hr h => ?_)
  · obtain ⟨m, t, x, rs, d, ts, rfl, _⟩ := h
    rfl
  · obtain ⟨m, t, x, rs, d, ts, rfl, hm, h⟩ := h
    obtain ⟨dx, u, k, h1, h2, h3⟩ := hm.ex
    refine ⟨_, pss_one (ps_ret (pe_and (pe_callB call_isi (by rfl) B.isinstance (by decide +kernel) (pa_cons (pv 1) (pa_cons (pe_glob (by rfl) M.g (v := .ref CM) rfl) pa_nil)))
      (pe_and (pe_cmpR (op_eqC GE mE.m hr mE.b pass0) (pe_fld (pv 0) rfl) (pe_fld (pv 1) rfl) (nomark _))
      (pe_and (pe_cmpR op_eq (pe_fld (pv 0) rfl) (pe_fld (pv 1) rfl) (nomark _))
      (pe_one (pe_cmpR (op_eqD (by have := hr.units; exact this)) (pe_fld (pv 0) rfl) (pe_fld (pv 1) rfl) (nomark _))))))), ?_⟩
    rcases h with ⟨m2, t2, rs2, d2, ts2, rfl, hm2, hq⟩ | ⟨⟨ty, hty, hk⟩, hq⟩
    · obtain ⟨dx', u', k', g1, g2, g3⟩ := hm2.ex
      obtain ⟨tx, _, _, _, _, _, t1, _⟩ := id hm.tree.ex
      obtain ⟨tx2, _, _, _, _, _, t3, _⟩ := id hm2.tree.ex
      refine ⟨_, rfl, _, _, _, _, true, rfl, .own CM, .base (.ins g1 I.cl I.ha I.hn I.htk I.hm), I.me, _, rfl, iteT ?_⟩
      refine ⟨_, rfl, m, CM, dx, _, _, rfl, h1, M.cl, M.nt, mf_t _ _ _ _, _, rfl, m2, CM, dx', _, _, rfl, g1, M.cl, M.nt, mf_t _ _ _ _, t, tx, _, .ref C, rfl, t1, .ins t3, nfM, t, .ref t2, rs, rfl, hm.tree, .inl ⟨t2, rs2, rfl, hm2.tree, ?_⟩⟩
      refine ⟨_, rfl, _, rfl, ?_⟩
      refine ite2 (fun hc => ?_) (fun hc => ?_)
      · have e1 : decide (rs = rs2) = true := hc
        rw [e1, Bool.true_and] at hq
        refine ⟨_, rfl, m, CM, dx, _, _, rfl, h1, M.cl, M.nd, mf_d _ _ _ _, _, rfl, m2, CM, dx', _, _, rfl, g1, M.cl, M.nd, mf_d _ _ _ _, rfl, _, rfl, ?_⟩
        have e2 : decide (V.bl d = V.bl d2) = decide (d = d2) := by cases d <;> cases d2 <;> rfl
        rw [e2]
        refine ite2 (fun hd => ?_) (fun hd => ?_)
        · rw [hd, Bool.true_and] at hq
          refine ⟨_, rfl, m, CM, dx, _, _, rfl, h1, M.cl, M.nu, mf_u _ _ _ _, _, rfl, m2, CM, dx', _, _, rfl, g1, M.cl, M.nu, mf_u _ _ _ _, _, _, .tup (sqT h2) (strs_dpAll ts), .tup (sqT g2) (strs_dpAll ts2), shaped_strsT hm.ok, shaped_strsT hm2.ok, ?_⟩
          have e3 : PyData.eqv (.tuple (ts.map PyData.str)) (.tuple (ts2.map PyData.str)) = decide (ts = ts2) := by
            simp only [PyData.eqv]
            exact strs_eqv ts ts2
          rw [e3]
          exact hq
        · have e3 : decide (d = d2) = false := by simpa using hd
          rw [e3, Bool.false_and] at hq
          exact hq
      · have e1 : decide (rs = rs2) = false := by simpa using hc
        rw [e1, Bool.false_and] at hq
        exact hq
    · exact ⟨_, rfl, _, _, _, _, false, rfl, .own CM, hty, hk, _, rfl, iteF hq⟩
theorem sc_M_contains : FnScope ["self", "x"] ["self", "x"] (defScope s_Meaning_contains) := ⟨rfl, rfl, rfl, by decide +kernel, rfl, by decide +kernel, by decide +kernel⟩
theorem ok_M_contains {f : Addr} {fd : FuncData} (F : Fun K "__contains__" "Meaning.__contains__" s_Meaning_contains f fd) (B : TxB mg) (M : TxM K mg CM) : FnOk P w K mg base CX0 2 f fd ["self", "x"] (spMContains K C CM) := by
  refine F.ok sc_M_contains (fun vs H Q E h => ?_) (fun cdv A outer s H vs Q E hr h => ?_)
  · obtain ⟨m, t, x, rs, d, ts, rfl, _⟩ := h
    rfl
  · obtain ⟨m, t, x, rs, d, ts, rfl, hm, h⟩ := h
    have hu := hu_of hr
    obtain ⟨dx, u, k, h1, h2, h3⟩ := hm.ex
    refine ⟨_, pss_one (ps_ret (pe_and (pe_callB call_isi (by rfl) B.isinstance (by decide +kernel) (pa_cons (pv 1) (pa_cons (pe_bltn (by rfl) B.str (by decide +kernel) (v := .ty "str") rfl) pa_nil))) (pe_one (pe_dget2 hu (pe_fld (pv 0) rfl) (pv 1) pe_bl (by constructor <;> intros <;> rfl))))), ?_⟩
    rcases h with ⟨z, rfl, hq⟩ | ⟨⟨ty, hty, hk⟩, hq⟩
    · refine ⟨_, rfl, _, _, _, _, true, rfl, .ty "str", .base (.str z), kit_ty (by decide +kernel), _, rfl, iteT ?_⟩
      have dg := DGet.k (k := Sum.inr z) h3
      refine ⟨_, rfl, m, CM, dx, _, _, rfl, h1, M.cl, M.nk, mf_k _ _ _ _, k, rfl, .inl ⟨_, .inl h3⟩, _, rfl, _, dg, ?_⟩
      by_cases e : z = ("top" : Str) ∨ z ∈ names rs
      · rw [valV_kvM hm.tree.val d ts (by
          by_cases e1 : z = ("top" : Str)
          · exact .inl e1
          · exact .inr ⟨e1, e.resolve_left e1⟩)]
        rw [decide_eq_true e, Bool.true_and] at hq
        exact hq
      · have en : valV (kvM rs d ts rs) (.inr z : Key) = none := by
          show valV ((.inr ("top" : Str), .bl d) :: kvF (fun r => .bl (valOf rs d ts r.nm)) rs) (.inr z : Key) = none
          rw [valV_neg (fun q => e (.inl (Sum.inr.inj q).symm)), valV_kvF, find_none (fun h => e (.inr h))]; rfl
        rw [en]
        rw [decide_eq_false e, Bool.false_and] at hq
        exact hq
    · exact ⟨_, rfl, _, _, _, _, false, rfl, .ty "str", hty, hk, _, rfl, iteF hq⟩
end
end Ts

set_option maxRecDepth 100000
set_option maxHeartbeats 4000000
namespace Ts
open PySem L2
/-! ### iter(tuple), and a walk over an object whose `__iter__` hands it on -/
/-- at it an iterator over the tuple at l, at its start -/
def ItT (l it : Addr) : HO := .ext fun h => h.IsTupleIter it l 0
theorem itT_ok {P : Program} {w : World} {H : Hp} {h : Heap} {l it : Addr} (e : h.IsTupleIter it l 0) : ObjOk P w H h it (ItT l it) := by
  obtain ⟨o, ho, hc, hd⟩ := id e
  exact ⟨e, ⟨o, ho⟩, fun g1 g2 q kk => by obtain ⟨o2, ho2, r2⟩ := q; exact ⟨o2, kk _ ho2, r2⟩⟩
def rIterT (K : PySem.W.Frag) (n : Nat) : List V → Hp → VK → Prop := fun xs H Q => ∃ (l : Addr) (zs : List V), xs = [.ref l] ∧ SqT K H l zs ∧ ∀ it, H it = Option.none → n ≤ it → Q (.ref it) (upd H it (ItT l it))
section
variable {X : Cx}
theorem call_iterT : CallR X (.builtin "iter") (rIterT X.K X.s_0.heap.objs.size) := by
  intro pins s σ H xs us Q I r hh
  obtain ⟨l, zs, rfl, hsq, hQ⟩ := hh
  obtain ⟨u, rfl, ru⟩ := vals1 r
  cases ru
  obtain ⟨its, rv, pl, hz⟩ := I.tuple hsq
  have ht : s.heap.IsTuple l its.toArray := pl
  refine Calls.call_function_entry (by decide +kernel) (by decide +kernel) PySem.W.kdk_entry_iter (PySem.W.kdk_args_iter _) ?_; unfold Builtin.«iter»
  refine wpAny_bind (m := someArgs "iter" 1 2 _) (wpAny_of_eq (a := [Value.ref l]) (by first | rfl | kernel_rfl!) ?_); show wpAny _ _ (pyIter (.ref l) >>= _) _ _ _
  refine wpAny_bind (wpAny_pyIter_tuple ht (wpAny_pure ⟨_, rfl, ?_⟩))
  exact ⟨.ref s.heap.objs.size, _, I.laid (t' := s.toks) (fun b u e => Heap.get?_push_of_some _ e) (Nat.le_refl _) (itT_ok ⟨_, Heap.get?_push_size _ rfl, rfl, rfl⟩), rfl, hQ _ (I.hok.fresh (Nat.le_refl _)) I.sz⟩
end
/-- a def that may say how young its answer is: sp knows the size of the memory at the call -/
def FnY (P : Program) (w : World) (K : PySem.W.Frag) (mg : Str → Option Value) (base : Heap) (CX : CXT) (k : Nat) (f : Addr) (ps : List Str) (sp : Nat → Sp) : Prop :=
  (∀ n vs H Q E, sp n vs H Q E → vs.length = ps.length) ∧ ∀ (A : Around) (outer : List Env) (s : Shared) (H : Hp) (us : List Value) (vs : List V) (Q : VK) (E : XK), Room k A → Env0 P w K mg base A outer s H → Vals vs us → sp s.heap.objs.size vs H Q E →
    codeAny (model P w) A (.call (.ref f) ⟨us, []⟩) (CR CX outer P w H s Q E) s
theorem fn_young {CX : CXT} {P : Program} {w : World} {K : PySem.W.Frag} {mg : Str → Option Value} {base : Heap} {k : Nat} {f : Addr} {fd : FuncData} {x qual : Str} {st : Stmt} {N ps : List Str} {sp : Nat → Sp} (F : Fun K x qual st f fd) (S : FnScope N ps (defScope st)) (bd : Binds K fd ps [])
    (len : ∀ n vs H Q E, sp n vs H Q E → vs.length = ps.length)
    (body : ∀ (cdv : Value) (A : Around) (outer : List Env) (s : Shared) (H : Hp) (vs : List V) (Q : VK) (E : XK), Room k (A.deeper (PyProof.Rows.envOfC qual (defScope st) s.heap.objs.size f cdv)) → sp s.heap.objs.size vs H Q E →
      ∃ t, PSs (cxOf CX P w K mg base N qual (defScope st) f cdv A outer s H E) (defBody st) t ∧ t { nx := fun _ H' => Q .non H', rt := Q } (start N vs) H) : FnY P w K mg base CX (k + 1) f ps sp := by
  refine ⟨len, fun A outer s H us vs Q E rm en rv want => ?_⟩
  obtain ⟨oc, od, kV, doc, pm, an, cdv, ct, osl, rfl, look, code⟩ := F.ex
  have lv := len _ _ _ _ _ want
  have KI : K.In s.heap := en.mod.kin.keeps fun b o hb => (en.bs b o hb).1
  have nolim : s.heap.NoLimit := en.mod.nolimit.keeps fun b o hb => (en.bs b o hb).1
  have kinds : ∀ z ∈ ps.zip us, (defScope st).names.lookup z.1 = some .local ∨ ((defScope st).names.lookup z.1 = some .cell ∧ ((cellsFrom (s.heap.objs.size + 1) (defScope st).names []).lookup z.1).isSome = true) := fun ⟨n, v⟩ hz => by
    rcases S.par n (List.of_mem_zip hz).1 with z1 | z1
    · exact .inl z1
    · exact .inr ⟨z1, PySem.W.cellsFrom_some _ _ _ (.inl z1)⟩
  have bt := bd s us KI (by rw [List.append_nil, ← rv.length]; exact lv)
  rw [List.append_nil] at bt
  refine codeAny_call_function rm.depth (KI _ _ look) rfl S.co S.gen rfl (PySem.W.codeRec_of KI code) (bt _ _ _ _ ?_)
  refine wpAny_newFunctionEnv_cells S.kind kinds fun e2 he2 s1 y => ?_
  subst he2
  refine ⟨nolim.keeps y.toInCall.keep, codeAny_func ?_⟩
  obtain ⟨t, tm, tq⟩ := body cdv A outer s H vs Q E (rm.deeper _) want
  have J : Inv (cxOf CX P w K mg base N qual (defScope st) f cdv A outer s H E) [] (start N vs) H s1 := inv_start S rm.hd en lv rv y
  refine wpAny_mono (tm.run [] s1 (start N vs) H _ J tq) (fun fl s2 hs => ?_) fun e3 s2 hs => hs
  have close : ∀ {σ2 : St} {H2 : Hp} {v : V} {u : Value}, Inv (cxOf CX P w K mg base N qual (defScope st) f cdv A outer s H E) [] σ2 H2 s2 → RelV v u → Q v H2 → CE outer P w H s Q u s2 := fun {σ2 H2 v u} J2 r2 q2 => ⟨v, H2, J2.os, J2.bare, J2.base, J2.hok, r2, q2⟩
  cases fl with
  | ret u => obtain ⟨v, σ2, H2, J2, r2, q2⟩ := hs; exact close J2 r2 q2
  | next => obtain ⟨σ2, H2, J2, q2⟩ := hs; exact close (v := V.non) (u := Value.none) J2 rfl q2
  | brk => obtain ⟨_, _, _, q2⟩ := hs; exact False.elim q2
  | cont => obtain ⟨_, _, _, q2⟩ := hs; exact False.elim q2
/-- what such an `__iter__` promises: an iterator over a tuple -/
def spIterT (K : PySem.W.Frag) (C : Addr) (fld : Str) : Nat → Sp := fun n vs H Q _ => ∃ (a dx l : Addr) (fs : List (Str × V)) (zs : List V), vs = [.ref a] ∧ H a = some (.ins C dx fs) ∧ fs.lookup fld = some (.ref l) ∧ SqT K H l zs ∧ ∀ it, H it = Option.none → n ≤ it → Q (.ref it) (upd H it (ItT l it))
def iOwnT (K : PySem.W.Frag) (C : Addr) (fld : Str) (t : TE) : TI := fun σ H R => t σ H fun x H1 => ∃ (a dx l : Addr) (fs : List (Str × V)), x = .ref a ∧ H1 a = some (.ins C dx fs) ∧ fs.lookup fld = some (.ref l) ∧ (∃ zs, SqT K H1 l zs) ∧ R (Itt K l) H1
theorem itT_at {X : Cx} {pins : List (Addr × Obj)} {σ : L2.St} {H : Hp} {s : Shared} {l it : Addr} (I : Inv X pins σ H s) (e : H it = some (ItT l it)) : s.heap.IsTupleIter it l 0 := (I.hok it _ e).1
section
variable {X : Cx} {tg e : Expr} {t : TE} {C f : Addr} {fld : Str} {k : Nat} {ps : List Str}
theorem pi_ownT (he : PE X e t) (F : FnY X.prog X.w X.K X.mg X.base CX0 k f ps (spIterT X.K C fld)) (m : Meth X.K C "__iter__" f) (hr : Room k X.A) : PI X tg e (iOwnT X.K C fld t) := by
  refine ⟨fun pins s σ H R I h => ?_⟩
  refine thn (he.run pins s σ H _ I h) fun v s1 ⟨x, H1, I1, r1, a, dx, l, fs, ex, ha, hf, ⟨zs, hz⟩, q⟩ => ?_
  subst ex
  cases r1
  obtain ⟨mA, J, _⟩ := ins_get I1.hok ha
  obtain ⟨od, J, _⟩ := J.look
  obtain ⟨mm, hF⟩ := I1.fr
  refine PySem.W.owit_iter hF I1.ok.mod.kin J m.at_ m.fn ?_
  refine wpAny_call (codeAny_mono (F.2 X.A X.stack s1 H1 [.ref a] [.ref a] (fun v H2 => ∃ it, v = .ref it ∧ H1 it = Option.none ∧ s1.heap.objs.size ≤ it ∧ H2 = upd H1 it (ItT l it)) E0 hr I1.env0 (.cons (show RelV (.ref a) (.ref a) from rfl) .nil) ⟨a, dx, l, fs, zs, rfl, ha, hf, hz, fun it h0 hn => ⟨it, rfl, h0, hn, rfl⟩⟩) fun r s' hq => ?_)
  cases r with
  | error e => exact hq.elim
  | ok fl =>
    cases fl with
    | next => exact hq.elim
    | brk => exact hq.elim
    | cont => exact hq.elim
    | ret u =>
      obtain ⟨v2, H2, I2, r2, it, ev, h0, hn, eH⟩ := I1.after hq
      subst ev
      subst eH
      cases r2
      have ti := itT_at I2 upd_same
      have I3 : Inv X pins σ (ItX.dropH (upd H1 it (ItT l it)) it) s' := ItX.inv_drop I2 (φ := fun h => h.IsTupleIter it l 0) upd_same
      have fp := ItX.inv_fp I2 upd_same (Nat.le_trans I1.sz hn)
      rw [ItX.dropH_upd h0] at I3 fp
      have fin : PIE X pins σ tg R (.ref it) s' := ⟨it, [it], _, _, H1, rfl, I3, turn_tuple l it, ti, fun b hb => by
        have eb : b = it := by simpa using hb
        rw [eb]; exact fp, q⟩
      exact wpAny_specialOf (name := "__next__") ti.typeIs PySem.F.slot_tuple_iterator_next.lookup fin
end
end Ts

set_option maxRecDepth 100000
set_option maxHeartbeats 4000000
namespace Ts
open PySem L2
/-! ### what a newcomer is worth -/
theorem wayOf_last (rs : List Row) (q : Row) : wayOf (rs ++ [q]) q.nm = wayOf rs q.fo ++ [q.nm] := by
  unfold wayOf
  rw [List.reverse_append]
  show (if q.nm = q.nm then wayR rs.reverse q.fo ++ [q.nm] else wayR rs.reverse q.nm) = _
  rw [if_pos rfl]
theorem wayOf_skip (rs : List Row) (q : Row) {z : Str} (h : q.nm ≠ z) : wayOf (rs ++ [q]) z = wayOf rs z := by
  unfold wayOf
  rw [List.reverse_append]
  show (if q.nm = z then wayR rs.reverse q.fo ++ [z] else wayR rs.reverse z) = _
  rw [if_neg h]
theorem turned_congr {ts us : List Str} : ∀ (l : List Str) (d : Bool), (∀ x ∈ l, x ∈ ts ↔ x ∈ us) → turned d ts l = turned d us l
  | [], _, _ => rfl
  | x :: l, d, h => by
    show turned (if x ∈ ts then !d else d) ts l = turned (if x ∈ us then !d else d) us l
    have e : (if x ∈ ts then !d else d) = (if x ∈ us then !d else d) := by
      by_cases hx : x ∈ ts
      · rw [if_pos hx, if_pos ((h x (List.mem_cons_self ..)).mp hx)]
      · rw [if_neg hx, if_neg fun q => hx ((h x (List.mem_cons_self ..)).mpr q)]
    rw [e]
    exact turned_congr l _ fun y hy => h y (List.mem_cons_of_mem _ hy)
theorem valOf_congr {rs : List Row} {d : Bool} {ts us : List Str} {z : Str} (h : ∀ x ∈ names rs, x ∈ ts ↔ x ∈ us) : valOf rs d ts z = valOf rs d us z :=
  turned_congr _ _ fun x hx => h x (way_mem hx)
theorem mem_turnsL {rs : List Row} {xs : List Str} {x : Str} : x ∈ turnsL rs xs ↔ x ∈ names rs ∧ x ∈ xs := by
  unfold turnsL
  rw [List.mem_filter, decide_eq_true_eq]
theorem names_app (rs qs : List Row) : names (rs ++ qs) = names rs ++ names qs := List.map_append
theorem val_newc {rs : List Row} {q : Row} (d : Bool) {ts : List Str} (h : q.nm ∉ ts) : valOf (rs ++ [q]) d (turnsL (rs ++ [q]) ts) q.nm = valOf rs d ts q.fo := by
  unfold valOf
  rw [wayOf_last, turned_snoc, if_neg fun e => h (mem_turnsL.mp e).2]
  refine turned_congr _ _ fun x hx => ?_
  rw [mem_turnsL, names_app]
  exact ⟨fun e => e.2, fun e => ⟨List.mem_append.mpr (.inl (way_mem hx)), e⟩⟩
theorem filter_of_sub {l : List Str} : ∀ {s : List Str}, s.Sublist l → l.Nodup → l.filter (fun z => decide (z ∈ s)) = s := by
  intro s h
  induction h with
  | slnil => intro _; rfl
  | cons a h ih =>
    intro nd
    rw [List.nodup_cons] at nd
    rw [List.filter_cons_of_neg (by
      rw [decide_eq_true_eq]
      exact fun e => nd.1 (h.subset e))]
    exact ih nd.2
  | cons_cons a h ih =>
    rename_i l1 l2
    intro nd
    rw [List.nodup_cons] at nd
    rw [List.filter_cons_of_pos (by rw [decide_eq_true_eq]; exact List.mem_cons_self ..)]
    have e : l2.filter (fun z => decide (z ∈ a :: l1)) = l2.filter (fun z => decide (z ∈ l1)) := by
      refine List.filter_congr fun z hz => ?_
      have ne : z ≠ a := fun e => nd.1 (e ▸ hz)
      simp [ne]
    rw [e, ih nd.2]
theorem Valid.nodup {rs : List Row} (h : Valid rs) : (names rs).Nodup := by
  unfold names
  rw [List.nodup_iff_pairwise_ne, List.pairwise_iff_getElem]
  intro i j hi hj hij e
  rw [List.length_map] at hi hj
  rw [List.getElem_map, List.getElem_map] at e
  refine (h j rs[j] (List.getElem?_eq_getElem hj)).new (List.mem_map.mpr ⟨rs[i], ?_, e⟩)
  exact List.mem_take_iff_getElem.mpr ⟨i, by omega, rfl⟩
theorem turnsL_sub {rs : List Row} (h : Valid rs) {ts : List Str} (s : ts.Sublist (names rs)) : turnsL rs ts = ts := filter_of_sub s h.nodup
theorem turnsL_congr {rs : List Row} {xs ys : List Str} (h : ∀ x, x ∈ xs ↔ x ∈ ys) : turnsL rs xs = turnsL rs ys := by
  unfold turnsL
  refine List.filter_congr fun z _ => ?_
  rw [decide_eq_decide]
  exact h z
/-! ### a dict of values, as data -/
def kvD (b : Str × Bool) : PyData := .tuple [.str b.1, .bool b.2]
/-- the items of the values -/
def itemsM (rs : List Row) (d : Bool) (ts : List Str) : List (Str × Bool) := (("top" : Str), d) :: rs.map fun r => (r.nm, valOf rs d ts r.nm)
theorem kvM_items (rs : List Row) (d : Bool) (ts : List Str) : kvM rs d ts rs = (itemsM rs d ts).map fun q => ((.inr q.1 : Key), V.bl q.2) := by
  unfold kvM itemsM kvF
  rw [List.map_cons, List.map_map]
  rfl
theorem items_dp {K : PySem.W.Frag} {H : Hp} : ∀ {qs : List (Str × Bool)} {ts : List Addr}, Paired (fun (t : Addr) (q : Key × V) => H t = some (.tup [kV q.1, q.2])) ts (qs.map fun q => ((.inr q.1 : Key), V.bl q.2)) → DpAll K H (ts.map V.ref) (qs.map kvD)
  | [], [], _ => .nil
  | [], _ :: _, h => by cases h
  | _ :: _, [], h => by cases h
  | q :: qs, t :: ts, h => by
    cases h with
    | cons h1 h2 => exact .cons (.tup (sqT h1) (.cons (.str _) (.cons (.bl _) .nil))) (items_dp h2)
theorem items_lay : ∀ (qs : List (Str × Bool)), (∀ q ∈ qs, PyData.strOk q.1 = true) → PyData.canLayAll0 (qs.map kvD) = true
  | [], _ => by simp [PyData.canLayAll0]
  | q :: qs, h => by
    have h1 := h q (List.mem_cons_self ..)
    simp [List.map_cons, kvD, PyData.canLayAll0, PyData.canLay0, h1, items_lay qs (fun x hx => h x (List.mem_cons_of_mem _ hx))]
theorem items_depth : ∀ (qs : List (Str × Bool)), PyData.depthAll (qs.map kvD) ≤ 1
  | [] => by simp [PyData.depthAll]
  | q :: qs => by
    have ih := items_depth qs
    simp only [List.map_cons, kvD, PyData.depthAll, PyData.depth]
    omega
theorem shaped_items {qs : List (Str × Bool)} (h : ∀ q ∈ qs, PyData.strOk q.1 = true) : SeqAt.shaped (.list (qs.map kvD)) = true := by
  have q := items_depth qs
  unfold SeqAt.shaped
  rw [Bool.and_eq_true]
  refine ⟨by simp only [PyData.canLay0]; exact items_lay qs h, decide_eq_true ?_⟩
  simp only [PyData.depth]
  omega
theorem items_ok {rs : List Row} (h : Valid rs) (d : Bool) (ts : List Str) : ∀ q ∈ itemsM rs d ts, PyData.strOk q.1 = true := by
  intro q hq
  rcases List.mem_cons.mp hq with e | hq
  · rw [e]; exact top_ok
  · obtain ⟨r, hr, rfl⟩ := List.mem_map.mp hq
    exact names_ok h _ (List.mem_map.mpr ⟨r, hr, rfl⟩)
theorem items_same : ∀ (qs : List (Str × Bool)), PyData.eqvAll (qs.map kvD) (qs.map kvD) = true
  | [] => by simp [PyData.eqvAll]
  | q :: qs => by
    simp [List.map_cons, kvD, PyData.eqvAll, PyData.eqv, items_same qs]
section
variable {P : Program} {w : World} {K : PySem.W.Frag} {mg : Str → Option Value} {base : Heap} {C CM : Addr}
theorem sc_M_iter : FnScope ["self"] ["self"] (defScope s_Meaning_iter) := ⟨rfl, rfl, rfl, by decide +kernel, rfl, by decide +kernel, by decide +kernel⟩
theorem ok_M_iter {f : Addr} {fd : FuncData} (F : Fun K "__iter__" "Meaning.__iter__" s_Meaning_iter f fd) (bd : Binds K fd ["self"] []) (hI : mg "iter" = none) (M : TxM K mg CM) : FnY P w K mg base CX0 2 f ["self"] (spIterT K CM "turns") := by
  refine fn_young F sc_M_iter bd (fun n vs H Q E h => ?_) (fun cdv A outer s H vs Q E hr h => ?_)
  · obtain ⟨a, dx, l, fs, zs, rfl, _⟩ := h
    rfl
  · obtain ⟨a, dx, l, fs, zs, rfl, ha, hf, hz, q⟩ := h
    refine ⟨_, pss_one (ps_ret (pe_callB call_iterT (by rfl) hI (by decide +kernel) (pa_cons (pe_fld (pv 0) rfl) pa_nil))), ?_⟩
    exact ⟨_, rfl, a, CM, dx, fs, _, rfl, ha, M.cl, M.nu, hf, l, zs, rfl, hz, q⟩
end
end Ts

set_option maxRecDepth 100000
set_option maxHeartbeats 4000000
namespace Ts
open PySem L2
theorem mk_same {C : Addr} {H H' : Hp} {x dx : Addr} (nx : H x = none) (nd : H dx = none) (sb : SB x (upd (upd H dx (.own x)) x (.ins C dx [])) H') : Same H H' := fun b o e =>
  sb b o (ne_of_none e nx) (by rw [upd_ne (ne_of_none e nx), upd_ne (ne_of_none e nd)]; exact e)
theorem mk_same0 {C : Addr} {H : Hp} {x dx : Addr} (nx : H x = none) (nd : H dx = none) : Same H (upd (upd H dx (.own x)) x (.ins C dx [])) := fun b o e => by
  rw [upd_ne (ne_of_none e nx), upd_ne (ne_of_none e nd)]; exact e
theorem SeqRows.snoc {H : Hp} {as : List Addr} {rs : List Row} {a : Addr} {r : Row} (h : SeqRows H as rs) (ha : H a = some (.tup (rowVs r)) ∨ H a = some (.lst (rowVs r))) : SeqRows H (as ++ [a]) (rs ++ [r]) := by
  refine ⟨by simp [h.len], fun i b q hb hq => ?_⟩
  rcases Nat.lt_or_ge i as.length with hi | hi
  · rw [List.getElem?_append_left hi] at hb
    rw [List.getElem?_append_left (h.len ▸ hi)] at hq
    exact h.at_ i b q hb hq
  · rw [List.getElem?_append_right hi] at hb
    rw [List.getElem?_append_right (h.len ▸ hi)] at hq
    have e0 : i - as.length = 0 := by
      have := (List.getElem?_eq_some_iff.mp hb).1
      simp at this
      omega
    have e1 : i - rs.length = 0 := by rw [← h.len]; exact e0
    rw [e0] at hb
    rw [e1] at hq
    simp at hb hq
    subst hb; subst hq
    exact ha
theorem SeqRows.append {H : Hp} : ∀ {bs : List Addr} {qs : List Row} {as : List Addr} {rs : List Row}, SeqRows H as rs → SeqRows H bs qs → SeqRows H (as ++ bs) (rs ++ qs)
  | [], [], as, rs, h, _ => by simpa using h
  | [], _ :: _, _, _, _, h => by have := h.len; simp at this
  | _ :: _, [], _, _, _, h => by have := h.len; simp at this
  | b :: bs, q :: qs, as, rs, h, h2 => by
    have h3 : SeqRows H bs qs := ⟨by simpa using h2.len, fun i a r ha hr => h2.at_ (i + 1) a r (by simpa using ha) (by simpa using hr)⟩
    have := SeqRows.append (h.snoc (h2.at_ 0 b q rfl rfl)) h3
    simpa using this
theorem rows_at {as : List Addr} {rs : List Row} {H : Hp} (h : RowsAt H as rs) {i : Nat} {x : V} (hx : (as.map V.ref)[i]? = some x) : ∃ ra r, x = .ref ra ∧ as[i]? = some ra ∧ rs[i]? = some r ∧ H ra = some (.tup (rowVs r)) := by
  rw [List.getElem?_map] at hx
  obtain ⟨ra, hra, rfl⟩ := Option.map_eq_some_iff.mp hx
  obtain ⟨r, hr'⟩ : ∃ r, rs[i]? = some r := ⟨rs[i]'(by rw [← h.len]; exact (List.getElem?_eq_some_iff.mp hra).1), List.getElem?_eq_getElem _⟩
  exact ⟨ra, r, rfl, hra, hr', h.at_ i ra r hra hr'⟩
theorem filter_more {rs : List Row} {i : Nat} {r : Row} (h : rs[i]? = some r) (p : Row → Bool) : (rs.take (i + 1)).filter p = (rs.take i).filter p ++ (if p r = true then [r] else []) := by
  rw [take_more h, List.filter_append]
  by_cases e : p r = true
  · rw [if_pos e, List.filter_cons_of_pos e]; rfl
  · rw [if_neg e, List.filter_cons_of_neg e]; rfl
/-- a new list that keeps some of the rows: what stands between two turns -/
structure KeepI (H0 H : Hp) (D : Addr) (qs : List Row) : Prop where
  same : Same H0 H
  ex : ∃ as : List Addr, H D = some (.lst (as.map V.ref)) ∧ RowsAt H as qs
theorem KeepI.nil {H : Hp} {D : Addr} (h : H D = none) : KeepI H (upd H D (.lst [])) D [] := ⟨Same.new h, [], upd_same, RowsAt.nil⟩
theorem KeepI.grow {H0 H H' : Hp} {D ra : Addr} {qs : List Row} {r : Row} (h : KeepI H0 H D qs) (hD : H0 D = none) (s : Same H H') (hr : H' ra = some (.tup (rowVs r))) (hl : qs.length ≤ 900) :
    ∃ acc, H' D = some (.lst acc) ∧ acc.length < sizeLine ∧ KeepI H0 (upd H' D (.lst (acc ++ [V.ref ra]))) D (qs ++ [r]) := by
  obtain ⟨as, h1, h2⟩ := h.ex
  have hD' := s _ _ h1
  have kt : ∀ {b : Addr} {xs : List V}, H' b = some (.tup xs) → (upd H' D (.lst (as.map V.ref ++ [V.ref ra]))) b = some (.tup xs) := fun {b xs} e => by
    rw [upd_ne (fun y => by rw [y, hD'] at e; cases e)]; exact e
  refine ⟨as.map V.ref, hD', small1000 (by rw [List.length_map, h2.len]; omega), fun b o e => ?_, as ++ [ra], by rw [upd_same, List.map_append]; rfl, RowsAt.snoc ⟨h2.len, fun j b q hb hq => kt (s _ _ (h2.at_ j b q hb hq))⟩ (kt hr)⟩
  rw [upd_ne (fun y => by rw [y, hD] at e; cases e)]
  exact s _ _ (h.same _ _ e)
theorem KeepI.on {H0 H H' : Hp} {D : Addr} {qs : List Row} (h : KeepI H0 H D qs) (s : Same H H') : KeepI H0 H' D qs := by
  obtain ⟨as, h1, h2⟩ := h.ex
  exact ⟨h.same.trans s, as, s _ _ h1, h2.same s⟩
def spMore (C : Addr) : Sp := fun vs H Q _ => ∃ (t a : Addr) (rs : List Row) (r : Row), vs = [.ref t, .ref a] ∧ TreeAt C H t rs ∧ Seq H a (rowVs r) ∧ Fits rs r ∧ rs.length + 1 ≤ 100 ∧ ∀ x H', Same H H' → TreeAt C H' x (rs ++ [r]) → Q (.ref x) H'
def spLess (C : Addr) : Sp := fun vs H Q _ => ∃ (t : Addr) (z : Str) (rs : List Row), vs = [.ref t, .str z] ∧ TreeAt C H t rs ∧ z ∈ names rs ∧ ∀ x H', Same H H' → TreeAt C H' x (lessL rs z) → Q (.ref x) H'
def spMoved (C : Addr) : Sp := fun vs H Q _ => ∃ (t : Addr) (m : Row) (fo : Str) (rs : List Row), vs = [.ref t, .str m.nm, .str fo] ∧ TreeAt C H t rs ∧ m ∈ rs ∧ (fo = ("top" : Str) ∨ ∃ q ∈ rs, q.nm = fo ∧ q.ki = ("folder" : Str) ∧ under rs m.nm q = false) ∧ ∀ x H', Same H H' → TreeAt C H' x (movedL rs m fo) → Q (.ref x) H'
end Ts

set_option maxRecDepth 100000
set_option maxHeartbeats 4000000
namespace Ts
open PySem L2
/-! ### making trees and meanings, as a caller reads it -/
theorem mean_made {K : PySem.W.Frag} {C CM : Addr} {Q : VK} {H : Hp} {t h : Addr} {d : Bool} {xs : List Str} {rs : List Row} (ht : TreeAt C H t rs) (hx : SqX K H h (xs.map V.str)) (hf : ∀ x ∈ xs, Free rs x)
    (k : ∀ m H', Same H H' → MeanAt C CM H' m t rs d (turnsL rs xs) → Q (.ref m) H') :
    ∀ x dx, H x = none → H dx = none → dx ≠ x → spMeaningInit K C CM (.ref x :: ([.ref t, .bl d, .ref h] ++ [])) (upd (upd H dx (.own x)) x (.ins CM dx [])) (fun v H2 => v = .non ∧ Q (.ref x) H2) E0 :=
  fun x dx nx nd _ => ⟨x, dx, t, h, d, xs, rs, rfl, upd_same, ht.same (mk_same0 nx nd), hx.same (mk_same0 nx nd), hf, fun H' sb m => ⟨rfl, k x H' (mk_same nx nd sb) m⟩⟩
theorem mean_madeD {K : PySem.W.Frag} {C CM : Addr} {Q : VK} {H : Hp} {t h : Addr} {d : Bool} {rs : List Row} (ht : TreeAt C H t rs) (hx : SqT K H h []) 
    (k : ∀ m H', Same H H' → MeanAt C CM H' m t rs d [] → Q (.ref m) H') :
    ∀ x dx, H x = none → H dx = none → dx ≠ x → spMeaningInit K C CM (.ref x :: ([.ref t, .bl d] ++ [.ref h])) (upd (upd H dx (.own x)) x (.ins CM dx [])) (fun v H2 => v = .non ∧ Q (.ref x) H2) E0 :=
  fun x dx nx nd _ => ⟨x, dx, t, h, d, [], rs, rfl, upd_same, ht.same (mk_same0 nx nd), (show SqX K H h [] from .inr hx).same (mk_same0 nx nd), (fun x hx => by cases hx), fun H' sb m => ⟨rfl, k x H' (mk_same nx nd sb) (by
    have e : turnsL rs [] = [] := by unfold turnsL; simp
    rw [e] at m
    exact m)⟩⟩
theorem tree_made {C : Addr} {Q : VK} {H : Hp} {p : Addr} {as : List Addr} {rs : List Row} (hp : Seq H p (as.map V.ref)) (hr : SeqRows H as rs) (hl : rs.length ≤ 100) (hv : Valid rs)
    (k : ∀ t H', Same H H' → TreeAt C H' t rs → Q (.ref t) H') :
    ∀ x dx, H x = none → H dx = none → dx ≠ x → spTreeInit C (.ref x :: ([.ref p] ++ [])) (upd (upd H dx (.own x)) x (.ins C dx [])) (fun v H2 => v = .non ∧ Q (.ref x) H2) E0 :=
  fun x dx nx nd _ => ⟨x, dx, p, as, rs, rfl, upd_same, hp.same (mk_same0 nx nd), hr.same (mk_same0 nx nd), hl, hv, fun H' sb m => ⟨rfl, k x H' (mk_same nx nd sb) m⟩⟩
theorem newz_len : ("newz" : Str).length = 4 := by decide +kernel
theorem newz_low : Low ("newz" : Str) := by unfold Low; decide +kernel
theorem newz_fits {rs : List Row} (hn : ∀ r ∈ rs, r.nm.length ≠ 4) {fo : Str} (hfo : fo = ("top" : Str) ∨ fo ∈ folderNames rs) : Fits rs ⟨"newz", fo, "item", some 1⟩ := by
  refine ⟨⟨.inr newz_len, newz_low⟩, fun e => ?_, fun hm => ?_, hfo.imp id mem_folders, (show ("item" : Str) ∈ kinds3 by decide +kernel), (show (1 : Int) ≤ 1 by decide)⟩
  · have := congrArg Str.length e
    rw [show (Row.nm ⟨"newz", fo, "item", some 1⟩) = ("newz" : Str) from rfl, newz_len, top_len] at this
    exact absurd this (by decide)
  · obtain ⟨r, h1, h2⟩ := List.mem_map.mp hm
    exact hn r h1 (by rw [h2]; exact newz_len)
theorem newz_not {rs : List Row} (hn : ∀ r ∈ rs, r.nm.length ≠ 4) : ("newz" : Str) ∉ names rs := fun hm => by
  obtain ⟨r, h1, h2⟩ := List.mem_map.mp hm
  exact hn r h1 (by rw [h2]; exact newz_len)
theorem rowOf_app {rs qs : List Row} {z : Str} {r : Row} (h : rowOf rs z = some r) : rowOf (rs ++ qs) z = some r := by
  unfold rowOf at h ⊢
  rw [List.find?_append, h]; rfl
theorem Free.app {rs qs : List Row} {z : Str} (h : Free rs z) : Free (rs ++ qs) z := by
  obtain ⟨r, e, hp⟩ := h
  exact ⟨r, rowOf_app e, hp⟩
end Ts

set_option maxRecDepth 100000
set_option maxHeartbeats 4000000
namespace Ts
open PySem L2
/-! ### all but lists is kept -/
def KL (H H' : Hp) : Prop := ∀ b o, H b = some o → (∀ xs, o ≠ .lst xs) → H' b = some o
theorem KL.of {H H' : Hp} (s : Same H H') : KL H H' := fun b o e _ => s b o e
theorem KL.refl (H : Hp) : KL H H := fun _ _ e _ => e
theorem KL.trans {H H1 H2 : Hp} (x : KL H H1) (y : KL H1 H2) : KL H H2 := fun b o e n => y b o (x b o e n) n
theorem KL.upd {H : Hp} {l : Addr} {xs : List V} {o : HO} (h : H l = some (.lst xs)) : KL H (L2.upd H l o) := fun b o e n => by
  rw [upd_ne (fun q => by rw [q, h] at e; exact n _ (Option.some.inj e).symm)]
  exact e
theorem RowsAt.kl {H H' : Hp} {as : List Addr} {rs : List Row} (h : RowsAt H as rs) (s : KL H H') : RowsAt H' as rs := ⟨h.len, fun i a r ha hr => s _ _ (h.at_ i a r ha hr) (fun _ e => nomatch e)⟩
theorem TreeAt.kl {C : Addr} {H H' : Hp} {t : Addr} {rs : List Row} (h : TreeAt C H t rs) (s : KL H H') : TreeAt C H' t rs := by
  obtain ⟨dx, q, f, k, p, qs, h1, h2, h3, h4, h5, h6⟩ := h.ex
  exact ⟨⟨dx, q, f, k, p, qs, s _ _ h1 (fun _ e => nomatch e), s _ _ h2 (fun _ e => nomatch e), h3.kl s, s _ _ h4 (fun _ e => nomatch e), s _ _ h5 (fun _ e => nomatch e), s _ _ h6 (fun _ e => nomatch e)⟩, h.val, h.len⟩
theorem MeanAt.kl {C CM : Addr} {H H' : Hp} {m t : Addr} {rs : List Row} {d : Bool} {ts : List Str} (h : MeanAt C CM H m t rs d ts) (s : KL H H') : MeanAt C CM H' m t rs d ts := by
  obtain ⟨dx, u, k, h1, h2, h3⟩ := h.ex
  exact ⟨⟨dx, u, k, s _ _ h1 (fun _ e => nomatch e), s _ _ h2 (fun _ e => nomatch e), s _ _ h3 (fun _ e => nomatch e)⟩, h.tree.kl s, h.norm⟩
theorem any_falses : ∀ n : Nat, (List.replicate n false).any id = false
  | 0 => rfl
  | n + 1 => by rw [List.replicate_succ, List.any_cons, any_falses n]; rfl
theorem all_trues : ∀ n : Nat, (List.replicate n true).all id = true
  | 0 => rfl
  | n + 1 => by rw [List.replicate_succ, List.all_cons, all_trues n]; rfl
theorem KL.sb {H H' : Hp} {a : Addr} {n : Int} (st : Stm H a n) (s : SB a H H') : KL H H' := fun b o e no => s b o (fun q => by
  obtain ⟨x, y, z, ea, _⟩ := st
  rw [q, ea] at e
  exact no _ (Option.some.inj e).symm) e
theorem RowsL.sbk {H H' : Hp} {a p : Addr} {rs : List Row} {n : Int} (h : RowsL H p rs) (np : p ≠ a) (st : Stm H a n) (s : SB a H H') : RowsL H' p rs := by
  obtain ⟨as, h1, h2⟩ := h.ex
  exact ⟨as, s _ _ np h1, h2.kl (KL.sb st s)⟩
theorem RowsL.upd {H : Hp} {p l : Addr} {xs : List V} {o : HO} {rs : List Row} (h : RowsL H p rs) (np : p ≠ l) (e : H l = some (.lst xs)) : RowsL (L2.upd H l o) p rs := by
  obtain ⟨as, h1, h2⟩ := h.ex
  exact ⟨as, by rw [upd_ne np]; exact h1, h2.kl (KL.upd e)⟩
theorem smb {H H1 H2 : Hp} {a : Addr} (h : Same H H1) (ha : H a = none) (s : SB a H1 H2) : Same H H2 := fun b o e => s b o (ne_of_none e ha) (h b o e)
theorem smu {H H1 : Hp} {a : Addr} {o : HO} (h : Same H H1) (ha : H a = none) : Same H (L2.upd H1 a o) := fun b o e => by
  rw [upd_ne (ne_of_none e ha)]
  exact h b o e
theorem cut_str (ts : List Str) (lo hi : Option Int) : ∃ zs : List Str, cutV (ts.map V.str) lo hi = zs.map V.str ∧ (∀ z ∈ zs, z ∈ ts) ∧ zs.length ≤ ts.length := by
  refine ⟨(ts.drop (HT.sIx (ts.map V.str).length 0 lo)).take (HT.sIx (ts.map V.str).length (ts.map V.str).length hi - HT.sIx (ts.map V.str).length 0 lo), ?_, fun z hz => List.mem_of_mem_drop (List.mem_of_mem_take hz), ?_⟩
  · unfold cutV
    rw [← List.map_drop, ← List.map_take]
  · rw [List.length_take, List.length_drop]; omega
theorem prices_ok : ∀ q ∈ pricesL, PriceOk q := by
  intro q hq
  simp [pricesL] at hq
  rcases hq with rfl | rfl | rfl | rfl | rfl <;> simp [PriceOk]
theorem kinds_ok3 : ∀ k ∈ kindsL, k ∈ kinds3 := by decide +kernel
theorem paired_same {H H' : Hp} (s : Same H H') : ∀ {ts : List Addr} {qs : List (Key × V)}, Paired (fun (t : Addr) (q : Key × V) => H t = some (.tup [kV q.1, q.2])) ts qs → Paired (fun (t : Addr) (q : Key × V) => H' t = some (.tup [kV q.1, q.2])) ts qs
  | _, _, .nil => .nil
  | _, _, .cons h t => .cons (s _ _ h) (paired_same s t)
theorem iteF' {c : Bool} {A B : Prop} (h : c = false) (b : B) : if c = true then A else B := by rw [h]; exact b
theorem kvM_at {rs : List Row} {d : Bool} {ts : List Str} {j : Nat} {k : Key} {v : V} (h : (kvM rs d ts rs)[j]? = some (k, v)) : ∃ z : Str, k = .inr z ∧ (z = ("top" : Str) ∨ z ∈ names rs) := by
  have hm := List.mem_of_getElem? h
  unfold kvM at hm
  rcases List.mem_cons.mp hm with e | hm
  · exact ⟨"top", (Prod.mk.inj e).1, .inl rfl⟩
  · unfold kvF at hm
    obtain ⟨r, hr, e⟩ := List.mem_map.mp hm
    exact ⟨r.nm, (Prod.mk.inj e).1.symm, .inr (List.mem_map.mpr ⟨r, hr, rfl⟩)⟩
theorem valV_kvM' {rs : List Row} (h : Valid rs) (d : Bool) (ts : List Str) {z : Str} (hz : z = ("top" : Str) ∨ z ∈ names rs) : valV (kvM rs d ts rs) (.inr z : Key) = some (.bl (valOf rs d ts z)) :=
  valV_kvM h d ts (by
    by_cases e : z = ("top" : Str)
    · exact .inl e
    · exact .inr ⟨e, hz.resolve_left e⟩)
def spLaw (K : PySem.W.Frag) : Sp := fun vs H Q _ => ∃ (a : Addr) (ns : List Int), vs = [.ref a] ∧ SqL K H a (ns.map V.int) ∧ ns.length ≤ 63 ∧ ∀ H', Q (.bl true) H'
/-- how the class of trees stands to other sorts -/
structure TxN (K : PySem.W.Frag) (C : Addr) : Prop where
  ne : PySem.W.findIn K (.ref C) "__ne__" = some (some (.builtin "object.__ne__"))
  ob : PySem.W.subIn K (.ref C) (.type "object") = some true
theorem nfC {K : PySem.W.Frag} {C : Addr} : PySem.W.notFirst K C (.ref C) = true := by simp [PySem.W.notFirst]
end Ts

set_option maxRecDepth 100000
set_option maxHeartbeats 4000000
namespace Ts
open PySem L2
/-! ### two meanings of one tree -/
/-- the top and the boxes -/
def plc (rs : List Row) : List Str := ("top" : Str) :: names rs
theorem val_all {rs : List Row} (hv : Valid rs) {d d2 : Bool} {ts us : List Str} (h1 : turnsL rs ts = ts) (h2 : turnsL rs us = us) : (∀ z ∈ plc rs, valOf rs d ts z = valOf rs d2 us z) ↔ (d = d2 ∧ ts = us) := by
  constructor
  · intro h
    have hd : d = d2 := by
      have := h ("top" : Str) (List.mem_cons_self ..)
      rw [val_top hv, val_top hv] at this
      exact this
    refine ⟨hd, ?_⟩
    rw [← h1, ← h2]
    unfold turnsL
    refine List.filter_congr fun z hz => ?_
    obtain ⟨r, hr, rfl⟩ := List.mem_map.mp hz
    have e1 := h r.nm (List.mem_cons_of_mem _ hz)
    have e2 := h r.fo (by
      rcases hv.foAll hr with e | e
      · rw [e]; exact List.mem_cons_self ..
      · exact List.mem_cons_of_mem _ e)
    rw [val_step hv d ts hr, val_step hv d2 us hr, e2] at e1
    revert e1
    generalize valOf rs d2 us r.fo = b
    generalize decide (r.nm ∈ ts) = x
    generalize decide (r.nm ∈ us) = y
    cases b <;> cases x <;> cases y <;> simp
  · rintro ⟨rfl, rfl⟩ z _
    rfl
theorem val_norm {rs : List Row} (d : Bool) (us : List Str) (z : Str) : valOf rs d (turnsL rs us) z = valOf rs d us z :=
  valOf_congr fun x hx => by rw [mem_turnsL]; exact ⟨fun e => e.2, fun e => ⟨hx, e⟩⟩
def firstUn (rs : List Row) (d : Bool) (ts : List Str) (d2 : Bool) (us : List Str) : Option Str := (plc rs).find? fun z => decide (valOf rs d ts z ≠ valOf rs d2 us z)
def optS : Option Str → V
  | none => .non
  | some z => .str z
theorem find_at {α : Type} {p : α → Bool} : ∀ {l : List α} {i : Nat} {z : α}, (∀ x ∈ l.take i, p x = false) → l[i]? = some z → p z = true → l.find? p = some z
  | [], i, z, _, h, _ => by simp at h
  | x :: l, 0, z, _, h, hp => by
    have e : x = z := Option.some.inj h
    subst e
    rw [List.find?_cons_of_pos hp]
  | x :: l, i + 1, z, hx, h, hp => by
    have h0 := hx x (by rw [List.take_succ_cons]; exact List.mem_cons_self ..)
    rw [List.find?_cons_of_neg (by rw [h0]; exact Bool.false_ne_true)]
    exact find_at (fun y hy => hx y (by rw [List.take_succ_cons]; exact List.mem_cons_of_mem _ hy)) (by simpa using h) hp
theorem kvM_plc {rs : List Row} {d : Bool} {ts : List Str} {j : Nat} {k : Key} {v : V} (h : (kvM rs d ts rs)[j]? = some (k, v)) : ∃ z : Str, k = .inr z ∧ (plc rs)[j]? = some z := by
  have e : (kvM rs d ts rs).map Prod.fst = (plc rs).map Sum.inr := by
    unfold kvM plc names kvF
    rw [List.map_cons, List.map_cons, List.map_map, List.map_map]
    rfl
  have e2 : ((kvM rs d ts rs).map Prod.fst)[j]? = some k := by rw [List.getElem?_map, h]; rfl
  rw [e, List.getElem?_map] at e2
  obtain ⟨z, hz, e3⟩ := Option.map_eq_some_iff.mp e2
  exact ⟨z, e3.symm, hz⟩
theorem kvM_len (rs : List Row) (d : Bool) (ts : List Str) : (kvM rs d ts rs).length = (plc rs).length := by
  unfold kvM plc names kvF
  simp
theorem mem_plc {rs : List Row} {z : Str} : z ∈ plc rs ↔ z = ("top" : Str) ∨ z ∈ names rs := List.mem_cons
/-! ### two sorted lists of the same texts -/
theorem ltCps_irr : ∀ l : List Nat, PySem.Spec.ltCps l l = false
  | [] => rfl
  | a :: l => by simp [PySem.Spec.ltCps, ltCps_irr l]
theorem ltCps_total : ∀ (a b : List Nat), PySem.Spec.ltCps a b = false → PySem.Spec.ltCps b a = false → a = b
  | [], [], _, _ => rfl
  | [], _ :: _, h, _ => by simp [PySem.Spec.ltCps] at h
  | _ :: _, [], _, h => by simp [PySem.Spec.ltCps] at h
  | x :: a, y :: b, h1, h2 => by
    simp only [PySem.Spec.ltCps, Bool.or_eq_false_iff, decide_eq_false_iff_not, Bool.and_eq_false_iff, beq_eq_false_iff_ne] at h1 h2
    have e : x = y := by omega
    subst e
    rw [ltCps_total a b (h1.2.resolve_left (by simp)) (h2.2.resolve_left (by simp))]
theorem geCps_trans : ∀ (a b c : List Nat), PySem.Spec.ltCps b a = false → PySem.Spec.ltCps c b = false → PySem.Spec.ltCps c a = false
  | [], [], [], _, _ => rfl
  | [], _, _ :: _, _, _ => by simp [PySem.Spec.ltCps]
  | [], _ :: _, [], _, h => by simp [PySem.Spec.ltCps] at h
  | _ :: _, [], _, h, _ => by simp [PySem.Spec.ltCps] at h
  | _ :: _, _ :: _, [], _, h => by simp [PySem.Spec.ltCps] at h
  | x :: a, y :: b, z :: c, h1, h2 => by
    simp only [PySem.Spec.ltCps, Bool.or_eq_false_iff, decide_eq_false_iff_not, Bool.and_eq_false_iff, beq_eq_false_iff_ne] at h1 h2 ⊢
    refine ⟨by omega, ?_⟩
    by_cases e : z = x
    · right
      have e1 : y = x := by omega
      have e2 : z = y := by omega
      exact geCps_trans a b c (h1.2.resolve_left (by simp [e1])) (h2.2.resolve_left (by simp [e2]))
    · left; exact e
theorem pw_of_rising : ∀ (l : List Str) (p : Str), PyProof.Rows.risingS p l = true → (p :: l).Pairwise fun a b => PySem.Spec.ltCps b.cps.toList a.cps.toList = false
  | [], p, _ => by simp
  | x :: l, p, h => by
    have h' : (!PySem.Spec.ltCps x.cps.toList p.cps.toList && PyProof.Rows.risingS x l) = true := h
    rw [Bool.and_eq_true, Bool.not_eq_true'] at h'
    have ih := pw_of_rising l x h'.2
    rw [List.pairwise_cons]
    refine ⟨fun y hy => ?_, ih⟩
    rcases List.mem_cons.mp hy with rfl | hy
    · exact h'.1
    · exact geCps_trans _ _ _ h'.1 (List.rel_of_pairwise_cons ih hy)
theorem pw_of_sorted : ∀ {l : List Str}, PyProof.Rows.sortedS l = true → l.Pairwise fun a b => PySem.Spec.ltCps b.cps.toList a.cps.toList = false
  | [], _ => List.Pairwise.nil
  | x :: l, h => pw_of_rising l x h
theorem str_of_cps {a b : Str} (h : a.cps.toList = b.cps.toList) : a = b := by
  cases a; cases b
  simp only at h
  rw [Str.mk.injEq]
  exact Array.ext' h
theorem sorted_same {xs ys zs ws : List Str} (p1 : xs.Perm zs) (p2 : ys.Perm ws) (s1 : PyProof.Rows.sortedS xs = true) (s2 : PyProof.Rows.sortedS ys = true) : xs = ys ↔ zs.Perm ws := by
  constructor
  · rintro rfl
    exact p1.symm.trans p2
  · intro h
    refine List.Perm.eq_of_pairwise (le := fun a b => PySem.Spec.ltCps b.cps.toList a.cps.toList = false) (fun a b _ _ h1 h2 => str_of_cps (ltCps_total _ _ h2 h1)) (pw_of_sorted s1) (pw_of_sorted s2) ((p1.trans h).trans p2.symm)
/-! ### what newcomers show -/
def newL (rs : List Row) (d : Bool) (ts : List Str) : List Bool := ((("top" : Str) :: folderNames rs).flatMap fun fo => [valOf rs d ts fo, valOf rs d ts fo]) ++ rs.map fun r => valOf rs d ts r.nm
theorem newL_eq {rs : List Row} {d d2 : Bool} {ts us : List Str} : newL rs d ts = newL rs d2 us ↔ ∀ z ∈ plc rs, valOf rs d ts z = valOf rs d2 us z := by
  unfold newL
  constructor
  · intro h
    have hl : ((("top" : Str) :: folderNames rs).flatMap fun fo => [valOf rs d ts fo, valOf rs d ts fo]).length = ((("top" : Str) :: folderNames rs).flatMap fun fo => [valOf rs d2 us fo, valOf rs d2 us fo]).length := by
      simp only [List.length_flatMap]; rfl
    obtain ⟨h1, h2⟩ := List.append_inj h hl
    intro z hz
    rcases mem_plc.mp hz with rfl | hz
    · rw [List.flatMap_cons, List.flatMap_cons] at h1
      have := List.append_inj h1 rfl
      exact (List.cons.inj this.1).1
    · obtain ⟨r, hr, rfl⟩ := List.mem_map.mp hz
      exact List.map_inj_left.mp h2 r hr
  · intro h
    congr 1
    · rw [List.flatMap_def, List.flatMap_def]
      refine congrArg List.flatten (List.map_congr_left fun fo hfo => ?_)
      rw [h fo (by
        rcases List.mem_cons.mp hfo with rfl | hfo
        · exact List.mem_cons_self ..
        · obtain ⟨q, hq, rfl, _⟩ := mem_folders hfo
          exact List.mem_cons_of_mem _ (List.mem_map.mpr ⟨q, hq, rfl⟩))]
    · exact List.map_congr_left fun r hr => h r.nm (List.mem_cons_of_mem _ (List.mem_map.mpr ⟨r, hr, rfl⟩))
theorem bools_dp {K : PySem.W.Frag} {H : Hp} : ∀ l : List Bool, DpAll K H (l.map V.bl) (l.map PyData.bool)
  | [] => .nil
  | x :: l => .cons (.bl x) (bools_dp l)
theorem bools_eqv : ∀ a b : List Bool, PyData.eqvAll (a.map PyData.bool) (b.map PyData.bool) = decide (a = b)
  | [], [] => by simp [PyData.eqvAll]
  | [], _ :: _ => by simp [PyData.eqvAll]
  | _ :: _, [] => by simp [PyData.eqvAll]
  | x :: a, y :: b => by
    simp only [List.map_cons, PyData.eqvAll, PyData.eqv, bools_eqv a b]
    by_cases h : a = b <;> cases x <;> cases y <;> simp [h]
theorem bools_lay : ∀ l : List Bool, PyData.canLayAll0 (l.map PyData.bool) = true
  | [] => by simp [PyData.canLayAll0]
  | x :: l => by simp [PyData.canLayAll0, PyData.canLay0, bools_lay l]
theorem bools_depth : ∀ l : List Bool, PyData.depthAll (l.map PyData.bool) = 0
  | [] => by simp [PyData.depthAll]
  | x :: l => by simp [PyData.depthAll, PyData.depth, bools_depth l]
theorem shaped_bools (l : List Bool) : SeqAt.shaped (.list (l.map PyData.bool)) = true := by
  unfold SeqAt.shaped
  rw [Bool.and_eq_true]
  refine ⟨by simp only [PyData.canLay0]; exact bools_lay l, decide_eq_true ?_⟩
  simp only [PyData.depth, bools_depth]
  omega
end Ts

set_option maxRecDepth 100000
set_option maxHeartbeats 4000000
namespace Ts
open PySem L2
/-! ### == and != of dicts of one and the same keys, with flat values -/
def kvX (f : Str → V) (l : List Str) : List (Key × V) := l.map fun z => ((.inr z : Key), f z)
theorem valV_kvX (f : Str → V) {z : Str} : ∀ {l : List Str}, z ∈ l → valV (kvX f l) (.inr z : Key) = some (f z)
  | x :: l, hz => by
    show ((((((.inr x : Key), f x) :: kvX f l).find? fun kv => decide (kv.1 = (.inr z : Key))).map (·.2)) : Option V) = some (f z)
    by_cases e : x = z
    · subst e
      rw [List.find?_cons_of_pos (by simp)]; rfl
    · rw [List.find?_cons_of_neg (by simpa using e)]
      exact valV_kvX f ((List.mem_cons.mp hz).resolve_left fun q => e q.symm)
def allE (f g : Str → V) (l : List Str) : Bool := l.all fun z => eqV (f z) (g z)
theorem hitsX {A : Around} {s : Shared} {f g : Str → V} {L : List Str} {vb : List (Key × Value)} (rb : KV (kvX g L) vb) : ∀ {l : List Str} {va : List (Key × Value)}, KV (kvX f l) va → (∀ z ∈ l, z ∈ L ∧ flatV (f z) = true ∧ flatV (g z) = true) → PySem.W.KeqHits A s vb va (allE f g l)
  | [], va, ra, _ => by
    unfold KV kvX at ra
    cases ra
    exact .nil
  | z :: l, va, ra, h => by
    have ra' : Paired _ (((.inr z : Key), f z) :: kvX f l) va := ra
    cases ra' with
    | cons h1 t =>
      rename_i q qs
      obtain ⟨e1, e2⟩ := h1
      obtain ⟨hz, f1, f2⟩ := h z (List.mem_cons_self ..)
      have rr : RelO (some (g z)) (valueAt vb (.inr z : Key)) := by rw [← valV_kvX g hz]; exact rb.val _
      obtain ⟨y, hy, ry⟩ := rr.some_of
      obtain ⟨key, v⟩ := q
      have e1' : (Sum.inr z : Key) = key := e1
      rw [e1'] at hy
      exact .hit hy (eqAt_V e2 ry f1 f2) (hitsX rb t fun x hx => h x (List.mem_cons_of_mem _ hx))
section
variable {X : Cx}
def rEqX : R2 := fun x y H Q => ∃ (a b : Addr) (f g : Str → V) (l : List Str), x = .ref a ∧ y = .ref b ∧ H a = some (.dK (kvX f l)) ∧ H b = some (.dK (kvX g l)) ∧ (∀ z ∈ l, flatV (f z) = true ∧ flatV (g z) = true) ∧ Q (.bl (allE f g l)) H
def rNeX : R2 := fun x y H Q => ∃ (a b : Addr) (f g : Str → V) (l : List Str), x = .ref a ∧ y = .ref b ∧ H a = some (.dK (kvX f l)) ∧ H b = some (.dK (kvX g l)) ∧ (∀ z ∈ l, flatV (f z) = true ∧ flatV (g z) = true) ∧ Q (.bl (!allE f g l)) H
theorem op_eqX (hu : X.A.units < cLine) : OpR X (compareOp .Eq) rEqX := by
  intro pins s σ H x y v u Q I rx ry h
  obtain ⟨a, b, f, g, l, rfl, rfl, ea, eb, hf, q⟩ := h
  obtain rfl : v = Value.ref a := rx
  obtain rfl : u = Value.ref b := ry
  obtain ⟨_, ya, va, ra, da⟩ := (show ObjOk X.prog X.w H s.heap a (.dK (kvX f l)) from I.hok a _ ea)
  obtain ⟨_, yb, vb, rb, db⟩ := (show ObjOk X.prog X.w H s.heap b (.dK (kvX g l)) from I.hok b _ eb)
  have hl : va.length = vb.length := by rw [← ra.length, ← rb.length]; unfold kvX; rw [List.length_map, List.length_map]
  refine PySem.W.keq_eq (knd := mixKind X.prog X.w) (r := allE f g l) ya yb da db hu (fun _ => hitsX rb ra fun z hz => ⟨hz, hf z hz⟩) ?_
  rw [show (va.length == vb.length && allE f g l) = allE f g l from by rw [hl]; simp]
  exact ⟨.bl _, H, I, rfl, q⟩
theorem op_neX (hu : X.A.units < cLine) : OpR X (compareOp .NotEq) rNeX := by
  intro pins s σ H x y v u Q I rx ry h
  obtain ⟨a, b, f, g, l, rfl, rfl, ea, eb, hf, q⟩ := h
  obtain rfl : v = Value.ref a := rx
  obtain rfl : u = Value.ref b := ry
  obtain ⟨_, ya, va, ra, da⟩ := (show ObjOk X.prog X.w H s.heap a (.dK (kvX f l)) from I.hok a _ ea)
  obtain ⟨_, yb, vb, rb, db⟩ := (show ObjOk X.prog X.w H s.heap b (.dK (kvX g l)) from I.hok b _ eb)
  have hl : va.length = vb.length := by rw [← ra.length, ← rb.length]; unfold kvX; rw [List.length_map, List.length_map]
  refine PySem.W.keq_ne (knd := mixKind X.prog X.w) (r := allE f g l) ya yb da db hu (fun _ => hitsX rb ra fun z hz => ⟨hz, hf z hz⟩) ?_
  rw [show (va.length == vb.length && allE f g l) = allE f g l from by rw [hl]; simp]
  exact ⟨.bl _, H, I, rfl, q⟩
theorem hitsP {P : Program} {w : World} {A : Around} {s : Shared} {vb : List (Key × Value)} : ∀ {va : List (Key × Value)} {r : Bool}, PySem.W.KeqHits A s vb va r → PySem.W.KeqHitsP P w A s vb va r := fun h => by
  induction h with
  | nil => exact .nil
  | miss h => exact .miss h
  | hit h e _ k => exact .hit h e.eqP k
theorem eqP_dicts {pins : List (Addr × Obj)} {σ : St} {H : Hp} {s : Shared} (I : Inv X pins σ H s) {A : Around} (hu : A.units < cLine) {a b : Addr} {f g : Str → V} {l : List Str} (ea : H a = some (.dK (kvX f l))) (eb : H b = some (.dK (kvX g l))) (hf : ∀ z ∈ l, flatV (f z) = true ∧ flatV (g z) = true)
    (same : a = b → allE f g l = true) : SeqAt.EqP X.prog X.w A s (.ref a) (.ref b) (allE f g l) := by
  by_cases e : a = b
  · rw [same e]
    subst e
    exact (SeqAt.EqAt.same _).eqP
  · refine SeqAt.eqP_refs e fun E Q q => ?_
    obtain ⟨_, ya, va, ra, da⟩ := (show ObjOk X.prog X.w H s.heap a (.dK (kvX f l)) from I.hok a _ ea)
    obtain ⟨_, yb, vb, rb, db⟩ := (show ObjOk X.prog X.w H s.heap b (.dK (kvX g l)) from I.hok b _ eb)
    have hl : va.length = vb.length := by rw [← ra.length, ← rb.length]; unfold kvX; rw [List.length_map, List.length_map]
    refine PySem.W.rcP_dicts (knd := mixKind X.prog X.w) (r := allE f g l) ya yb da db hu (fun _ => hitsP (hitsX rb ra fun z hz => ⟨hz, hf z hz⟩)) E Q ?_
    rw [show (va.length == vb.length && allE f g l) = allE f g l from by rw [hl]; simp]
    exact q
/-- two lists of two such dicts each -/
def rEq2X : R2 := fun x y H Q => ∃ (a b d1 d2 e1 e2 : Addr) (f1 f2 g1 g2 : Str → V) (l : List Str), x = .ref a ∧ y = .ref b ∧ H a = some (.lst [.ref d1, .ref d2]) ∧ H b = some (.lst [.ref e1, .ref e2]) ∧ H d1 = some (.dK (kvX f1 l)) ∧ H d2 = some (.dK (kvX f2 l)) ∧ H e1 = some (.dK (kvX g1 l)) ∧ H e2 = some (.dK (kvX g2 l)) ∧
  (∀ z ∈ l, flatV (f1 z) = true ∧ flatV (g1 z) = true) ∧ (∀ z ∈ l, flatV (f2 z) = true ∧ flatV (g2 z) = true) ∧ d1 ≠ e1 ∧ d2 ≠ e2 ∧ Q (.bl (allE f1 g1 l && allE f2 g2 l)) H
theorem op_eq2X (hu : X.A.units + 64 < cLine) : OpR X (compareOp .Eq) rEq2X := by
  intro pins s σ H x y v u Q I rx ry h
  obtain ⟨a, b, d1, d2, e1, e2, f1, f2, g1, g2, l, rfl, rfl, ha, hb, hd1, hd2, he1, he2, hf1, hf2, n1, n2, q⟩ := h
  obtain rfl : v = Value.ref a := rx
  obtain rfl : u = Value.ref b := ry
  obtain ⟨us, r1, p1, _⟩ := I.list (show SqL X.K H a _ from SqL.of ha)
  obtain ⟨ws, r2, p2, _⟩ := I.list (show SqL X.K H b _ from SqL.of hb)
  have hin : X.A.in1.units < cLine := by show X.A.units + 1 < cLine; omega
  obtain rfl : us = [.ref d1, .ref d2] := by
    cases r1 with
    | cons x1 t => cases t with
      | cons x2 t => cases t; cases x1; cases x2; rfl
  obtain rfl : ws = [.ref e1, .ref e2] := by
    cases r2 with
    | cons x1 t => cases t with
      | cons x2 t => cases t; cases x1; cases x2; rfl
  refine SeqAt.rcP_lists (e := fun j => if j = 0 then allE f1 g1 l else allE f2 g2 l) p1.isList p2.isList rfl (by omega) (fun j h1 h2 => ?_) _ _ ?_
  · match j, h1 with
    | 0, _ => exact eqP_dicts I hin hd1 he1 hf1 fun e => absurd e n1
    | 1, _ => exact eqP_dicts I hin hd2 he2 hf2 fun e => absurd e n2
  · refine ⟨.bl _, H, I, rfl, ?_⟩
    have e : ((List.range #[Value.ref d1, Value.ref d2].size).all fun j => if j = 0 then allE f1 g1 l else allE f2 g2 l) = (allE f1 g1 l && allE f2 g2 l) := by
      show ((List.range 2).all fun j => if j = 0 then allE f1 g1 l else allE f2 g2 l) = _
      simp [List.range, List.range.loop]
    show Q (.bl ((List.range #[Value.ref d1, Value.ref d2].size).all fun j => if j = 0 then allE f1 g1 l else allE f2 g2 l)) H
    rw [e]
    exact q
theorem pt_weak {e : Expr} {t : TT} (h : PT X e t) : PT X e (fun σ H Q => ∃ R : Bool → Hp → Prop, t σ H R ∧ ∀ b H', R b H' → Q b H') := ⟨fun pins s σ H Q I ⟨R, h1, h2⟩ => thn (h.run pins s σ H R I h1) fun u s1 ⟨H1, I1, q⟩ => ⟨H1, I1, h2 _ _ q⟩⟩
theorem pe_weak {e : Expr} {te : TE} (h : PE X e te) : PE X e (fun σ H Q => ∃ R : VK, te σ H R ∧ ∀ v H', R v H' → Q v H') := ⟨fun pins s σ H Q I ⟨R, h1, h2⟩ => thn (h.run pins s σ H R I h1) fun u s1 ⟨x, H1, I1, rx, q⟩ => ⟨x, H1, I1, rx, h2 _ _ q⟩⟩
end
end Ts

set_option maxRecDepth 100000
set_option maxHeartbeats 4000000
namespace Ts
open PySem L2
/-! ### what rows of deeds do -/
/-- a word and a place -/
abbrev De := Str × Str
def words3 : List Str := ["on", "off", "flip"]
def words4 : List Str := ["keep", "on", "off", "flip"]
def flp (w : Str) : Str := if w = "on" then "off" else if w = "off" then "on" else if w = "flip" then "keep" else "flip"
def within (rs : List Row) (p b : Str) : Bool := decide (b = p) || decide (b ∈ belowL rs p)
def stepE (rs : List Row) (d : De) (e : Str → Str) : Str → Str := fun b => if within rs d.2 b = true then (if d.1 = "flip" then flp (e b) else d.1) else e b
def eff (rs : List Row) (ds : List De) : Str → Str := ds.foldl (fun e d => stepE rs d e) fun _ => "keep"
theorem eff_snoc (rs : List Row) (ds : List De) (d : De) : eff rs (ds ++ [d]) = stepE rs d (eff rs ds) := by
  unfold eff
  rw [List.foldl_append]
  rfl
def vb (w : Str) (v : Bool) : Bool := if w = "on" then true else if w = "off" then false else if w = "flip" then !v else v
def stepV (rs : List Row) (d : De) (v : Str → Bool) : Str → Bool := fun b => if within rs d.2 b = true then (if d.1 = "flip" then !(v b) else decide (d.1 = "on")) else v b
def doneV (rs : List Row) (v : Str → Bool) (ds : List De) : Str → Bool := ds.foldl (fun v d => stepV rs d v) v
theorem doneV_snoc (rs : List Row) (v : Str → Bool) (ds : List De) (d : De) : doneV rs v (ds ++ [d]) = stepV rs d (doneV rs v ds) := by
  unfold doneV
  rw [List.foldl_append]
  rfl
theorem w_keep : ("keep" : Str) ∈ words4 := by decide +kernel
theorem flp_mem : ∀ w ∈ words4, flp w ∈ words4 := by decide +kernel
theorem words_sub : ∀ w ∈ words3, w ∈ words4 := by decide +kernel
theorem vb_flp : ∀ w ∈ words4, ∀ v : Bool, vb (flp w) v = !(vb w v) := by decide +kernel
theorem vb_word : ∀ w ∈ words3, ¬ w = ("flip" : Str) → ∀ v : Bool, vb w v = decide (w = ("on" : Str)) := by decide +kernel
theorem vb_keep : ∀ v : Bool, vb ("keep" : Str) v = v := by decide +kernel
theorem vb_inj : ∀ w ∈ words4, ∀ x ∈ words4, vb w true = vb x true → vb w false = vb x false → w = x := by decide +kernel
theorem words4_ok : ∀ w ∈ words4, PyData.strOk w = true := by decide +kernel
theorem ds_rec {α : Type} {p : List α → Prop} (h0 : p []) (h1 : ∀ l x, p l → p (l ++ [x])) : ∀ (n : Nat) (l : List α), l.length = n → p l := by
  intro n
  induction n with
  | zero => intro l h; rw [List.length_eq_zero_iff.mp h]; exact h0
  | succ n ih =>
    intro l h
    have hne : l ≠ [] := fun e => by rw [e] at h; cases h
    rw [← List.dropLast_concat_getLast hne]
    exact h1 _ _ (ih _ (by rw [List.length_dropLast]; omega))
def Words (ds : List De) : Prop := ∀ d ∈ ds, d.1 ∈ words3
theorem Words.init {ds : List De} {d : De} (h : Words (ds ++ [d])) : Words ds := fun x hx => h x (List.mem_append_left _ hx)
theorem Words.last {ds : List De} {d : De} (h : Words (ds ++ [d])) : d.1 ∈ words3 := h d (List.mem_append_right _ (List.mem_singleton.mpr rfl))
theorem stepE_mem {rs : List Row} {d : De} {e : Str → Str} (hd : d.1 ∈ words3) (he : ∀ b, e b ∈ words4) : ∀ b, stepE rs d e b ∈ words4 := fun b => by
  unfold stepE
  split
  · split
    · exact flp_mem _ (he b)
    · exact words_sub _ hd
  · exact he b
theorem eff_mem {rs : List Row} : ∀ {ds : List De}, Words ds → ∀ b, eff rs ds b ∈ words4 := fun {ds} =>
  ds_rec (p := fun ds => Words ds → ∀ b, eff rs ds b ∈ words4) (fun _ _ => w_keep) (fun l x ih h b => by
    rw [eff_snoc]
    exact stepE_mem h.last (ih h.init) b) _ ds rfl
theorem done_eff {rs : List Row} : ∀ {ds : List De}, Words ds → ∀ (v : Str → Bool) b, doneV rs v ds b = vb (eff rs ds b) (v b) := fun {ds} =>
  ds_rec (p := fun ds => Words ds → ∀ (v : Str → Bool) b, doneV rs v ds b = vb (eff rs ds b) (v b)) (fun _ v b => (vb_keep _).symm) (fun l x ih h v b => by
    rw [eff_snoc, doneV_snoc]
    unfold stepV stepE
    by_cases c : within rs x.2 b = true
    · rw [if_pos c, if_pos c]
      by_cases f : x.1 = ("flip" : Str)
      · rw [if_pos f, if_pos f, vb_flp _ (eff_mem h.init b), ih h.init]
      · rw [if_neg f, if_neg f, vb_word _ h.last f]
    · rw [if_neg c, if_neg c]
      exact ih h.init v b) _ ds rfl
/-- what two rows of deeds make of all on and all off tells whether they are alike -/
def alikeE (rs : List Row) (ds es : List De) : Bool := (plc rs).all fun z => decide (eff rs ds z = eff rs es z)
theorem led_alike {rs : List Row} {ds es : List De} (h1 : Words ds) (h2 : Words es) : (allE (fun z => .bl (doneV rs (fun _ => true) ds z)) (fun z => .bl (doneV rs (fun _ => true) es z)) (plc rs) && allE (fun z => .bl (doneV rs (fun _ => false) ds z)) (fun z => .bl (doneV rs (fun _ => false) es z)) (plc rs)) = alikeE rs ds es := by
  have eb : ∀ a b : Bool, eqV (.bl a) (.bl b) = decide (a = b) := by intro a b; cases a <;> cases b <;> rfl
  unfold allE alikeE
  rw [Bool.eq_iff_iff, Bool.and_eq_true, List.all_eq_true, List.all_eq_true, List.all_eq_true]
  constructor
  · rintro ⟨a, b⟩ z hz
    have a1 := a z hz
    have b1 := b z hz
    rw [eb, decide_eq_true_eq, done_eff h1, done_eff h2] at a1 b1
    exact decide_eq_true (vb_inj _ (eff_mem h1 z) _ (eff_mem h2 z) a1 b1)
  · intro h
    refine ⟨fun z hz => ?_, fun z hz => ?_⟩ <;>
    · have := of_decide_eq_true (h z hz)
      rw [eb, decide_eq_true_eq, done_eff h1, done_eff h2, this]
theorem eff_alike {rs : List Row} {ds es : List De} : allE (fun z => .str (eff rs ds z)) (fun z => .str (eff rs es z)) (plc rs) = alikeE rs ds es := by
  have eb : ∀ a b : Str, eqV (.str a) (.str b) = decide (a = b) := fun a b => by
    show (a == b) = decide (a = b)
    exact str_beq a b
  unfold allE alikeE
  exact List.all_congr rfl fun z => eb _ _
/-! ### within -/
theorem mem_below {rs : List Row} {p b : Str} : b ∈ belowL rs p ↔ b ∈ names rs ∧ b ≠ p ∧ (p = ("top" : Str) ∨ p ∈ wayOf rs b) := by
  unfold belowL isIn
  rw [List.mem_map]
  constructor
  · rintro ⟨r, hr, rfl⟩
    rw [List.mem_filter, Bool.and_eq_true, Bool.or_eq_true, decide_eq_true_eq, decide_eq_true_eq, decide_eq_true_eq] at hr
    exact ⟨List.mem_map.mpr ⟨r, hr.1, rfl⟩, hr.2.1, hr.2.2⟩
  · rintro ⟨hb, hn, hw⟩
    obtain ⟨r, hr, rfl⟩ := List.mem_map.mp hb
    refine ⟨r, List.mem_filter.mpr ⟨hr, ?_⟩, rfl⟩
    rw [Bool.and_eq_true, Bool.or_eq_true, decide_eq_true_eq, decide_eq_true_eq, decide_eq_true_eq]
    exact ⟨hn, hw⟩
theorem below_not {rs : List Row} {p : Str} : p ∉ belowL rs p := fun h => (mem_below.mp h).2.1 rfl
theorem below_nd {rs : List Row} (hv : Valid rs) (p : Str) : (belowL rs p).Nodup := (List.Sublist.map _ List.filter_sublist).nodup hv.nodup
theorem in_nd {rs : List Row} (hv : Valid rs) (p : Str) : (p :: belowL rs p).Nodup := List.nodup_cons.mpr ⟨below_not, below_nd hv p⟩
theorem in_plc {rs : List Row} {p : Str} (hp : p ∈ plc rs) : ∀ z ∈ p :: belowL rs p, z ∈ plc rs := fun z hz => by
  rcases List.mem_cons.mp hz with rfl | hz
  · exact hp
  · exact List.mem_cons_of_mem _ (mem_below.mp hz).1
theorem within_mem {rs : List Row} {p b : Str} : within rs p b = true ↔ b ∈ p :: belowL rs p := by
  unfold within
  rw [Bool.or_eq_true, decide_eq_true_eq, decide_eq_true_eq, List.mem_cons]
theorem within_law {rs : List Row} (hv : Valid rs) {p b : Str} (hb : b ∈ plc rs) : within rs p b = true ↔ (b = p ∨ p = ("top" : Str) ∨ (b ≠ ("top" : Str) ∧ p ∈ wayOf rs b)) := by
  rw [within_mem, List.mem_cons, mem_below]
  rcases mem_plc.mp hb with rfl | hn
  · have := top_not hv
    constructor
    · rintro (h | ⟨h, _⟩)
      · exact .inl h
      · exact absurd h this
    · rintro (h | h | ⟨h, _⟩)
      · exact .inl h
      · exact .inl h.symm
      · exact absurd rfl h
  · have nt : b ≠ ("top" : Str) := fun e => top_not hv (e ▸ hn)
    by_cases e : b = p
    · simp [e]
    · constructor
      · rintro (h | ⟨_, _, h | h⟩)
        · exact .inl h
        · exact .inr (.inl h)
        · exact .inr (.inr ⟨nt, h⟩)
      · rintro (h | h | ⟨_, h⟩)
        · exact .inl h
        · exact .inr ⟨hn, e, .inl h⟩
        · exact .inr ⟨hn, e, .inr h⟩
/-! ### dicts of words -/
def kvS (f : Str → Str) (l : List Str) : List (Key × V) := kvX (fun z => .str (f z)) l
theorem kvX_congr {f g : Str → V} {l : List Str} (h : ∀ z ∈ l, f z = g z) : kvX f l = kvX g l := List.map_congr_left fun z hz => by rw [h z hz]
theorem kvX_put {f : Str → V} {z : Str} {v : V} {l : List Str} (hz : z ∈ l) : putK (kvX f l) (.inr z) v = kvX (fun x => if x = z then v else f x) l := by
  unfold putK
  rw [if_pos (by
    rw [List.any_eq_true]
    exact ⟨_, List.mem_map.mpr ⟨z, hz, rfl⟩, decide_eq_true rfl⟩)]
  unfold kvX
  rw [List.map_map]
  refine List.map_congr_left fun x _ => ?_
  show (if (Sum.inr x : Key) = .inr z then ((.inr x : Key), v) else ((.inr x : Key), f x)) = ((.inr x : Key), if x = z then v else f x)
  by_cases e : x = z
  · rw [if_pos (by rw [e]), if_pos e]
  · rw [if_neg (fun q => e (Sum.inr.inj q)), if_neg e]
theorem kvX_more {l : List Str} (nd : l.Nodup) (f : Str → V) {i : Nat} {z : Str} (h : l[i]? = some z) : putK (kvX f (l.take i)) (.inr z) (f z) = kvX f (l.take (i + 1)) := by
  have hn : z ∉ l.take i := fun hm => by
    obtain ⟨j, hj, e⟩ := List.mem_take_iff_getElem.mp hm
    obtain ⟨hi, e2⟩ := List.getElem?_eq_some_iff.mp h
    have := (List.getElem_inj nd).mp (e.trans e2.symm)
    omega
  have hv : valV (kvX f (l.take i)) (.inr z : Key) = none := by
    generalize l.take i = m at hn
    induction m with
    | nil => rfl
    | cons x m ih =>
      show valV (((.inr x : Key), f x) :: kvX f m) _ = _
      rw [valV_neg (fun q => hn (by rw [Sum.inr.inj q]; exact List.mem_cons_self ..))]
      exact ih fun q => hn (List.mem_cons_of_mem _ q)
  rw [putK_new _ hv, take_more h]
  unfold kvX
  rw [List.map_append]
  rfl
theorem kvX_len (f : Str → V) (l : List Str) : (kvX f l).length = l.length := by unfold kvX; rw [List.length_map]
theorem kvX_at {f : Str → V} {l : List Str} {j : Nat} {k : Key} {x : V} (h : (kvX f l)[j]? = some (k, x)) : ∃ z : Str, k = .inr z ∧ l[j]? = some z := by
  unfold kvX at h
  rw [List.getElem?_map] at h
  obtain ⟨z, hz, e⟩ := Option.map_eq_some_iff.mp h
  exact ⟨z, (Prod.mk.inj e).1.symm, hz⟩
theorem plc_nd {rs : List Row} (hv : Valid rs) : (plc rs).Nodup := by
  unfold plc
  rw [List.nodup_cons]
  exact ⟨top_not hv, hv.nodup⟩
theorem plc_len' (rs : List Row) : (plc rs).length = rs.length + 1 := by unfold plc names; rw [List.length_cons, List.length_map]
end Ts

set_option maxRecDepth 100000
set_option maxHeartbeats 4000000
namespace Ts
open PySem L2
/-! ### own operators between two objects of one class -/
def rBinC (C : Addr) (sp : Sp) (E : XK) : R2 := fun x y H Q => ∃ (a b dx dy : Addr) (fs gs : List (Str × V)), x = .ref a ∧ y = .ref b ∧ H a = some (.ins C dx fs) ∧ H b = some (.ins C dy gs) ∧ sp [.ref a, .ref b] H (fun v H' => ∃ r : Addr, v = .ref r ∧ Q v H') E
def rInvC (C : Addr) (sp : Sp) (E : XK) : V → Hp → VK → Prop := fun x H Q => ∃ (a dx : Addr) (fs : List (Str × V)), x = .ref a ∧ H a = some (.ins C dx fs) ∧ sp [.ref a] H Q E
section
variable {X : Cx} {k : Nat} {C f : Addr} {fd : FuncData} {ps : List Str} {sp : Sp} {CX : CXT} {E : XK}
theorem op_binC {op : Operator} {nm : Str} (F : FnOk X.prog X.w X.K X.mg X.base CX k f fd ps sp) (m : Meth X.K C nm f) (hn : PySem.dunder op.info.2 = nm) (hc : PySem.W.selfFirst X.K C = true) (hr : Room k X.A) (hb : Binds X.K fd ps []) (hx : Passes CX X E) : OpR X (binaryOp op) (rBinC C sp E) := by
  intro pins s σ H x y v u Q I rx ry hq
  obtain ⟨a, b, dx, dy, fs, gs, rfl, rfl, ha, hb', hsp⟩ := hq
  cases rx
  cases ry
  obtain ⟨mA, J, _⟩ := ins_get I.hok ha
  obtain ⟨od, J, _⟩ := J.look
  obtain ⟨mm, hF⟩ := I.fr
  refine PySem.W.binop_K hF I.ok.mod.kin J (ty_looks I (show RelV (.ref b) (.ref b) from rfl) (.ins hb')) hc (by rw [hn]; exact m.at_) m.fn ?_
  refine wpAny_mono (run_at F hr rfl hb hx I (us := [.ref a, .ref b]) (.cons (show RelV (.ref a) (.ref a) from rfl) (.cons (show RelV (.ref b) (.ref b) from rfl) .nil)) hsp) (fun r s' hq => ?_) fun _ _ x => x
  obtain ⟨z, H', I', rz, q, rfl, hQ⟩ := hq
  cases rz
  exact ⟨.ref q, H', I', rfl, hQ⟩
theorem un_invC (F : FnOk X.prog X.w X.K X.mg X.base CX k f fd ps sp) (m : Meth X.K C "__invert__" f) (hr : Room k X.A) (hb : Binds X.K fd ps []) (hx : Passes CX X E) : UnR X (unaryOp .Invert) (rInvC C sp E) := by
  intro pins s σ H x v Q I rx hq
  obtain ⟨a, dx, fs, rfl, ha, hsp⟩ := hq
  cases rx
  obtain ⟨mA, J, _⟩ := ins_get I.hok ha
  obtain ⟨od, J, _⟩ := J.look
  obtain ⟨mm, hF⟩ := I.fr
  exact PySem.W.ksp_inv hF I.ok.mod.kin J m.at_ m.fn (run_at F hr rfl hb hx I (us := [.ref a]) (.cons (show RelV (.ref a) (.ref a) from rfl) .nil) hsp)
end
end Ts

set_option maxRecDepth 100000
set_option maxHeartbeats 4000000
namespace Ts
open PySem L2
/-! ### meanings by their values -/
/-- the turns that give these values -/
def turnsG (rs : List Row) (v : Str → Bool) : List Str := (rs.filter fun r => decide (v r.nm ≠ v r.fo)).map (·.nm)
theorem row_same {rs : List Row} (hv : Valid rs) {r q : Row} (hr : r ∈ rs) (hq : q ∈ rs) (e : r.nm = q.nm) : r = q := by
  obtain ⟨i, hi, e1⟩ := List.mem_iff_getElem.mp hr
  obtain ⟨j, hj, e2⟩ := List.mem_iff_getElem.mp hq
  have h1 := rowOf_at hv (i := i) (r := r) (by rw [← e1]; exact List.getElem?_eq_getElem hi)
  have h2 := rowOf_at hv (i := j) (r := q) (by rw [← e2]; exact List.getElem?_eq_getElem hj)
  rw [e, h2] at h1
  exact (Option.some.inj h1).symm
theorem mem_turnsG {rs : List Row} (hv : Valid rs) {v : Str → Bool} {r : Row} (hr : r ∈ rs) : r.nm ∈ turnsG rs v ↔ v r.nm ≠ v r.fo := by
  unfold turnsG
  constructor
  · intro h
    obtain ⟨q, hq, e⟩ := List.mem_map.mp h
    rw [List.mem_filter, decide_eq_true_eq] at hq
    rw [row_same hv hr hq.1 e.symm]
    exact hq.2
  · intro h
    exact List.mem_map.mpr ⟨r, List.mem_filter.mpr ⟨hr, decide_eq_true h⟩, rfl⟩
theorem turnsG_sub (rs : List Row) (v : Str → Bool) : (turnsG rs v).Sublist (names rs) := List.Sublist.map _ List.filter_sublist
theorem val_turnsG {rs : List Row} (hv : Valid rs) (v : Str → Bool) : ∀ z ∈ plc rs, valOf rs (v "top") (turnsG rs v) z = v z := by
  have key : ∀ n : Nat, ∀ i, i < n → ∀ r, rs[i]? = some r → valOf rs (v "top") (turnsG rs v) r.nm = v r.nm := by
    intro n
    induction n with
    | zero => intro i hi; omega
    | succ n ih =>
      intro i hi r hr
      have hrm := List.mem_of_getElem? hr
      have hfo : valOf rs (v "top") (turnsG rs v) r.fo = v r.fo := by
        rcases hv.fo hr with e | e
        · rw [e, val_top hv]
        · obtain ⟨q, hq, e2⟩ := List.mem_map.mp e
          obtain ⟨j, hj, e3⟩ := List.mem_take_iff_getElem.mp hq
          rw [← e2]
          exact ih j (by omega) q (by rw [← e3]; exact List.getElem?_eq_getElem _)
      rw [val_step hv _ _ hrm, hfo]
      have e : decide (r.nm ∈ turnsG rs v) = decide (v r.nm ≠ v r.fo) := decide_eq_decide.mpr (mem_turnsG hv hrm)
      rw [e]
      cases v r.fo <;> cases v r.nm <;> rfl
  intro z hz
  rcases mem_plc.mp hz with rfl | hz
  · exact val_top hv _ _
  · obtain ⟨r, hr, rfl⟩ := List.mem_map.mp hz
    obtain ⟨i, hi, e⟩ := List.mem_iff_getElem.mp hr
    exact key (i + 1) i (by omega) r (by rw [← e]; exact List.getElem?_eq_getElem hi)
theorem fo_plc {rs : List Row} (hv : Valid rs) {r : Row} (hr : r ∈ rs) : r.fo ∈ plc rs := mem_plc.mpr (hv.foAll hr)
theorem nm_plc {rs : List Row} {r : Row} (hr : r ∈ rs) : r.nm ∈ plc rs := mem_plc.mpr (.inr (List.mem_map.mpr ⟨r, hr, rfl⟩))
structure MV (C CM : Addr) (H : Hp) (m t : Addr) (rs : List Row) (v : Str → Bool) : Prop where
  ex : ∃ (d : Bool) (ts : List Str), MeanAt C CM H m t rs d ts ∧ ∀ z ∈ plc rs, valOf rs d ts z = v z
  lk : ∀ r ∈ rs, r.pr = none → v r.nm = v r.fo
theorem MV.same {C CM : Addr} {H H' : Hp} {m t : Addr} {rs : List Row} {v : Str → Bool} (h : MV C CM H m t rs v) (s : Same H H') : MV C CM H' m t rs v := by
  obtain ⟨d, ts, hm, hv⟩ := h.ex
  exact ⟨⟨d, ts, hm.same s, hv⟩, h.lk⟩
theorem MV.at_ {C CM : Addr} {H : Hp} {m t : Addr} {rs : List Row} {v : Str → Bool} (h : MV C CM H m t rs v) : ∃ dx fs, H m = some (.ins CM dx fs) := by
  obtain ⟨d, ts, hm, hv⟩ := h.ex
  obtain ⟨dx, u, k, h1, _⟩ := hm.ex
  exact ⟨dx, _, h1⟩
theorem turns_of {rs : List Row} (hv : Valid rs) {d : Bool} {ts : List Str} {v : Str → Bool} (hn : ts = turnsL rs ts) (h : ∀ z ∈ plc rs, valOf rs d ts z = v z) : d = v "top" ∧ ts = turnsG rs v := by
  have h1 : turnsL rs (turnsG rs v) = turnsG rs v := turnsL_sub hv (turnsG_sub rs v)
  refine (val_all hv (d := d) (d2 := v "top") hn.symm h1).mp fun z hz => ?_
  rw [h z hz, val_turnsG hv v z hz]
theorem MV.turns {C CM : Addr} {H : Hp} {m t : Addr} {rs : List Row} {v : Str → Bool} (h : MV C CM H m t rs v) : MeanAt C CM H m t rs (v "top") (turnsG rs v) := by
  obtain ⟨d, ts, hm, hv⟩ := h.ex
  obtain ⟨e1, e2⟩ := turns_of hm.tree.val hm.norm hv
  rw [← e1, ← e2]
  exact hm
theorem MV.free {C CM : Addr} {H : Hp} {m t : Addr} {rs : List Row} {v : Str → Bool} (h : MV C CM H m t rs v) : ∀ z ∈ turnsG rs v, Free rs z := fun z hz => by
  have hv := h.turns.tree.val
  obtain ⟨r, hr, rfl⟩ := List.mem_map.mp hz
  rw [List.mem_filter, decide_eq_true_eq] at hr
  obtain ⟨i, hi, e⟩ := List.mem_iff_getElem.mp hr.1
  exact ⟨r, rowOf_at hv (by rw [← e]; exact List.getElem?_eq_getElem hi), fun q => hr.2 (h.lk r hr.1 q)⟩
theorem MV.valid {C CM : Addr} {H : Hp} {m t : Addr} {rs : List Row} {v : Str → Bool} (h : MV C CM H m t rs v) : Valid rs := h.turns.tree.val
/-- from a meaning -/
theorem MV.of {C CM : Addr} {H : Hp} {m t : Addr} {rs : List Row} {d : Bool} {ts : List Str} (h : MeanAt C CM H m t rs d ts) (hf : ∀ z ∈ ts, Free rs z) : MV C CM H m t rs (valOf rs d ts) := by
  refine ⟨⟨d, ts, h, fun _ _ => rfl⟩, fun r hr q => ?_⟩
  rw [val_step h.tree.val d ts hr]
  have : r.nm ∉ ts := fun hm => by
    obtain ⟨r2, e, hp⟩ := hf _ hm
    obtain ⟨i, hi, e2⟩ := List.mem_iff_getElem.mp hr
    rw [rowOf_at h.tree.val (i := i) (r := r) (by rw [← e2]; exact List.getElem?_eq_getElem hi)] at e
    cases e
    exact hp q
  rw [decide_eq_false this]
  cases valOf rs d ts r.fo <;> rfl
/-- a dict of values -/
def kvG (rs : List Row) (v : Str → Bool) : List (Key × V) := (plc rs).map fun z => ((.inr z : Key), V.bl (v z))
theorem kvM_kvG {rs : List Row} (hv : Valid rs) {d : Bool} {ts : List Str} {v : Str → Bool} (h : ∀ z ∈ plc rs, valOf rs d ts z = v z) : kvM rs d ts rs = kvG rs v := by
  unfold kvM kvG plc names kvF
  rw [List.map_cons, List.map_map]
  congr 1
  · rw [← h _ (mem_plc.mpr (.inl rfl)), val_top hv]
  · refine List.map_congr_left fun r hr => ?_
    show (Sum.inr r.nm, V.bl (valOf rs d ts r.nm)) = (Sum.inr r.nm, V.bl (v r.nm))
    rw [h _ (nm_plc hr)]
theorem valV_list (v : Str → Bool) {z : Str} : ∀ {l : List Str}, z ∈ l → valV (l.map fun z => ((.inr z : Key), V.bl (v z))) (.inr z : Key) = some (.bl (v z))
  | x :: l, hz => by
    rw [List.map_cons]
    by_cases e : x = z
    · subst e; rw [valV_pos rfl]
    · rw [valV_neg (fun q => e (Sum.inr.inj q))]
      exact valV_list v ((List.mem_cons.mp hz).resolve_left fun q => e q.symm)
theorem valV_kvG {rs : List Row} (v : Str → Bool) {z : Str} (hz : z ∈ plc rs) : valV (kvG rs v) (.inr z : Key) = some (.bl (v z)) := valV_list v hz
theorem kvG_at {rs : List Row} {v : Str → Bool} {j : Nat} {k : Key} {x : V} (h : (kvG rs v)[j]? = some (k, x)) : ∃ z : Str, k = .inr z ∧ (plc rs)[j]? = some z := by
  unfold kvG at h
  rw [List.getElem?_map] at h
  obtain ⟨z, hz, e⟩ := Option.map_eq_some_iff.mp h
  exact ⟨z, (Prod.mk.inj e).1.symm, hz⟩
theorem kvG_len (rs : List Row) (v : Str → Bool) : (kvG rs v).length = (plc rs).length := by unfold kvG; rw [List.length_map]
theorem plc_nodup {rs : List Row} (hv : Valid rs) : (plc rs).Nodup := by
  unfold plc
  rw [List.nodup_cons]
  exact ⟨top_not hv, hv.nodup⟩
/-- the values of the first places, one more -/
theorem kvP_more {l : List Str} (nd : l.Nodup) (v : Str → Bool) {i : Nat} {z : Str} (h : l[i]? = some z) : putK ((l.take i).map fun z => ((.inr z : Key), V.bl (v z))) (.inr z) (.bl (v z)) = (l.take (i + 1)).map fun z => ((.inr z : Key), V.bl (v z)) := by
  have hn : z ∉ l.take i := fun hm => by
    obtain ⟨j, hj, e⟩ := List.mem_take_iff_getElem.mp hm
    obtain ⟨hi, e2⟩ := List.getElem?_eq_some_iff.mp h
    have := (List.getElem_inj nd).mp (e.trans e2.symm)
    omega
  have hv : valV ((l.take i).map fun z => ((.inr z : Key), V.bl (v z))) (.inr z : Key) = none := by
    generalize l.take i = m at hn
    induction m with
    | nil => rfl
    | cons x m ih =>
      rw [List.map_cons, valV_neg (fun q => hn (by rw [Sum.inr.inj q]; exact List.mem_cons_self ..))]
      exact ih fun q => hn (List.mem_cons_of_mem _ q)
  rw [putK_new _ hv, take_more h, List.map_append]
  rfl
def eqV (rs : List Row) (v w : Str → Bool) : Bool := (plc rs).all fun z => v z == w z
theorem eqV_true {rs : List Row} {v w : Str → Bool} (h : ∀ z, v z = w z) : eqV rs v w = true := by
  unfold eqV
  rw [List.all_eq_true]
  intro z _
  rw [h z]; simp
theorem eqV_iff {rs : List Row} {v w : Str → Bool} : eqV rs v w = true ↔ ∀ z ∈ plc rs, v z = w z := by
  unfold eqV
  rw [List.all_eq_true]
  exact ⟨fun h z hz => by simpa using h z hz, fun h z hz => by simpa using h z hz⟩
def spBin (C CM : Addr) (f : Bool → Bool → Bool) : Sp := fun vs H Q _ => ∃ (m m2 t t2 : Addr) (rs : List Row) (v w : Str → Bool), vs = [.ref m, .ref m2] ∧ MV C CM H m t rs v ∧ MV C CM H m2 t2 rs w ∧ ∀ m3 H', Same H H' → MV C CM H' m3 t rs (fun z => f (v z) (w z)) → Q (.ref m3) H'
def spInv (C CM : Addr) : Sp := fun vs H Q _ => ∃ (m t : Addr) (rs : List Row) (v : Str → Bool), vs = [.ref m] ∧ MV C CM H m t rs v ∧ ∀ m3 H', Same H H' → MV C CM H' m3 t rs (fun z => !(v z)) → Q (.ref m3) H'
def spWith (C CM : Addr) : Sp := fun vs H Q _ => ∃ (t vd : Addr) (rs : List Row) (v : Str → Bool), vs = [.ref t, .ref vd] ∧ TreeAt C H t rs ∧ H vd = some (.dK (kvG rs v)) ∧ (∀ r ∈ rs, r.pr = none → v r.nm = v r.fo) ∧ ∀ m H', Same H H' → MV C CM H' m t rs v → Q (.ref m) H'
theorem rd_bin {C CM : Addr} {H : Hp} {m m2 t t2 : Addr} {rs : List Row} {v w : Str → Bool} {f : Bool → Bool → Bool} {E : XK} {Q : VK} (h1 : MV C CM H m t rs v) (h2 : MV C CM H m2 t2 rs w) (k : ∀ m3 H', Same H H' → MV C CM H' m3 t rs (fun z => f (v z) (w z)) → Q (.ref m3) H') : rBinC CM (spBin C CM f) E (.ref m) (.ref m2) H Q := by
  obtain ⟨dx, fs, e1⟩ := h1.at_
  obtain ⟨dy, gs, e2⟩ := h2.at_
  exact ⟨m, m2, dx, dy, fs, gs, rfl, rfl, e1, e2, m, m2, t, t2, rs, v, w, rfl, h1, h2, fun m3 H' s mv => ⟨m3, rfl, k m3 H' s mv⟩⟩
theorem rd_inv {C CM : Addr} {H : Hp} {m t : Addr} {rs : List Row} {v : Str → Bool} {E : XK} {Q : VK} (h1 : MV C CM H m t rs v) (k : ∀ m3 H', Same H H' → MV C CM H' m3 t rs (fun z => !(v z)) → Q (.ref m3) H') : rInvC CM (spInv C CM) E (.ref m) H Q := by
  obtain ⟨dx, fs, e1⟩ := h1.at_
  exact ⟨m, dx, fs, rfl, e1, m, t, rs, v, rfl, h1, k⟩
theorem eq_eqV {rs : List Row} (hv : Valid rs) (v w : Str → Bool) : (decide (rs = rs) && (decide (v "top" = w "top") && decide (turnsG rs v = turnsG rs w))) = eqV rs v w := by
  rw [decide_eq_true (rfl : rs = rs), Bool.true_and, Bool.eq_iff_iff, Bool.and_eq_true, decide_eq_true_eq, decide_eq_true_eq, eqV_iff, ← val_all hv (turnsL_sub hv (turnsG_sub rs v)) (turnsL_sub hv (turnsG_sub rs w))]
  exact ⟨fun h z hz => by have := h z hz; rw [val_turnsG hv v z hz, val_turnsG hv w z hz] at this; exact this, fun h z hz => by rw [val_turnsG hv v z hz, val_turnsG hv w z hz]; exact h z hz⟩
theorem rd_eq {K : PySem.W.Frag} {C CM : Addr} {H : Hp} {m m2 t t2 : Addr} {rs : List Row} {v w : Str → Bool} {E : XK} {Q : VK} (h1 : MV C CM H m t rs v) (h2 : MV C CM H m2 t2 rs w) (k : Q (.bl (eqV rs v w)) H) : rEqC K CM (spMEq K C CM) E (.ref m) (.ref m2) H Q := by
  obtain ⟨dx, fs, e1⟩ := h1.at_
  obtain ⟨dy, gs, e2⟩ := h2.at_
  refine ⟨m, dx, fs, .ref CM, rfl, e1, .ins e2, nfM, m, t, _, rs, _, _, rfl, h1.turns, .inl ⟨m2, t2, rs, _, _, rfl, h2.turns, _, rfl, ?_⟩⟩
  rw [eq_eqV h1.valid]
  exact k
theorem rd_ne {K : PySem.W.Frag} {C CM : Addr} {H : Hp} {m m2 t t2 : Addr} {rs : List Row} {v w : Str → Bool} {E : XK} {Q : VK} (h1 : MV C CM H m t rs v) (h2 : MV C CM H m2 t2 rs w) (k : Q (.bl (!eqV rs v w)) H) : rNeC K CM (spMEq K C CM) E (.ref m) (.ref m2) H Q := by
  obtain ⟨dx, fs, e1⟩ := h1.at_
  obtain ⟨dy, gs, e2⟩ := h2.at_
  refine ⟨m, dx, fs, .ref CM, rfl, e1, .ins e2, nfM, m, t, _, rs, _, _, rfl, h1.turns, .inl ⟨m2, t2, rs, _, _, rfl, h2.turns, _, rfl, ?_⟩⟩
  rw [eq_eqV h1.valid]
  exact k
theorem turned_not (ts : List Str) : ∀ (l : List Str) (d : Bool), turned (!d) ts l = !(turned d ts l)
  | [], _ => rfl
  | x :: l, d => by
    show turned (if x ∈ ts then !(!d) else !d) ts l = !(turned (if x ∈ ts then !d else d) ts l)
    rw [← turned_not ts l]
    by_cases h : x ∈ ts
    · rw [if_pos h, if_pos h]
    · rw [if_neg h, if_neg h]
end Ts

set_option maxRecDepth 100000
set_option maxHeartbeats 4000000
namespace Ts
open PySem L2
/-- a dict comprehension over any walk -/
theorem dc_walk {J : It} {n : Nat} {G : Hp → Prop} {Y : Nat → Hp → V → Hp → Prop} (wk : Walk J n G Y) {g : TG} {tt : TT} {tk tv : TE} {us : List Nat} {σ : L2.St} {H0 : Hp} {D : Addr} {Qd : Hp → Prop} (I : Nat → Hp → Prop) (start : I 0 (upd H0 D (.dK []))) (stays : ∀ i H, i ≤ n → I i H → G H)
    (turn : ∀ i x H H', i < n → I i H → Y i H x H' → g x (wipe σ us) H' fun σ2 H2 => wipe σ2 us = wipe σ us ∧ tt σ2 H2 fun b H3 => if b = true then tk σ2 H3 fun y H4 => tv σ2 H4 fun z H5 => ∃ kvs k, y = kV k ∧ H5 D = some (.dK kvs) ∧ kvs.length < sizeLine ∧ I (i + 1) (upd H5 D (.dK (putK kvs k z))) else I (i + 1) H3)
    (done : ∀ H, I n H → Qd H) : ∃ W : Nat → Nat → Hp → Prop, (∃ m, W 0 m (upd H0 D (.dK []))) ∧ ∀ i m H, W i m H → (J.stop i H ∧ Qd H) ∨ (J.go i H ∧ ∃ Nx : Hp → Prop, (∀ H', Nx H' → ∃ m', m' < m ∧ W (i + 1) m' H') ∧ ∀ x H', J.yld i H x H' → g x (wipe σ us) H' fun σ2 H2 => wipe σ2 us = wipe σ us ∧ tt σ2 H2 fun b H3 =>
      if b = true then tk σ2 H3 fun y H4 => tv σ2 H4 fun z H5 => ∃ kvs k, y = kV k ∧ H5 D = some (.dK kvs) ∧ kvs.length < sizeLine ∧ Nx (upd H5 D (.dK (putK kvs k z))) else Nx H3) := by
  refine ⟨fun i m H => m = n - i ∧ i ≤ n ∧ I i H, ⟨n, rfl, Nat.zero_le _, start⟩, ?_⟩
  rintro i m H ⟨rfl, hi, here⟩
  have ok := stays i H hi here
  rcases Nat.lt_or_ge i n with lt | ge
  · exact .inr ⟨wk.goes i H lt ok, I (i + 1), fun H' h' => ⟨n - (i + 1), by omega, rfl, lt, h'⟩, fun x H' y => turn i x H H' lt here (wk.yields i H x H' lt ok y)⟩
  · obtain rfl : i = n := Nat.le_antisymm hi ge
    exact .inl ⟨wk.stops H ok, done H here⟩
def spCheckTrees (C CM : Addr) : Sp := fun vs H Q _ => ∃ (m m2 t t2 : Addr) (rs : List Row) (d d2 : Bool) (ts ts2 : List Str), vs = [.ref m, .ref m2] ∧ MeanAt C CM H m t rs d ts ∧ MeanAt C CM H m2 t2 rs d2 ts2 ∧ Q .non H
section
variable {P : Program} {w : World} {K : PySem.W.Frag} {mg : Str → Option Value} {base : Heap} {C CM : Addr}
theorem sc_check_trees : FnScope ["one", "other"] ["one", "other"] (defScope s_check_trees) := ⟨rfl, rfl, rfl, by decide +kernel, rfl, by decide +kernel, by decide +kernel⟩
theorem ok_check_trees (D : DefAt K mg "check_trees" s_check_trees ["one", "other"]) (M : TxM K mg CM) (N : TxN K C)
    (mE : MethAt K C "__eq__" "Tree.__eq__" s_Tree_eq ["self", "other"]) (GE : FnOk P w K mg base CX0 2 mE.f mE.fd ["self", "other"] (spEqT K C)) : FnOk P w K mg base CX0 4 D.f D.fd ["one", "other"] (spCheckTrees C CM) := by
  refine D.F.ok sc_check_trees (fun vs H Q E h => ?_) (fun cdv A outer s H vs Q E hr h => ?_)
  · obtain ⟨m, m2, t, t2, rs, d, d2, ts, ts2, rfl, _⟩ := h
    rfl
  · obtain ⟨m, m2, t, t2, rs, d, d2, ts, ts2, rfl, hm, hm2, hq⟩ := h
    obtain ⟨dx, u, k, h1, h2, h3⟩ := hm.ex
    obtain ⟨dx2, u2, k2, g1, g2, g3⟩ := hm2.ex
    obtain ⟨tdx, _, _, _, _, _, t1, _⟩ := id hm.tree.ex
    obtain ⟨tdx2, _, _, _, _, _, t3, _⟩ := id hm2.tree.ex
    refine ⟨_, pss_one (ps_if (pt_cmpR (op_neC GE mE.m N.ne N.ob hr mE.b pass0) (pe_fld (pv 0) rfl) (pe_fld (pv 1) rfl) (nomark _)) (pss_one ps_never) pss_nil), ?_⟩
    refine ⟨_, rfl, m, CM, dx, _, _, rfl, h1, M.cl, M.nt, mf_t _ _ _ _, _, rfl, m2, CM, dx2, _, _, rfl, g1, M.cl, M.nt, mf_t _ _ _ _, t, tdx, _, .ref C, rfl, t1, .ins t3, nfC, t, _, rs, rfl, hm.tree, .inl ⟨t2, rs, rfl, hm2.tree, _, rfl, _, rfl, ?_⟩⟩
    exact iteF' (by simp) hq
abbrev nWith : List Str := ["tree", "values", "turns", "box"]
theorem sc_with : FnScope nWith ["tree", "values"] (defScope s_with_values) := ⟨rfl, rfl, rfl, by decide +kernel, rfl, by decide +kernel, by decide +kernel⟩
theorem ok_with {fM : Addr} {fdM : FuncData} (D : DefAt K mg "with_values" s_with_values ["tree", "values"]) (TC : TxC K mg) (T : TxT K mg C) (M : TxM K mg CM)
    (MM : Mk K CM fM) (bM : Binds K fdM ["self", "tree", "default", "turns"] []) (GM : FnOk P w K mg base CX0 7 fM fdM ["self", "tree", "default", "turns"] (spMeaningInit K C CM))
    (mB : MethAt K C "below" "Tree.below" s_Tree_below ["self", "box"]) (GB : FnOk P w K mg base CX0 5 mB.f mB.fd ["self", "box"] (spListOf C belowL))
    (mF : MethAt K C "folder" "Tree.folder" s_Tree_folder ["self", "box"]) (GF : FnOk P w K mg base CX0 4 mF.f mF.fd ["self", "box"] (spGet C fun r => .str r.fo)) : FnOk P w K mg base CX0 9 D.f D.fd ["tree", "values"] (spWith C CM) := by
  obtain ⟨t1, gT⟩ := TC.top
  refine D.F.ok sc_with (fun vs H Q E h => ?_) (fun cdv A outer s H vs Q E hr h => ?_)
  · obtain ⟨t, vd, rs, v, rfl, _⟩ := h
    rfl
  · obtain ⟨t, vd, rs, v, rfl, ht, hvd, hlk, hq⟩ := h
    have hu := hu_of hr
    have hr4 : Room 5 _ := hr.mono (by decide)
    have hr3 : Room 4 _ := hr.mono (by decide)
    refine ⟨_, pss_cons (ps_setLc (i := 2) (own := [("box", 3)]) (g := gName 3) (tt := tTest (tOp rNe (tDGet (tVar 1) (tVar 3)) (tDGet (tVar 1) (tMeth C "folder" (spGet C fun r => .str r.fo) [] E0 (tVar 0) (tCons (tVar 3) tNil))))) (te := tVar 3) rfl sc_with.nd rfl rfl (sw_true rfl rfl rfl (by decide +kernel)) (pi_list (pe_meth (pv 0) T.cl mB.m GB hr4 mB.b .nil pass0 (pa_cons (pe_glob (by rfl) gT (v := .str ("top" : Str)) ⟨_, rfl⟩) pa_nil))) (blkOk_by (N := nWith) (sc := defScope s_with_values) (by decide +kernel))
        (fun _ _ _ _ _ => pg_name (i := 3) sc_with.nd rfl (Or.inl rfl)) (fun _ _ _ _ _ => by exact pts_one (pt_cmpR op_ne (pe_dget hu (pv 1) (pv 3) (fun _ _ => rfl)) (pe_dget hu (pv 1) (pe_meth (pv 0) T.cl mF.m GF hr3 mF.b .nil pass0 (pa_cons (pv 3) pa_nil)) (fun _ _ => rfl)) (nomark _))) (fun _ _ _ _ _ => pv 3))
      (pss_one (ps_ret (pe_make MM GM hr rfl M.g bM .nil pass0 (pa_cons (pv 0) (pa_cons (pe_dget hu (pv 1) (pe_glob (by rfl) gT (v := .str ("top" : Str)) ⟨_, rfl⟩) (fun _ _ => rfl)) (pa_cons (pv 2) pa_nil)))))), ?_⟩
    have hv := ht.val
    have l100 := ht.len
    obtain ⟨dx, q, f, k, p, qs, h1, _⟩ := id ht.ex
    have noB : (tf q f k p).lookup ("below" : Str) = none := tf_no _ _ _ _ (by decide +kernel) (by decide +kernel) (by decide +kernel) (by decide +kernel)
    have noF : (tf q f k p).lookup ("folder" : Str) = none := tf_no _ _ _ _ (by decide +kernel) (by decide +kernel) (by decide +kernel) (by decide +kernel)
    refine ⟨_, rfl, t, dx, _, rfl, h1, noB, t, ("top" : Str), rs, rfl, ht, .inl rfl, fun bl H2 hbl s2 e2 => ?_⟩
    rw [below_top hv] at e2
    refine ⟨bl, rfl, ⟨_, SqL.of e2⟩, fun D hD => ?_⟩
    refine lc_list (K := K) (a := bl) (xs := (names rs).map V.str) (fun i H' => Same H2 H' ∧ H' D = some (.lst ((((rs.take i).filter fun r => decide (v r.nm ≠ v r.fo)).map (·.nm)).map V.str))) ⟨Same.new hD, upd_same⟩ (fun i H' _ m => m.1.seq (SqL.of e2)) ?_ ?_
    · rintro i x H3 hxi ⟨s3, hD3⟩
      unfold names at hxi
      rw [List.getElem?_map, List.getElem?_map] at hxi
      obtain ⟨n1, hn1, rfl⟩ := Option.map_eq_some_iff.mp hxi
      obtain ⟨r, hr', rfl⟩ := Option.map_eq_some_iff.mp hn1
      have hrm := List.mem_of_getElem? hr'
      have s23 := s2.trans s3
      have dg := DGet.k (k := Sum.inr r.nm) (s23 _ _ hvd)
      rw [valV_kvG v (nm_plc hrm)] at dg
      have dg2 := DGet.k (k := Sum.inr r.fo) (s23 _ _ hvd)
      rw [valV_kvG v (fo_plc hv hrm)] at dg2
      have szD : (((rs.take i).filter fun r => decide (v r.nm ≠ v r.fo)).map (·.nm)).length ≤ 1000 := by
        rw [List.length_map]
        have h1 := List.length_filter_le (fun r : Row => decide (v r.nm ≠ v r.fo)) (rs.take i)
        rw [List.length_take] at h1
        omega
      refine ⟨rfl, _, rfl, _, rfl, vd, _, rfl, dg, _, rfl, _, rfl, t, dx, _, rfl, s23 _ _ h1, noF, _, rfl, t, r.nm, rs, r, rfl, ht.same s23, rowOf_at hv hr', vd, _, rfl, dg2, rfl, _, rfl, ?_⟩
      have e0 : (!decide (V.bl (v r.nm) = V.bl (v r.fo))) = decide (v r.nm ≠ v r.fo) := by
        cases v r.nm <;> cases v r.fo <;> rfl
      rw [e0]
      refine ite2 (fun hc => ?_) (fun hc => ?_)
      · refine ⟨_, rfl, _, hD3, by rw [List.length_map]; exact small1000 szD, fun b o eb => ?_, ?_⟩
        · rw [upd_ne (fun y => by rw [y, hD] at eb; cases eb)]
          exact s3 _ _ eb
        · rw [upd_same, filter_take hr', if_pos hc, List.map_append]; rfl
      · refine ⟨s3, ?_⟩
        rw [filter_take hr', if_neg hc, List.append_nil]
        exact hD3
    rintro H3 ⟨s3, hD3⟩
    rw [show ((names rs).map V.str).length = rs.length from by unfold names; rw [List.length_map, List.length_map], List.take_length] at hD3
    have s23 := s2.trans s3
    have dgt := DGet.k (k := Sum.inr ("top" : Str)) (s23 _ _ hvd)
    rw [valV_kvG v (mem_plc.mpr (.inl rfl))] at dgt
    refine ⟨_, rfl, _, rfl, vd, _, rfl, dgt, _, rfl, ?_⟩
    have fr : ∀ z ∈ turnsG rs v, Free rs z := fun z hz => by
      obtain ⟨r, hr, rfl⟩ := List.mem_map.mp hz
      rw [List.mem_filter, decide_eq_true_eq] at hr
      obtain ⟨i, hi, e⟩ := List.mem_iff_getElem.mp hr.1
      exact ⟨r, rowOf_at hv (by rw [← e]; exact List.getElem?_eq_getElem hi), fun q => hr.2 (hlk r hr.1 q)⟩
    refine fun m dm nm nd _ => ⟨m, dm, t, D, v "top", turnsG rs v, rs, rfl, upd_same, (ht.same s23).same (mk_same0 nm nd), SqX.same (.inl (SqL.of hD3)) (mk_same0 nm nd), fr, fun H4 sb4 hm => ⟨rfl, ?_⟩⟩
    rw [turnsL_sub hv (turnsG_sub rs v)] at hm
    exact hq m H4 (s23.trans (mk_same nm nd sb4)) ⟨⟨_, _, hm, val_turnsG hv v⟩, hlk⟩
theorem sc_M_xor : FnScope ["self", "other", "box"] ["self", "other"] (defScope s_Meaning_xor) := ⟨rfl, rfl, rfl, by decide +kernel, rfl, by decide +kernel, by decide +kernel⟩
theorem ok_M_xor {f : Addr} {fd : FuncData} (F : Fun K "__xor__" "Meaning.__xor__" s_Meaning_xor f fd) (M : TxM K mg CM) (Dc : DefAt K mg "check_trees" s_check_trees ["one", "other"]) (Gc : FnOk P w K mg base CX0 4 Dc.f Dc.fd ["one", "other"] (spCheckTrees C CM))
    (Dw : DefAt K mg "with_values" s_with_values ["tree", "values"]) (Gw : FnOk P w K mg base CX0 9 Dw.f Dw.fd ["tree", "values"] (spWith C CM)) : FnOk P w K mg base CX0 10 f fd ["self", "other"] (spBin C CM fun a b => a != b) := by
  refine F.ok sc_M_xor (fun vs H Q E h => ?_) (fun cdv A outer s H vs Q E hr h => ?_)
  · obtain ⟨m, m2, t, t2, rs, v, w', rfl, _⟩ := h
    rfl
  · obtain ⟨m, m2, t, t2, rs, v, w', rfl, hm, hm2, hq⟩ := h
    have hu := hu_of hr
    have hr3 : Room 4 _ := hr.mono (by decide)
    have hv := hm.valid
    have hl := hm.turns.tree.len
    obtain ⟨dx, u, k, h1, h2, h3⟩ := hm.turns.ex
    obtain ⟨dx2, u2, k2, g1, g2, g3⟩ := hm2.turns.ex
    rw [kvM_kvG hv (val_turnsG hv v)] at h3
    rw [kvM_kvG hv (val_turnsG hv w')] at g3
    refine ⟨_, pss_cons (ps_expr (pe_call Gc hr3 rfl Dc.g Dc.F.kp Dc.b .nil pass0 (pa_cons (pv 0) (pa_cons (pv 1) pa_nil))))
      (pss_one (ps_ret (pe_call Gw hr rfl Dw.g Dw.F.kp Dw.b .nil pass0 (pa_cons (pe_fld (pv 0) rfl) (pa_cons (pe_lock (pe_dc (own := [("box", 2)]) (g := gName 2) (tt := tYes) (tk := tVar 2) (tv := tOp rNe (tDGet (tFld K (tVar 0) "known") (tVar 2)) (tDGet (tFld K (tVar 1) "known") (tVar 2))) rfl sc_M_xor.nd (pi_keys (pe_fld (pv 0) rfl)) (blkOk_by (N := ["self", "other", "box"]) (sc := defScope s_Meaning_xor) (by decide +kernel))
        (fun _ _ _ _ _ => pg_name (i := 2) sc_M_xor.nd rfl (Or.inl rfl)) (fun _ _ _ _ _ => pts_nil) (fun _ _ _ _ _ => pv 2) (fun _ _ _ _ _ => by exact pe_cmpR op_ne (pe_dget hu (pe_fld (pv 0) rfl) (pv 2) (fun _ _ => rfl)) (pe_dget hu (pe_fld (pv 1) rfl) (pv 2) (fun _ _ => rfl)) (nomark _)))) pa_nil))))), ?_⟩
    refine ⟨_, rfl, _, rfl, m, m2, t, t2, rs, _, _, _, _, rfl, hm.turns, hm2.turns, ?_⟩
    refine ⟨_, rfl, m, CM, dx, _, _, rfl, h1, M.cl, M.nt, mf_t _ _ _ _, ?_⟩
    refine ⟨k, _, h3, trivial, fun od => ?_⟩
    obtain ⟨Hl, El⟩ : ∃ Hx, Hx = upd H k (.frz od (.dK (kvG rs v))) := ⟨_, rfl⟩
    have lk : Hl k = some (.frz od (.dK (kvG rs v))) := by rw [El]; exact upd_same
    have l1 : Hl m = some (.ins CM dx (mf t u k (v "top"))) := by
      rw [El, upd_ne (fun e => by rw [e, h3] at h1; cases h1)]; exact h1
    have l2 : Hl m2 = some (.ins CM dx2 (mf t2 u2 k2 (w' "top"))) := by
      rw [El, upd_ne (fun e => by rw [e, h3] at g1; cases g1)]; exact g1
    have back : ∀ {H' : Hp}, Same Hl H' → Same H (upd H' k (.dK (kvG rs v))) := fun {H'} sl b o e => by
      by_cases q : b = k
      · rw [q, upd_same, ← e, q]; exact h3.symm
      · rw [upd_ne q]; exact sl _ _ (by rw [El, upd_ne q]; exact e)
    have lk2 : ∃ kv, Rd Hl k2 (.dK kv) ∧ kv = kvG rs w' := by
      by_cases q : k2 = k
      · rw [q] at g3
        rw [h3] at g3
        have e3 := HO.dK.inj (Option.some.inj g3)
        exact ⟨_, by rw [q]; exact .inr ⟨od, lk⟩, e3⟩
      · exact ⟨_, .inl (by rw [El, upd_ne q]; exact g3), rfl⟩
    obtain ⟨kv2, rd2, rfl⟩ := lk2
    rw [← El]
    clear El
    refine ⟨_, rfl, m, CM, dx, _, _, rfl, l1, M.cl, M.nk, mf_k _ _ _ _, k, od, rfl, .inl ⟨_, lk, fun D hD => ?_⟩⟩
    have nD : D ≠ k := (ne_of_none lk hD).symm
    have lp : (plc rs).length ≤ 101 := by unfold plc names; rw [List.length_cons, List.length_map]; omega
    refine dc_walk (walk_keys (d := k) (o := od) (kvs := kvG rs v)) (fun i H' => Same Hl H' ∧ H' D = some (.dK (((plc rs).take i).map fun z => ((.inr z : Key), V.bl ((fun a b => a != b) (v z) (w' z)))))) ⟨Same.new hD, upd_same⟩ (fun i H' _ m => m.1 _ _ lk) ?_ ?_
    · rintro i x H5x H5 hi ⟨s5, hD5⟩ ⟨rfl, k', v', hk, rfl⟩
      obtain ⟨z, rfl, hz⟩ := kvG_at hk
      have hzm := List.mem_of_getElem? hz
      have dg1 : DGet H5 k (.str z) (some (.bl (v z))) := .inl ⟨_, .inr z, .inr ⟨od, s5 _ _ lk⟩, rfl, (valV_kvG v hzm).symm⟩
      have dg2 : DGet H5 k2 (.str z) (some (.bl (w' z))) := .inl ⟨_, .inr z, rd2.imp (s5 _ _) (fun ⟨o, e⟩ => ⟨o, s5 _ _ e⟩), rfl, (valV_kvG w' hzm).symm⟩
      refine ⟨rfl, tYes_if ?_⟩
      refine ⟨_, rfl, _, rfl, m, CM, dx, _, _, rfl, s5 _ _ l1, M.cl, M.nk, mf_k _ _ _ _, _, rfl, k, _, rfl, dg1, _, rfl, m2, CM, dx2, _, _, rfl, s5 _ _ l2, M.cl, M.nk, mf_k _ _ _ _, _, rfl, k2, _, rfl, dg2, rfl, ?_⟩
      have e9 : (upd H5 D (.dK (putK (((plc rs).take i).map fun z => ((.inr z : Key), V.bl (v z != w' z))) (.inr z) (.bl (!decide (V.bl (v z) = V.bl (w' z))))))) D = some (.dK (((plc rs).take (i + 1)).map fun z => ((.inr z : Key), V.bl (v z != w' z)))) := by
        rw [upd_same, ← kvP_more (plc_nodup hv) (fun z => v z != w' z) hz]
        cases v z <;> cases w' z <;> rfl
      exact ⟨_, .inr z, rfl, hD5, small1000 (by rw [List.length_map, List.length_take]; omega), fun b o eb => by
          rw [upd_ne (fun y => by rw [y, hD] at eb; cases eb)]
          exact s5 _ _ eb, e9⟩
    rintro H5 ⟨s5, hD5⟩
    rw [kvG_len, List.take_length] at hD5
    refine ⟨s5 _ _ lk, ?_⟩
    have bk := back s5
    refine ⟨t, D, rs, fun z => (fun a b => a != b) (v z) (w' z), rfl, hm.turns.tree.same bk, by rw [upd_ne nD]; exact hD5, fun r hr q => ?_, fun m3 H6 s6 hm3 => hq m3 H6 (bk.trans s6) hm3⟩
    show (fun a b => a != b) (v r.nm) (w' r.nm) = (fun a b => a != b) (v r.fo) (w' r.fo)
    rw [hm.lk r hr q, hm2.lk r hr q]
theorem sc_M_and : FnScope ["self", "other", "box"] ["self", "other"] (defScope s_Meaning_and) := ⟨rfl, rfl, rfl, by decide +kernel, rfl, by decide +kernel, by decide +kernel⟩
theorem ok_M_and {f : Addr} {fd : FuncData} (F : Fun K "__and__" "Meaning.__and__" s_Meaning_and f fd) (M : TxM K mg CM) (Dc : DefAt K mg "check_trees" s_check_trees ["one", "other"]) (Gc : FnOk P w K mg base CX0 4 Dc.f Dc.fd ["one", "other"] (spCheckTrees C CM))
    (Dw : DefAt K mg "with_values" s_with_values ["tree", "values"]) (Gw : FnOk P w K mg base CX0 9 Dw.f Dw.fd ["tree", "values"] (spWith C CM)) : FnOk P w K mg base CX0 10 f fd ["self", "other"] (spBin C CM fun a b => a && b) := by
  refine F.ok sc_M_and (fun vs H Q E h => ?_) (fun cdv A outer s H vs Q E hr h => ?_)
  · obtain ⟨m, m2, t, t2, rs, v, w', rfl, _⟩ := h
    rfl
  · obtain ⟨m, m2, t, t2, rs, v, w', rfl, hm, hm2, hq⟩ := h
    have hu := hu_of hr
    have hr3 : Room 4 _ := hr.mono (by decide)
    have hv := hm.valid
    have hl := hm.turns.tree.len
    obtain ⟨dx, u, k, h1, h2, h3⟩ := hm.turns.ex
    obtain ⟨dx2, u2, k2, g1, g2, g3⟩ := hm2.turns.ex
    rw [kvM_kvG hv (val_turnsG hv v)] at h3
    rw [kvM_kvG hv (val_turnsG hv w')] at g3
    refine ⟨_, pss_cons (ps_expr (pe_call Gc hr3 rfl Dc.g Dc.F.kp Dc.b .nil pass0 (pa_cons (pv 0) (pa_cons (pv 1) pa_nil))))
      (pss_one (ps_ret (pe_call Gw hr rfl Dw.g Dw.F.kp Dw.b .nil pass0 (pa_cons (pe_fld (pv 0) rfl) (pa_cons (pe_lock (pe_dc (own := [("box", 2)]) (g := gName 2) (tt := tYes) (tk := tVar 2) (tv := tAndV (tDGet (tFld K (tVar 0) "known") (tVar 2)) (tDGet (tFld K (tVar 1) "known") (tVar 2))) rfl sc_M_and.nd (pi_keys (pe_fld (pv 0) rfl)) (blkOk_by (N := ["self", "other", "box"]) (sc := defScope s_Meaning_and) (by decide +kernel))
        (fun _ _ _ _ _ => pg_name (i := 2) sc_M_and.nd rfl (Or.inl rfl)) (fun _ _ _ _ _ => pts_nil) (fun _ _ _ _ _ => pv 2) (fun _ _ _ _ _ => by exact pe_and (pe_dget hu (pe_fld (pv 0) rfl) (pv 2) (fun _ _ => rfl)) (pe_one (pe_dget hu (pe_fld (pv 1) rfl) (pv 2) (fun _ _ => rfl)))))) pa_nil))))), ?_⟩
    refine ⟨_, rfl, _, rfl, m, m2, t, t2, rs, _, _, _, _, rfl, hm.turns, hm2.turns, ?_⟩
    refine ⟨_, rfl, m, CM, dx, _, _, rfl, h1, M.cl, M.nt, mf_t _ _ _ _, ?_⟩
    refine ⟨k, _, h3, trivial, fun od => ?_⟩
    obtain ⟨Hl, El⟩ : ∃ Hx, Hx = upd H k (.frz od (.dK (kvG rs v))) := ⟨_, rfl⟩
    have lk : Hl k = some (.frz od (.dK (kvG rs v))) := by rw [El]; exact upd_same
    have l1 : Hl m = some (.ins CM dx (mf t u k (v "top"))) := by
      rw [El, upd_ne (fun e => by rw [e, h3] at h1; cases h1)]; exact h1
    have l2 : Hl m2 = some (.ins CM dx2 (mf t2 u2 k2 (w' "top"))) := by
      rw [El, upd_ne (fun e => by rw [e, h3] at g1; cases g1)]; exact g1
    have back : ∀ {H' : Hp}, Same Hl H' → Same H (upd H' k (.dK (kvG rs v))) := fun {H'} sl b o e => by
      by_cases q : b = k
      · rw [q, upd_same, ← e, q]; exact h3.symm
      · rw [upd_ne q]; exact sl _ _ (by rw [El, upd_ne q]; exact e)
    have lk2 : ∃ kv, Rd Hl k2 (.dK kv) ∧ kv = kvG rs w' := by
      by_cases q : k2 = k
      · rw [q] at g3
        rw [h3] at g3
        have e3 := HO.dK.inj (Option.some.inj g3)
        exact ⟨_, by rw [q]; exact .inr ⟨od, lk⟩, e3⟩
      · exact ⟨_, .inl (by rw [El, upd_ne q]; exact g3), rfl⟩
    obtain ⟨kv2, rd2, rfl⟩ := lk2
    rw [← El]
    clear El
    refine ⟨_, rfl, m, CM, dx, _, _, rfl, l1, M.cl, M.nk, mf_k _ _ _ _, k, od, rfl, .inl ⟨_, lk, fun D hD => ?_⟩⟩
    have nD : D ≠ k := (ne_of_none lk hD).symm
    have lp : (plc rs).length ≤ 101 := by unfold plc names; rw [List.length_cons, List.length_map]; omega
    refine dc_walk (walk_keys (d := k) (o := od) (kvs := kvG rs v)) (fun i H' => Same Hl H' ∧ H' D = some (.dK (((plc rs).take i).map fun z => ((.inr z : Key), V.bl ((fun a b => a && b) (v z) (w' z)))))) ⟨Same.new hD, upd_same⟩ (fun i H' _ m => m.1 _ _ lk) ?_ ?_
    · rintro i x H5x H5 hi ⟨s5, hD5⟩ ⟨rfl, k', v', hk, rfl⟩
      obtain ⟨z, rfl, hz⟩ := kvG_at hk
      have hzm := List.mem_of_getElem? hz
      have dg1 : DGet H5 k (.str z) (some (.bl (v z))) := .inl ⟨_, .inr z, .inr ⟨od, s5 _ _ lk⟩, rfl, (valV_kvG v hzm).symm⟩
      have dg2 : DGet H5 k2 (.str z) (some (.bl (w' z))) := .inl ⟨_, .inr z, rd2.imp (s5 _ _) (fun ⟨o, e⟩ => ⟨o, s5 _ _ e⟩), rfl, (valV_kvG w' hzm).symm⟩
      refine ⟨rfl, tYes_if ⟨_, rfl, _, rfl, m, CM, dx, _, _, rfl, s5 _ _ l1, M.cl, M.nk, mf_k _ _ _ _, _, rfl, k, _, rfl, dg1, _, rfl, ?_⟩⟩
      have e9 : ∀ b : Bool, b = (v z && w' z) → (upd H5 D (.dK (putK (((plc rs).take i).map fun z => ((.inr z : Key), V.bl (v z && w' z))) (.inr z) (.bl b)))) D = some (.dK (((plc rs).take (i + 1)).map fun z => ((.inr z : Key), V.bl (v z && w' z)))) := fun b e => by
        rw [upd_same, e, ← kvP_more (plc_nodup hv) (fun z => v z && w' z) hz]
      refine ite2 (fun hc => ?_) (fun hc => ?_)
      · refine ⟨_, rfl, m2, CM, dx2, _, _, rfl, s5 _ _ l2, M.cl, M.nk, mf_k _ _ _ _, _, rfl, k2, _, rfl, dg2, ?_⟩
        refine ⟨_, .inr z, rfl, hD5, small1000 (by rw [List.length_map, List.length_take]; omega), fun b o eb => by
          rw [upd_ne (fun y => by rw [y, hD] at eb; cases eb)]
          exact s5 _ _ eb, e9 _ (by rw [hc]; rfl)⟩
      · have hc' : v z = false := by simpa using hc
        refine ⟨_, .inr z, rfl, hD5, small1000 (by rw [List.length_map, List.length_take]; omega), fun b o eb => by
          rw [upd_ne (fun y => by rw [y, hD] at eb; cases eb)]
          exact s5 _ _ eb, e9 false (by rw [hc']; rfl)⟩
    rintro H5 ⟨s5, hD5⟩
    rw [kvG_len, List.take_length] at hD5
    refine ⟨s5 _ _ lk, ?_⟩
    have bk := back s5
    refine ⟨t, D, rs, fun z => (fun a b => a && b) (v z) (w' z), rfl, hm.turns.tree.same bk, by rw [upd_ne nD]; exact hD5, fun r hr q => ?_, fun m3 H6 s6 hm3 => hq m3 H6 (bk.trans s6) hm3⟩
    show (fun a b => a && b) (v r.nm) (w' r.nm) = (fun a b => a && b) (v r.fo) (w' r.fo)
    rw [hm.lk r hr q, hm2.lk r hr q]
theorem sc_M_or : FnScope ["self", "other", "box"] ["self", "other"] (defScope s_Meaning_or) := ⟨rfl, rfl, rfl, by decide +kernel, rfl, by decide +kernel, by decide +kernel⟩
theorem ok_M_or {f : Addr} {fd : FuncData} (F : Fun K "__or__" "Meaning.__or__" s_Meaning_or f fd) (M : TxM K mg CM) (Dc : DefAt K mg "check_trees" s_check_trees ["one", "other"]) (Gc : FnOk P w K mg base CX0 4 Dc.f Dc.fd ["one", "other"] (spCheckTrees C CM))
    (Dw : DefAt K mg "with_values" s_with_values ["tree", "values"]) (Gw : FnOk P w K mg base CX0 9 Dw.f Dw.fd ["tree", "values"] (spWith C CM)) : FnOk P w K mg base CX0 10 f fd ["self", "other"] (spBin C CM fun a b => a || b) := by
  refine F.ok sc_M_or (fun vs H Q E h => ?_) (fun cdv A outer s H vs Q E hr h => ?_)
  · obtain ⟨m, m2, t, t2, rs, v, w', rfl, _⟩ := h
    rfl
  · obtain ⟨m, m2, t, t2, rs, v, w', rfl, hm, hm2, hq⟩ := h
    have hu := hu_of hr
    have hr3 : Room 4 _ := hr.mono (by decide)
    have hv := hm.valid
    have hl := hm.turns.tree.len
    obtain ⟨dx, u, k, h1, h2, h3⟩ := hm.turns.ex
    obtain ⟨dx2, u2, k2, g1, g2, g3⟩ := hm2.turns.ex
    rw [kvM_kvG hv (val_turnsG hv v)] at h3
    rw [kvM_kvG hv (val_turnsG hv w')] at g3
    refine ⟨_, pss_cons (ps_expr (pe_call Gc hr3 rfl Dc.g Dc.F.kp Dc.b .nil pass0 (pa_cons (pv 0) (pa_cons (pv 1) pa_nil))))
      (pss_one (ps_ret (pe_call Gw hr rfl Dw.g Dw.F.kp Dw.b .nil pass0 (pa_cons (pe_fld (pv 0) rfl) (pa_cons (pe_lock (pe_dc (own := [("box", 2)]) (g := gName 2) (tt := tYes) (tk := tVar 2) (tv := tOrV (tDGet (tFld K (tVar 0) "known") (tVar 2)) (tDGet (tFld K (tVar 1) "known") (tVar 2))) rfl sc_M_or.nd (pi_keys (pe_fld (pv 0) rfl)) (blkOk_by (N := ["self", "other", "box"]) (sc := defScope s_Meaning_or) (by decide +kernel))
        (fun _ _ _ _ _ => pg_name (i := 2) sc_M_or.nd rfl (Or.inl rfl)) (fun _ _ _ _ _ => pts_nil) (fun _ _ _ _ _ => pv 2) (fun _ _ _ _ _ => by exact pe_or (pe_dget hu (pe_fld (pv 0) rfl) (pv 2) (fun _ _ => rfl)) (pe_one (pe_dget hu (pe_fld (pv 1) rfl) (pv 2) (fun _ _ => rfl)))))) pa_nil))))), ?_⟩
    refine ⟨_, rfl, _, rfl, m, m2, t, t2, rs, _, _, _, _, rfl, hm.turns, hm2.turns, ?_⟩
    refine ⟨_, rfl, m, CM, dx, _, _, rfl, h1, M.cl, M.nt, mf_t _ _ _ _, ?_⟩
    refine ⟨k, _, h3, trivial, fun od => ?_⟩
    obtain ⟨Hl, El⟩ : ∃ Hx, Hx = upd H k (.frz od (.dK (kvG rs v))) := ⟨_, rfl⟩
    have lk : Hl k = some (.frz od (.dK (kvG rs v))) := by rw [El]; exact upd_same
    have l1 : Hl m = some (.ins CM dx (mf t u k (v "top"))) := by
      rw [El, upd_ne (fun e => by rw [e, h3] at h1; cases h1)]; exact h1
    have l2 : Hl m2 = some (.ins CM dx2 (mf t2 u2 k2 (w' "top"))) := by
      rw [El, upd_ne (fun e => by rw [e, h3] at g1; cases g1)]; exact g1
    have back : ∀ {H' : Hp}, Same Hl H' → Same H (upd H' k (.dK (kvG rs v))) := fun {H'} sl b o e => by
      by_cases q : b = k
      · rw [q, upd_same, ← e, q]; exact h3.symm
      · rw [upd_ne q]; exact sl _ _ (by rw [El, upd_ne q]; exact e)
    have lk2 : ∃ kv, Rd Hl k2 (.dK kv) ∧ kv = kvG rs w' := by
      by_cases q : k2 = k
      · rw [q] at g3
        rw [h3] at g3
        have e3 := HO.dK.inj (Option.some.inj g3)
        exact ⟨_, by rw [q]; exact .inr ⟨od, lk⟩, e3⟩
      · exact ⟨_, .inl (by rw [El, upd_ne q]; exact g3), rfl⟩
    obtain ⟨kv2, rd2, rfl⟩ := lk2
    rw [← El]
    clear El
    refine ⟨_, rfl, m, CM, dx, _, _, rfl, l1, M.cl, M.nk, mf_k _ _ _ _, k, od, rfl, .inl ⟨_, lk, fun D hD => ?_⟩⟩
    have nD : D ≠ k := (ne_of_none lk hD).symm
    have lp : (plc rs).length ≤ 101 := by unfold plc names; rw [List.length_cons, List.length_map]; omega
    refine dc_walk (walk_keys (d := k) (o := od) (kvs := kvG rs v)) (fun i H' => Same Hl H' ∧ H' D = some (.dK (((plc rs).take i).map fun z => ((.inr z : Key), V.bl ((fun a b => a || b) (v z) (w' z)))))) ⟨Same.new hD, upd_same⟩ (fun i H' _ m => m.1 _ _ lk) ?_ ?_
    · rintro i x H5x H5 hi ⟨s5, hD5⟩ ⟨rfl, k', v', hk, rfl⟩
      obtain ⟨z, rfl, hz⟩ := kvG_at hk
      have hzm := List.mem_of_getElem? hz
      have dg1 : DGet H5 k (.str z) (some (.bl (v z))) := .inl ⟨_, .inr z, .inr ⟨od, s5 _ _ lk⟩, rfl, (valV_kvG v hzm).symm⟩
      have dg2 : DGet H5 k2 (.str z) (some (.bl (w' z))) := .inl ⟨_, .inr z, rd2.imp (s5 _ _) (fun ⟨o, e⟩ => ⟨o, s5 _ _ e⟩), rfl, (valV_kvG w' hzm).symm⟩
      refine ⟨rfl, tYes_if ⟨_, rfl, _, rfl, m, CM, dx, _, _, rfl, s5 _ _ l1, M.cl, M.nk, mf_k _ _ _ _, _, rfl, k, _, rfl, dg1, _, rfl, ?_⟩⟩
      have e9 : ∀ b : Bool, b = (v z || w' z) → (upd H5 D (.dK (putK (((plc rs).take i).map fun z => ((.inr z : Key), V.bl (v z || w' z))) (.inr z) (.bl b)))) D = some (.dK (((plc rs).take (i + 1)).map fun z => ((.inr z : Key), V.bl (v z || w' z)))) := fun b e => by
        rw [upd_same, e, ← kvP_more (plc_nodup hv) (fun z => v z || w' z) hz]
      refine ite2 (fun hc => ?_) (fun hc => ?_)
      · refine ⟨_, .inr z, rfl, hD5, small1000 (by rw [List.length_map, List.length_take]; omega), fun b o eb => by
          rw [upd_ne (fun y => by rw [y, hD] at eb; cases eb)]
          exact s5 _ _ eb, e9 true (by rw [hc]; rfl)⟩
      · have hc' : v z = false := by simpa using hc
        refine ⟨_, rfl, m2, CM, dx2, _, _, rfl, s5 _ _ l2, M.cl, M.nk, mf_k _ _ _ _, _, rfl, k2, _, rfl, dg2, ?_⟩
        refine ⟨_, .inr z, rfl, hD5, small1000 (by rw [List.length_map, List.length_take]; omega), fun b o eb => by
          rw [upd_ne (fun y => by rw [y, hD] at eb; cases eb)]
          exact s5 _ _ eb, e9 _ (by rw [hc']; rfl)⟩
    rintro H5 ⟨s5, hD5⟩
    rw [kvG_len, List.take_length] at hD5
    refine ⟨s5 _ _ lk, ?_⟩
    have bk := back s5
    refine ⟨t, D, rs, fun z => (fun a b => a || b) (v z) (w' z), rfl, hm.turns.tree.same bk, by rw [upd_ne nD]; exact hD5, fun r hr q => ?_, fun m3 H6 s6 hm3 => hq m3 H6 (bk.trans s6) hm3⟩
    show (fun a b => a || b) (v r.nm) (w' r.nm) = (fun a b => a || b) (v r.fo) (w' r.fo)
    rw [hm.lk r hr q, hm2.lk r hr q]
theorem sc_M_sub : FnScope ["self", "other", "box"] ["self", "other"] (defScope s_Meaning_sub) := ⟨rfl, rfl, rfl, by decide +kernel, rfl, by decide +kernel, by decide +kernel⟩
theorem ok_M_sub {f : Addr} {fd : FuncData} (F : Fun K "__sub__" "Meaning.__sub__" s_Meaning_sub f fd) (M : TxM K mg CM) (Dc : DefAt K mg "check_trees" s_check_trees ["one", "other"]) (Gc : FnOk P w K mg base CX0 4 Dc.f Dc.fd ["one", "other"] (spCheckTrees C CM))
    (Dw : DefAt K mg "with_values" s_with_values ["tree", "values"]) (Gw : FnOk P w K mg base CX0 9 Dw.f Dw.fd ["tree", "values"] (spWith C CM)) : FnOk P w K mg base CX0 10 f fd ["self", "other"] (spBin C CM fun a b => a && !b) := by
  refine F.ok sc_M_sub (fun vs H Q E h => ?_) (fun cdv A outer s H vs Q E hr h => ?_)
  · obtain ⟨m, m2, t, t2, rs, v, w', rfl, _⟩ := h
    rfl
  · obtain ⟨m, m2, t, t2, rs, v, w', rfl, hm, hm2, hq⟩ := h
    have hu := hu_of hr
    have hr3 : Room 4 _ := hr.mono (by decide)
    have hv := hm.valid
    have hl := hm.turns.tree.len
    obtain ⟨dx, u, k, h1, h2, h3⟩ := hm.turns.ex
    obtain ⟨dx2, u2, k2, g1, g2, g3⟩ := hm2.turns.ex
    rw [kvM_kvG hv (val_turnsG hv v)] at h3
    rw [kvM_kvG hv (val_turnsG hv w')] at g3
    refine ⟨_, pss_cons (ps_expr (pe_call Gc hr3 rfl Dc.g Dc.F.kp Dc.b .nil pass0 (pa_cons (pv 0) (pa_cons (pv 1) pa_nil))))
      (pss_one (ps_ret (pe_call Gw hr rfl Dw.g Dw.F.kp Dw.b .nil pass0 (pa_cons (pe_fld (pv 0) rfl) (pa_cons (pe_lock (pe_dc (own := [("box", 2)]) (g := gName 2) (tt := tYes) (tk := tVar 2) (tv := tAndV (tDGet (tFld K (tVar 0) "known") (tVar 2)) (tNotV (tDGet (tFld K (tVar 1) "known") (tVar 2)))) rfl sc_M_sub.nd (pi_keys (pe_fld (pv 0) rfl)) (blkOk_by (N := ["self", "other", "box"]) (sc := defScope s_Meaning_sub) (by decide +kernel))
        (fun _ _ _ _ _ => pg_name (i := 2) sc_M_sub.nd rfl (Or.inl rfl)) (fun _ _ _ _ _ => pts_nil) (fun _ _ _ _ _ => pv 2) (fun _ _ _ _ _ => by exact pe_and (pe_dget hu (pe_fld (pv 0) rfl) (pv 2) (fun _ _ => rfl)) (pe_one (pe_not (pe_dget hu (pe_fld (pv 1) rfl) (pv 2) (fun _ _ => rfl))))))) pa_nil))))), ?_⟩
    refine ⟨_, rfl, _, rfl, m, m2, t, t2, rs, _, _, _, _, rfl, hm.turns, hm2.turns, ?_⟩
    refine ⟨_, rfl, m, CM, dx, _, _, rfl, h1, M.cl, M.nt, mf_t _ _ _ _, ?_⟩
    refine ⟨k, _, h3, trivial, fun od => ?_⟩
    obtain ⟨Hl, El⟩ : ∃ Hx, Hx = upd H k (.frz od (.dK (kvG rs v))) := ⟨_, rfl⟩
    have lk : Hl k = some (.frz od (.dK (kvG rs v))) := by rw [El]; exact upd_same
    have l1 : Hl m = some (.ins CM dx (mf t u k (v "top"))) := by
      rw [El, upd_ne (fun e => by rw [e, h3] at h1; cases h1)]; exact h1
    have l2 : Hl m2 = some (.ins CM dx2 (mf t2 u2 k2 (w' "top"))) := by
      rw [El, upd_ne (fun e => by rw [e, h3] at g1; cases g1)]; exact g1
    have back : ∀ {H' : Hp}, Same Hl H' → Same H (upd H' k (.dK (kvG rs v))) := fun {H'} sl b o e => by
      by_cases q : b = k
      · rw [q, upd_same, ← e, q]; exact h3.symm
      · rw [upd_ne q]; exact sl _ _ (by rw [El, upd_ne q]; exact e)
    have lk2 : ∃ kv, Rd Hl k2 (.dK kv) ∧ kv = kvG rs w' := by
      by_cases q : k2 = k
      · rw [q] at g3
        rw [h3] at g3
        have e3 := HO.dK.inj (Option.some.inj g3)
        exact ⟨_, by rw [q]; exact .inr ⟨od, lk⟩, e3⟩
      · exact ⟨_, .inl (by rw [El, upd_ne q]; exact g3), rfl⟩
    obtain ⟨kv2, rd2, rfl⟩ := lk2
    rw [← El]
    clear El
    refine ⟨_, rfl, m, CM, dx, _, _, rfl, l1, M.cl, M.nk, mf_k _ _ _ _, k, od, rfl, .inl ⟨_, lk, fun D hD => ?_⟩⟩
    have nD : D ≠ k := (ne_of_none lk hD).symm
    have lp : (plc rs).length ≤ 101 := by unfold plc names; rw [List.length_cons, List.length_map]; omega
    refine dc_walk (walk_keys (d := k) (o := od) (kvs := kvG rs v)) (fun i H' => Same Hl H' ∧ H' D = some (.dK (((plc rs).take i).map fun z => ((.inr z : Key), V.bl ((fun a b => a && !b) (v z) (w' z)))))) ⟨Same.new hD, upd_same⟩ (fun i H' _ m => m.1 _ _ lk) ?_ ?_
    · rintro i x H5x H5 hi ⟨s5, hD5⟩ ⟨rfl, k', v', hk, rfl⟩
      obtain ⟨z, rfl, hz⟩ := kvG_at hk
      have hzm := List.mem_of_getElem? hz
      have dg1 : DGet H5 k (.str z) (some (.bl (v z))) := .inl ⟨_, .inr z, .inr ⟨od, s5 _ _ lk⟩, rfl, (valV_kvG v hzm).symm⟩
      have dg2 : DGet H5 k2 (.str z) (some (.bl (w' z))) := .inl ⟨_, .inr z, rd2.imp (s5 _ _) (fun ⟨o, e⟩ => ⟨o, s5 _ _ e⟩), rfl, (valV_kvG w' hzm).symm⟩
      refine ⟨rfl, tYes_if ⟨_, rfl, _, rfl, m, CM, dx, _, _, rfl, s5 _ _ l1, M.cl, M.nk, mf_k _ _ _ _, _, rfl, k, _, rfl, dg1, _, rfl, ?_⟩⟩
      have e9 : ∀ b : Bool, b = (v z && !(w' z)) → (upd H5 D (.dK (putK (((plc rs).take i).map fun z => ((.inr z : Key), V.bl (v z && !(w' z)))) (.inr z) (.bl b)))) D = some (.dK (((plc rs).take (i + 1)).map fun z => ((.inr z : Key), V.bl (v z && !(w' z))))) := fun b e => by
        rw [upd_same, e, ← kvP_more (plc_nodup hv) (fun z => v z && !(w' z)) hz]
      refine ite2 (fun hc => ?_) (fun hc => ?_)
      · refine ⟨_, rfl, m2, CM, dx2, _, _, rfl, s5 _ _ l2, M.cl, M.nk, mf_k _ _ _ _, _, rfl, k2, _, rfl, dg2, _, rfl, ?_⟩
        refine ⟨_, .inr z, rfl, hD5, small1000 (by rw [List.length_map, List.length_take]; omega), fun b o eb => by
          rw [upd_ne (fun y => by rw [y, hD] at eb; cases eb)]
          exact s5 _ _ eb, e9 _ (by rw [hc]; rfl)⟩
      · have hc' : v z = false := by simpa using hc
        refine ⟨_, .inr z, rfl, hD5, small1000 (by rw [List.length_map, List.length_take]; omega), fun b o eb => by
          rw [upd_ne (fun y => by rw [y, hD] at eb; cases eb)]
          exact s5 _ _ eb, e9 false (by rw [hc']; rfl)⟩
    rintro H5 ⟨s5, hD5⟩
    rw [kvG_len, List.take_length] at hD5
    refine ⟨s5 _ _ lk, ?_⟩
    have bk := back s5
    refine ⟨t, D, rs, fun z => (fun a b => a && !b) (v z) (w' z), rfl, hm.turns.tree.same bk, by rw [upd_ne nD]; exact hD5, fun r hr q => ?_, fun m3 H6 s6 hm3 => hq m3 H6 (bk.trans s6) hm3⟩
    show (fun a b => a && !b) (v r.nm) (w' r.nm) = (fun a b => a && !b) (v r.fo) (w' r.fo)
    rw [hm.lk r hr q, hm2.lk r hr q]
theorem sc_M_invert : FnScope ["self"] ["self"] (defScope s_Meaning_invert) := ⟨rfl, rfl, rfl, by decide +kernel, rfl, by decide +kernel, by decide +kernel⟩
theorem ok_M_invert {fM f : Addr} {fdM fd : FuncData} (F : Fun K "__invert__" "Meaning.__invert__" s_Meaning_invert f fd) (M : TxM K mg CM)
    (MM : Mk K CM fM) (bM : Binds K fdM ["self", "tree", "default", "turns"] []) (GM : FnOk P w K mg base CX0 7 fM fdM ["self", "tree", "default", "turns"] (spMeaningInit K C CM)) : FnOk P w K mg base CX0 9 f fd ["self"] (spInv C CM) := by
  refine F.ok sc_M_invert (fun vs H Q E h => ?_) (fun cdv A outer s H vs Q E hr h => ?_)
  · obtain ⟨m, t, rs, v, rfl, _⟩ := h
    rfl
  · obtain ⟨m, t, rs, v, rfl, hm, hq⟩ := h
    have hv := hm.valid
    obtain ⟨dx, u, k, h1, h2, h3⟩ := hm.turns.ex
    refine ⟨_, pss_one (ps_ret (pe_make MM GM hr rfl M.g bM .nil pass0 (pa_cons (pe_fld (pv 0) rfl) (pa_cons (pe_not (pe_fld (pv 0) rfl)) (pa_cons (pe_fld (pv 0) rfl) pa_nil))))), ?_⟩
    refine ⟨_, rfl, m, CM, dx, _, _, rfl, h1, M.cl, M.nt, mf_t _ _ _ _, _, rfl, m, CM, dx, _, _, rfl, h1, M.cl, M.nd, mf_d _ _ _ _, _, rfl, _, rfl, m, CM, dx, _, _, rfl, h1, M.cl, M.nu, mf_u _ _ _ _, ?_⟩
    refine fun m3 dm nm nd _ => ⟨m3, dm, t, u, !(v "top"), turnsG rs v, rs, rfl, upd_same, hm.turns.tree.same (mk_same0 nm nd), SqX.same (.inr (sqT h2)) (mk_same0 nm nd), hm.free, fun H4 sb4 hm4 => ⟨rfl, ?_⟩⟩
    rw [turnsL_sub hv (turnsG_sub rs v)] at hm4
    refine hq m3 H4 (mk_same nm nd sb4) ⟨⟨_, _, hm4, fun z hz => ?_⟩, fun r hr q => ?_⟩
    · show turned (!(v "top")) (turnsG rs v) (wayOf rs z) = !(v z)
      rw [turned_not, ← val_turnsG hv v z hz]
      rfl
    · show (!(v r.nm)) = !(v r.fo)
      rw [hm.lk r hr q]
end
end Ts

set_option maxRecDepth 100000
set_option maxHeartbeats 4000000
namespace Ts
open PySem L2
def spLOpen : Sp := fun vs H Q _ => ∃ (p : Addr) (rs : List Row), vs = [.ref p] ∧ RowsL H p rs ∧ rs.length ≤ 100 ∧ ∀ D H', H D = none → Same H H' → H' D = some (.lst (((rs.filter fun r => decide (r.pr ≠ none)).map (·.nm)).map V.str)) → Q (.ref D) H'
section
variable {P : Program} {w : World} {K : PySem.W.Frag} {mg : Str → Option Value} {base : Heap} {C CM : Addr}
abbrev nLOpen : List Str := ["_law_rows_here", "_law_row"]
theorem sc_Lopen : FnScope nLOpen ["_law_rows_here"] (defScope s_L_open) := ⟨rfl, rfl, rfl, by decide +kernel, rfl, by decide +kernel, by decide +kernel⟩
theorem ok_Lopen (D : DefAt K mg "_law_open" s_L_open ["_law_rows_here"]) : FnOk P w K mg base CX0 2 D.f D.fd ["_law_rows_here"] spLOpen := by
  refine D.F.ok sc_Lopen (fun vs H Q E h => ?_) (fun cdv A outer s H vs Q E hr h => ?_)
  · obtain ⟨p, rs, rfl, _⟩ := h
    rfl
  · obtain ⟨p, rs, rfl, hL, hl, hq⟩ := h
    obtain ⟨as, hp, hrows⟩ := id hL.ex
    refine ⟨_, pss_one (ps_ret (pe_lc (own := [("_law_row", 1)]) (g := gName 1) (tt := tTest (tOp (fun x y H Q => y = .non ∧ Q (.bl (!decide (x = .non))) H) (tOp (rIxT K) (tVar 1) (tC (.int 3))) (tC .non))) (te := tOp (rIxT K) (tVar 1) (tC (.int 0))) rfl sc_Lopen.nd (pi_list (pv 0)) (blkOk_by (N := nLOpen) (sc := defScope s_L_open) (by decide +kernel))
        (fun _ _ _ _ _ => pg_name (i := 1) sc_Lopen.nd rfl (Or.inl rfl)) (fun _ _ _ _ _ => by exact pts_one (pt_cmpR op_notN (pe_ix ix_tup (pv 1) pe_int (fun _ _ => rfl)) pe_non (nomark _))) (fun _ _ _ _ _ => by exact pe_ix ix_tup (pv 1) pe_int (fun _ _ => rfl)))), ?_⟩
    refine ⟨_, rfl, p, rfl, ⟨_, SqL.of hp⟩, fun D hD => ?_⟩
    refine lc_list (K := K) (a := p) (xs := as.map V.ref) (fun i H' => Same H H' ∧ H' D = some (.lst ((((rs.take i).filter fun r => decide (r.pr ≠ none)).map (·.nm)).map V.str))) ⟨Same.new hD, upd_same⟩ (fun i H' _ m => m.1.seq (SqL.of hp)) ?_ ?_
    · rintro i x H3 hx ⟨s3, hD3⟩
      rw [List.getElem?_map] at hx
      obtain ⟨ra, hra, rfl⟩ := Option.map_eq_some_iff.mp hx
      obtain ⟨r, hr'⟩ : ∃ r, rs[i]? = some r := ⟨rs[i]'(by rw [← hrows.len]; exact (List.getElem?_eq_some_iff.mp hra).1), List.getElem?_eq_getElem _⟩
      have e0 := s3 _ _ (hrows.at_ i ra r hra hr')
      have szD : (((rs.take i).filter fun r => decide (r.pr ≠ none)).map (·.nm)).length ≤ 1000 := by
        rw [List.length_map]
        have h1 := List.length_filter_le (fun r : Row => decide (r.pr ≠ none)) (rs.take i)
        rw [List.length_take] at h1
        omega
      refine ⟨rfl, _, rfl, ra, _, _, _, rfl, rfl, sqT e0, atI3 _ _ _ _, rfl, _, rfl, ?_⟩
      have e : (!decide (prV r.pr = V.non)) = decide (r.pr ≠ none) := by
        cases h : r.pr with
        | none => rfl
        | some c => rw [show decide (prV (some c) = V.non) = false from decide_eq_false (fun h => by cases h)]; rfl
      rw [e]
      refine ite2 (fun hi => ?_) (fun hi => ?_)
      · refine ⟨_, rfl, ra, _, _, _, rfl, rfl, sqT e0, atI0 _ _ _ _, _, hD3, by rw [List.length_map]; exact small1000 szD, fun b o eb => ?_, ?_⟩
        · rw [upd_ne (fun y => by rw [y, hD] at eb; cases eb)]
          exact s3 _ _ eb
        · rw [upd_same, filter_take hr', if_pos hi, List.map_append]; rfl
      · refine ⟨s3, ?_⟩
        rw [filter_take hr', if_neg hi, List.append_nil]
        exact hD3
    · rintro H3 ⟨s3, hD3⟩
      rw [List.length_map, hrows.len, List.take_length] at hD3
      exact hq D H3 hD s3 hD3
end
end Ts

set_option maxRecDepth 100000
set_option maxHeartbeats 4000000
namespace Ts
open PySem L2
def spLSome : Sp := fun vs H Q _ => ∃ (a l : Addr) (n : Int) (xs : List Str), vs = [.ref a, .ref l] ∧ Stm H a n ∧ n ≤ 1000000000 ∧ l ≠ a ∧ H l = some (.lst (xs.map V.str)) ∧ xs.length ≤ 100 ∧
  ∀ (D : Addr) (H' : Hp) (ys : List Str), H D = none → D ≠ a → H' D = some (.lst (ys.map V.str)) → ys.Sublist xs → SB a H H' → Stm H' a (n + xs.length) → Q (.ref D) H'
section
variable {P : Program} {w : World} {K : PySem.W.Frag} {mg : Str → Option Value} {base : Heap} {C CM : Addr}
abbrev nLSome : List Str := ["_law_stream_here", "_law_things", "_law_thing"]
theorem sc_Lsome : FnScope nLSome ["_law_stream_here", "_law_things"] (defScope s_L_some) := ⟨rfl, rfl, rfl, by decide +kernel, rfl, by decide +kernel, by decide +kernel⟩
theorem ok_Lsome (D : DefAt K mg "_law_some" s_L_some ["_law_stream_here", "_law_things"]) (Dd : DefAt K mg "_law_draw" s_L_draw ["_law_stream_here", "_law_many"]) (Gd : FnOk P w K mg base CX0 2 Dd.f Dd.fd ["_law_stream_here", "_law_many"] spDraw) : FnOk P w K mg base CX0 3 D.f D.fd ["_law_stream_here", "_law_things"] spLSome := by
  refine D.F.ok sc_Lsome (fun vs H Q E h => ?_) (fun cdv A outer s H vs Q E hr h => ?_)
  · obtain ⟨a, l, n, xs, rfl, _⟩ := h
    rfl
  · obtain ⟨a, l, n, xs, rfl, hst, hn, nla, hl, hx, hq⟩ := h
    refine ⟨_, pss_one (ps_ret (pe_lc (own := [("_law_thing", 2)]) (g := gName 2) (tt := tTest (tOp rEq (tCall spDraw [] E0 (tCons (tVar 0) (tCons (tC (.int 2)) tNil))) (tC (.int 0)))) (te := tVar 2) rfl sc_Lsome.nd (pi_list (pv 1)) (blkOk_by (N := nLSome) (sc := defScope s_L_some) (by decide +kernel))
        (fun _ _ _ _ _ => pg_name (i := 2) sc_Lsome.nd rfl (Or.inl rfl)) (fun _ _ _ _ _ => by exact pts_one (pt_cmpR op_eq (pe_call Gd hr rfl Dd.g Dd.F.kp Dd.b .nil pass0 (pa_cons (pv 0) (pa_cons pe_int pa_nil))) pe_int (nomark _))) (fun _ _ _ _ _ => pv 2))), ?_⟩
    refine ⟨_, rfl, l, rfl, ⟨_, SqL.of hl⟩, fun D hD => ?_⟩
    have Da : D ≠ a := (hst.ne hD).symm
    refine lc_list (K := K) (a := l) (xs := xs.map V.str) (fun i H' => SB a H H' ∧ Stm H' a (n + i) ∧ ∃ ys : List Str, H' D = some (.lst (ys.map V.str)) ∧ ys.Sublist (xs.take i)) ⟨SB.upd hD, by simpa using hst.upd (o := .lst []) hD, [], upd_same, by simp⟩ (fun i H' _ m => SqL.of (m.1 _ _ nla hl)) ?_ ?_
    · rintro i x H2 hxi ⟨sb, st, ys, hD2, hsub⟩
      rw [List.getElem?_map] at hxi
      obtain ⟨z, hz, rfl⟩ := Option.map_eq_some_iff.mp hxi
      have hi : i < xs.length := (List.getElem?_eq_some_iff.mp hz).1
      refine ⟨rfl, _, rfl, a, 2, _, rfl, st, by omega, by decide, by decide, fun r H3 r0 r1 st3 he3 => ?_⟩
      have sb3 := sb.trans (sb_eq he3)
      have hD3 : H3 D = some (.lst (ys.map V.str)) := by rw [he3 D Da]; exact hD2
      have ly := hsub.length_le
      rw [List.length_take] at ly
      refine ⟨rfl, _, rfl, ?_⟩
      refine ite2 (fun _ => ?_) (fun _ => ?_)
      · refine ⟨_, rfl, _, hD3, small1000 (by rw [List.length_map]; omega), fun b o nb e => ?_, ?_, ys ++ [z], by rw [upd_same, List.map_append]; rfl, ?_⟩
        · rw [upd_ne (fun y => by rw [y, hD] at e; cases e)]
          exact sb3 b o nb e
        · obtain ⟨x1, y1, z1, e1, k1⟩ := st3
          exact ⟨x1, y1, z1, by rw [upd_ne Da.symm]; exact e1, k1.1, k1.2.1, k1.2.2.1, k1.2.2.2.1, by have := k1.2.2.2.2; push_cast; omega⟩
        · rw [take_more hz]
          exact List.Sublist.append hsub (List.Sublist.refl _)
      · refine ⟨sb3, st3.mono (by push_cast; omega), ys, hD3, ?_⟩
        rw [take_more hz]
        exact hsub.trans (List.sublist_append_left _ _)
    · rintro H2 ⟨sb, st, ys, hD2, hsub⟩
      rw [List.length_map] at st hsub
      rw [List.take_length] at hsub
      exact hq D H2 ys hD Da hD2 hsub sb st
end
end Ts

set_option maxRecDepth 100000
set_option maxHeartbeats 4000000
namespace Ts
open PySem L2
def openN (rs : List Row) : List Str := (rs.filter fun r => decide (r.pr ≠ none)).map (·.nm)
theorem openN_free {rs : List Row} (hv : Valid rs) : ∀ z ∈ openN rs, Free rs z := fun z hz => by
  obtain ⟨r, hr', rfl⟩ := List.mem_map.mp hz
  rw [List.mem_filter, decide_eq_true_eq] at hr'
  obtain ⟨i, hi, e⟩ := List.mem_iff_getElem.mp hr'.1
  exact ⟨r, rowOf_at hv (by rw [← e]; exact List.getElem?_eq_getElem hi), hr'.2⟩
theorem openN_len {rs : List Row} (h : rs.length ≤ 100) : (openN rs).length ≤ 100 := by
  unfold openN
  rw [List.length_map]
  exact Nat.le_trans (List.length_filter_le _ _) h
def spLMeaning (C CM : Addr) : Sp := fun vs H Q _ => ∃ (a p t : Addr) (n : Int) (rs : List Row), vs = [.ref a, .ref p, .ref t] ∧ Stm H a n ∧ n ≤ 500000000 ∧ RowsL H p rs ∧ p ≠ a ∧ TreeAt C H t rs ∧ ∀ m v H', MV C CM H' m t rs v → SB a H H' → (∀ b, H b = none → H' b ≠ none → True) → Stm H' a (n + 200) → Q (.ref m) H'
section
variable {P : Program} {w : World} {K : PySem.W.Frag} {mg : Str → Option Value} {base : Heap} {C CM : Addr}
abbrev pMng : List Str := ["_law_stream_here", "_law_rows_here", "_law_tree"]
theorem sc_mng : FnScope pMng pMng (defScope s_L_meaning) := ⟨rfl, rfl, rfl, by decide +kernel, rfl, by decide +kernel, by decide +kernel⟩
theorem ok_mng {fM : Addr} {fdM : FuncData} (D : DefAt K mg "_law_meaning" s_L_meaning pMng) (M : TxM K mg CM) (Dd : DefAt K mg "_law_draw" s_L_draw ["_law_stream_here", "_law_many"]) (Gd : FnOk P w K mg base CX0 2 Dd.f Dd.fd ["_law_stream_here", "_law_many"] spDraw)
    (Do : DefAt K mg "_law_open" s_L_open ["_law_rows_here"]) (Go : FnOk P w K mg base CX0 2 Do.f Do.fd ["_law_rows_here"] spLOpen)
    (Dso : DefAt K mg "_law_some" s_L_some ["_law_stream_here", "_law_things"]) (Gso : FnOk P w K mg base CX0 3 Dso.f Dso.fd ["_law_stream_here", "_law_things"] spLSome)
    (MM : Mk K CM fM) (bM : Binds K fdM ["self", "tree", "default", "turns"] []) (GM : FnOk P w K mg base CX0 7 fM fdM ["self", "tree", "default", "turns"] (spMeaningInit K C CM)) :
    FnOk P w K mg base CX0 9 D.f D.fd pMng (spLMeaning C CM) := by
  refine D.F.ok sc_mng (fun vs H Q E h => ?_) (fun cdv A outer s H vs Q E hr h => ?_)
  · obtain ⟨a, p, t, n, rs, rfl, _⟩ := h
    rfl
  · obtain ⟨a, p, t, n, rs, rfl, hst, hn, hL, np, ht, hq⟩ := h
    have hr2 : Room 3 _ := hr.mono (by decide)
    have hr1 : Room 2 _ := hr.mono (by decide)
    have hv := ht.val
    have hl := ht.len
    refine ⟨_, pss_one (ps_ret (pe_make MM GM hr rfl M.g bM .nil pass0 (pa_cons (pv 2) (pa_cons (pe_cmpR op_eq (pe_call Gd hr1 rfl Dd.g Dd.F.kp Dd.b .nil pass0 (pa_cons (pv 0) (pa_cons pe_int pa_nil))) pe_int (nomark _)) (pa_cons (pe_call Gso hr2 rfl Dso.g Dso.F.kp Dso.b .nil pass0 (pa_cons (pv 0) (pa_cons (pe_call Go hr1 rfl Do.g Do.F.kp Do.b .nil pass0 (pa_cons (pv 1) pa_nil)) pa_nil))) pa_nil))))), ?_⟩
    refine ⟨_, rfl, _, rfl, a, 2, n, rfl, hst, by omega, by decide, by decide, fun r H1 r0 r1 st1 he1 => ⟨rfl, ?_⟩⟩
    have sb1 := sb_eq (H := H) he1
    have L1 := hL.sbk np hst sb1
    have t1 := ht.kl (KL.sb hst sb1)
    refine ⟨_, rfl, _, rfl, p, rs, rfl, L1, hl, fun D2 H2 hD2 s2 e2 => ?_⟩
    have lo := openN_len hl
    refine ⟨a, D2, _, _, rfl, st1.same s2, by omega, (st1.ne hD2).symm, e2, lo, fun u H3 ts hu3 nu eu hsub sb3 st3 => ?_⟩
    have t3 := (t1.same s2).kl (KL.sb (st1.same s2) sb3)
    have fr : ∀ z ∈ ts, Free rs z := fun z hz => openN_free hv z (hsub.subset hz)
    have hnorm : turnsL rs ts = ts := turnsL_sub hv (hsub.trans (List.Sublist.map _ List.filter_sublist))
    refine fun m dm nm nd _ => ⟨m, dm, t, u, _, ts, rs, rfl, upd_same, t3.same (mk_same0 nm nd), SqX.same (.inl (SqL.of eu)) (mk_same0 nm nd), fr, fun H4 sb4 hm => ⟨rfl, ?_⟩⟩
    rw [hnorm] at hm
    have s4 := mk_same nm nd sb4
    refine hq m _ H4 (MV.of hm fr) ((sb1.trans (SB.of s2)).trans (sb3.trans (SB.of s4))) (fun _ _ _ => trivial) ((st3.same s4).mono ?_)
    have e : ((rs.filter fun r => decide (r.pr ≠ none)).map (·.nm)).length ≤ 100 := lo
    omega
end
end Ts

set_option maxRecDepth 100000
set_option maxHeartbeats 4000000
namespace Ts
open PySem L2
/-! ### deeds in the memory -/
def deV (d : De) : List V := [.str d.1, .str d.2]
structure DsAt (H : Hp) (as : List Addr) (ds : List De) : Prop where
  len : as.length = ds.length
  at_ : ∀ (i : Nat) (a : Addr) (d : De), as[i]? = some a → ds[i]? = some d → H a = some (.tup (deV d))
structure SeqDs (H : Hp) (as : List Addr) (ds : List De) : Prop where
  len : as.length = ds.length
  at_ : ∀ (i : Nat) (a : Addr) (d : De), as[i]? = some a → ds[i]? = some d → Seq H a (deV d)
theorem DsAt.same {H H' : Hp} {as : List Addr} {ds : List De} (h : DsAt H as ds) (s : Same H H') : DsAt H' as ds := ⟨h.len, fun i a d x y => s _ _ (h.at_ i a d x y)⟩
theorem SeqDs.same {H H' : Hp} {as : List Addr} {ds : List De} (h : SeqDs H as ds) (s : Same H H') : SeqDs H' as ds := ⟨h.len, fun i a d x y => (h.at_ i a d x y).same s⟩
theorem DsAt.seq {H : Hp} {as : List Addr} {ds : List De} (h : DsAt H as ds) : SeqDs H as ds := ⟨h.len, fun i a d x y => .inl (h.at_ i a d x y)⟩
theorem DsAt.nil {H : Hp} : DsAt H [] [] := ⟨rfl, fun i a d h => by simp at h⟩
theorem DsAt.snoc {H : Hp} {as : List Addr} {ds : List De} {a : Addr} {d : De} (h : DsAt H as ds) (k : H a = some (.tup (deV d))) : DsAt H (as ++ [a]) (ds ++ [d]) := by
  refine ⟨by simp [h.len], fun i b e x y => ?_⟩
  rcases Nat.lt_or_ge i as.length with hi | hi
  · rw [List.getElem?_append_left hi] at x
    rw [List.getElem?_append_left (h.len ▸ hi)] at y
    exact h.at_ i b e x y
  · rw [List.getElem?_append_right hi] at x
    rw [List.getElem?_append_right (h.len ▸ hi), ← h.len] at y
    have e0 : i - as.length = 0 := by
      have := (List.getElem?_eq_some_iff.mp x).1
      simp at this
      omega
    rw [e0] at x y
    cases x; cases y
    exact k
theorem DsAt.append {H : Hp} {as bs : List Addr} {ds es : List De} (h : DsAt H as ds) (k : DsAt H bs es) : DsAt H (as ++ bs) (ds ++ es) := by
  refine ⟨by simp [h.len, k.len], fun i a d x y => ?_⟩
  rcases Nat.lt_or_ge i as.length with hi | hi
  · rw [List.getElem?_append_left hi] at x
    rw [List.getElem?_append_left (h.len ▸ hi)] at y
    exact h.at_ i a d x y
  · rw [List.getElem?_append_right hi] at x
    rw [List.getElem?_append_right (h.len ▸ hi), ← h.len] at y
    exact k.at_ _ a d x y
theorem DsAt.get {H : Hp} {as : List Addr} {ds : List De} (h : DsAt H as ds) {i : Nat} {x : V} (hx : (as.map V.ref)[i]? = some x) : ∃ a d, x = .ref a ∧ as[i]? = some a ∧ ds[i]? = some d ∧ H a = some (.tup (deV d)) := by
  rw [List.getElem?_map] at hx
  obtain ⟨a, ha, rfl⟩ := Option.map_eq_some_iff.mp hx
  have hi : i < ds.length := by rw [← h.len]; exact (List.getElem?_eq_some_iff.mp ha).1
  exact ⟨a, ds[i], rfl, ha, List.getElem?_eq_getElem hi, h.at_ i a _ ha (List.getElem?_eq_getElem hi)⟩
theorem SeqDs.get {H : Hp} {as : List Addr} {ds : List De} (h : SeqDs H as ds) {i : Nat} {x : V} (hx : (as.map V.ref)[i]? = some x) : ∃ a d, x = .ref a ∧ as[i]? = some a ∧ ds[i]? = some d ∧ Seq H a (deV d) := by
  rw [List.getElem?_map] at hx
  obtain ⟨a, ha, rfl⟩ := Option.map_eq_some_iff.mp hx
  have hi : i < ds.length := by rw [← h.len]; exact (List.getElem?_eq_some_iff.mp ha).1
  exact ⟨a, ds[i], rfl, ha, List.getElem?_eq_getElem hi, h.at_ i a _ ha (List.getElem?_eq_getElem hi)⟩
def VDs (rs : List Row) (ds : List De) : Prop := ∀ d ∈ ds, d.1 ∈ words3 ∧ d.2 ∈ plc rs
theorem VDs.words {rs : List Row} {ds : List De} (h : VDs rs ds) : Words ds := fun d hd => (h d hd).1
def Unl0 (rs : List Row) : Prop := ∀ r ∈ rs, r.pr ≠ none
/-- the written words of the module -/
structure TxD (K : PySem.W.Frag) (mg : Str → Option Value) (w : World) where
  flip : ∃ t, mg "FLIP" = some (.str "flip" t)
  keep : ∃ t, mg "KEEP" = some (.str "keep" t)
  wordsA : Addr
  words : mg "WORDS" = some (.ref wordsA)
  wordsT : ∃ (o : Obj) (its : Array Value) (n : Nat), K.lookup wordsA = some o ∧ o.cls = .type "tuple" ∧ o.data = .seq its n ∧ its.size ≤ sizeLine ∧ Vals (words3.map V.str) its.toList
  flA : Addr
  fl : mg "FLIPPED" = some (.ref flA)
  flD : ∀ z ∈ words4, KDct K w flA z (.str (flp z))
def spUnlocked (C : Addr) : Sp := fun vs H Q _ => ∃ (t : Addr) (rs : List Row), vs = [.ref t] ∧ TreeAt C H t rs ∧ Unl0 rs ∧ ∀ H', Same H H' → Q .non H'
def spIsDeed (C : Addr) : Sp := fun vs H Q _ => ∃ (t a : Addr) (rs : List Row) (d : De), vs = [.ref t, .ref a] ∧ TreeAt C H t rs ∧ Seq H a (deV d) ∧ d.1 ∈ words3 ∧ d.2 ∈ plc rs ∧ ∀ H', Same H H' → Q (.bl true) H'
def spCheckDeeds (C : Addr) : Sp := fun vs H Q _ => ∃ (t h : Addr) (rs : List Row) (as : List Addr) (ds : List De), vs = [.ref t, .ref h] ∧ TreeAt C H t rs ∧ Seq H h (as.map V.ref) ∧ SeqDs H as ds ∧ VDs rs ds ∧ ds.length ≤ 100 ∧ ∀ H', Same H H' → Q .non H'
def spEffects (C : Addr) : Sp := fun vs H Q _ => ∃ (t q : Addr) (rs : List Row) (as : List Addr) (ds : List De), vs = [.ref t, .ref q] ∧ TreeAt C H t rs ∧ H q = some (.tup (as.map V.ref)) ∧ DsAt H as ds ∧ VDs rs ds ∧
  ∀ D H', H D = none → Same H H' → H' D = some (.dK (kvS (eff rs ds) (plc rs))) → Q (.ref D) H'
theorem TreeAt.sb {C : Addr} {H H' : Hp} {t w : Addr} {rs : List Row} (h : TreeAt C H t rs) (hw : ∀ o, H w ≠ some o) (s : SB w H H') : TreeAt C H' t rs := by
  obtain ⟨dx, q, f, k, p, qs, h1, h2, h3, h4, h5, h6⟩ := h.ex
  have nw : ∀ {b : Addr} {o : HO}, H b = some o → b ≠ w := fun {b o} e q => hw o (q ▸ e)
  exact ⟨⟨dx, q, f, k, p, qs, s _ _ (nw h1) h1, s _ _ (nw h2) h2, ⟨h3.len, fun j b r hb hr => s _ _ (nw (h3.at_ j b r hb hr)) (h3.at_ j b r hb hr)⟩, s _ _ (nw h4) h4, s _ _ (nw h5) h5, s _ _ (nw h6) h6⟩, h.val, h.len⟩
section
variable {P : Program} {w : World} {K : PySem.W.Frag} {mg : Str → Option Value} {base : Heap} {C : Addr}
theorem sc_unlocked : FnScope ["tree", "box"] ["tree"] (defScope s_check_unlocked) := ⟨rfl, rfl, rfl, by decide +kernel, rfl, by decide +kernel, by decide +kernel⟩
theorem ok_unlocked (D : DefAt K mg "check_unlocked" s_check_unlocked ["tree"]) (TC : TxC K mg) (T : TxT K mg C)
    (mB : MethAt K C "below" "Tree.below" s_Tree_below ["self", "box"]) (GB : FnOk P w K mg base CX0 5 mB.f mB.fd ["self", "box"] (spListOf C belowL))
    (mP : MethAt K C "price" "Tree.price" s_Tree_price ["self", "box"]) (GP : FnOk P w K mg base CX0 4 mP.f mP.fd ["self", "box"] (spGet C fun r => prV r.pr)) : FnOk P w K mg base CX0 6 D.f D.fd ["tree"] (spUnlocked C) := by
  obtain ⟨t1, gT⟩ := TC.top
  refine D.F.ok sc_unlocked (fun vs H Q E h => ?_) (fun cdv A outer s H vs Q E hr h => ?_)
  · obtain ⟨t, rs, rfl, _⟩ := h
    rfl
  · obtain ⟨t, rs, rfl, ht, hun, hq⟩ := h
    have hr3 : Room 4 _ := hr.mono (by decide)
    refine ⟨_, pss_one (ps_for PassesOwn.never rfl (pi_list (pe_meth (pv 0) T.cl mB.m GB hr mB.b .nil pass0 (pa_cons (pe_glob (by rfl) gT (v := .str ("top" : Str)) ⟨_, rfl⟩) pa_nil))) (pg_name (i := 1) sc_unlocked.nd rfl (.inl rfl))
        (pss_one (ps_if (pt_cmpR op_isN (pe_meth (pv 0) T.cl mP.m GP hr3 mP.b .nil pass0 (pa_cons (pv 1) pa_nil)) pe_non (nomark _)) (pss_one ps_never) pss_nil))), ?_⟩
    have hv := ht.val
    obtain ⟨dx, q, f, k, p, qs, h1, _⟩ := id ht.ex
    have noB : (tf q f k p).lookup ("below" : Str) = none := tf_no _ _ _ _ (by decide +kernel) (by decide +kernel) (by decide +kernel) (by decide +kernel)
    have noP : (tf q f k p).lookup ("price" : Str) = none := tf_no _ _ _ _ (by decide +kernel) (by decide +kernel) (by decide +kernel) (by decide +kernel)
    refine ⟨_, rfl, t, dx, _, rfl, h1, noB, t, ("top" : Str), rs, rfl, ht, .inl rfl, fun bl H2 hbl s2 e2 => ?_⟩
    rw [below_top hv] at e2
    refine ⟨bl, rfl, ⟨_, SqL.of e2⟩, ?_⟩
    refine for_list (K := K) (a := bl) (xs := (names rs).map V.str) (fun i σ H' => ∃ v : Option V, σ = [some (.ref t), v] ∧ H' = H2) ⟨_, rfl, rfl⟩ (fun i σ H' _ ⟨_, _, e⟩ => by rw [e]; exact SqL.of e2) ?_ ?_
    · rintro i x σ H3 hx ⟨v, rfl, rfl⟩
      unfold names at hx
      rw [List.getElem?_map, List.getElem?_map] at hx
      obtain ⟨n1, hn1, rfl⟩ := Option.map_eq_some_iff.mp hx
      obtain ⟨r, hr', rfl⟩ := Option.map_eq_some_iff.mp hn1
      have hrm := List.mem_of_getElem? hr'
      have ro := rowOf_at hv hr'
      refine ⟨_, rfl, t, dx, _, rfl, s2 _ _ h1, noP, _, rfl, t, r.nm, rs, r, rfl, ht.same s2, ro, rfl, _, rfl, ?_⟩
      have e : decide ((fun r : Row => prV r.pr) r = V.non) = false := by
        cases h : r.pr with
        | none => exact absurd h (hun r hrm)
        | some c => show decide (prV r.pr = V.non) = false; rw [h]; exact decide_eq_false (fun h => by cases h)
      exact iteF' e ⟨_, rfl, rfl⟩
    · rintro σ H3 ⟨v, rfl, rfl⟩
      exact hq _ s2
abbrev nIsDeed : List Str := ["tree", "thing", "word", "place"]
theorem sc_is_deed : FnScope nIsDeed ["tree", "thing"] (defScope s_is_deed) := ⟨rfl, rfl, rfl, by decide +kernel, rfl, by decide +kernel, by decide +kernel⟩
theorem ok_is_deed (D : DefAt K mg "is_deed" s_is_deed ["tree", "thing"]) (B : TxB mg) (TD : TxD K mg w) (Dp : DefAt K mg "is_place" s_is_place ["tree", "thing"]) (Gp : FnOk P w K mg base CX0 3 Dp.f Dp.fd ["tree", "thing"] (spIsPlace C)) : FnOk P w K mg base CX0 4 D.f D.fd ["tree", "thing"] (spIsDeed C) := by
  refine D.F.ok sc_is_deed (fun vs H Q E h => ?_) (fun cdv A outer s H vs Q E hr h => ?_)
  · obtain ⟨t, a, rs, d, rfl, _⟩ := h
    rfl
  · obtain ⟨t, a, rs, d, rfl, ht, ha, hw, hp, hq⟩ := h
    refine ⟨_, pss_cons (ps_if (PW.pt (pw_or (pt_not (pt_val (pe_callB call_isiT (by rfl) B.isinstance (by decide +kernel) (pa_cons (pv 1) (pa_cons (pe_tup (pa_cons (pe_bltn (by rfl) B.list (by decide +kernel) (v := .ty "list") rfl) (pa_cons (pe_bltn (by rfl) B.tuple (by decide +kernel) (v := .ty "tuple") rfl) pa_nil))) pa_nil)))))
        (pw_or1 (pt_cmpR op_ne (pe_callB call_len_seq (by rfl) B.len PySem.boot_len (pa_cons (pv 1) pa_nil)) pe_int (nomark _))))) (pss_one (ps_ret pe_bl)) pss_nil)
      (C8.pss_cut (ps_asg (pv 1) (pg_or (pg_tup rfl (pgs_cons (pg_name (i := 2) sc_is_deed.nd rfl (.inl rfl)) (pgs_cons (pg_name (i := 3) sc_is_deed.nd rfl (.inl rfl)) pgs_nil)))
          (pg_unl rfl (pgs_cons (pg_name (i := 2) sc_is_deed.nd rfl (.inl rfl)) (pgs_cons (pg_name (i := 3) sc_is_deed.nd rfl (.inl rfl)) pgs_nil)))))
      (pss_one (ps_ret (pe_and (pe_cmpR op_in_seq (pv 2) (pe_glob (by rfl) TD.words (v := .ref TD.wordsA) rfl) (by rfl)) (pe_one (pe_call Gp hr rfl Dp.g Dp.F.kp Dp.b .nil pass0 (pa_cons (pv 0) (pa_cons (pv 3) pa_nil)))))))), ?_⟩
    refine ⟨_, rfl, (by show 2 ≤ sizeLine; decide), fun tp htp => ?_⟩
    have s1 : Same H (upd H tp (.tup [.ty "list", .ty "tuple"])) := Same.new htp
    obtain ⟨ty0, ty, kk⟩ := (ha.same s1).ty (K := K)
    refine ⟨_, tp, _, ty0, _, true, rfl, upd_same, .cons (.ty "list") (.cons (.ty "tuple") .nil), ty, kk, _, rfl, iteF ?_⟩
    refine ⟨_, rfl, a, _, rfl, (ha.same s1).or, rfl, _, rfl, iteF ?_⟩
    have un : SqT K (upd H tp (.tup [.ty "list", .ty "tuple"])) a (deV d) ∨ SqL K (upd H tp (.tup [.ty "list", .ty "tuple"])) a (deV d) := (ha.same s1).or.symm
    refine ⟨fun σ' H' => σ' = [some (.ref t), some (.ref a), some (.str d.1), some (.str d.2)] ∧ H' = upd H tp (.tup [.ty "list", .ty "tuple"]), ?_, ?_⟩
    · refine ⟨_, rfl, ?_⟩
      rcases un with un | un
      · exact .inl ⟨a, _, rfl, un, rfl, _, _, rfl, _, _, rfl, rfl, rfl, rfl⟩
      · exact .inr ⟨a, _, rfl, un, rfl, _, _, rfl, _, _, rfl, rfl, rfl, rfl⟩
    rintro σ' H' ⟨rfl, rfl⟩
    refine ⟨_, rfl, TD.wordsA, _, rfl, .inr (.inr TD.wordsT), rfl, flat_strs _, _, rfl, ?_⟩
    have e : (if false = true then !inV (.str d.1) (words3.map V.str) else inV (.str d.1) (words3.map V.str)) = true := by
      rw [if_neg Bool.false_ne_true, inV_strs]
      exact decide_eq_true hw
    rw [e]
    refine iteT ⟨_, rfl, _, rfl, t, d.2, rs, rfl, ht.same s1, ?_⟩
    rw [decide_eq_true (mem_plc.mp hp)]
    exact hq _ s1
abbrev nCheckDeeds : List Str := ["tree", "deeds", "index", "deed"]
theorem sc_check_deeds : FnScope nCheckDeeds ["tree", "deeds"] (defScope s_check_deeds) := ⟨rfl, rfl, rfl, by decide +kernel, rfl, by decide +kernel, by decide +kernel⟩
theorem ok_check_deeds (D : DefAt K mg "check_deeds" s_check_deeds ["tree", "deeds"]) (B : TxB mg) (Di : DefAt K mg "is_deed" s_is_deed ["tree", "thing"]) (Gi : FnOk P w K mg base CX0 4 Di.f Di.fd ["tree", "thing"] (spIsDeed C)) : FnOk P w K mg base CX0 5 D.f D.fd ["tree", "deeds"] (spCheckDeeds C) := by
  refine D.F.ok sc_check_deeds (fun vs H Q E h => ?_) (fun cdv A outer s H vs Q E hr h => ?_)
  · obtain ⟨t, h, rs, as, ds, rfl, _⟩ := h
    rfl
  · obtain ⟨t, h, rs, as, ds, rfl, ht, hh, hds, hvd, hl, hq⟩ := h
    refine ⟨_, pss_cons (ps_if (pt_not (pt_val (pe_callB call_isiT (by rfl) B.isinstance (by decide +kernel) (pa_cons (pv 1) (pa_cons (pe_tup (pa_cons (pe_bltn (by rfl) B.list (by decide +kernel) (v := .ty "list") rfl) (pa_cons (pe_bltn (by rfl) B.tuple (by decide +kernel) (v := .ty "tuple") rfl) pa_nil))) pa_nil))))) (pss_one ps_never) pss_nil)
      (pss_one (ps_for PassesOwn.never rfl (pi_enumS (by rfl) B.enumerate (pv 1)) (pg_tup rfl (pgs_cons (pg_name (i := 2) sc_check_deeds.nd rfl (.inl rfl)) (pgs_cons (pg_name (i := 3) sc_check_deeds.nd rfl (.inl rfl)) pgs_nil)))
        (pss_one (ps_if (pt_not (pt_val (pe_call Gi hr rfl Di.g Di.F.kp Di.b .nil pass0 (pa_cons (pv 0) (pa_cons (pv 3) pa_nil))))) (pss_one ps_never) pss_nil)))), ?_⟩
    refine ⟨_, rfl, (by show 2 ≤ sizeLine; decide), fun tp htp => ?_⟩
    have s1 : Same H (upd H tp (.tup [.ty "list", .ty "tuple"])) := Same.new htp
    obtain ⟨ty0, ty, kk⟩ := (hh.same s1).ty (K := K)
    refine ⟨_, tp, _, ty0, _, true, rfl, upd_same, .cons (.ty "list") (.cons (.ty "tuple") .nil), ty, kk, _, rfl, iteF ?_⟩
    generalize upd H tp (.tup [.ty "list", .ty "tuple"]) = H1 at s1 ty
    refine ⟨h, _, rfl, hh.same s1, fun J W => ?_⟩
    refine for_it W (fun i σ H' => ∃ v2 v3 : Option V, σ = [some (.ref t), some (.ref h), v2, v3] ∧ Same H1 H') ⟨_, _, rfl, Same.refl _⟩ (fun i σ H' _ ⟨_, _, _, s⟩ => ?_) ?_ ?_
    · rcases hh.same s1 with z | z <;> rw [z] <;> exact s _ _ z
    · rintro i x σ H4 H5 hi ⟨v2, v3, rfl, s4⟩ ⟨T, xi, xr, rfl, hT, rfl, exi, exr⟩
      obtain ⟨a, d, rfl, ha, hd, hsq⟩ := hds.get exr
      have s5 : Same H (upd H4 T (.tup [xi, .ref a])) := (s1.trans s4).trans (Same.new hT)
      obtain ⟨hw, hp⟩ := hvd d (List.mem_of_getElem? hd)
      refine ⟨T, _, rfl, sqT upd_same, rfl, _, _, rfl, _, _, rfl, rfl, ?_⟩
      exact ⟨_, rfl, _, rfl, t, a, rs, d, rfl, ht.same s5, hsq.same s5, hw, hp, fun H6 s6 => ⟨_, rfl, iteF ⟨_, _, rfl, (s4.trans (Same.new hT)).trans s6⟩⟩⟩
    · rintro σ H4 ⟨v2, v3, rfl, s4⟩
      exact hq _ (s1.trans s4)
end
end Ts

set_option maxRecDepth 100000
set_option maxHeartbeats 4000000
namespace Ts
open PySem L2
theorem rtp_ : ¬ (("tree" : Str) = "pairs") := by decide +kernel
theorem rte_ : ¬ (("tree" : Str) = "effects") := by decide +kernel
theorem rpe_ : ¬ (("pairs" : Str) = "effects") := by decide +kernel
def rf (t q e : Addr) : List (Str × V) := putF "effects" (.ref e) (putF "pairs" (.ref q) (putF "tree" (.ref t) []))
theorem rf_t (t q e : Addr) : (rf t q e).lookup ("tree" : Str) = some (.ref t) := by
  unfold rf
  rw [lookup_putF, if_neg rte_, lookup_putF, if_neg rtp_, lookup_putF, if_pos rfl]
theorem rf_p (t q e : Addr) : (rf t q e).lookup ("pairs" : Str) = some (.ref q) := by
  unfold rf
  rw [lookup_putF, if_neg rpe_, lookup_putF, if_pos rfl]
theorem rf_e (t q e : Addr) : (rf t q e).lookup ("effects" : Str) = some (.ref e) := by
  unfold rf
  rw [lookup_putF, if_pos rfl]
theorem rf_no (t q e : Addr) {m : Str} (h1 : ¬ m = "tree") (h2 : ¬ m = "pairs") (h3 : ¬ m = "effects") : (rf t q e).lookup m = none := by
  unfold rf
  rw [lookup_putF, if_neg h3, lookup_putF, if_neg h2, lookup_putF, if_neg h1]
  rfl
structure RowAt (C CR : Addr) (H : Hp) (r t : Addr) (rs : List Row) (ds : List De) : Prop where
  ex : ∃ (dx q e : Addr) (as : List Addr), H r = some (.ins CR dx (rf t q e)) ∧ H q = some (.tup (as.map V.ref)) ∧ DsAt H as ds ∧ H e = some (.dK (kvS (eff rs ds) (plc rs)))
  tree : TreeAt C H t rs
  un : Unl0 rs
  vd : VDs rs ds
  len : ds.length ≤ 100
theorem RowAt.same {C CR : Addr} {H H' : Hp} {r t : Addr} {rs : List Row} {ds : List De} (h : RowAt C CR H r t rs ds) (s : Same H H') : RowAt C CR H' r t rs ds := by
  obtain ⟨dx, q, e, as, h1, h2, h3, h4⟩ := h.ex
  exact ⟨⟨dx, q, e, as, s _ _ h1, s _ _ h2, h3.same s, s _ _ h4⟩, h.tree.same s, h.un, h.vd, h.len⟩
theorem RowAt.kl {C CR : Addr} {H H' : Hp} {r t : Addr} {rs : List Row} {ds : List De} (h : RowAt C CR H r t rs ds) (s : KL H H') : RowAt C CR H' r t rs ds := by
  obtain ⟨dx, q, e, as, h1, h2, h3, h4⟩ := h.ex
  exact ⟨⟨dx, q, e, as, s _ _ h1 (fun _ e => nomatch e), s _ _ h2 (fun _ e => nomatch e), ⟨h3.len, fun i a d x y => s _ _ (h3.at_ i a d x y) (fun _ e => nomatch e)⟩, s _ _ h4 (fun _ e => nomatch e)⟩, h.tree.kl s, h.un, h.vd, h.len⟩
structure TxR (K : PySem.W.Frag) (mg : Str → Option Value) (CR : Addr) : Prop where
  cl : Cls K CR
  nt : NoAttr K CR "tree"
  np : NoAttr K CR "pairs"
  ne : NoAttr K CR "effects"
  g : mg "Row" = some (.ref CR)
def spRowInit (C CR : Addr) : Sp := fun vs H Q _ => ∃ (r dx t h : Addr) (rs : List Row) (as : List Addr) (ds : List De), vs = [.ref r, .ref t, .ref h] ∧ H r = some (.ins CR dx []) ∧ TreeAt C H t rs ∧ Unl0 rs ∧ Seq H h (as.map V.ref) ∧ SeqDs H as ds ∧ VDs rs ds ∧ ds.length ≤ 100 ∧
  ∀ H', SB r H H' → RowAt C CR H' r t rs ds → Q .non H'
def spREq (K : PySem.W.Frag) (C CR : Addr) : Sp := fun vs H Q _ => ∃ (r t : Addr) (x : V) (rs : List Row) (ds : List De), vs = [.ref r, x] ∧ RowAt C CR H r t rs ds ∧
  ((∃ (r2 t2 : Addr) (es : List De), x = .ref r2 ∧ RowAt C CR H r2 t2 rs es ∧ Q (.bl (alikeE rs ds es)) H) ∨ (Other K H x (.ref CR) ∧ Q (.bl false) H))
def spRDeeds (C CR : Addr) : Sp := fun vs H Q _ => ∃ (r t : Addr) (rs : List Row) (ds : List De), vs = [.ref r] ∧ RowAt C CR H r t rs ds ∧ ∀ D as, H D = none → DsAt H as ds → Q (.ref D) (upd H D (.lst (as.map V.ref)))
theorem iteNS' {c : Bool} {A B : Prop} (h : c = true) (a : A) : if c = true then A else B := by rw [if_pos h]; exact a
theorem words_flat {rs : List Row} {f g : Str → Str} : ∀ z ∈ plc rs, flatV ((fun z => V.str (f z)) z) = true ∧ flatV ((fun z => V.str (g z)) z) = true := fun z _ => ⟨rfl, rfl⟩
section
variable {P : Program} {w : World} {K : PySem.W.Frag} {mg : Str → Option Value} {base : Heap} {C CR : Addr}
abbrev nEff : List Str := ["tree", "deeds", "effects", "box", "word", "place"]
theorem sc_effects : FnScope nEff ["tree", "deeds"] (defScope s_effects_of) := ⟨rfl, rfl, rfl, by decide +kernel, rfl, by decide +kernel, by decide +kernel⟩
theorem ok_effects (D : DefAt K mg "effects_of" s_effects_of ["tree", "deeds"]) (TC : TxC K mg) (TD : TxD K mg w) (T : TxT K mg C)
    (mB : MethAt K C "below" "Tree.below" s_Tree_below ["self", "box"]) (GB : FnOk P w K mg base CX0 5 mB.f mB.fd ["self", "box"] (spListOf C belowL)) : FnOk P w K mg base CX0 6 D.f D.fd ["tree", "deeds"] (spEffects C) := by
  obtain ⟨t1, gT⟩ := TC.top
  obtain ⟨t2, gF⟩ := TD.flip
  obtain ⟨t3, gK⟩ := TD.keep
  refine D.F.ok sc_effects (fun vs H Q E h => ?_) (fun cdv A outer s H vs Q E hr h => ?_)
  · obtain ⟨t, q, rs, as, ds, rfl, _⟩ := h
    rfl
  · obtain ⟨t, q, rs, as, ds, rfl, ht, hq1, hds, hvd, hq⟩ := h
    have hu := hu_of hr
    refine ⟨_, pss_cons (ps_set (i := 2) sc_effects.nd rfl (.inl rfl) (pe_disp (pps_cons (pe_glob (by rfl) gT (v := .str ("top" : Str)) ⟨_, rfl⟩) (pe_glob (by rfl) gK (v := .str ("keep" : Str)) ⟨_, rfl⟩) pps_nil) (by rfl) (by rfl) (fun z => by cases z) (by decide)))
      (pss_cons (ps_for PassesOwn.never rfl (pi_list (pe_meth (pv 0) T.cl mB.m GB hr mB.b .nil pass0 (pa_cons (pe_glob (by rfl) gT (v := .str ("top" : Str)) ⟨_, rfl⟩) pa_nil))) (pg_name (i := 3) sc_effects.nd rfl (.inl rfl))
        (pss_one (ps_dput hu (pv 2) (pv 3) (pe_glob (by rfl) gK (v := .str ("keep" : Str)) ⟨_, rfl⟩) rfl)))
      (pss_cons (ps_for PassesOwn.never rfl (pi_tup (pv 1)) (pg_tup rfl (pgs_cons (pg_name (i := 4) sc_effects.nd rfl (.inl rfl)) (pgs_cons (pg_name (i := 5) sc_effects.nd rfl (.inl rfl)) pgs_nil)))
        (pss_one (ps_for PassesOwn.never rfl (pi_list (pe_op op_cat (pe_lst (pa_cons (pv 5) pa_nil)) (pe_meth (pv 0) T.cl mB.m GB hr mB.b .nil pass0 (pa_cons (pv 5) pa_nil)))) (pg_name (i := 3) sc_effects.nd rfl (.inl rfl))
          (pss_one (ps_dput hu (pv 2) (pv 3) (pe_weak (pe_ifExp (pt_cmpR op_eq (pv 4) (pe_glob (by rfl) gF (v := .str ("flip" : Str)) ⟨_, rfl⟩) (nomark _)) (pe_ix ix_kdict (pe_glob (by rfl) TD.fl (v := .ref TD.flA) rfl) (pe_dget hu (pv 2) (pv 3) (fun _ _ => rfl)) (fun _ _ => rfl)) (pv 4))) rfl)))))
      (pss_one (ps_ret (pv 2))))), ?_⟩
    have hv := ht.val
    have l100 := ht.len
    have nd := plc_nd hv
    obtain ⟨dx, tq, tf_, tk, tp, tqs, h1, _⟩ := id ht.ex
    have noB : (tf tq tf_ tk tp).lookup ("below" : Str) = none := tf_no _ _ _ _ (by decide +kernel) (by decide +kernel) (by decide +kernel) (by decide +kernel)
    refine fun wd hwd => ⟨upd_same, [(.inr ("top" : Str), .str ("keep" : Str))], rfl, (by show 1 ≤ 15; decide), ?_⟩
    have sA : Same H (upd (upd H wd (.dK [])) wd (.dK (mergeK [] [(.inr ("top" : Str), .str ("keep" : Str))]))) := fun b o e => by
      rw [upd_ne (ne_of_none e hwd), upd_ne (ne_of_none e hwd)]; exact e
    have eA : (upd (upd H wd (.dK [])) wd (.dK (mergeK [] [(.inr ("top" : Str), .str ("keep" : Str))]))) wd = some (.dK (kvS (fun _ => "keep") ((plc rs).take 1))) := upd_same
    generalize upd (upd H wd (.dK [])) wd (.dK (mergeK [] [(.inr ("top" : Str), .str ("keep" : Str))])) = H1 at sA eA
    refine ⟨_, rfl, t, dx, _, rfl, sA _ _ h1, noB, t, ("top" : Str), rs, rfl, ht.same sA, .inl rfl, fun bl H2 hbl s2 e2 => ?_⟩
    rw [below_top hv] at e2
    have nw : ∀ {b : Addr} {o : HO}, H b = some o → b ≠ wd := fun {b o} e => ne_of_none e hwd
    have nbw : bl ≠ wd := fun e => by rw [← e, hbl] at eA; cases eA
    have s12 := sA.trans s2
    refine ⟨bl, rfl, ⟨_, SqL.of e2⟩, ?_⟩
    refine for_list (K := K) (a := bl) (xs := (names rs).map V.str) (fun i σ H' => ∃ v : Option V, σ = [some (.ref t), some (.ref q), some (.ref wd), v, none, none] ∧ SB wd H2 H' ∧ H' wd = some (.dK (kvS (fun _ => "keep") ((plc rs).take (i + 1))))) ⟨_, rfl, SB.refl _ _, s2 _ _ eA⟩ (fun i σ H' _ ⟨_, _, sb, _⟩ => SqL.of (sb _ _ nbw e2)) ?_ ?_
    · rintro i x σ H3 hx ⟨v, rfl, sb, hw⟩
      rw [List.getElem?_map] at hx
      obtain ⟨z, hz, rfl⟩ := Option.map_eq_some_iff.mp hx
      have hp1 : (plc rs)[i + 1]? = some z := by
        show (("top" : Str) :: names rs)[i + 1]? = some z
        rw [List.getElem?_cons_succ]; exact hz
      refine ⟨_, rfl, _, rfl, wd, _, rfl, DPut.k (k := Sum.inr z) hw (small1000 (by unfold kvS; rw [kvX_len, List.length_take, plc_len']; omega)), ?_⟩
      refine ⟨_, rfl, fun b o nb e => by rw [upd_ne nb]; exact sb b o nb e, ?_⟩
      rw [upd_same]
      exact congrArg (fun l => some (HO.dK l)) (kvX_more nd (fun _ => V.str "keep") hp1)
    rintro σ H3 ⟨v3, rfl, sb, hw⟩
    rw [show (plc rs).take (((names rs).map V.str).length + 1) = plc rs from by
      rw [List.length_map]
      exact List.take_of_length_le (Nat.le_refl _)] at hw
    have s3 : ∀ b o, H b = some o → H3 b = some o := fun b o e => sb _ _ (nw e) (s12 _ _ e)
    have lpl : (plc rs).length ≤ 101 := by rw [plc_len']; omega
    refine ⟨_, rfl, q, rfl, ⟨_, sqT (s3 _ _ hq1)⟩, ?_⟩
    refine for_tup (K := K) (a := q) (xs := as.map V.ref) (fun i σ H' => ∃ v3 v4 v5 : Option V, σ = [some (.ref t), some (.ref q), some (.ref wd), v3, v4, v5] ∧ Same H H' ∧ H' wd = some (.dK (kvS (eff rs (ds.take i)) (plc rs)))) ⟨_, _, _, rfl, s3, hw⟩ (fun i σ H' _ ⟨_, _, _, _, s, _⟩ => sqT (s _ _ hq1)) ?_ ?_
    · rintro i x σ H4 hx ⟨v3, v4, v5, rfl, s4, hw4⟩
      obtain ⟨a, d, rfl, ha, hd, he⟩ := hds.get hx
      obtain ⟨hwd3, hpl⟩ := hvd d (List.mem_of_getElem? hd)
      have hws : Words (ds.take i) := fun x hx => (hvd x (List.mem_of_mem_take hx)).1
      refine ⟨a, _, rfl, sqT (s4 _ _ he), rfl, _, _, rfl, _, _, rfl, rfl, ?_⟩
      refine ⟨_, rfl, (by show 1 ≤ sizeLine; decide), fun lp hlp => ?_⟩
      have s5 : Same H4 (upd H4 lp (.lst [V.str d.2])) := Same.new hlp
      have e5 : (upd H4 lp (.lst [V.str d.2])) lp = some (.lst [V.str d.2]) := upd_same
      generalize upd H4 lp (.lst [V.str d.2]) = H5 at s5 e5
      have s45 := s4.trans s5
      refine ⟨_, rfl, t, dx, _, rfl, s45 _ _ h1, noB, _, rfl, t, d.2, rs, rfl, ht.same s45, mem_plc.mp hpl, fun lb H6 hlb s6 e6 => ?_⟩
      have lbl : (belowL rs d.2).length ≤ 100 := by
        unfold belowL
        rw [List.length_map]
        exact Nat.le_trans (List.length_filter_le _ _) l100
      refine ⟨lp, lb, _, _, rfl, rfl, s6 _ _ e5, e6, szl (by rw [List.length_map]; show 1 + _ ≤ 1000; omega), fun lc hlc => ?_⟩
      have s7 : Same H6 (upd H6 lc (.lst ([V.str d.2] ++ (belowL rs d.2).map V.str))) := Same.new hlc
      have e7 : (upd H6 lc (.lst ([V.str d.2] ++ (belowL rs d.2).map V.str))) lc = some (.lst ((d.2 :: belowL rs d.2).map V.str)) := upd_same
      generalize upd H6 lc (.lst ([V.str d.2] ++ (belowL rs d.2).map V.str)) = H7 at s7 e7
      have s47 := (s5.trans s6).trans s7
      have hw7 := s47 _ _ hw4
      have n7 : lc ≠ wd := fun e => by rw [e, (s5.trans s6) _ _ hw4] at hlc; cases hlc
      refine ⟨lc, rfl, ⟨_, SqL.of e7⟩, ?_⟩
      refine for_list (K := K) (a := lc) (xs := (d.2 :: belowL rs d.2).map V.str) (fun j σ H' => ∃ v3 : Option V, σ = [some (.ref t), some (.ref q), some (.ref wd), v3, some (.str d.1), some (.str d.2)] ∧ SB wd H7 H' ∧ H' wd = some (.dK (kvS (fun b => if b ∈ (d.2 :: belowL rs d.2).take j then (if d.1 = "flip" then flp (eff rs (ds.take i) b) else d.1) else eff rs (ds.take i) b) (plc rs)))) ⟨_, rfl, SB.refl _ _, ?_⟩ (fun j σ H' _ ⟨_, _, sb, _⟩ => SqL.of (sb _ _ n7 e7)) ?_ ?_
      · rw [hw7]
        refine congrArg (fun l => some (HO.dK l)) (kvX_congr fun b _ => ?_)
        rw [List.take_zero]
        dsimp only
        rw [if_neg (by simp)]
      · rintro j x σ H8 hx ⟨v3, rfl, sb8, hw8⟩
        rw [List.getElem?_map] at hx
        obtain ⟨z, hz, rfl⟩ := Option.map_eq_some_iff.mp hx
        have hzp := in_plc hpl z (List.mem_of_getElem? hz)
        have hnot : z ∉ (d.2 :: belowL rs d.2).take j := fun hm => by
          obtain ⟨j2, hj2, e⟩ := List.mem_take_iff_getElem.mp hm
          obtain ⟨hi2, e2⟩ := List.getElem?_eq_some_iff.mp hz
          have := (List.getElem_inj (in_nd hv d.2)).mp (e.trans e2.symm)
          omega
        have dg := DGet.k (k := Sum.inr z) hw8
        rw [show valV (kvS (fun b => if b ∈ (d.2 :: belowL rs d.2).take j then (if d.1 = "flip" then flp (eff rs (ds.take i) b) else d.1) else eff rs (ds.take i) b) (plc rs)) (.inr z : Key) = some (V.str (eff rs (ds.take i) z)) from by
          unfold kvS
          rw [valV_kvX _ hzp]
          dsimp only
          rw [if_neg hnot]] at dg
        refine ⟨fun v H' => v = .str (if d.1 = "flip" then flp (eff rs (ds.take i) z) else d.1) ∧ H' = H8, ?_, ?_⟩
        · refine ⟨_, rfl, rfl, _, rfl, ?_⟩
          refine ite2 (fun hc => ?_) (fun hc => ?_)
          · have hf : d.1 = ("flip" : Str) := V.str.inj (of_decide_eq_true hc)
            refine ⟨_, rfl, _, rfl, wd, _, rfl, dg, TD.flA, _, _, rfl, rfl, TD.flD _ (eff_mem hws z), ?_, rfl⟩
            rw [if_pos hf]
          · have hf : ¬ d.1 = ("flip" : Str) := fun e => hc (decide_eq_true (by rw [e]))
            refine ⟨_, rfl, ?_, rfl⟩
            rw [if_neg hf]
        rintro v H8' ⟨rfl, rfl⟩
        refine ⟨_, rfl, _, rfl, wd, _, rfl, DPut.k (k := Sum.inr z) hw8 (small1000 (by unfold kvS; rw [kvX_len]; omega)), ?_⟩
        refine ⟨_, rfl, fun b o nb e => by rw [upd_ne nb]; exact sb8 b o nb e, ?_⟩
        rw [upd_same]
        unfold kvS
        rw [kvX_put hzp]
        refine congrArg (fun l => some (HO.dK l)) (kvX_congr fun b _ => ?_)
        rw [take_more hz]
        dsimp only
        by_cases eb : b = z
        · subst eb
          rw [if_pos rfl, if_pos (List.mem_append_right _ (List.mem_singleton.mpr rfl))]
        · rw [if_neg eb]
          by_cases ej : b ∈ (d.2 :: belowL rs d.2).take j
          · rw [if_pos ej, if_pos (List.mem_append_left _ ej)]
          · rw [if_neg ej, if_neg (fun h => (List.mem_append.mp h).elim ej fun h => eb (List.mem_singleton.mp h))]
      · rintro σ H8 ⟨v3, rfl, sb8, hw8⟩
        rw [List.length_map, List.take_length] at hw8
        refine ⟨_, _, _, rfl, fun b o e => sb8 _ _ (nw e) (s47 _ _ (s4 _ _ e)), ?_⟩
        rw [hw8, take_more hd, eff_snoc]
        refine congrArg (fun l => some (HO.dK l)) (kvX_congr fun b _ => ?_)
        unfold stepE
        dsimp only
        by_cases c : within rs d.2 b = true
        · rw [if_pos (within_mem.mp c), if_pos c]
        · rw [if_neg (fun h => c (within_mem.mpr h)), if_neg c]
    · rintro σ H4 ⟨v3, v4, v5, rfl, s4, hw4⟩
      rw [List.length_map, hds.len, List.take_length] at hw4
      exact ⟨_, rfl, hq wd H4 hwd s4 hw4⟩
abbrev nRInit : List Str := ["self", "tree", "deeds", "deed"]
theorem sc_R_init : FnScope nRInit ["self", "tree", "deeds"] (defScope s_Row_init) := ⟨rfl, rfl, rfl, by decide +kernel, rfl, by decide +kernel, by decide +kernel⟩
theorem ok_R_init {f : Addr} {fd : FuncData} (F : Fun K "__init__" "Row.__init__" s_Row_init f fd) (B : TxB mg) (R : TxR K mg CR)
    (Du : DefAt K mg "check_unlocked" s_check_unlocked ["tree"]) (Gu : FnOk P w K mg base CX0 6 Du.f Du.fd ["tree"] (spUnlocked C))
    (Dc : DefAt K mg "check_deeds" s_check_deeds ["tree", "deeds"]) (Gc : FnOk P w K mg base CX0 5 Dc.f Dc.fd ["tree", "deeds"] (spCheckDeeds C))
    (De_ : DefAt K mg "effects_of" s_effects_of ["tree", "deeds"]) (Ge : FnOk P w K mg base CX0 6 De_.f De_.fd ["tree", "deeds"] (spEffects C)) :
    FnOk P w K mg base CX0 7 f fd ["self", "tree", "deeds"] (spRowInit C CR) := by
  refine F.ok sc_R_init (fun vs H Q E h => ?_) (fun cdv A outer s H vs Q E hr h => ?_)
  · obtain ⟨r, dx, t, h, rs, as, ds, rfl, _⟩ := h
    rfl
  · obtain ⟨r, dx, t, h, rs, as, ds, rfl, hr0, ht, hun, hh, hds, hvd, hl, hq⟩ := h
    have hr4 : Room 5 _ := hr.mono (by decide)
    refine ⟨_, pss_cons (ps_expr (pe_call Gu hr rfl Du.g Du.F.kp Du.b .nil pass0 (pa_cons (pv 1) pa_nil)))
      (pss_cons (ps_expr (pe_call Gc hr4 rfl Dc.g Dc.F.kp Dc.b .nil pass0 (pa_cons (pv 1) (pa_cons (pv 2) pa_nil))))
      (pss_cons (ps_fld (pv 0) (pv 1) rfl)
      (pss_cons (ps_fld (pv 0) (pe_callTy call_tuple_of (by rfl) B.tuple (by decide +kernel) (pa_cons (pe_lc (own := [("deed", 3)]) (g := gName 3) (tt := tYes) (te := tCB (rTupOf K) (tCons (tVar 3) tNil)) rfl sc_R_init.nd (pi_seqS (i := 2) (pv 2)) (blkOk_by (N := nRInit) (sc := defScope s_Row_init) (by decide +kernel))
          (fun _ _ _ _ _ => pg_name (i := 3) sc_R_init.nd rfl (Or.inl rfl)) (fun _ _ _ _ _ => pts_nil) (fun _ _ _ _ _ => by exact pe_callTy (T := "tuple") call_tuple_of (by rfl) B.tuple (by decide +kernel) (pa_cons (pv 3) pa_nil))) pa_nil)) rfl)
      (pss_one (ps_fld (pv 0) (pe_call Ge hr rfl De_.g De_.F.kp De_.b .nil pass0 (pa_cons (pv 1) (pa_cons (pe_fld (pv 0) rfl) pa_nil))) rfl))))), ?_⟩
    refine ⟨_, rfl, t, rs, rfl, ht, hun, fun H1 s1 => ?_⟩
    refine ⟨_, rfl, _, rfl, t, h, rs, as, ds, rfl, ht.same s1, hh.same s1, hds.same s1, hvd, hl, fun H2 s2 => ?_⟩
    have s12 := s1.trans s2
    have hr2 := s12 _ _ hr0
    refine ⟨_, rfl, _, rfl, r, CR, dx, _, rfl, hr2, R.cl, R.nt, (by show 0 < 1000; decide), ?_⟩
    obtain ⟨Hb, Eb⟩ : ∃ Hx, Hx = upd H2 r (.ins CR dx (putF "tree" (.ref t) [])) := ⟨_, rfl⟩
    have br : Hb r = some (.ins CR dx (putF "tree" (.ref t) [])) := by rw [Eb]; exact upd_same
    have sb : SB r H Hb := fun b o nb e => by rw [Eb, upd_ne nb]; exact s12 _ _ e
    rw [← Eb]
    clear Eb
    have hnr : ∀ {b : Addr} {xs : List V}, H b = some (.tup xs) ∨ H b = some (.lst xs) → b ≠ r := fun {b xs} e q => by
      rw [q, hr0] at e
      rcases e with e | e <;> cases e
    have tb := ht.sbm hr0 sb
    have hhb : Seq Hb h (as.map V.ref) := hh.imp (fun e => sb _ _ (hnr (.inl e)) e) (fun e => sb _ _ (hnr (.inr e)) e)
    have hdsb : SeqDs Hb as ds := ⟨hds.len, fun i a d x y => (hds.at_ i a d x y).imp (fun e => sb _ _ (hnr (.inl e)) e) (fun e => sb _ _ (hnr (.inr e)) e)⟩
    refine ⟨h, _, rfl, hhb, fun J W D hD => ?_⟩
    refine lc_it W (fun i H' => ∃ qs : List Addr, Same Hb H' ∧ DsAt H' qs (ds.take i) ∧ H' D = some (.lst (qs.map V.ref))) ⟨[], Same.new hD, DsAt.nil, upd_same⟩ (fun i H' _ ⟨_, sm, _, _⟩ => ?_) ?_ ?_
    · rcases hhb with z | z <;> rw [z] <;> exact sm _ _ z
    · rintro i x H3 H3' hi ⟨qs, sm, rq, hD2⟩ ⟨rfl, hx⟩
      obtain ⟨a, d, rfl, ha, hd, hsq⟩ := hdsb.get hx
      have rr : Seq H3' a (deV d) := hsq.same sm
      have sz : (qs.map V.ref).length < sizeLine := small1000 (by rw [List.length_map, rq.len, List.length_take]; omega)
      have fin : ∀ (l : Addr) (H4 : Hp), H4 l = some (.tup (deV d)) → Same H3' H4 → ∃ qs' : List Addr, Same Hb (upd H4 D (.lst (qs.map V.ref ++ [V.ref l]))) ∧ DsAt (upd H4 D (.lst (qs.map V.ref ++ [V.ref l]))) qs' (ds.take (i + 1)) ∧ (upd H4 D (.lst (qs.map V.ref ++ [V.ref l]))) D = some (.lst (qs'.map V.ref)) := by
        intro l H4 hl4 s4
        have kt : ∀ {b : Addr} {xs : List V}, H4 b = some (.tup xs) → (upd H4 D (.lst (qs.map V.ref ++ [V.ref l]))) b = some (.tup xs) := fun {b xs} h => by
          rw [upd_ne (fun q => by rw [q, s4 _ _ hD2] at h; cases h)]
          exact h
        refine ⟨qs ++ [l], fun b o e => ?_, ?_, ?_⟩
        · rw [upd_ne (fun q => by rw [q, hD] at e; cases e)]
          exact s4 _ _ (sm _ _ e)
        · rw [take_more hd]
          exact DsAt.snoc ⟨rq.len, fun j b q hb hq' => kt (s4 _ _ (rq.at_ j b q hb hq'))⟩ (kt hl4)
        · rw [upd_same, List.map_append]; rfl
      refine ⟨rfl, tYes_if ⟨_, rfl, a, deV d, rfl, ?_⟩⟩
      rcases rr with z | z
      · exact .inr ⟨sqT z, qs.map V.ref, hD2, sz, fin a _ z (Same.refl _)⟩
      · exact .inl ⟨SqL.of z, fun l hl' => ⟨qs.map V.ref, (Same.new hl') _ _ hD2, sz, fin l _ upd_same (Same.new hl')⟩⟩
    · rintro H3 ⟨qs, sm, rq, hD2⟩
      rw [List.length_map, hds.len, List.take_length] at rq
      refine ⟨D, _, rfl, .inl ⟨SqL.of hD2, fun q hq' => ?_⟩⟩
      have s4 : Same Hb (upd H3 q (.tup (qs.map V.ref))) := sm.trans (Same.new hq')
      have e4 : (upd H3 q (.tup (qs.map V.ref))) q = some (.tup (qs.map V.ref)) := upd_same
      have r4 : DsAt (upd H3 q (.tup (qs.map V.ref))) qs ds := rq.same (Same.new hq')
      have nqr : q ≠ r := fun e => by rw [e, sm _ _ br] at hq'; cases hq'
      generalize upd H3 q (.tup (qs.map V.ref)) = H4 at s4 e4 r4
      refine ⟨_, rfl, r, CR, dx, _, rfl, s4 _ _ br, R.cl, R.np, (Nat.lt_of_le_of_lt (putF_len _ _ _) (by decide)), ?_⟩
      obtain ⟨H5, E5⟩ : ∃ Hx, Hx = upd H4 r (.ins CR dx (putF "pairs" (.ref q) (putF "tree" (.ref t) []))) := ⟨_, rfl⟩
      have r5 : H5 r = some (.ins CR dx (putF "pairs" (.ref q) (putF "tree" (.ref t) []))) := by rw [E5]; exact upd_same
      have sb5 : SB r H H5 := fun b o nb e => by rw [E5, upd_ne nb]; exact s4 _ _ (sb b o nb e)
      have q5 : H5 q = some (.tup (qs.map V.ref)) := by rw [E5, upd_ne nqr]; exact e4
      have ntr : ∀ {b : Addr} {xs : List V}, H4 b = some (.tup xs) → b ≠ r := fun {b xs} e y => by rw [y, s4 _ _ br] at e; cases e
      have d5 : DsAt H5 qs ds := ⟨r4.len, fun i a d x y => by rw [E5, upd_ne (ntr (r4.at_ i a d x y))]; exact r4.at_ i a d x y⟩
      rw [← E5]
      clear E5
      have lkp : (putF "pairs" (.ref q) (putF "tree" (.ref t) [])).lookup ("pairs" : Str) = some (V.ref q) := by rw [lookup_putF, if_pos rfl]
      refine ⟨_, rfl, _, rfl, r, CR, dx, _, _, rfl, r5, R.cl, R.np, lkp, t, q, rs, qs, ds, rfl, ht.sbm hr0 sb5, q5, d5, hvd, fun kd H6 hkd s6 e6 => ?_⟩
      refine ⟨_, rfl, r, CR, dx, _, rfl, s6 _ _ r5, R.cl, R.ne, (Nat.lt_of_le_of_lt (Nat.le_trans (putF_len _ _ _) (Nat.succ_le_succ (putF_len _ _ _))) (by decide)), ?_⟩
      have sb7 : SB r H (upd H6 r (.ins CR dx (rf t q kd))) := fun b o nb e => by rw [upd_ne nb]; exact s6 _ _ (sb5 b o nb e)
      have nkr : kd ≠ r := fun e => by rw [e, r5] at hkd; cases hkd
      refine hq _ sb7 ⟨⟨dx, q, kd, qs, upd_same, by rw [upd_ne nqr]; exact s6 _ _ q5, ⟨d5.len, fun i a d x y => ?_⟩, by rw [upd_ne nkr]; exact e6⟩, ht.sbm hr0 sb7, hun, hvd, hl⟩
      have ea := d5.at_ i a d x y
      rw [upd_ne (fun e => by rw [e, r5] at ea; cases ea)]
      exact s6 _ _ ea
theorem sc_R_eq : FnScope ["self", "other"] ["self", "other"] (defScope s_Row_eq) := ⟨rfl, rfl, rfl, by decide +kernel, rfl, by decide +kernel, by decide +kernel⟩
theorem ok_R_eq {f : Addr} {fd : FuncData} (F : Fun K "__eq__" "Row.__eq__" s_Row_eq f fd) (B : TxB mg) (R : TxR K mg CR) (I : C8.InsC K CR)
    (mE : MethAt K C "__eq__" "Tree.__eq__" s_Tree_eq ["self", "other"]) (GE : FnOk P w K mg base CX0 2 mE.f mE.fd ["self", "other"] (spEqT K C)) : FnOk P w K mg base CX0 3 f fd ["self", "other"] (spREq K C CR) := by
  refine F.ok sc_R_eq (fun vs H Q E h => ?_) (fun cdv A outer s H vs Q E hr h => ?_)
  · obtain ⟨r, t, x, rs, ds, rfl, _⟩ := h
    rfl
  · obtain ⟨r, t, x, rs, ds, rfl, hm, h⟩ := h
    have hu64 := hr.units
    obtain ⟨dx, q, e, as, h1, h2, h3, h4⟩ := hm.ex
    refine ⟨_, pss_one (ps_ret (pe_and (pe_callB call_isi (by rfl) B.isinstance (by decide +kernel) (pa_cons (pv 1) (pa_cons (pe_glob (by rfl) R.g (v := .ref CR) rfl) pa_nil)))
      (pe_and (pe_cmpR (op_eqC GE mE.m hr mE.b pass0) (pe_fld (pv 0) rfl) (pe_fld (pv 1) rfl) (nomark _))
      (pe_one (pe_cmpR (op_eqX (Nat.lt_of_le_of_lt (Nat.le_add_right _ _) hu64)) (pe_fld (pv 0) rfl) (pe_fld (pv 1) rfl) (nomark _)))))), ?_⟩
    rcases h with ⟨r2, t2, es, rfl, hm2, hq⟩ | ⟨⟨ty, hty, hk⟩, hq⟩
    · obtain ⟨dx', q', e', as', g1, g2, g3, g4⟩ := hm2.ex
      obtain ⟨tx, _, _, _, _, _, k1, _⟩ := id hm.tree.ex
      obtain ⟨tx2, _, _, _, _, _, k3, _⟩ := id hm2.tree.ex
      refine ⟨_, rfl, _, _, _, _, true, rfl, .own CR, .base (.ins g1 I.cl I.ha I.hn I.htk I.hm), I.me, _, rfl, iteT ?_⟩
      refine ⟨_, rfl, r, CR, dx, _, _, rfl, h1, R.cl, R.nt, rf_t _ _ _, _, rfl, r2, CR, dx', _, _, rfl, g1, R.cl, R.nt, rf_t _ _ _, t, tx, _, .ref C, rfl, k1, .ins k3, nfC, t, .ref t2, rs, rfl, hm.tree, .inl ⟨t2, rs, rfl, hm2.tree, ?_⟩⟩
      refine ⟨_, rfl, _, rfl, ?_⟩
      refine iteNS' (by simp) ?_
      refine ⟨_, rfl, r, CR, dx, _, _, rfl, h1, R.cl, R.ne, rf_e _ _ _, _, rfl, r2, CR, dx', _, _, rfl, g1, R.cl, R.ne, rf_e _ _ _, e, e', _, _, plc rs, rfl, rfl, h4, g4, words_flat, ?_⟩
      rw [eff_alike]
      exact hq
    · exact ⟨_, rfl, _, _, _, _, false, rfl, .own CR, hty, hk, _, rfl, iteF hq⟩
theorem sc_R_deeds : FnScope ["self"] ["self"] (defScope s_Row_deeds) := ⟨rfl, rfl, rfl, by decide +kernel, rfl, by decide +kernel, by decide +kernel⟩
theorem ok_R_deeds {f : Addr} {fd : FuncData} (F : Fun K "deeds" "Row.deeds" s_Row_deeds f fd) (B : TxB mg) (R : TxR K mg CR) : FnOk P w K mg base CX0 2 f fd ["self"] (spRDeeds C CR) := by
  refine F.ok sc_R_deeds (fun vs H Q E h => ?_) (fun cdv A outer s H vs Q E hr h => ?_)
  · obtain ⟨r, t, rs, ds, rfl, _⟩ := h
    rfl
  · obtain ⟨r, t, rs, ds, rfl, hm, hq⟩ := h
    obtain ⟨dx, q, e, as, h1, h2, h3, h4⟩ := hm.ex
    refine ⟨_, pss_one (ps_ret (pe_callTy (T := "list") call_list_of (by rfl) B.list (by decide +kernel) (pa_cons (pe_fld (pv 0) rfl) pa_nil))), ?_⟩
    exact ⟨_, rfl, r, CR, dx, _, _, rfl, h1, R.cl, R.np, rf_p _ _ _, q, _, rfl, .inr (sqT h2), fun l hl => hq l as hl h3⟩
end
end Ts

set_option maxRecDepth 100000
set_option maxHeartbeats 4000000
namespace Ts
open PySem L2
/-! ### deeds and numbers as data -/
def deD (d : De) : PyData := .tuple [.str d.1, .str d.2]
theorem ds_dp {K : PySem.W.Frag} {H : Hp} : ∀ {as : List Addr} {ds : List De}, DsAt H as ds → DpAll K H (as.map V.ref) (ds.map deD)
  | [], [], _ => .nil
  | [], _ :: _, h => by have := h.len; simp at this
  | _ :: _, [], h => by have := h.len; simp at this
  | a :: as, d :: ds, h => .cons (.tup (sqT (h.at_ 0 a d rfl rfl)) (.cons (.str _) (.cons (.str _) .nil))) (ds_dp ⟨by simpa using h.len, fun i b q hb hq => h.at_ (i + 1) b q (by simpa using hb) (by simpa using hq)⟩)
theorem ds_lay : ∀ (ds : List De), (∀ d ∈ ds, PyData.strOk d.1 = true ∧ PyData.strOk d.2 = true) → PyData.canLayAll0 (ds.map deD) = true
  | [], _ => by simp [PyData.canLayAll0]
  | d :: ds, h => by
    obtain ⟨h1, h2⟩ := h d (List.mem_cons_self ..)
    simp only [List.map_cons, PyData.canLayAll0, deD, PyData.canLay0, h1, h2, Bool.and_self, Bool.true_and]
    exact ds_lay ds fun q hq => h q (List.mem_cons_of_mem _ hq)
theorem ds_depth : ∀ (ds : List De), PyData.depthAll (ds.map deD) ≤ 1
  | [] => by simp [PyData.depthAll]
  | d :: ds => by
    have ih := ds_depth ds
    simp only [List.map_cons, PyData.depthAll, deD, PyData.depth]
    omega
theorem ds_shaped {ds : List De} (h : ∀ d ∈ ds, PyData.strOk d.1 = true ∧ PyData.strOk d.2 = true) : SeqAt.shaped (.list (ds.map deD)) = true := by
  have q := ds_depth ds
  unfold SeqAt.shaped
  rw [Bool.and_eq_true]
  refine ⟨by simp only [PyData.canLay0]; exact ds_lay ds h, decide_eq_true ?_⟩
  simp only [PyData.depth]
  omega
theorem VDs.ok {rs : List Row} (hv : Valid rs) {ds : List De} (h : VDs rs ds) : ∀ d ∈ ds, PyData.strOk d.1 = true ∧ PyData.strOk d.2 = true := fun d hd => by
  obtain ⟨h1, h2⟩ := h d hd
  refine ⟨words4_ok _ (words_sub _ h1), ?_⟩
  rcases mem_plc.mp h2 with e | e
  · rw [e]; exact top_ok
  · exact names_ok hv _ e
theorem eqvAll_refl' : ∀ (l : List De), PyData.eqvAll (l.map deD) (l.map deD) = true
  | [] => by simp [PyData.eqvAll]
  | d :: l => by
    simp only [List.map_cons, PyData.eqvAll, deD, PyData.eqv, str_beq, decide_eq_true_eq, Bool.and_true]
    rw [eqvAll_refl' l]
    simp
theorem ints_dp {K : PySem.W.Frag} {H : Hp} : ∀ (l : List Nat), DpAll K H (l.map fun i : Nat => V.int (i : Int)) (l.map fun i : Nat => PyData.int (i : Int))
  | [] => .nil
  | x :: l => .cons (.int _) (ints_dp l)
theorem ints_lay : ∀ (l : List Nat), PyData.canLayAll0 (l.map fun i : Nat => PyData.int (i : Int)) = true
  | [] => by simp [PyData.canLayAll0]
  | d :: ds => by
    simp only [List.map_cons, PyData.canLayAll0, PyData.canLay0, Bool.true_and]
    exact ints_lay ds
theorem ints_depth : ∀ (l : List Nat), PyData.depthAll (l.map fun i : Nat => PyData.int (i : Int)) = 0
  | [] => by simp [PyData.depthAll]
  | d :: ds => by simp only [List.map_cons, PyData.depthAll, PyData.depth, ints_depth ds]; rfl
theorem ints_shaped (l : List Nat) : SeqAt.shaped (.list (l.map fun i : Nat => PyData.int (i : Int))) = true := by
  unfold SeqAt.shaped
  rw [Bool.and_eq_true]
  refine ⟨by simp only [PyData.canLay0]; exact ints_lay l, decide_eq_true ?_⟩
  simp only [PyData.depth, ints_depth]
  omega
theorem ints_eqv : ∀ (a b : List Nat), PyData.eqvAll (a.map fun i : Nat => PyData.int (i : Int)) (b.map fun i : Nat => PyData.int (i : Int)) = decide (a = b)
  | [], [] => by simp [PyData.eqvAll]
  | [], _ :: _ => by simp [PyData.eqvAll]
  | _ :: _, [] => by simp [PyData.eqvAll]
  | x :: a, y :: b => by
    have e : ((x : Int) = (y : Int)) ↔ x = y := by omega
    simp only [List.map_cons, PyData.eqvAll, PyData.eqv, ints_eqv a b]
    by_cases h1 : x = y <;> by_cases h2 : a = b <;> simp [h1, h2, e]
theorem rd_neI {K : PySem.W.Frag} {H : Hp} {p q : Addr} {l : List Nat} {xs : List V} {Q : VK} (h1 : H p = some (.lst (l.map fun i : Nat => V.int (i : Int)))) (h2 : H q = some (.lst xs)) (e : xs = l.map fun i : Nat => V.int (i : Int)) (k : Q (.bl false) H) : rNeD K (.ref p) (.ref q) H Q := by
  subst e
  refine ⟨_, _, .lst (SqL.of h1) (ints_dp l), .lst (SqL.of h2) (ints_dp l), ints_shaped l, ints_shaped l, ?_⟩
  simp only [PyData.eqv]
  rw [ints_eqv, decide_eq_true rfl]
  exact k
theorem rd_eqI {K : PySem.W.Frag} {H : Hp} {p q : Addr} {l : List Nat} {xs : List V} {Q : VK} (h1 : H p = some (.lst (l.map fun i : Nat => V.int (i : Int)))) (h2 : H q = some (.lst xs)) (e : xs = l.map fun i : Nat => V.int (i : Int)) (k : Q (.bl true) H) : rEqD K (.ref p) (.ref q) H Q := by
  subst e
  refine ⟨_, _, .lst (SqL.of h1) (ints_dp l), .lst (SqL.of h2) (ints_dp l), ints_shaped l, ints_shaped l, ?_⟩
  simp only [PyData.eqv]
  rw [ints_eqv, decide_eq_true rfl]
  exact k
theorem rd_neDs {K : PySem.W.Frag} {H : Hp} {p q : Addr} {as bs : List Addr} {ds : List De} {Q : VK} (h1 : H p = some (.lst (as.map V.ref))) (d1 : DsAt H as ds) (h2 : H q = some (.lst (bs.map V.ref))) (d2 : DsAt H bs ds) (ok : ∀ d ∈ ds, PyData.strOk d.1 = true ∧ PyData.strOk d.2 = true) (k : Q (.bl false) H) : rNeD K (.ref p) (.ref q) H Q := by
  refine ⟨_, _, .lst (SqL.of h1) (ds_dp d1), .lst (SqL.of h2) (ds_dp d2), ds_shaped ok, ds_shaped ok, ?_⟩
  simp only [PyData.eqv]
  rw [eqvAll_refl']
  exact k
theorem rd_neNil {K : PySem.W.Frag} {H : Hp} {p q : Addr} {as : List Addr} {ds : List De} {Q : VK} (h1 : H p = some (.lst (as.map V.ref))) (d1 : DsAt H as ds) (h2 : H q = some (.lst [])) (ok : ∀ d ∈ ds, PyData.strOk d.1 = true ∧ PyData.strOk d.2 = true) (k : Q (.bl (decide (ds ≠ []))) H) : rNeD K (.ref p) (.ref q) H Q := by
  refine ⟨_, .list [], .lst (SqL.of h1) (ds_dp d1), .lst (SqL.of h2) .nil, ds_shaped ok, by decide, ?_⟩
  have e : (!PyData.eqv (.list (ds.map deD)) (.list [])) = decide (ds ≠ []) := by
    cases ds with
    | nil => simp [PyData.eqv, PyData.eqvAll]
    | cons d ds => simp [PyData.eqv, PyData.eqvAll]
  rw [e]
  exact k
theorem valid_nil : Valid [] := fun i r h => by simp at h
end Ts

set_option maxRecDepth 100000
set_option maxHeartbeats 4000000
namespace Ts
open PySem L2
def spCheckTreesR (C CR : Addr) : Sp := fun vs H Q _ => ∃ (r r2 t t2 : Addr) (rs : List Row) (ds es : List De), vs = [.ref r, .ref r2] ∧ RowAt C CR H r t rs ds ∧ RowAt C CR H r2 t2 rs es ∧ Q .non H
def spRAdd (C CR : Addr) : Sp := fun vs H Q _ => ∃ (r r2 t t2 : Addr) (rs : List Row) (ds es : List De), vs = [.ref r, .ref r2] ∧ RowAt C CR H r t rs ds ∧ RowAt C CR H r2 t2 rs es ∧ ds.length + es.length ≤ 100 ∧ ∀ r3 H', Same H H' → RowAt C CR H' r3 t rs (ds ++ es) → Q (.ref r3) H'
def spRMaps (C CR : Addr) : Sp := fun vs H Q _ => ∃ (r t : Addr) (rs : List Row) (ds : List De), vs = [.ref r] ∧ RowAt C CR H r t rs ds ∧ ∀ D, H D = none → Q (.ref D) (upd H D (.dK (kvS (eff rs ds) (plc rs))))
def clashL (rs : List Row) (ds es : List De) : Option Str := (plc rs).find? fun z => decide (eff rs (ds ++ es) z ≠ eff rs (es ++ ds) z)
def spClash (C CR : Addr) : Sp := fun vs H Q _ => ∃ (r r2 t t2 : Addr) (rs : List Row) (ds es : List De), vs = [.ref r, .ref r2] ∧ RowAt C CR H r t rs ds ∧ RowAt C CR H r2 t2 rs es ∧ ds.length + es.length ≤ 100 ∧ ∀ H', Same H H' → Q (optS (clashL rs ds es)) H'
theorem VDs.append {rs : List Row} {ds es : List De} (h : VDs rs ds) (k : VDs rs es) : VDs rs (ds ++ es) := fun d hd => (List.mem_append.mp hd).elim (h d) (k d)
theorem lock_back {H H' : Hp} {d : Addr} {u : HO} {od : Obj} (hd : H d = some u) (s : Same (upd H d (.frz od u)) H') : Same H (upd H' d u) := fun b o e => by
  by_cases q : b = d
  · rw [q, upd_same, ← e, q]; exact hd.symm
  · rw [upd_ne q]; exact s _ _ (by rw [upd_ne q]; exact e)
section
variable {P : Program} {w : World} {K : PySem.W.Frag} {mg : Str → Option Value} {base : Heap} {C CR : Addr}
theorem ok_check_treesR (D : DefAt K mg "check_trees" s_check_trees ["one", "other"]) (R : TxR K mg CR) (N : TxN K C)
    (mE : MethAt K C "__eq__" "Tree.__eq__" s_Tree_eq ["self", "other"]) (GE : FnOk P w K mg base CX0 2 mE.f mE.fd ["self", "other"] (spEqT K C)) : FnOk P w K mg base CX0 4 D.f D.fd ["one", "other"] (spCheckTreesR C CR) := by
  refine D.F.ok sc_check_trees (fun vs H Q E h => ?_) (fun cdv A outer s H vs Q E hr h => ?_)
  · obtain ⟨m, m2, t, t2, rs, ds, es, rfl, _⟩ := h
    rfl
  · obtain ⟨m, m2, t, t2, rs, ds, es, rfl, hm, hm2, hq⟩ := h
    obtain ⟨dx, u, k, as, h1, h2, h3, h4⟩ := hm.ex
    obtain ⟨dx2, u2, k2, as2, g1, g2, g3, g4⟩ := hm2.ex
    obtain ⟨tdx, _, _, _, _, _, t1, _⟩ := id hm.tree.ex
    obtain ⟨tdx2, _, _, _, _, _, t3, _⟩ := id hm2.tree.ex
    refine ⟨_, pss_one (ps_if (pt_cmpR (op_neC GE mE.m N.ne N.ob hr mE.b pass0) (pe_fld (pv 0) rfl) (pe_fld (pv 1) rfl) (nomark _)) (pss_one ps_never) pss_nil), ?_⟩
    refine ⟨_, rfl, m, CR, dx, _, _, rfl, h1, R.cl, R.nt, rf_t _ _ _, _, rfl, m2, CR, dx2, _, _, rfl, g1, R.cl, R.nt, rf_t _ _ _, t, tdx, _, .ref C, rfl, t1, .ins t3, nfC, t, _, rs, rfl, hm.tree, .inl ⟨t2, rs, rfl, hm2.tree, _, rfl, _, rfl, ?_⟩⟩
    exact iteF' (by simp) hq
theorem sc_R_add : FnScope ["self", "other"] ["self", "other"] (defScope s_Row_add) := ⟨rfl, rfl, rfl, by decide +kernel, rfl, by decide +kernel, by decide +kernel⟩
theorem ok_R_add {f : Addr} {fd : FuncData} {fR : Addr} {fdR : FuncData} (F : Fun K "__add__" "Row.__add__" s_Row_add f fd) (R : TxR K mg CR) (Dc : DefAt K mg "check_trees" s_check_trees ["one", "other"]) (Gc : FnOk P w K mg base CX0 4 Dc.f Dc.fd ["one", "other"] (spCheckTreesR C CR))
    (MR : Mk K CR fR) (bR : Binds K fdR ["self", "tree", "deeds"] []) (GR : FnOk P w K mg base CX0 7 fR fdR ["self", "tree", "deeds"] (spRowInit C CR)) : FnOk P w K mg base CX0 9 f fd ["self", "other"] (spRAdd C CR) := by
  refine F.ok sc_R_add (fun vs H Q E h => ?_) (fun cdv A outer s H vs Q E hr h => ?_)
  · obtain ⟨m, m2, t, t2, rs, ds, es, rfl, _⟩ := h
    rfl
  · obtain ⟨m, m2, t, t2, rs, ds, es, rfl, hm, hm2, hl, hq⟩ := h
    have hr3 : Room 4 _ := hr.mono (by decide)
    obtain ⟨dx, q, k, as, h1, h2, h3, h4⟩ := id hm.ex
    obtain ⟨dx2, q2, k2, bs, g1, g2, g3, g4⟩ := id hm2.ex
    refine ⟨_, pss_cons (ps_expr (pe_call Gc hr3 rfl Dc.g Dc.F.kp Dc.b .nil pass0 (pa_cons (pv 0) (pa_cons (pv 1) pa_nil))))
      (pss_one (ps_ret (pe_make MR GR hr rfl R.g bR .nil pass0 (pa_cons (pe_fld (pv 0) rfl) (pa_cons (pe_weak (pe_op op_catA (pe_fld (pv 0) rfl) (pe_fld (pv 1) rfl))) pa_nil))))), ?_⟩
    refine ⟨_, rfl, _, rfl, m, m2, t, t2, rs, ds, es, rfl, hm, hm2, ?_⟩
    refine ⟨_, rfl, m, CR, dx, _, _, rfl, h1, R.cl, R.nt, rf_t _ _ _, ?_⟩
    refine ⟨fun v H' => ∃ l, v = .ref l ∧ Same H H' ∧ H' l = some (.tup ((as ++ bs).map V.ref)), ?_, ?_⟩
    · refine ⟨_, rfl, m, CR, dx, _, _, rfl, h1, R.cl, R.np, rf_p _ _ _, _, rfl, m2, CR, dx2, _, _, rfl, g1, R.cl, R.np, rf_p _ _ _, ?_⟩
      refine ⟨q, q2, _, _, rfl, rfl, sqT h2, sqT g2, szl (by rw [List.length_map, List.length_map, h3.len, g3.len]; omega), fun e => ?_, fun _ e => ?_, fun _ _ p hp => ?_⟩
      · have ea : as = [] := List.map_eq_nil_iff.mp e
        exact ⟨q2, rfl, Same.refl _, by rw [ea]; exact g2⟩
      · have eb : bs = [] := List.map_eq_nil_iff.mp e
        exact ⟨q, rfl, Same.refl _, by rw [eb, List.append_nil]; exact h2⟩
      · exact ⟨p, rfl, Same.new hp, by rw [upd_same, List.map_append]⟩
    rintro v H1 ⟨l, rfl, s1, e1⟩
    refine fun x dx3 nx ndx _ => ⟨x, dx3, t, l, rs, _, ds ++ es, rfl, upd_same, (hm.tree.same s1).same (mk_same0 nx ndx), hm.un, .inl (mk_same0 (C := CR) nx ndx _ _ e1), (((h3.append g3).same s1).same (mk_same0 nx ndx)).seq, hm.vd.append hm2.vd, by rw [List.length_append]; exact hl, fun H2 sb2 hx2 => ⟨rfl, hq x H2 (s1.trans (mk_same nx ndx sb2)) hx2⟩⟩
theorem sc_R_maps : FnScope ["self"] ["self"] (defScope s_Row_maps) := ⟨rfl, rfl, rfl, by decide +kernel, rfl, by decide +kernel, by decide +kernel⟩
theorem ok_R_maps {f : Addr} {fd : FuncData} (F : Fun K "maps" "Row.maps" s_Row_maps f fd) (B : TxB mg) (R : TxR K mg CR) : FnOk P w K mg base CX0 2 f fd ["self"] (spRMaps C CR) := by
  refine F.ok sc_R_maps (fun vs H Q E h => ?_) (fun cdv A outer s H vs Q E hr h => ?_)
  · obtain ⟨r, t, rs, ds, rfl, _⟩ := h
    rfl
  · obtain ⟨r, t, rs, ds, rfl, hm, hq⟩ := h
    obtain ⟨dx, q, e, as, h1, h2, h3, h4⟩ := hm.ex
    refine ⟨_, pss_one (ps_ret (pe_callTy (T := "dict") call_dictD (by rfl) B.dict (by decide +kernel) (pa_cons (pe_fld (pv 0) rfl) pa_nil))), ?_⟩
    exact ⟨_, rfl, r, CR, dx, _, _, rfl, h1, R.cl, R.ne, rf_e _ _ _, e, _, rfl, .inl h4, fun D hD => hq D hD⟩
end
end Ts

set_option maxRecDepth 100000
set_option maxHeartbeats 4000000
namespace Ts
open PySem L2
/-- a fresh thing that is walked stays locked -/
theorem pe_lockF {X : Cx} {e : Expr} {t : TE} (h : PE X e t) : PE X e (fun σ H Q => t σ H fun x H1 => ∃ (d : Addr) (u : HO), x = .ref d ∧ H1 d = some u ∧ Mut (some u) ∧ ∀ od, Q x (upd H1 d (.frz od u))) :=
  ⟨fun pins s σ H Q I hw => thn (h.run pins s σ H _ I hw) fun v s1 ⟨x, H1, I1, r, d, u, ex, hd, mu, q⟩ => by
    obtain ⟨od, I2⟩ := Inv.lock I1 hd mu
    exact ⟨x, _, I2, r, q od⟩⟩
/-- the words of the module that the call and the entries take -/
structure TxF (K : PySem.W.Frag) (mg : Str → Option Value) where
  on : ∃ t, mg "ON" = some (.str "on" t)
  firmA : Addr
  firm : mg "FIRM" = some (.ref firmA)
  firmT : ∃ (o : Obj) (its : Array Value) (n : Nat), K.lookup firmA = some o ∧ o.cls = .type "tuple" ∧ o.data = .seq its n ∧ its.size ≤ sizeLine ∧ Vals ((["on", "off"] : List Str).map V.str) its.toList
theorem TreeAt.lockD {C : Addr} {H : Hp} {t e : Addr} {rs : List Row} {kvs : List (Key × V)} {o : HO} (h : TreeAt C H t rs) (he : H e = some (.dK kvs)) (hl : kvs.length = rs.length + 1) : TreeAt C (upd H e o) t rs := by
  obtain ⟨dx, q, f, k, p, qs, h1, h2, h3, h4, h5, h6⟩ := h.ex
  have n1 : ∀ {b : Addr} {u : HO}, H b = some u → (∀ m, u ≠ .dK m) → b ≠ e := fun {b u} hb hu q => by
    rw [q, he] at hb
    exact hu _ (Option.some.inj hb).symm
  have n2 : ∀ {b : Addr} (g : Row → V), H b = some (.dK (kvF g rs)) → b ≠ e := fun {b} g hb q => by
    rw [q, he] at hb
    have := congrArg List.length (HO.dK.inj (Option.some.inj hb))
    rw [hl] at this
    unfold kvF at this
    rw [List.length_map] at this
    omega
  exact ⟨⟨dx, q, f, k, p, qs, by rw [upd_ne (n1 h1 (fun _ e => nomatch e))]; exact h1, by rw [upd_ne (n1 h2 (fun _ e => nomatch e))]; exact h2, ⟨h3.len, fun i b r hb hr => by rw [upd_ne (n1 (h3.at_ i b r hb hr) (fun _ e => nomatch e))]; exact h3.at_ i b r hb hr⟩, by rw [upd_ne (n2 _ h4)]; exact h4, by rw [upd_ne (n2 _ h5)]; exact h5, by rw [upd_ne (n2 _ h6)]; exact h6⟩, h.val, h.len⟩
theorem kvX_snoc {f : Str → V} {l : List Str} {z : Str} (hn : z ∉ l) : putK (kvX f l) (.inr z) (f z) = kvX f (l ++ [z]) := by
  have hv : valV (kvX f l) (.inr z : Key) = none := by
    induction l with
    | nil => rfl
    | cons x m ih =>
      show valV (((.inr x : Key), f x) :: kvX f m) _ = _
      rw [valV_neg (fun q => hn (by rw [Sum.inr.inj q]; exact List.mem_cons_self ..))]
      exact ih fun q => hn (List.mem_cons_of_mem _ q)
  rw [putK_new _ hv]
  unfold kvX
  rw [List.map_append]
  rfl
def arF (rs : List Row) (f : Str → Str) (z : Str) : Str := if z = ("top" : Str) then "keep" else match rowOf rs z with
  | some r => f r.fo
  | none => "keep"
theorem arF_top (rs : List Row) (f : Str → Str) : arF rs f "top" = "keep" := by unfold arF; rw [if_pos rfl]
theorem arF_row {rs : List Row} {f : Str → Str} {z : Str} {r : Row} (hz : z ≠ ("top" : Str)) (h : rowOf rs z = some r) : arF rs f z = f r.fo := by
  unfold arF
  rw [if_neg hz, h]
def entL (rs : List Row) (f : Str → Str) : List Str := (plc rs).filter fun z => decide (f z ≠ arF rs f z)
def spAround (C : Addr) : Sp := fun vs H Q _ => ∃ (t e : Addr) (z : Str) (rs : List Row) (f : Str → Str), vs = [.ref t, .ref e, .str z] ∧ TreeAt C H t rs ∧ z ∈ plc rs ∧ (∀ y ∈ plc rs, DGet H e (.str y) (some (.str (f y)))) ∧ Q (.str (arF rs f z)) H
def spEntries (C : Addr) : Sp := fun vs H Q _ => ∃ (t e : Addr) (rs : List Row) (f : Str → Str), vs = [.ref t, .ref e] ∧ TreeAt C H t rs ∧ H e = some (.dK (kvS f (plc rs))) ∧ ∀ D H', H D = none → Same H H' → H' D = some (.dK (kvS f (entL rs f))) → Q (.ref D) H'
def spBehind : Sp := fun vs H Q _ => ∃ (z : Str) (v : Bool), vs = [.str z, .bl v] ∧ z ∈ words4 ∧ Q (.bl (vb z v)) H
def spRLen (C CR : Addr) : Sp := fun vs H Q _ => ∃ (r t : Addr) (rs : List Row) (ds : List De), vs = [.ref r] ∧ RowAt C CR H r t rs ds ∧ Q (.int ds.length) H
def spREntries (C CR : Addr) : Sp := fun vs H Q _ => ∃ (r t : Addr) (rs : List Row) (ds : List De), vs = [.ref r] ∧ RowAt C CR H r t rs ds ∧ ∀ D H', H D = none → Same H H' → H' D = some (.dK (kvS (eff rs ds) (entL rs (eff rs ds)))) → Q (.ref D) H'
def spRCall (C CR CM : Addr) : Sp := fun vs H Q _ => ∃ (r m t t2 : Addr) (rs : List Row) (ds : List De) (v : Str → Bool), vs = [.ref r, .ref m] ∧ RowAt C CR H r t rs ds ∧ MV C CM H m t2 rs v ∧ ∀ m3 H', Same H H' → MV C CM H' m3 t rs (doneV rs v ds) → Q (.ref m3) H'
def spCheckTreesM (C CR CM : Addr) : Sp := fun vs H Q _ => ∃ (r m t t2 : Addr) (rs : List Row) (ds : List De) (v : Str → Bool), vs = [.ref r, .ref m] ∧ RowAt C CR H r t rs ds ∧ MV C CM H m t2 rs v ∧ Q .non H
section
variable {P : Program} {w : World} {K : PySem.W.Frag} {mg : Str → Option Value} {base : Heap} {C CR CM : Addr}
theorem ok_check_treesM (D : DefAt K mg "check_trees" s_check_trees ["one", "other"]) (R : TxR K mg CR) (M : TxM K mg CM) (N : TxN K C)
    (mE : MethAt K C "__eq__" "Tree.__eq__" s_Tree_eq ["self", "other"]) (GE : FnOk P w K mg base CX0 2 mE.f mE.fd ["self", "other"] (spEqT K C)) : FnOk P w K mg base CX0 4 D.f D.fd ["one", "other"] (spCheckTreesM C CR CM) := by
  refine D.F.ok sc_check_trees (fun vs H Q E h => ?_) (fun cdv A outer s H vs Q E hr h => ?_)
  · obtain ⟨m, m2, t, t2, rs, ds, v, rfl, _⟩ := h
    rfl
  · obtain ⟨m, m2, t, t2, rs, ds, v, rfl, hm, hm2, hq⟩ := h
    obtain ⟨dx, u, k, as, h1, h2, h3, h4⟩ := hm.ex
    obtain ⟨dx2, u2, k2, g1, g2, g3⟩ := hm2.turns.ex
    have ht2 := hm2.turns.tree
    obtain ⟨tdx, _, _, _, _, _, t1, _⟩ := id hm.tree.ex
    obtain ⟨tdx2, _, _, _, _, _, t3, _⟩ := id ht2.ex
    refine ⟨_, pss_one (ps_if (pt_cmpR (op_neC GE mE.m N.ne N.ob hr mE.b pass0) (pe_fld (pv 0) rfl) (pe_fld (pv 1) rfl) (nomark _)) (pss_one ps_never) pss_nil), ?_⟩
    refine ⟨_, rfl, m, CR, dx, _, _, rfl, h1, R.cl, R.nt, rf_t _ _ _, _, rfl, m2, CM, dx2, _, _, rfl, g1, M.cl, M.nt, mf_t _ _ _ _, t, tdx, _, .ref C, rfl, t1, .ins t3, nfC, t, _, rs, rfl, hm.tree, .inl ⟨t2, rs, rfl, ht2, _, rfl, _, rfl, ?_⟩⟩
    exact iteF' (by simp) hq
abbrev nAround : List Str := ["tree", "effects", "place"]
theorem sc_around : FnScope nAround nAround (defScope s_effect_around) := ⟨rfl, rfl, rfl, by decide +kernel, rfl, by decide +kernel, by decide +kernel⟩
theorem ok_around (D : DefAt K mg "effect_around" s_effect_around nAround) (TC : TxC K mg) (TD : TxD K mg w) (T : TxT K mg C)
    (mF : MethAt K C "folder" "Tree.folder" s_Tree_folder ["self", "box"]) (GF : FnOk P w K mg base CX0 4 mF.f mF.fd ["self", "box"] (spGet C fun r => .str r.fo)) : FnOk P w K mg base CX0 5 D.f D.fd nAround (spAround C) := by
  obtain ⟨t1, gT⟩ := TC.top
  obtain ⟨t3, gK⟩ := TD.keep
  refine D.F.ok sc_around (fun vs H Q E h => ?_) (fun cdv A outer s H vs Q E hr h => ?_)
  · obtain ⟨t, e, z, rs, f, rfl, _⟩ := h
    rfl
  · obtain ⟨t, e, z, rs, f, rfl, ht, hz, hf, hq⟩ := h
    have hu := hu_of hr
    refine ⟨_, pss_one (ps_ret (pe_ifExp (pt_cmpR op_eq (pv 2) (pe_glob (by rfl) gT (v := .str ("top" : Str)) ⟨_, rfl⟩) (nomark _)) (pe_glob (by rfl) gK (v := .str ("keep" : Str)) ⟨_, rfl⟩)
      (pe_dget hu (pv 1) (pe_meth (pv 0) T.cl mF.m GF hr mF.b .nil pass0 (pa_cons (pv 2) pa_nil)) (fun _ _ => rfl)))), ?_⟩
    obtain ⟨dx, q, ff, k, p, qs, h1, _⟩ := id ht.ex
    have noF : (tf q ff k p).lookup ("folder" : Str) = none := tf_no _ _ _ _ (by decide +kernel) (by decide +kernel) (by decide +kernel) (by decide +kernel)
    refine ⟨_, rfl, rfl, _, rfl, ?_⟩
    refine ite2 (fun c => ?_) (fun c => ?_)
    · have e1 : z = ("top" : Str) := V.str.inj (of_decide_eq_true c)
      subst e1
      rw [arF_top] at hq
      exact hq
    · have e1 : z ≠ ("top" : Str) := fun e => c (decide_eq_true (congrArg V.str e))
      rcases mem_plc.mp hz with e | hn
      · exact absurd e e1
      obtain ⟨r, er, hr', rfl⟩ := rowOf_some hn
      rw [arF_row e1 er] at hq
      exact ⟨_, rfl, _, rfl, t, dx, _, rfl, h1, noF, _, rfl, t, r.nm, rs, r, rfl, ht, er, e, _, rfl, hf r.fo (fo_plc ht.val hr'), hq⟩
theorem sc_entries : FnScope nAround ["tree", "effects"] (defScope s_entries_of) := ⟨rfl, rfl, rfl, by decide +kernel, rfl, by decide +kernel, by decide +kernel⟩
theorem ok_entries (D : DefAt K mg "entries_of" s_entries_of ["tree", "effects"]) (Da : DefAt K mg "effect_around" s_effect_around nAround) (Ga : FnOk P w K mg base CX0 5 Da.f Da.fd nAround (spAround C)) : FnOk P w K mg base CX0 6 D.f D.fd ["tree", "effects"] (spEntries C) := by
  refine D.F.ok sc_entries (fun vs H Q E h => ?_) (fun cdv A outer s H vs Q E hr h => ?_)
  · obtain ⟨t, e, rs, f, rfl, _⟩ := h
    rfl
  · obtain ⟨t, e, rs, f, rfl, ht, he, hq⟩ := h
    have hu := hu_of hr
    refine ⟨_, pss_one (ps_ret (pe_lock (pe_dc (own := [("place", 2)]) (g := gName 2) (tt := tTest (tOp rNe (tDGet (tVar 1) (tVar 2)) (tCall (spAround C) [] E0 (tCons (tVar 0) (tCons (tVar 1) (tCons (tVar 2) tNil)))))) (tk := tVar 2) (tv := tDGet (tVar 1) (tVar 2)) rfl sc_entries.nd (pi_keys (pv 1)) (blkOk_by (N := nAround) (sc := defScope s_entries_of) (by decide +kernel))
        (fun _ _ _ _ _ => pg_name (i := 2) sc_entries.nd rfl (Or.inl rfl)) (fun _ _ _ _ _ => by exact pts_one (pt_cmpR op_ne (pe_dget hu (pv 1) (pv 2) (fun _ _ => rfl)) (pe_call Ga hr rfl Da.g Da.F.kp Da.b .nil pass0 (pa_cons (pv 0) (pa_cons (pv 1) (pa_cons (pv 2) pa_nil)))) (nomark _))) (fun _ _ _ _ _ => pv 2) (fun _ _ _ _ _ => by exact pe_dget hu (pv 1) (pv 2) (fun _ _ => rfl))))), ?_⟩
    have hv := ht.val
    have l100 := ht.len
    have lpl : (plc rs).length ≤ 101 := by rw [plc_len']; omega
    refine ⟨e, _, he, trivial, fun od => ?_⟩
    obtain ⟨Hl, El⟩ : ∃ Hx, Hx = upd H e (.frz od (.dK (kvS f (plc rs)))) := ⟨_, rfl⟩
    have lk : Hl e = some (.frz od (.dK (kvS f (plc rs)))) := by rw [El]; exact upd_same
    have htl : TreeAt C Hl t rs := by
      rw [El]
      exact ht.lockD he (by unfold kvS; rw [kvX_len, plc_len'])
    have hfr : ∀ {b : Addr}, Hl b = none → H b = none := fun {b} h => by
      rw [El] at h
      by_cases q : b = e
      · rw [q, upd_same] at h; cases h
      · rw [upd_ne q] at h; exact h
    have back : ∀ {H' : Hp}, Same Hl H' → Same H (upd H' e (.dK (kvS f (plc rs)))) := fun {H'} sl => lock_back he (by rw [← El]; exact sl)
    rw [← El]
    clear El
    refine ⟨_, rfl, e, od, rfl, .inl ⟨_, lk, fun D hD => ?_⟩⟩
    have nD : D ≠ e := (ne_of_none lk hD).symm
    refine dc_walk (walk_keys (d := e) (o := od) (kvs := kvS f (plc rs))) (fun i H' => Same Hl H' ∧ H' D = some (.dK (kvS f (((plc rs).take i).filter fun z => decide (f z ≠ arF rs f z))))) ⟨Same.new hD, upd_same⟩ (fun i H' _ m => m.1 _ _ lk) ?_ ?_
    · rintro i x H5x H5 hi ⟨s5, hD5⟩ ⟨rfl, k', v', hk, rfl⟩
      obtain ⟨z, rfl, hz⟩ := kvX_at hk
      have hzm := List.mem_of_getElem? hz
      have dg : ∀ y ∈ plc rs, DGet H5 e (.str y) (some (.str (f y))) := fun y hy => .inl ⟨_, .inr y, .inr ⟨od, s5 _ _ lk⟩, rfl, (valV_kvX (fun z => V.str (f z)) hy).symm⟩
      refine ⟨rfl, _, rfl, _, rfl, e, _, rfl, dg z hzm, _, rfl, _, rfl, _, rfl, t, e, z, rs, f, rfl, htl.same s5, hzm, dg, rfl, _, rfl, ?_⟩
      have e0 : (!decide (V.str (f z) = V.str (arF rs f z))) = decide (f z ≠ arF rs f z) := by
        by_cases q : f z = arF rs f z
        · rw [← q]; simp
        · have : V.str (f z) ≠ V.str (arF rs f z) := fun e => q (V.str.inj e)
          simp [q, this]
      rw [e0]
      refine ite2 (fun hc => ?_) (fun hc => ?_)
      · refine ⟨_, rfl, _, rfl, _, rfl, e, _, rfl, dg z hzm, _, .inr z, rfl, hD5, small1000 (by
          unfold kvS
          rw [kvX_len]
          have := List.length_filter_le (fun z => decide (f z ≠ arF rs f z)) ((plc rs).take i)
          rw [List.length_take] at this
          omega), fun b o eb => ?_, ?_⟩
        · rw [upd_ne (fun y => by rw [y, hD] at eb; cases eb)]
          exact s5 _ _ eb
        · rw [upd_same]
          refine congrArg (fun l => some (HO.dK l)) ?_
          have hn : z ∉ ((plc rs).take i).filter fun z => decide (f z ≠ arF rs f z) := fun hm => by
            have hm := (List.mem_filter.mp hm).1
            obtain ⟨j, hj, e⟩ := List.mem_take_iff_getElem.mp hm
            obtain ⟨hi, e2⟩ := List.getElem?_eq_some_iff.mp hz
            have := (List.getElem_inj (plc_nd hv)).mp (e.trans e2.symm)
            omega
          rw [take_more hz, List.filter_append, List.filter_cons_of_pos (p := fun z => decide (f z ≠ arF rs f z)) hc, List.filter_nil]
          unfold kvS
          exact kvX_snoc (f := fun z => V.str (f z)) hn
      · refine ⟨s5, ?_⟩
        rw [take_more hz, List.filter_append, List.filter_cons_of_neg (p := fun z => decide (f z ≠ arF rs f z)) hc, List.filter_nil, List.append_nil]
        exact hD5
    rintro H5 ⟨s5, hD5⟩
    unfold kvS at hD5
    rw [kvX_len, List.take_length] at hD5
    refine ⟨s5 _ _ lk, ?_⟩
    exact hq D _ (hfr hD) (back s5) (by rw [upd_ne nD]; exact hD5)
theorem vb_firm : ∀ w ∈ words4, w ∈ (["on", "off"] : List Str) → ∀ v : Bool, vb w v = decide (w = ("on" : Str)) := by decide +kernel
theorem vb_loose : ∀ w ∈ words4, ¬ w ∈ (["on", "off"] : List Str) → ∀ v : Bool, vb w v = (v != decide (w = ("flip" : Str))) := by decide +kernel
theorem sc_behind : FnScope ["effect", "value"] ["effect", "value"] (defScope s_value_behind) := ⟨rfl, rfl, rfl, by decide +kernel, rfl, by decide +kernel, by decide +kernel⟩
theorem ok_behind (D : DefAt K mg "value_behind" s_value_behind ["effect", "value"]) (TD : TxD K mg w) (TF : TxF K mg) : FnOk P w K mg base CX0 2 D.f D.fd ["effect", "value"] spBehind := by
  obtain ⟨t1, gO⟩ := TF.on
  obtain ⟨t2, gF⟩ := TD.flip
  refine D.F.ok sc_behind (fun vs H Q E h => ?_) (fun cdv A outer s H vs Q E hr h => ?_)
  · obtain ⟨z, v, rfl, _⟩ := h
    rfl
  · obtain ⟨z, v, rfl, hz, hq⟩ := h
    refine ⟨_, pss_cons (ps_if (pt_cmpR op_in_seq (pv 0) (pe_glob (by rfl) TF.firm (v := .ref TF.firmA) rfl) (by rfl)) (pss_one (ps_ret (pe_cmpR op_eq (pv 0) (pe_glob (by rfl) gO (v := .str ("on" : Str)) ⟨_, rfl⟩) (nomark _)))) pss_nil)
      (pss_one (ps_ret (pe_cmpR op_ne (pv 1) (pe_cmpR op_eq (pv 0) (pe_glob (by rfl) gF (v := .str ("flip" : Str)) ⟨_, rfl⟩) (nomark _)) (nomark _)))), ?_⟩
    have eqS : ∀ x y : Str, decide (V.str x = V.str y) = decide (x = y) := fun x y => decide_eq_decide.mpr ⟨fun h => V.str.inj h, fun h => congrArg _ h⟩
    refine ⟨_, rfl, TF.firmA, _, rfl, .inr (.inr TF.firmT), rfl, flat_strs _, _, rfl, ?_⟩
    rw [if_neg Bool.false_ne_true, inV_strs]
    refine ite2 (fun c => ?_) (fun c => ?_)
    · refine ⟨_, rfl, rfl, ?_⟩
      rw [eqS, ← vb_firm z hz (of_decide_eq_true c) v]
      exact hq
    · refine ⟨_, rfl, _, rfl, rfl, rfl, ?_⟩
      have e : (!decide (V.bl v = V.bl (decide (V.str z = V.str ("flip" : Str))))) = vb z v := by
        rw [vb_loose z hz (fun h => c (decide_eq_true h)) v, eqS]
        cases v <;> cases decide (z = ("flip" : Str)) <;> rfl
      rw [e]
      exact hq
theorem sc_R_len : FnScope ["self"] ["self"] (defScope s_Row_len) := ⟨rfl, rfl, rfl, by decide +kernel, rfl, by decide +kernel, by decide +kernel⟩
theorem ok_R_len {f : Addr} {fd : FuncData} (F : Fun K "__len__" "Row.__len__" s_Row_len f fd) (B : TxB mg) (R : TxR K mg CR) : FnOk P w K mg base CX0 2 f fd ["self"] (spRLen C CR) := by
  refine F.ok sc_R_len (fun vs H Q E h => ?_) (fun cdv A outer s H vs Q E hr h => ?_)
  · obtain ⟨r, t, rs, ds, rfl, _⟩ := h
    rfl
  · obtain ⟨r, t, rs, ds, rfl, hm, hq⟩ := h
    obtain ⟨dx, q, e, as, h1, h2, h3, h4⟩ := hm.ex
    refine ⟨_, pss_one (ps_ret (pe_callB call_len_seq (by rfl) B.len PySem.boot_len (pa_cons (pe_fld (pv 0) rfl) pa_nil))), ?_⟩
    refine ⟨_, rfl, r, CR, dx, _, _, rfl, h1, R.cl, R.np, rf_p _ _ _, q, _, rfl, .inr (sqT h2), ?_⟩
    rw [List.length_map, h3.len]
    exact hq
theorem sc_R_entries : FnScope ["self"] ["self"] (defScope s_Row_entries) := ⟨rfl, rfl, rfl, by decide +kernel, rfl, by decide +kernel, by decide +kernel⟩
theorem ok_R_entries {f : Addr} {fd : FuncData} (F : Fun K "entries" "Row.entries" s_Row_entries f fd) (R : TxR K mg CR) (De : DefAt K mg "entries_of" s_entries_of ["tree", "effects"]) (Ge : FnOk P w K mg base CX0 6 De.f De.fd ["tree", "effects"] (spEntries C)) : FnOk P w K mg base CX0 7 f fd ["self"] (spREntries C CR) := by
  refine F.ok sc_R_entries (fun vs H Q E h => ?_) (fun cdv A outer s H vs Q E hr h => ?_)
  · obtain ⟨r, t, rs, ds, rfl, _⟩ := h
    rfl
  · obtain ⟨r, t, rs, ds, rfl, hm, hq⟩ := h
    obtain ⟨dx, q, e, as, h1, h2, h3, h4⟩ := hm.ex
    refine ⟨_, pss_one (ps_ret (pe_call Ge hr rfl De.g De.F.kp De.b .nil pass0 (pa_cons (pe_fld (pv 0) rfl) (pa_cons (pe_fld (pv 0) rfl) pa_nil)))), ?_⟩
    exact ⟨_, rfl, r, CR, dx, _, _, rfl, h1, R.cl, R.nt, rf_t _ _ _, _, rfl, r, CR, dx, _, _, rfl, h1, R.cl, R.ne, rf_e _ _ _, t, e, rs, _, rfl, hm.tree, h4, fun D H' hD s' e' => hq D H' hD s' e'⟩
abbrev nRCall : List Str := ["self", "meaning", "values", "place", "value"]
theorem sc_R_call : FnScope nRCall ["self", "meaning"] (defScope s_Row_call) := ⟨rfl, rfl, rfl, by decide +kernel, rfl, by decide +kernel, by decide +kernel⟩
theorem kvB_kvG (rs : List Row) (v : Str → Bool) : kvX (fun z => V.bl (v z)) (plc rs) = kvG rs v := rfl
theorem ok_R_call {f : Addr} {fd : FuncData} (F : Fun K "__call__" "Row.__call__" s_Row_call f fd) (R : TxR K mg CR) (M : TxM K mg CM) (Dc : DefAt K mg "check_trees" s_check_trees ["one", "other"]) (Gc : FnOk P w K mg base CX0 4 Dc.f Dc.fd ["one", "other"] (spCheckTreesM C CR CM))
    (Db : DefAt K mg "value_behind" s_value_behind ["effect", "value"]) (Gb : FnOk P w K mg base CX0 2 Db.f Db.fd ["effect", "value"] spBehind)
    (mS : MethAt K CM "states" "Meaning.states" s_Meaning_states ["self"]) (GS : FnOk P w K mg base CX0 2 mS.f mS.fd ["self"] (spMStates C CM))
    (Dw : DefAt K mg "with_values" s_with_values ["tree", "values"]) (Gw : FnOk P w K mg base CX0 9 Dw.f Dw.fd ["tree", "values"] (spWith C CM)) : FnOk P w K mg base CX0 10 f fd ["self", "meaning"] (spRCall C CR CM) := by
  refine F.ok sc_R_call (fun vs H Q E h => ?_) (fun cdv A outer s H vs Q E hr h => ?_)
  · obtain ⟨r, m, t, t2, rs, ds, v, rfl, _⟩ := h
    rfl
  · obtain ⟨r, m, t, t2, rs, ds, v, rfl, hR, hm, hq⟩ := h
    have hu := hu_of hr
    have hr1 : Room 2 _ := hr.mono (by decide)
    have hr3 : Room 4 _ := hr.mono (by decide)
    have hv := hm.valid
    have hl := hm.turns.tree.len
    have lpl : (plc rs).length ≤ 101 := by rw [plc_len']; omega
    obtain ⟨dx, q, e, as, h1, h2, h3, h4⟩ := id hR.ex
    obtain ⟨dx2, u2, k2, g1, g2, g3⟩ := id hm.turns.ex
    refine ⟨_, pss_cons (ps_expr (pe_call Gc hr3 rfl Dc.g Dc.F.kp Dc.b .nil pass0 (pa_cons (pv 0) (pa_cons (pv 1) pa_nil))))
      (pss_cons (ps_setDc (i := 2) (own := [("place", 3), ("value", 4)]) (g := gTup K 2 (gCons (gName 3) (gCons (gName 4) gNil))) (tt := tYes) (tk := tVar 3) (tv := tCall spBehind [] E0 (tCons (tDGet (tFld K (tVar 0) "effects") (tVar 3)) (tCons (tVar 4) tNil))) rfl sc_R_call.nd rfl rfl (swd_true rfl rfl rfl (by decide +kernel)) (pi_items (pe_lockF (pe_meth0 (pv 1) M.cl mS.m GS hr1 mS.b .nil pass0))) (blkOk_by (N := nRCall) (sc := defScope s_Row_call) (by decide +kernel))
        (fun _ _ _ _ _ => by exact pg_tup rfl (pgs_cons (pg_name (i := 3) sc_R_call.nd rfl (Or.inl rfl)) (pgs_cons (pg_name (i := 4) sc_R_call.nd rfl (Or.inl rfl)) pgs_nil))) (fun _ _ _ _ _ => pts_nil) (fun _ _ _ _ _ => pv 3) (fun _ _ _ _ _ => by exact pe_call Gb hr1 rfl Db.g Db.F.kp Db.b .nil pass0 (pa_cons (pe_dget hu (pe_fld (pv 0) rfl) (pv 3) (fun _ _ => rfl)) (pa_cons (pv 4) pa_nil))))
      (pss_one (ps_ret (pe_call Gw hr rfl Dw.g Dw.F.kp Dw.b .nil pass0 (pa_cons (pe_fld (pv 0) rfl) (pa_cons (pv 2) pa_nil)))))), ?_⟩
    have noS : (mf t2 u2 k2 (v "top")).lookup ("states" : Str) = none := mf_no _ _ _ _ (by decide +kernel) (by decide +kernel) (by decide +kernel) (by decide +kernel)
    refine ⟨_, rfl, _, rfl, r, m, t, t2, rs, ds, v, rfl, hR, hm, ?_⟩
    refine ⟨_, rfl, m, dx2, _, rfl, g1, noS, m, t2, rs, _, _, rfl, hm.turns, fun d hd => ?_⟩
    rw [kvM_kvG hv (val_turnsG hv v)]
    refine ⟨d, _, rfl, upd_same, trivial, fun od => ?_⟩
    have s1 : Same H (upd (upd H d (.dK (kvG rs v))) d (.frz od (.dK (kvG rs v)))) := fun b o eb => by
      rw [upd_ne (ne_of_none eb hd), upd_ne (ne_of_none eb hd)]; exact eb
    have lk : (upd (upd H d (.dK (kvG rs v))) d (.frz od (.dK (kvG rs v)))) d = some (.frz od (.dK (kvG rs v))) := upd_same
    generalize upd (upd H d (.dK (kvG rs v))) d (.frz od (.dK (kvG rs v))) = Hl at s1 lk
    refine ⟨d, od, _, rfl, lk, fun D hD => ?_⟩
    refine dc_walk (walk_items (d := d) (o := od) (kvs := kvG rs v)) (fun i H' => Same Hl H' ∧ H' D = some (.dK (kvX (fun z => V.bl (doneV rs v ds z)) ((plc rs).take i)))) ⟨Same.new hD, upd_same⟩ (fun i H' _ m => m.1 _ _ lk) ?_ ?_
    · rintro i x H5x H5 hi ⟨s5, hD5⟩ ⟨T, kx, vx, rfl, hT, rfl, hkx, hvx⟩
      rw [Option.map_eq_some_iff] at hkx hvx
      obtain ⟨⟨k', v'⟩, hk, rfl⟩ := hkx
      obtain ⟨⟨k'', v''⟩, hk2, rfl⟩ := hvx
      rw [hk] at hk2
      cases Option.some.inj hk2
      obtain ⟨z, rfl, hz⟩ := kvG_at hk
      have hzm := List.mem_of_getElem? hz
      have ev : v' = V.bl (v z) := by
        unfold kvG at hk
        rw [List.getElem?_map, hz] at hk
        exact (Prod.mk.inj (Option.some.inj hk)).2.symm
      subst ev
      have sT : Same H5x (upd H5x T (.tup [V.str z, V.bl (v z)])) := Same.new hT
      have eT : (upd H5x T (.tup [V.str z, V.bl (v z)])) T = some (.tup [V.str z, V.bl (v z)]) := upd_same
      have s6 := s5.trans sT
      have hD6 := sT _ _ hD5
      show gTup K 2 _ _ _ (upd H5x T (.tup [V.str z, V.bl (v z)])) _
      generalize upd H5x T (.tup [V.str z, V.bl (v z)]) = H6 at sT eT s6 hD6
      have dg : DGet H6 e (.str z) (some (.str (eff rs ds z))) := .inl ⟨_, .inr z, .inl (s6 _ _ (s1 _ _ h4)), rfl, (valV_kvX (fun z => V.str (eff rs ds z)) hzm).symm⟩
      refine ⟨T, _, rfl, sqT eT, rfl, _, _, rfl, _, _, rfl, rfl, rfl, tYes_if ?_⟩
      refine ⟨_, rfl, _, rfl, r, CR, dx, _, _, rfl, s6 _ _ (s1 _ _ h1), R.cl, R.ne, rf_e _ _ _, _, rfl, e, _, rfl, dg, _, rfl, eff rs ds z, v z, rfl, eff_mem hR.vd.words z, ?_⟩
      refine ⟨_, .inr z, rfl, hD6, small1000 (by rw [kvX_len, List.length_take]; omega), fun b o eb => ?_, ?_⟩
      · rw [upd_ne (fun y => by rw [y, hD] at eb; cases eb)]
        exact s6 _ _ eb
      · rw [upd_same, ← done_eff hR.vd.words v z]
        exact congrArg (fun l => some (HO.dK l)) (kvX_more (plc_nd hv) (fun z => V.bl (doneV rs v ds z)) hz)
    rintro H5 ⟨s5, hD5⟩
    rw [kvG_len, List.take_length, kvB_kvG] at hD5
    have s15 := s1.trans s5
    refine ⟨_, rfl, r, CR, dx, _, _, rfl, s15 _ _ h1, R.cl, R.nt, rf_t _ _ _, _, rfl, t, D, rs, doneV rs v ds, rfl, hR.tree.same s15, hD5, fun r' hr' q => absurd q (hR.un r' hr'), fun m3 H6 s6 hm3 => hq m3 H6 (s15.trans s6) hm3⟩
end
end Ts

set_option maxRecDepth 100000
set_option maxHeartbeats 4000000
namespace Ts
open PySem L2
/-! ### the least row -/
def firm (w : Str) : Bool := decide (w ∈ (["on", "off"] : List Str))
def leastW (w : Str) : Str := if firm w = true then w else "flip"
def leastD (rs : List Row) (f : Str → Str) : List De := (entL rs f).map fun z => (leastW (f z), z)
def foldE (rs : List Row) (ds : List De) (e : Str → Str) : Str → Str := ds.foldl (fun e d => stepE rs d e) e
theorem eff_fold (rs : List Row) (ds : List De) : eff rs ds = foldE rs ds fun _ => "keep" := rfl
theorem foldE_app (rs : List Row) (A B : List De) (e : Str → Str) : foldE rs (A ++ B) e = foldE rs B (foldE rs A e) := List.foldl_append ..
theorem fold_skip {rs : List Row} {b : Str} : ∀ {B : List De} (e : Str → Str), (∀ d ∈ B, within rs d.2 b = false) → foldE rs B e b = e b
  | [], e, _ => rfl
  | d :: B, e, h => by
    show foldE rs B (stepE rs d e) b = e b
    rw [fold_skip _ fun x hx => h x (List.mem_cons_of_mem _ hx)]
    unfold stepE
    rw [if_neg (by rw [h d (List.mem_cons_self ..)]; exact Bool.false_ne_true)]
theorem fold_same {rs : List Row} {b c : Str} : ∀ {B : List De} (e : Str → Str), (∀ d ∈ B, within rs d.2 b = within rs d.2 c) → e b = e c → foldE rs B e b = foldE rs B e c
  | [], e, _, h => h
  | d :: B, e, h, h0 => by
    show foldE rs B (stepE rs d e) b = foldE rs B (stepE rs d e) c
    refine fold_same _ (fun x hx => h x (List.mem_cons_of_mem _ hx)) ?_
    unfold stepE
    rw [h d (List.mem_cons_self ..), h0]
theorem flp_firm : ∀ w ∈ words4, firm (flp w) = firm w := by decide +kernel
theorem word_firm : ∀ w ∈ words3, ¬ w = ("flip" : Str) → firm w = true := by decide +kernel
theorem loose_flp : ∀ w ∈ words4, ∀ x ∈ words4, firm w = false → firm x = false → w ≠ x → flp x = w := by decide +kernel
theorem firm_words : ∀ w ∈ words4, firm w = true → w ≠ ("flip" : Str) := by decide +kernel
theorem leastW_mem : ∀ w ∈ words4, leastW w ∈ words3 := by decide +kernel
theorem within_up {rs : List Row} (hv : Valid rs) {r : Row} (hr : r ∈ rs) {p : Str} (ne : r.nm ≠ p) : within rs p r.nm = within rs p r.fo := by
  have hn : r.nm ∈ plc rs := nm_plc hr
  have hf : r.fo ∈ plc rs := fo_plc hv hr
  have nt : r.nm ≠ ("top" : Str) := fun e => top_not hv (by rw [← e]; exact List.mem_map.mpr ⟨r, hr, rfl⟩)
  rw [Bool.eq_iff_iff, within_law hv hn, within_law hv hf, way_step hv hr]
  constructor
  · rintro (h | h | ⟨_, h⟩)
    · exact absurd h ne
    · exact .inr (.inl h)
    · rcases List.mem_append.mp h with h | h
      · by_cases q : r.fo = ("top" : Str)
        · rw [q, way_top hv] at h; cases h
        · exact .inr (.inr ⟨q, h⟩)
      · exact absurd (List.mem_singleton.mp h).symm ne
  · rintro (h | h | ⟨_, h⟩)
    · by_cases q : p = ("top" : Str)
      · exact .inr (.inl q)
      · refine .inr (.inr ⟨nt, List.mem_append_left _ ?_⟩)
        rw [← h]
        exact way_self hv ((mem_plc.mp hf).resolve_left fun e => q (h ▸ e))
    · exact .inr (.inl h)
    · exact .inr (.inr ⟨nt, List.mem_append_left _ h⟩)
/-- below what is firm all is firm -/
theorem firm_down {rs : List Row} (hv : Valid rs) {r : Row} (hr : r ∈ rs) : ∀ {ds : List De}, Words ds → firm (eff rs ds r.fo) = true → firm (eff rs ds r.nm) = true := fun {ds} =>
  ds_rec (p := fun ds => Words ds → firm (eff rs ds r.fo) = true → firm (eff rs ds r.nm) = true) (fun _ h => h) (fun l x ih h => by
    rw [eff_snoc]
    by_cases f : x.1 = ("flip" : Str)
    · have st : ∀ b, stepE rs x (eff rs l) b = if within rs x.2 b = true then flp (eff rs l b) else eff rs l b := fun b => by unfold stepE; rw [if_pos f]
      have fs : ∀ b, firm (stepE rs x (eff rs l) b) = firm (eff rs l b) := fun b => by
        rw [st]
        split
        · exact flp_firm _ (eff_mem h.init b)
        · rfl
      rw [fs, fs]
      exact ih h.init
    · have st : ∀ b, stepE rs x (eff rs l) b = if within rs x.2 b = true then x.1 else eff rs l b := fun b => by unfold stepE; rw [if_neg f]
      rw [st, st]
      by_cases q : r.nm = x.2
      · have c1 : within rs x.2 r.nm = true := by unfold within; rw [decide_eq_true q]; rfl
        rw [if_pos c1]
        exact fun _ => word_firm _ h.last f
      · rw [within_up hv hr q]
        by_cases c : within rs x.2 r.fo = true
        · rw [if_pos c, if_pos c]
          exact fun e => e
        · rw [if_neg c, if_neg c]
          exact ih h.init) _ ds rfl
theorem within_later {rs : List Row} (hv : Valid rs) {i : Nat} {b p : Str} (hb : b = ("top" : Str) ∨ b ∈ names (rs.take i)) (hp : p ∈ names (rs.drop i)) : within rs p b = false := by
  have hpn : p ∈ names rs := by
    obtain ⟨q, hq, e⟩ := List.mem_map.mp hp
    exact List.mem_map.mpr ⟨q, List.mem_of_mem_drop hq, e⟩
  have pt : p ≠ ("top" : Str) := fun e => top_not hv (e ▸ hpn)
  have hb' : b ∈ plc rs := mem_plc.mpr (hb.imp id fun h => by
    obtain ⟨q, hq, e⟩ := List.mem_map.mp h
    exact List.mem_map.mpr ⟨q, List.mem_of_mem_take hq, e⟩)
  have nd := hv.nodup
  have dis : ∀ x, x ∈ names (rs.take i) → x ∉ names (rs.drop i) := fun x h1 h2 => by
    have e : names rs = names (rs.take i) ++ names (rs.drop i) := by unfold names; rw [← List.map_append, List.take_append_drop]
    have nd' : (names rs).Nodup := nd
    rw [e] at nd'
    exact (List.nodup_append.mp nd').2.2 x h1 x h2 rfl
  cases c : within rs p b with
  | false => rfl
  | true =>
    rcases (within_law hv hb').mp c with h | h | ⟨h, hw⟩
    · rcases hb with e | e
      · exact absurd (h.symm.trans e) pt
      · exact absurd (h ▸ hp) (dis b e)
    · exact absurd h pt
    · rcases hb with e | e
      · exact absurd e h
      · exact absurd hp (dis p (way_pre hv i e hw))
theorem least_split {rs : List Row} {i : Nat} {r : Row} (h : rs[i]? = some r) (f : Str → Str) :
    leastD rs f = (((("top" : Str) :: names (rs.take i)).filter fun z => decide (f z ≠ arF rs f z)).map fun z => (leastW (f z), z)) ++ ((([r.nm].filter fun z => decide (f z ≠ arF rs f z)).map fun z => (leastW (f z), z)) ++ ((names (rs.drop (i + 1))).filter fun z => decide (f z ≠ arF rs f z)).map fun z => (leastW (f z), z)) := by
  have e : plc rs = (("top" : Str) :: names (rs.take i)) ++ ([r.nm] ++ names (rs.drop (i + 1))) := by
    show ("top" : Str) :: names rs = _
    have : rs = rs.take i ++ (r :: rs.drop (i + 1)) := by
      obtain ⟨hi, e⟩ := List.getElem?_eq_some_iff.mp h
      rw [← e, ← List.drop_eq_getElem_cons hi, List.take_append_drop]
    have e2 : names rs = names (rs.take i) ++ ([r.nm] ++ names (rs.drop (i + 1))) := by
      conv => lhs; rw [this]
      unfold names
      rw [List.map_append]; rfl
    rw [e2]; rfl
  unfold leastD entL
  rw [e, List.filter_append, List.filter_append, List.map_append, List.map_append]
theorem eff_least {rs : List Row} (hv : Valid rs) {ds : List De} (hw : Words ds) : ∀ z ∈ plc rs, eff rs (leastD rs (eff rs ds)) z = eff rs ds z := by
  obtain ⟨f, hf⟩ : ∃ f, f = eff rs ds := ⟨_, rfl⟩
  have f4 : ∀ b, f b ∈ words4 := fun b => by rw [hf]; exact eff_mem hw b
  have fd : ∀ r ∈ rs, firm (f r.fo) = true → firm (f r.nm) = true := fun r hr => by rw [hf]; exact firm_down hv hr hw
  rw [← hf]
  have top : eff rs (leastD rs f) "top" = f "top" := by
    have e : leastD rs f = ((([("top" : Str)]).filter fun z => decide (f z ≠ arF rs f z)).map fun z => (leastW (f z), z)) ++ (((names rs).filter fun z => decide (f z ≠ arF rs f z)).map fun z => (leastW (f z), z)) := by
      unfold leastD entL
      rw [show plc rs = [("top" : Str)] ++ names rs from rfl, List.filter_append, List.map_append]
    rw [e, eff_fold, foldE_app, fold_skip _ fun d hd => by
      obtain ⟨z, hz, rfl⟩ := List.mem_map.mp hd
      refine within_later hv (i := 0) (.inl rfl) ?_
      rw [List.drop_zero]
      exact (List.mem_filter.mp hz).1]
    by_cases q : f "top" = "keep"
    · rw [List.filter_cons_of_neg (by rw [arF_top]; simp [q])]
      exact q.symm
    · rw [List.filter_cons_of_pos (by rw [arF_top]; simp [q])]
      show stepE rs (leastW (f "top"), "top") (fun _ => "keep") "top" = f "top"
      unfold stepE
      rw [if_pos (by unfold within; rw [decide_eq_true rfl]; rfl)]
      unfold leastW
      cases c : firm (f "top") with
      | true => rw [if_pos rfl, if_neg (firm_words _ (f4 _) c)]
      | false => rw [if_neg Bool.false_ne_true, if_pos rfl]; exact loose_flp _ (f4 _) _ w_keep c (by decide +kernel) q
  have main : ∀ (i : Nat) (r : Row), rs[i]? = some r → eff rs (leastD rs f) r.nm = f r.nm := by
    intro i
    induction i using Nat.strongRecOn with
    | _ i ih =>
      intro r hr
      have hrm := List.mem_of_getElem? hr
      have nt : r.nm ≠ ("top" : Str) := fun e => top_not hv (by rw [← e]; exact List.mem_map.mpr ⟨r, hrm, rfl⟩)
      have ro := rowOf_at hv hr
      have foi := hv.fo hr
      have ef : eff rs (leastD rs f) r.fo = f r.fo := by
        rcases foi with e | e
        · rw [e]; exact top
        · obtain ⟨q, hq, eq⟩ := List.mem_map.mp e
          obtain ⟨j, hj, ej⟩ := List.mem_take_iff_getElem.mp hq
          rw [← eq]
          exact ih j (by omega) q (by rw [← ej]; exact List.getElem?_eq_getElem _)
      have sp := least_split hr f
      obtain ⟨A, hA⟩ : ∃ A, A = (((("top" : Str) :: names (rs.take i)).filter fun z => decide (f z ≠ arF rs f z)).map fun z => (leastW (f z), z)) := ⟨_, rfl⟩
      obtain ⟨B, hB⟩ : ∃ B, B = (((names (rs.drop (i + 1))).filter fun z => decide (f z ≠ arF rs f z)).map fun z => (leastW (f z), z)) := ⟨_, rfl⟩
      obtain ⟨M, hM⟩ : ∃ M, M = (([r.nm].filter fun z => decide (f z ≠ arF rs f z)).map fun z => (leastW (f z), z)) := ⟨_, rfl⟩
      rw [← hA, ← hB, ← hM] at sp
      have inTake : r.nm ∈ names (rs.take (i + 1)) := by
        rw [take_more hr]; unfold names; rw [List.map_append]; exact List.mem_append_right _ (List.mem_singleton.mpr rfl)
      have skB : ∀ b, (b = ("top" : Str) ∨ b ∈ names (rs.take (i + 1))) → ∀ e, foldE rs B e b = e b := fun b hb e => fold_skip e fun d hd => by
        rw [hB] at hd
        obtain ⟨z, hz, rfl⟩ := List.mem_map.mp hd
        exact within_later hv hb (List.mem_filter.mp hz).1
      have skM : ∀ e, foldE rs M e r.fo = e r.fo := fun e => fold_skip e fun d hd => by
        rw [hM] at hd
        obtain ⟨z, hz, rfl⟩ := List.mem_map.mp hd
        have hz1 := List.mem_singleton.mp (List.mem_filter.mp hz).1
        refine within_later hv foi ?_
        rw [hz1]
        obtain ⟨hi, e⟩ := List.getElem?_eq_some_iff.mp hr
        rw [List.drop_eq_getElem_cons hi, e]
        exact List.mem_map.mpr ⟨r, List.mem_cons_self .., rfl⟩
      have foi2 : r.fo = ("top" : Str) ∨ r.fo ∈ names (rs.take (i + 1)) := foi.imp id fun h => by
        rw [take_more hr]; unfold names; rw [List.map_append]; exact List.mem_append_left _ h
      have eA : foldE rs A (fun _ => "keep") r.fo = f r.fo := by
        rw [← ef, sp, eff_fold, foldE_app, foldE_app, skB _ foi2, skM]
      have eA2 : foldE rs A (fun _ => "keep") r.nm = f r.fo := by
        rw [← eA]
        refine fold_same _ (fun d hd => ?_) rfl
        rw [hA] at hd
        obtain ⟨z, hz, rfl⟩ := List.mem_map.mp hd
        refine within_up hv hrm fun e => ?_
        have e' : r.nm = z := e
        rcases List.mem_cons.mp (List.mem_filter.mp hz).1 with h | h
        · exact nt (e'.trans h)
        · exact (hv i r hr).new (by rw [e']; exact h)
      rw [sp, eff_fold, foldE_app, foldE_app, skB _ (.inr inTake)]
      have ar := arF_row (f := f) nt ro
      by_cases q : f r.nm = f r.fo
      · rw [hM, List.filter_cons_of_neg (by rw [ar]; simp [q]), List.filter_nil]
        exact eA2.trans q.symm
      · rw [hM, List.filter_cons_of_pos (by rw [ar]; simp [q]), List.filter_nil]
        show stepE rs (leastW (f r.nm), r.nm) (foldE rs A fun _ => "keep") r.nm = f r.nm
        unfold stepE
        rw [if_pos (by unfold within; rw [decide_eq_true rfl]; rfl), eA2]
        unfold leastW
        cases c : firm (f r.nm) with
        | true => rw [if_pos rfl, if_neg (firm_words _ (f4 _) c)]
        | false =>
          rw [if_neg Bool.false_ne_true, if_pos rfl]
          refine loose_flp _ (f4 _) _ (f4 _) c ?_ q
          cases c2 : firm (f r.fo) with
          | false => rfl
          | true => rw [fd r hrm c2] at c; cases c
  intro z hz
  rcases mem_plc.mp hz with rfl | hz
  · exact top
  · obtain ⟨r, hr, rfl⟩ := List.mem_map.mp hz
    obtain ⟨i, hi, e⟩ := List.mem_iff_getElem.mp hr
    exact main i r (by rw [← e]; exact List.getElem?_eq_getElem hi)
theorem least_words {rs : List Row} {f : Str → Str} (f4 : ∀ b, f b ∈ words4) : VDs rs (leastD rs f) := fun d hd => by
  obtain ⟨z, hz, rfl⟩ := List.mem_map.mp hd
  exact ⟨leastW_mem _ (f4 z), (List.mem_filter.mp hz).1⟩
theorem least_len {rs : List Row} {f : Str → Str} : (leastD rs f).length ≤ rs.length + 1 := by
  unfold leastD entL
  rw [List.length_map]
  have := List.length_filter_le (fun z => decide (f z ≠ arF rs f z)) (plc rs)
  rw [plc_len'] at this
  exact this
/-- rows that are alike have the same entries -/
theorem arF_congr {rs : List Row} (hv : Valid rs) {f g : Str → Str} (h : ∀ z ∈ plc rs, f z = g z) {z : Str} (hz : z ∈ plc rs) : arF rs f z = arF rs g z := by
  by_cases e : z = ("top" : Str)
  · rw [e, arF_top, arF_top]
  · obtain ⟨r, er, hr, rfl⟩ := rowOf_some ((mem_plc.mp hz).resolve_left e)
    rw [arF_row e er, arF_row e er]
    exact h _ (fo_plc hv hr)
theorem ent_congr {rs : List Row} (hv : Valid rs) {f g : Str → Str} (h : ∀ z ∈ plc rs, f z = g z) : entL rs f = entL rs g := by
  unfold entL
  exact List.filter_congr fun z hz => by rw [h z hz, arF_congr hv h hz]
theorem least_congr {rs : List Row} (hv : Valid rs) {f g : Str → Str} (h : ∀ z ∈ plc rs, f z = g z) : leastD rs f = leastD rs g := by
  unfold leastD
  rw [ent_congr hv h]
  exact List.map_congr_left fun z hz => by rw [h z (List.mem_filter.mp hz).1]
theorem alike_iff {rs : List Row} {ds es : List De} : alikeE rs ds es = true ↔ ∀ z ∈ plc rs, eff rs ds z = eff rs es z := by
  unfold alikeE
  rw [List.all_eq_true]
  exact ⟨fun h z hz => of_decide_eq_true (h z hz), fun h z hz => decide_eq_true (h z hz)⟩
/-- no row of fewer deeds, of none or of one, is alike -/
theorem few_none {rs : List Row} (hv : Valid rs) {ds : List De} (h : 1 ≤ (entL rs (eff rs ds)).length) : alikeE rs [] ds = false := by
  cases c : alikeE rs [] ds with
  | false => rfl
  | true =>
    rw [← ent_congr hv (alike_iff.mp c)] at h
    have e0 : entL rs (eff rs []) = [] := List.filter_eq_nil_iff.mpr fun z hz => by
      by_cases e : z = ("top" : Str)
      · rw [e, arF_top]; simp [eff]
      · obtain ⟨r, er, hr, rfl⟩ := rowOf_some ((mem_plc.mp hz).resolve_left e)
        rw [arF_row e er]; simp [eff]
    rw [e0] at h
    exact absurd h (by decide)
theorem few_one {rs : List Row} (hv : Valid rs) {ds : List De} (h : 2 ≤ (entL rs (eff rs ds)).length) (d : De) : alikeE rs [d] ds = false := by
  cases c : alikeE rs [d] ds with
  | false => rfl
  | true =>
    rw [← ent_congr hv (alike_iff.mp c)] at h
    have hs : ∀ z ∈ entL rs (eff rs [d]), z = d.2 := fun z hz => by
      obtain ⟨hz, hne⟩ := List.mem_filter.mp hz
      refine Classical.byContradiction fun ne => of_decide_eq_true hne ?_
      by_cases e : z = ("top" : Str)
      · rw [e, arF_top]
        show stepE rs d (fun _ => "keep") "top" = "keep"
        unfold stepE
        rw [if_neg]
        intro hw
        rcases (within_law hv (mem_plc.mpr (.inl rfl))).mp hw with h | h | ⟨h, _⟩
        · exact ne (e.trans h)
        · exact ne (e.trans h.symm)
        · exact h rfl
      · obtain ⟨r, er, hr, rfl⟩ := rowOf_some ((mem_plc.mp hz).resolve_left e)
        rw [arF_row e er]
        show stepE rs d (fun _ => "keep") r.nm = stepE rs d (fun _ => "keep") r.fo
        unfold stepE
        rw [within_up hv hr ne]
    have nd : (entL rs (eff rs [d])).Nodup := (plc_nd hv).filter _
    match q : entL rs (eff rs [d]) with
    | [] => rw [q] at h; simp at h
    | [x] => rw [q] at h; simp at h
    | x :: y :: l =>
      rw [q] at nd hs
      have e1 := hs x (List.mem_cons_self ..)
      have e2 := hs y (List.mem_cons_of_mem _ (List.mem_cons_self ..))
      exact absurd (e1.trans e2.symm) fun e => (List.nodup_cons.mp nd).1 (e ▸ List.mem_cons_self ..)
/-- undo undoes -/
theorem vb_twice : ∀ w ∈ words4, firm w = false → ∀ v : Bool, vb w (vb w v) = v := by decide +kernel
theorem undo_done {rs : List Row} (hv : Valid rs) {ds : List De} (hw : Words ds) (hn : ∀ z ∈ plc rs, firm (eff rs ds z) = false) (v : Str → Bool) : ∀ z ∈ plc rs, doneV rs (doneV rs v ds) (leastD rs (eff rs ds)) z = v z := fun z hz => by
  rw [done_eff (least_words (rs := rs) (fun b => eff_mem hw b)).words, eff_least hv hw z hz, done_eff hw]
  exact vb_twice _ (eff_mem hw z) (hn z hz) _
end Ts

set_option maxRecDepth 100000
set_option maxHeartbeats 4000000
namespace Ts
open PySem L2
def firmL (rs : List Row) (f : Str → Str) : Bool := (plc rs).any fun z => firm (f z)
def spRowOf (C CR : Addr) : Sp := fun vs H Q _ => ∃ (t e : Addr) (rs : List Row) (f : Str → Str), vs = [.ref t, .ref e] ∧ TreeAt C H t rs ∧ Unl0 rs ∧ H e = some (.dK (kvS f (plc rs))) ∧ (∀ z, f z ∈ words4) ∧ rs.length ≤ 90 ∧ ∀ r H', H r = none → Same H H' → RowAt C CR H' r t rs (leastD rs f) → Q (.ref r) H'
def spRLeast (C CR : Addr) : Sp := fun vs H Q _ => ∃ (r t : Addr) (rs : List Row) (ds : List De), vs = [.ref r] ∧ RowAt C CR H r t rs ds ∧ rs.length ≤ 90 ∧ ∀ r2 H', H r2 = none → Same H H' → RowAt C CR H' r2 t rs (leastD rs (eff rs ds)) → Q (.ref r2) H'
def spRUndo (C CR : Addr) : Sp := fun vs H Q _ => ∃ (r t : Addr) (rs : List Row) (ds : List De), vs = [.ref r] ∧ RowAt C CR H r t rs ds ∧ rs.length ≤ 90 ∧
  (firmL rs (eff rs ds) = true → ∀ H', Same H H' → Q .non H') ∧ (firmL rs (eff rs ds) = false → ∀ r2 H', H r2 = none → Same H H' → RowAt C CR H' r2 t rs (leastD rs (eff rs ds)) → Q (.ref r2) H')
def spREqN (K : PySem.W.Frag) (C CR : Addr) : Sp := fun vs H Q _ => ∃ (r t : Addr) (x : V) (rs : List Row) (ds : List De), vs = [.ref r, x] ∧ RowAt C CR H r t rs ds ∧
  ((∃ (r2 t2 : Addr) (es : List De), x = .ref r2 ∧ RowAt C CR H r2 t2 rs es ∧ Q (.bl (alikeE rs ds es)) H) ∨ (∃ (r2 t2 : Addr) (qs : List Row) (es : List De), x = .ref r2 ∧ RowAt C CR H r2 t2 qs es ∧ rs ≠ qs ∧ Q (.bl false) H) ∨ (Other K H x (.ref CR) ∧ Q (.bl false) H))
theorem kvS_at {f : Str → Str} {l : List Str} {j : Nat} {k : Key} {v : V} (h : (kvS f l)[j]? = some (k, v)) : ∃ z : Str, k = .inr z ∧ l[j]? = some z ∧ v = .str (f z) := by
  unfold kvS kvX at h
  rw [List.getElem?_map] at h
  obtain ⟨z, hz, e⟩ := Option.map_eq_some_iff.mp h
  cases e
  exact ⟨z, rfl, hz, rfl⟩
section
variable {P : Program} {w : World} {K : PySem.W.Frag} {mg : Str → Option Value} {base : Heap} {C CR : Addr}
theorem ok_R_eqN {f : Addr} {fd : FuncData} (F : Fun K "__eq__" "Row.__eq__" s_Row_eq f fd) (B : TxB mg) (R : TxR K mg CR) (I : C8.InsC K CR)
    (mE : MethAt K C "__eq__" "Tree.__eq__" s_Tree_eq ["self", "other"]) (GE : FnOk P w K mg base CX0 2 mE.f mE.fd ["self", "other"] (spEqT K C)) : FnOk P w K mg base CX0 3 f fd ["self", "other"] (spREqN K C CR) := by
  refine F.ok sc_R_eq (fun vs H Q E h => ?_) (fun cdv A outer s H vs Q E hr h => ?_)
  · obtain ⟨r, t, x, rs, ds, rfl, _⟩ := h
    rfl
  · obtain ⟨r, t, x, rs, ds, rfl, hm, h⟩ := h
    have hu64 := hr.units
    obtain ⟨dx, q, e, as, h1, h2, h3, h4⟩ := hm.ex
    refine ⟨_, pss_one (ps_ret (pe_and (pe_callB call_isi (by rfl) B.isinstance (by decide +kernel) (pa_cons (pv 1) (pa_cons (pe_glob (by rfl) R.g (v := .ref CR) rfl) pa_nil)))
      (pe_and (pe_cmpR (op_eqC GE mE.m hr mE.b pass0) (pe_fld (pv 0) rfl) (pe_fld (pv 1) rfl) (nomark _))
      (pe_one (pe_cmpR (op_eqX (Nat.lt_of_le_of_lt (Nat.le_add_right _ _) hu64)) (pe_fld (pv 0) rfl) (pe_fld (pv 1) rfl) (nomark _)))))), ?_⟩
    rcases h with ⟨r2, t2, es, rfl, hm2, hq⟩ | ⟨r2, t2, qs, es, rfl, hm2, hne, hq⟩ | ⟨⟨ty, hty, hk⟩, hq⟩
    · obtain ⟨dx', q', e', as', g1, g2, g3, g4⟩ := hm2.ex
      obtain ⟨tx, _, _, _, _, _, k1, _⟩ := id hm.tree.ex
      obtain ⟨tx2, _, _, _, _, _, k3, _⟩ := id hm2.tree.ex
      refine ⟨_, rfl, _, _, _, _, true, rfl, .own CR, .base (.ins g1 I.cl I.ha I.hn I.htk I.hm), I.me, _, rfl, iteT ?_⟩
      refine ⟨_, rfl, r, CR, dx, _, _, rfl, h1, R.cl, R.nt, rf_t _ _ _, _, rfl, r2, CR, dx', _, _, rfl, g1, R.cl, R.nt, rf_t _ _ _, t, tx, _, .ref C, rfl, k1, .ins k3, nfC, t, .ref t2, rs, rfl, hm.tree, .inl ⟨t2, rs, rfl, hm2.tree, ?_⟩⟩
      refine ⟨_, rfl, _, rfl, ?_⟩
      refine iteNS' (by simp) ?_
      refine ⟨_, rfl, r, CR, dx, _, _, rfl, h1, R.cl, R.ne, rf_e _ _ _, _, rfl, r2, CR, dx', _, _, rfl, g1, R.cl, R.ne, rf_e _ _ _, e, e', _, _, plc rs, rfl, rfl, h4, g4, words_flat, ?_⟩
      rw [eff_alike]
      exact hq
    · obtain ⟨dx', q', e', as', g1, g2, g3, g4⟩ := hm2.ex
      obtain ⟨tx, _, _, _, _, _, k1, _⟩ := id hm.tree.ex
      obtain ⟨tx2, _, _, _, _, _, k3, _⟩ := id hm2.tree.ex
      refine ⟨_, rfl, _, _, _, _, true, rfl, .own CR, .base (.ins g1 I.cl I.ha I.hn I.htk I.hm), I.me, _, rfl, iteT ?_⟩
      refine ⟨_, rfl, r, CR, dx, _, _, rfl, h1, R.cl, R.nt, rf_t _ _ _, _, rfl, r2, CR, dx', _, _, rfl, g1, R.cl, R.nt, rf_t _ _ _, t, tx, _, .ref C, rfl, k1, .ins k3, nfC, t, .ref t2, rs, rfl, hm.tree, .inl ⟨t2, qs, rfl, hm2.tree, ?_⟩⟩
      refine ⟨_, rfl, _, rfl, ?_⟩
      exact iteF' (by simp [hne]) hq
    · exact ⟨_, rfl, _, _, _, _, false, rfl, .own CR, hty, hk, _, rfl, iteF hq⟩
abbrev nRowOf : List Str := ["tree", "effects", "entries", "place", "word"]
theorem sc_row_of : FnScope nRowOf ["tree", "effects"] (defScope s_row_of) := ⟨rfl, rfl, rfl, by decide +kernel, rfl, by decide +kernel, by decide +kernel⟩
theorem ok_row_of {fR : Addr} {fdR : FuncData} (D : DefAt K mg "row_of" s_row_of ["tree", "effects"]) (TD : TxD K mg w) (TF : TxF K mg) (R : TxR K mg CR) (De : DefAt K mg "entries_of" s_entries_of ["tree", "effects"]) (Ge : FnOk P w K mg base CX0 6 De.f De.fd ["tree", "effects"] (spEntries C))
    (MR : Mk K CR fR) (bR : Binds K fdR ["self", "tree", "deeds"] []) (GR : FnOk P w K mg base CX0 7 fR fdR ["self", "tree", "deeds"] (spRowInit C CR)) : FnOk P w K mg base CX0 9 D.f D.fd ["tree", "effects"] (spRowOf C CR) := by
  obtain ⟨t1, gF⟩ := TD.flip
  refine D.F.ok sc_row_of (fun vs H Q E h => ?_) (fun cdv A outer s H vs Q E hr h => ?_)
  · obtain ⟨t, e, rs, f, rfl, _⟩ := h
    rfl
  · obtain ⟨t, e, rs, f, rfl, ht, hun, he, f4, hl, hq⟩ := h
    have r6 : Room 6 _ := hr.mono (by decide)
    have r8 : Room 8 _ := hr.mono (by decide)
    refine ⟨_, pss_cons (ps_set (i := 2) sc_row_of.nd rfl (.inl rfl) (pe_call Ge r6 rfl De.g De.F.kp De.b .nil pass0 (pa_cons (pv 0) (pa_cons (pv 1) pa_nil))))
      (pss_one (ps_ret (pe_make MR GR r8 rfl R.g bR .nil pass0 (pa_cons (pv 0) (pa_cons (pe_lock (pe_lc (own := [("place", 3), ("word", 4)]) (g := gTup K 2 (gCons (gName 3) (gCons (gName 4) gNil))) (tt := tYes) (te := tTup (tCons (tIf (tTest (tOp (rIn K false) (tVar 4) (tC (.ref TF.firmA)))) (tVar 4) (tC (.str ("flip" : Str)))) (tCons (tVar 3) tNil))) rfl sc_row_of.nd (pi_items (pv 2)) (blkOk_by (N := nRowOf) (sc := defScope s_row_of) (by decide +kernel))
          (fun _ _ _ _ _ => by exact pg_tup rfl (pgs_cons (pg_name (i := 3) sc_row_of.nd rfl (Or.inl rfl)) (pgs_cons (pg_name (i := 4) sc_row_of.nd rfl (Or.inl rfl)) pgs_nil))) (fun _ _ _ _ _ => pts_nil)
          (fun _ _ _ _ _ => by exact pe_tup (pa_cons (pe_ifExp (pt_cmpR op_in_seq (pv 4) (pe_glob (by rfl) TF.firm (v := .ref TF.firmA) rfl) (by rfl)) (pv 4) (pe_glob (by rfl) gF (v := .str ("flip" : Str)) ⟨_, rfl⟩)) (pa_cons (pv 3) pa_nil))))) pa_nil))))), ?_⟩
    have hv := ht.val
    refine ⟨_, rfl, _, rfl, t, e, rs, f, rfl, ht, he, fun en H1 hen s1 een => ?_⟩
    have lpl : (plc rs).length ≤ 91 := by rw [plc_len']; omega
    have len : (entL rs f).length ≤ 91 := Nat.le_trans (List.length_filter_le _ _) lpl
    refine ⟨_, rfl, en, _, een, trivial, fun od => ?_⟩
    have lk : (upd H1 en (.frz od (.dK (kvS f (entL rs f))))) en = some (.frz od (.dK (kvS f (entL rs f)))) := upd_same
    obtain ⟨Hl, El⟩ : ∃ Hx, Hx = upd H1 en (.frz od (.dK (kvS f (entL rs f)))) := ⟨_, rfl⟩
    rw [← El]
    rw [← El] at lk
    refine ⟨_, rfl, en, od, _, rfl, lk, fun D2 hD2 => ?_⟩
    have nDe : D2 ≠ en := (ne_of_none lk hD2).symm
    refine lc_it (walk_items (d := en) (o := od) (kvs := kvS f (entL rs f))) (fun i H' => Same Hl H' ∧ ∃ as : List Addr, H' D2 = some (.lst (as.map V.ref)) ∧ DsAt H' as (((entL rs f).take i).map fun z => (leastW (f z), z))) ⟨Same.new hD2, [], upd_same, DsAt.nil⟩ (fun i H' _ m => m.1 _ _ lk) ?_ ?_
    · rintro i x H5x H5 hi ⟨s5, as, hD5, da⟩ ⟨T, kx, vx, rfl, hT, rfl, hkx, hvx⟩
      rw [Option.map_eq_some_iff] at hkx hvx
      obtain ⟨⟨k', v'⟩, hk, rfl⟩ := hkx
      obtain ⟨⟨k'', v''⟩, hk2, rfl⟩ := hvx
      rw [hk] at hk2
      cases Option.some.inj hk2
      obtain ⟨z, rfl, hz, rfl⟩ := kvS_at hk
      have sT : Same H5x (upd H5x T (.tup [V.str z, V.str (f z)])) := Same.new hT
      have eT : (upd H5x T (.tup [V.str z, V.str (f z)])) T = some (.tup [V.str z, V.str (f z)]) := upd_same
      have s6 := s5.trans sT
      have hD6 := sT _ _ hD5
      have da6 := da.same sT
      show gTup K 2 _ _ _ (upd H5x T (.tup [V.str z, V.str (f z)])) _
      generalize upd H5x T (.tup [V.str z, V.str (f z)]) = H6 at sT eT s6 hD6 da6
      refine ⟨T, _, rfl, sqT eT, rfl, _, _, rfl, _, _, rfl, rfl, rfl, tYes_if ?_⟩
      refine ⟨_, rfl, TF.firmA, _, rfl, .inr (.inr TF.firmT), rfl, flat_strs _, _, rfl, ?_⟩
      have e0 : (if false = true then !inV (.str (f z)) ((["on", "off"] : List Str).map V.str) else inV (.str (f z)) ((["on", "off"] : List Str).map V.str)) = firm (f z) := by
        rw [if_neg Bool.false_ne_true, inV_strs]; rfl
      rw [e0]
      have las : as.length ≤ 91 := by rw [da.len, List.length_map, List.length_take]; omega
      have fin : ∀ y : Str, y = leastW (f z) → (fun (v : V) (H7 : Hp) => v = .str y ∧ H7 = H6) (.str y) H6 := fun y _ => ⟨rfl, rfl⟩
      have go : ∀ y : Str, y = leastW (f z) → ([V.str y, V.str z].length ≤ sizeLine ∧ ∀ p, H6 p = none → ∃ acc, (upd H6 p (.tup [V.str y, V.str z])) D2 = some (.lst acc) ∧ acc.length < sizeLine ∧ (Same Hl (upd (upd H6 p (.tup [V.str y, V.str z])) D2 (.lst (acc ++ [.ref p]))) ∧ ∃ as : List Addr, (upd (upd H6 p (.tup [V.str y, V.str z])) D2 (.lst (acc ++ [.ref p]))) D2 = some (.lst (as.map V.ref)) ∧ DsAt (upd (upd H6 p (.tup [V.str y, V.str z])) D2 (.lst (acc ++ [.ref p]))) as (((entL rs f).take (i + 1)).map fun z => (leastW (f z), z)))) := by
        intro y hy
        refine ⟨(by show 2 ≤ sizeLine; decide), fun p hp => ?_⟩
        have nDp : D2 ≠ p := ne_of_none hD6 hp
        refine ⟨as.map V.ref, by rw [upd_ne nDp]; exact hD6, small1000 (by rw [List.length_map]; omega), fun b o eb => ?_, as ++ [p], by rw [upd_same, List.map_append]; rfl, ?_⟩
        · rw [upd_ne (fun y => by rw [y, hD2] at eb; cases eb), upd_ne (ne_of_none (s6 _ _ eb) hp)]
          exact s6 _ _ eb
        · rw [take_more hz, List.map_append]
          have kp : ∀ {b : Addr} {xs : List V}, H6 b = some (.tup xs) → (upd (upd H6 p (.tup [V.str y, V.str z])) D2 (.lst (as.map V.ref ++ [V.ref p]))) b = some (.tup xs) := fun {b xs} e => by
            rw [upd_ne (fun y => by rw [y, hD6] at e; cases e), upd_ne (ne_of_none e hp)]; exact e
          refine DsAt.snoc ⟨da6.len, fun i2 b d x y => kp (da6.at_ i2 b d x y)⟩ ?_
          rw [upd_ne nDp.symm, upd_same, hy]
          rfl
      refine ite2 (fun hc => ?_) (fun hc => ?_)
      · exact ⟨_, rfl, _, rfl, go _ (by unfold leastW; rw [if_pos hc])⟩
      · exact ⟨_, rfl, go _ (by unfold leastW; rw [if_neg hc])⟩
    rintro H5 ⟨s5, as, hD5, da⟩
    have el : (kvS f (entL rs f)).length = (entL rs f).length := by unfold kvS; rw [kvX_len]
    rw [el, List.take_length] at da
    refine ⟨s5 _ _ lk, ?_⟩
    rw [El] at s5
    have sB := lock_back een s5
    have eB : (upd H5 en (.dK (kvS f (entL rs f)))) D2 = some (.lst (as.map V.ref)) := by rw [upd_ne nDe]; exact hD5
    have dB : DsAt (upd H5 en (.dK (kvS f (entL rs f)))) as (leastD rs f) := ⟨da.len, fun i2 b d x y => by
      have e3 := da.at_ i2 b d x y
      rw [upd_ne (fun q => by rw [q, s5 _ _ (by rw [← El]; exact lk)] at e3; cases e3)]
      exact e3⟩
    generalize upd H5 en (.dK (kvS f (entL rs f))) = H6 at sB eB dB
    have s06 := s1.trans sB
    have ll := least_len (rs := rs) (f := f)
    exact fun r dr nr ndr _ => ⟨r, dr, t, D2, rs, as, leastD rs f, rfl, upd_same, (ht.same s06).same (mk_same0 nr ndr), hun, .inr (mk_same0 (C := CR) nr ndr _ _ eB), (dB.same (mk_same0 nr ndr)).seq, least_words f4, by omega, fun H7 sb7 hr7 => ⟨rfl, hq r H7 (s06.free nr) (s06.trans (mk_same nr ndr sb7)) hr7⟩⟩
theorem sc_R_least : FnScope ["self"] ["self"] (defScope s_Row_least) := ⟨rfl, rfl, rfl, by decide +kernel, rfl, by decide +kernel, by decide +kernel⟩
theorem ok_R_least {f : Addr} {fd : FuncData} (F : Fun K "least" "Row.least" s_Row_least f fd) (R : TxR K mg CR) (Dr : DefAt K mg "row_of" s_row_of ["tree", "effects"]) (Gr : FnOk P w K mg base CX0 9 Dr.f Dr.fd ["tree", "effects"] (spRowOf C CR)) : FnOk P w K mg base CX0 10 f fd ["self"] (spRLeast C CR) := by
  refine F.ok sc_R_least (fun vs H Q E h => ?_) (fun cdv A outer s H vs Q E hr h => ?_)
  · obtain ⟨r, t, rs, ds, rfl, _⟩ := h
    rfl
  · obtain ⟨r, t, rs, ds, rfl, hR, hl, hq⟩ := h
    obtain ⟨dx, q, e, as, h1, h2, h3, h4⟩ := id hR.ex
    refine ⟨_, pss_one (ps_ret (pe_call Gr hr rfl Dr.g Dr.F.kp Dr.b .nil pass0 (pa_cons (pe_fld (pv 0) rfl) (pa_cons (pe_fld (pv 0) rfl) pa_nil)))), ?_⟩
    exact ⟨_, rfl, r, CR, dx, _, _, rfl, h1, R.cl, R.nt, rf_t _ _ _, _, rfl, r, CR, dx, _, _, rfl, h1, R.cl, R.ne, rf_e _ _ _, t, e, rs, eff rs ds, rfl, hR.tree, hR.un, h4, fun z => eff_mem hR.vd.words z, hl, fun r2 H' hn s' hr2 => hq r2 H' hn s' hr2⟩
end
end Ts

set_option maxRecDepth 100000
set_option maxHeartbeats 4000000
namespace Ts
open PySem L2
/-! ### each deed adds at most one entry -/
theorem filter_le {α : Type} {P Q : α → Bool} : ∀ {l : List α}, (∀ z ∈ l, P z = true → Q z = true) → (l.filter P).length ≤ (l.filter Q).length
  | [], _ => Nat.le_refl _
  | x :: l, h => by
    have ih := filter_le (l := l) fun z hz => h z (List.mem_cons_of_mem _ hz)
    rw [List.filter_cons, List.filter_cons]
    cases hp : P x
    · rw [if_neg Bool.false_ne_true]
      split
      · rw [List.length_cons]; omega
      · exact ih
    · rw [if_pos rfl, if_pos (h x (List.mem_cons_self ..) hp), List.length_cons, List.length_cons]
      omega
theorem filter_le1 {α : Type} [DecidableEq α] {P Q : α → Bool} {a : α} : ∀ {l : List α}, l.Nodup → (∀ z ∈ l, z ≠ a → P z = true → Q z = true) → (l.filter P).length ≤ (l.filter Q).length + 1
  | [], _, _ => Nat.zero_le _
  | x :: l, nd, h => by
    have nd' := List.nodup_cons.mp nd
    by_cases e : x = a
    · have ih := filter_le (P := P) (Q := Q) (l := l) fun z hz hp => h z (List.mem_cons_of_mem _ hz) (fun q => nd'.1 (e ▸ q ▸ hz)) hp
      rw [List.filter_cons, List.filter_cons]
      split <;> split <;> (try simp only [List.length_cons]) <;> omega
    · have ih := filter_le1 (P := P) (Q := Q) (a := a) nd'.2 fun z hz => h z (List.mem_cons_of_mem _ hz)
      rw [List.filter_cons, List.filter_cons]
      cases hp : P x
      · rw [if_neg Bool.false_ne_true]
        split
        · rw [List.length_cons]; omega
        · exact ih
      · rw [if_pos rfl, if_pos (h x (List.mem_cons_self ..) e hp), List.length_cons, List.length_cons]
        omega
theorem ent_step {rs : List Row} (hv : Valid rs) (d : De) (e : Str → Str) : (entL rs (stepE rs d e)).length ≤ (entL rs e).length + 1 := by
  unfold entL
  refine filter_le1 (a := d.2) (plc_nd hv) fun z hz ne h => ?_
  rw [decide_eq_true_eq] at h ⊢
  intro q
  apply h
  rcases mem_plc.mp hz with rfl | hz'
  · rw [arF_top] at q ⊢
    have w0 : within rs d.2 "top" = false := by
      rcases hw : within rs d.2 "top" with _ | _
      · rfl
      · rcases (within_law hv hz).mp hw with e1 | e1 | e1
        · exact absurd e1 ne
        · exact absurd e1.symm ne
        · exact absurd rfl e1.1
    unfold stepE
    rw [w0, if_neg Bool.false_ne_true]
    exact q
  · obtain ⟨r, hr, rfl⟩ := List.mem_map.mp hz'
    obtain ⟨i, hi, er⟩ := List.mem_iff_getElem.mp hr
    have ro : rowOf rs r.nm = some r := rowOf_at hv (by rw [← er]; exact List.getElem?_eq_getElem hi)
    have nt : r.nm ≠ ("top" : Str) := fun y => by
      have := top_not hv
      rw [y] at hz'
      exact this hz'
    rw [arF_row nt ro] at q ⊢
    unfold stepE
    rw [within_up hv hr ne, q]
theorem ent_fold {rs : List Row} (hv : Valid rs) : ∀ (ds : List De) (e : Str → Str), (entL rs (foldE rs ds e)).length ≤ (entL rs e).length + ds.length
  | [], _ => Nat.le_refl _
  | d :: ds, e => by
    have h1 := ent_fold hv ds (stepE rs d e)
    have h2 := ent_step hv d e
    show (entL rs (foldE rs ds (stepE rs d e))).length ≤ _
    rw [List.length_cons]
    omega
/-- a row has at least as many deeds as its maps have entries -/
theorem ent_le {rs : List Row} (hv : Valid rs) (ds : List De) : (entL rs (eff rs ds)).length ≤ ds.length := by
  have h := ent_fold hv ds fun _ => "keep"
  have h0 : (entL rs fun _ => ("keep" : Str)) = [] := by
    unfold entL
    rw [List.filter_eq_nil_iff]
    intro z hz
    rw [decide_eq_true_eq]
    refine fun hne => hne ?_
    rcases mem_plc.mp hz with rfl | hz'
    · rw [arF_top]
    · obtain ⟨r, hr, rfl⟩ := List.mem_map.mp hz'
      obtain ⟨i, hi, er⟩ := List.mem_iff_getElem.mp hr
      have ro : rowOf rs r.nm = some r := rowOf_at hv (by rw [← er]; exact List.getElem?_eq_getElem hi)
      have nt : r.nm ≠ ("top" : Str) := fun y => by
        have := top_not hv
        rw [y] at hz'
        exact this hz'
      rw [arF_row nt ro]
  rw [h0] at h
  rw [eff_fold]
  simpa using h
end Ts

set_option maxRecDepth 100000
set_option maxHeartbeats 4000000
namespace Ts
open PySem L2
/-! ### the least number of entries -/
def un (a b : Str) : Nat := if a = b then 0 else 1
def addAt (A : Str → Nat) (z : Str) (n : Nat) : Str → Nat := fun y => if y = z then A y + n else A y
/-- the least number of entries below a place, counted from rows on: where it is loose, where it is firm -/
def pot (l h : Str → Str) : List Row → (Str → Nat) × (Str → Nat)
  | [] => (fun _ => 0, fun _ => 0)
  | r :: S => (addAt (pot l h S).1 r.fo (min ((pot l h S).1 r.nm + un (l r.nm) (l r.fo)) ((pot l h S).2 r.nm + 1)), addAt (pot l h S).2 r.fo ((pot l h S).2 r.nm + un (h r.nm) (h r.fo)))
def costR (g : Str → Str) (S : List Row) : Nat := (S.map fun r => un (g r.nm) (g r.fo)).sum
def valP (l h : Str → Str) (S : List Row) (g : Str → Str) (z : Str) : Nat := if firm (g z) = true then (pot l h S).2 z else (pot l h S).1 z
def sumP (l h : Str → Str) (S : List Row) (g : Str → Str) (Pre : List Str) : Nat := (Pre.map (valP l h S g)).sum
/-- soft and hard words -/
structure LH (l h : Str → Str) : Prop where
  soft : ∀ z, firm (l z) = false
  hard : ∀ z, firm (h z) = true
/-- a map of the told form at a row -/
structure OkR (l h g : Str → Str) (r : Row) : Prop where
  low : firm (g r.fo) = true → g r.nm = h r.nm
  two : g r.nm = l r.nm ∨ g r.nm = h r.nm
structure Suf (Pre : List Str) (S : List Row) : Prop where
  fo : ∀ i r, S[i]? = some r → r.fo ∈ Pre ∨ r.fo ∈ names (S.take i)
  nd : (Pre ++ names S).Nodup
theorem Suf.next {Pre : List Str} {r : Row} {S : List Row} (h : Suf Pre (r :: S)) : Suf (Pre ++ [r.nm]) S := by
  refine ⟨fun i q hq => ?_, ?_⟩
  · have := h.fo (i + 1) q (by simpa using hq)
    rcases this with e | e
    · exact .inl (List.mem_append_left _ e)
    · rw [List.take_succ_cons] at e
      rcases List.mem_cons.mp e with e | e
      · exact .inl (List.mem_append_right _ (List.mem_singleton.mpr e))
      · exact .inr e
  · have := h.nd
    rw [List.append_assoc]
    exact this
theorem Suf.head {Pre : List Str} {r : Row} {S : List Row} (h : Suf Pre (r :: S)) : r.fo ∈ Pre := by
  rcases h.fo 0 r rfl with e | e
  · exact e
  · cases e
theorem sum_addAt {v w : Str → Nat} {a : Str} {n : Nat} : ∀ {Pre : List Str}, Pre.Nodup → a ∈ Pre → (∀ z ∈ Pre, z ≠ a → w z = v z) → w a = v a + n → (Pre.map w).sum = (Pre.map v).sum + n
  | [], _, h, _, _ => by cases h
  | x :: Pre, nd, ha, h, hw => by
    have nd' := List.nodup_cons.mp nd
    rw [List.map_cons, List.map_cons, List.sum_cons, List.sum_cons]
    by_cases e : x = a
    · have e2 : Pre.map w = Pre.map v := List.map_congr_left fun z hz => h z (List.mem_cons_of_mem _ hz) fun q => nd'.1 (e ▸ q ▸ hz)
      rw [e2, e, hw]; omega
    · have ih := sum_addAt (v := v) (w := w) (n := n) nd'.2 (by
        rcases List.mem_cons.mp ha with q | q
        · exact absurd q.symm e
        · exact q) (fun z hz => h z (List.mem_cons_of_mem _ hz)) hw
      rw [ih, h x (List.mem_cons_self ..) e]; omega
/-- what the first row adds -/
def addR (l h : Str → Str) (S : List Row) (g : Str → Str) (r : Row) : Nat := if firm (g r.fo) = true then (pot l h S).2 r.nm + un (h r.nm) (h r.fo) else min ((pot l h S).1 r.nm + un (l r.nm) (l r.fo)) ((pot l h S).2 r.nm + 1)
theorem sumP_cons {l h g : Str → Str} {r : Row} {S : List Row} {Pre : List Str} (nd : Pre.Nodup) (hfo : r.fo ∈ Pre) : sumP l h (r :: S) g Pre = sumP l h S g Pre + addR l h S g r := by
  refine sum_addAt nd hfo (fun z _ hz => ?_) ?_
  · unfold valP
    show (if firm (g z) = true then addAt _ r.fo _ z else addAt _ r.fo _ z) = _
    unfold addAt
    rw [if_neg hz, if_neg hz]
  · unfold valP addR
    show (if firm (g r.fo) = true then addAt _ r.fo _ r.fo else addAt _ r.fo _ r.fo) = _
    unfold addAt
    rw [if_pos rfl, if_pos rfl]
    split <;> rfl
theorem un_firm {a b : Str} (ha : firm a = true) (hb : firm b = false) : un a b = 1 := by
  unfold un
  rw [if_neg fun e => by rw [e, hb] at ha; cases ha]
theorem sumP_nil {l h g : Str → Str} : ∀ Pre : List Str, sumP l h [] g Pre = 0
  | [] => rfl
  | z :: Pre => by
    have ih := sumP_nil (l := l) (h := h) (g := g) Pre
    unfold sumP at ih ⊢
    rw [List.map_cons, List.sum_cons, ih]
    have e : valP l h [] g z = 0 := by
      unfold valP
      show (if firm (g z) = true then 0 else 0) = 0
      split <;> rfl
    rw [e]
/-- no map of the told form has fewer -/
theorem low_bound {l h g : Str → Str} (lh : LH l h) : ∀ (S : List Row) (Pre : List Str), Suf Pre S → (∀ z ∈ Pre, g z = l z ∨ g z = h z) → (∀ r ∈ S, OkR l h g r) → sumP l h S g Pre ≤ costR g S
  | [], Pre, _, _, _ => by
    rw [sumP_nil]
    exact Nat.zero_le _
  | r :: S, Pre, suf, hz, hok => by
    have hr := hok r (List.mem_cons_self ..)
    have ih := low_bound (g := g) lh S (Pre ++ [r.nm]) suf.next (fun z hz' => by
      rcases List.mem_append.mp hz' with e | e
      · exact hz z e
      · rw [List.mem_singleton.mp e]; exact hr.two) fun q hq => hok q (List.mem_cons_of_mem _ hq)
    have nd : Pre.Nodup := (List.nodup_append.mp suf.nd).1
    rw [sumP_cons nd suf.head]
    have e1 : sumP l h S g (Pre ++ [r.nm]) = sumP l h S g Pre + valP l h S g r.nm := by
      unfold sumP
      rw [List.map_append, List.sum_append]
      simp
    rw [e1] at ih
    have e2 : costR g (r :: S) = un (g r.nm) (g r.fo) + costR g S := by
      unfold costR
      rw [List.map_cons, List.sum_cons]
    rw [e2]
    have key : addR l h S g r ≤ un (g r.nm) (g r.fo) + valP l h S g r.nm := by
      unfold addR valP
      rcases hf : firm (g r.fo) with _ | _
      · have gf : g r.fo = l r.fo := by
          rcases hz _ suf.head with e | e
          · exact e
          · rw [e, lh.hard] at hf; cases hf
        rw [if_neg Bool.false_ne_true]
        rcases hr.two with e | e
        · rw [e, gf, lh.soft, if_neg Bool.false_ne_true]
          omega
        · rw [e, lh.hard, if_pos rfl, un_firm (lh.hard _) hf]
          omega
      · have gf : g r.fo = h r.fo := by
          rcases hz _ suf.head with e | e
          · rw [e, lh.soft] at hf; cases hf
          · exact e
        rw [if_pos rfl, hr.low hf, gf, lh.hard, if_pos rfl]
        omega
    omega
/-- the code's choice at a row, and for all rows -/
def gstep (l h : Str → Str) (S : List Row) (e : Str → Str) (r : Row) : Str → Str := fun z => if z = r.nm then (if firm (e r.fo) = true ∨ (pot l h S).2 r.nm + 1 < (pot l h S).1 r.nm + un (l r.nm) (e r.fo) then h r.nm else l r.nm) else e z
def greedy (l h : Str → Str) : List Row → (Str → Str) → (Str → Str)
  | [], e => e
  | r :: S, e => greedy l h S (gstep l h S e r)
theorem gstep_ne {l h : Str → Str} {S : List Row} {e : Str → Str} {r : Row} {z : Str} (hz : z ≠ r.nm) : gstep l h S e r z = e z := by
  unfold gstep; rw [if_neg hz]
theorem gstep_at {l h : Str → Str} {S : List Row} {e : Str → Str} {r : Row} : gstep l h S e r r.nm = (if firm (e r.fo) = true ∨ (pot l h S).2 r.nm + 1 < (pot l h S).1 r.nm + un (l r.nm) (e r.fo) then h r.nm else l r.nm) := by
  unfold gstep; rw [if_pos rfl]
theorem greedy_out {l h : Str → Str} : ∀ (S : List Row) (e : Str → Str) {z : Str}, z ∉ names S → greedy l h S e z = e z
  | [], _, _, _ => rfl
  | r :: S, e, z, hz => by
    show greedy l h S (gstep l h S e r) z = e z
    rw [greedy_out S _ fun q => hz (List.mem_cons_of_mem _ q)]
    exact gstep_ne fun q => hz (by rw [q]; exact List.mem_cons_self ..)
theorem Suf.sep {Pre : List Str} {r : Row} {S : List Row} (h : Suf Pre (r :: S)) : r.nm ∉ Pre ∧ r.nm ∉ names S ∧ Pre.Nodup ∧ (∀ z ∈ Pre, z ∉ names S) := by
  have hn := List.nodup_append.mp h.nd
  refine ⟨fun q => hn.2.2 _ q _ (List.mem_cons_self ..) rfl, (List.nodup_cons.mp hn.2.1).1, hn.1, fun z hz q => hn.2.2 _ hz _ (List.mem_cons_of_mem _ q) rfl⟩
theorem sumP_congr {l h g g' : Str → Str} {S : List Row} : ∀ {Pre : List Str}, (∀ z ∈ Pre, g z = g' z) → sumP l h S g Pre = sumP l h S g' Pre := fun {Pre} hg => by
  unfold sumP
  congr 1
  exact List.map_congr_left fun z hz => by unfold valP; rw [hg z hz]
theorem sumP_snoc {l h g : Str → Str} {S : List Row} {Pre : List Str} {z : Str} : sumP l h S g (Pre ++ [z]) = sumP l h S g Pre + valP l h S g z := by
  unfold sumP
  rw [List.map_append, List.sum_append]
  simp
theorem costR_cons {g : Str → Str} {r : Row} {S : List Row} : costR g (r :: S) = un (g r.nm) (g r.fo) + costR g S := by
  unfold costR
  rw [List.map_cons, List.sum_cons]
theorem gkey {l h e : Str → Str} {S : List Row} {r : Row} (lh : LH l h) (hz : e r.fo = l r.fo ∨ e r.fo = h r.fo) : un (gstep l h S e r r.nm) (e r.fo) + valP l h S (gstep l h S e r) r.nm = addR l h S e r := by
    unfold addR valP
    rw [gstep_at]
    rcases hf : firm (e r.fo) with _ | _
    · have gf : e r.fo = l r.fo := by
        rcases hz with q | q
        · exact q
        · rw [q, lh.hard] at hf; cases hf
      rw [if_neg Bool.false_ne_true]
      by_cases c : (pot l h S).2 r.nm + 1 < (pot l h S).1 r.nm + un (l r.nm) (e r.fo)
      · rw [if_pos (.inr c), lh.hard, if_pos rfl, un_firm (lh.hard _) hf]
        rw [gf] at c
        omega
      · rw [if_neg (fun q => q.elim (fun q => by cases q) c), lh.soft, if_neg Bool.false_ne_true]
        rw [gf] at c ⊢
        omega
    · have gf : e r.fo = h r.fo := by
        rcases hz with q | q
        · rw [q, lh.soft] at hf; cases hf
        · exact q
      rw [if_pos rfl, if_pos (.inl rfl), lh.hard, if_pos rfl, gf]
      omega
/-- the code's choice has as few as told -/
theorem greedy_cost {l h : Str → Str} (lh : LH l h) : ∀ (S : List Row) (Pre : List Str) (e : Str → Str), Suf Pre S → (∀ z ∈ Pre, e z = l z ∨ e z = h z) → costR (greedy l h S e) S = sumP l h S e Pre
  | [], Pre, _, _, _ => by rw [sumP_nil]; rfl
  | r :: S, Pre, e, suf, hz => by
    obtain ⟨n1, n2, nd, n3⟩ := suf.sep
    have hfo := suf.head
    have nfr : r.fo ≠ r.nm := fun q => n1 (q ▸ hfo)
    have two : gstep l h S e r r.nm = l r.nm ∨ gstep l h S e r r.nm = h r.nm := by
      rw [gstep_at]
      split
      · exact .inr rfl
      · exact .inl rfl
    have keep : ∀ z ∈ Pre, gstep l h S e r z = e z := fun z hz' => gstep_ne fun q => n1 (q ▸ hz')
    have ih := greedy_cost lh S (Pre ++ [r.nm]) (gstep l h S e r) suf.next fun z hz' => by
      rcases List.mem_append.mp hz' with q | q
      · rw [keep z q]; exact hz z q
      · rw [List.mem_singleton.mp q]; exact two
    show costR (greedy l h S (gstep l h S e r)) (r :: S) = _
    rw [costR_cons, ih, sumP_snoc, sumP_congr keep, sumP_cons nd hfo, greedy_out S _ n2, greedy_out S _ (n3 _ hfo), gstep_ne nfr]
    have key := gkey (S := S) lh (hz _ hfo)
    omega
theorem gtwo {l h e : Str → Str} {S : List Row} {r : Row} : gstep l h S e r r.nm = l r.nm ∨ gstep l h S e r r.nm = h r.nm := by
  rw [gstep_at]
  split
  · exact .inr rfl
  · exact .inl rfl
theorem greedy_two {l h : Str → Str} : ∀ (S : List Row) (Pre : List Str) (e : Str → Str), Suf Pre S → (∀ z ∈ Pre, e z = l z ∨ e z = h z) → ∀ z, z ∈ Pre ∨ z ∈ names S → greedy l h S e z = l z ∨ greedy l h S e z = h z
  | [], Pre, e, _, hz, z, hm => hm.elim (hz z) (fun q => by cases q)
  | r :: S, Pre, e, suf, hz, z, hm => by
    obtain ⟨n1, n2, nd, n3⟩ := suf.sep
    refine greedy_two S (Pre ++ [r.nm]) (gstep l h S e r) suf.next (fun y hy => ?_) z ?_
    · rcases List.mem_append.mp hy with q | q
      · rw [gstep_ne fun w => n1 (w ▸ q)]; exact hz y q
      · rw [List.mem_singleton.mp q]; exact gtwo
    · rcases hm with q | q
      · exact .inl (List.mem_append_left _ q)
      · rcases List.mem_cons.mp q with q | q
        · exact .inl (List.mem_append_right _ (List.mem_singleton.mpr q))
        · exact .inr q
theorem greedy_ok {l h : Str → Str} : ∀ (S : List Row) (Pre : List Str) (e : Str → Str), Suf Pre S → (∀ z ∈ Pre, e z = l z ∨ e z = h z) → ∀ r ∈ S, OkR l h (greedy l h S e) r
  | [], _, _, _, _, r, hr => by cases hr
  | r :: S, Pre, e, suf, hz, q, hq => by
    obtain ⟨n1, n2, nd, n3⟩ := suf.sep
    have hfo := suf.head
    have nfr : r.fo ≠ r.nm := fun q => n1 (q ▸ hfo)
    have hz' : ∀ y ∈ Pre ++ [r.nm], gstep l h S e r y = l y ∨ gstep l h S e r y = h y := fun y hy => by
      rcases List.mem_append.mp hy with q | q
      · rw [gstep_ne fun w => n1 (w ▸ q)]; exact hz y q
      · rw [List.mem_singleton.mp q]; exact gtwo
    rcases List.mem_cons.mp hq with rfl | hq
    · show OkR l h (greedy l h S (gstep l h S e q)) q
      refine ⟨fun hf => ?_, ?_⟩
      · rw [greedy_out S _ (n3 _ hfo), gstep_ne nfr] at hf
        rw [greedy_out S _ n2, gstep_at, if_pos (.inl hf)]
      · rw [greedy_out S _ n2]; exact gtwo
    · exact greedy_ok S (Pre ++ [r.nm]) (gstep l h S e r) suf.next hz' q hq
/-- of all that have as few the code's choice comes first: where another first differs, it is hard and the code's soft -/
theorem greedy_first {l h g : Str → Str} (lh : LH l h) : ∀ (S : List Row) (Pre : List Str) (e : Str → Str), Suf Pre S → (∀ z ∈ Pre, e z = l z ∨ e z = h z) → (∀ z ∈ Pre, g z = e z) → (∀ r ∈ S, OkR l h g r) → costR g S ≤ sumP l h S e Pre →
    ∀ (i : Nat) (r : Row), S[i]? = some r → (∀ (j : Nat) (q : Row), j < i → S[j]? = some q → g q.nm = greedy l h S e q.nm) → g r.nm ≠ greedy l h S e r.nm → greedy l h S e r.nm = l r.nm ∧ g r.nm = h r.nm
  | [], _, _, _, _, _, _, _, i, r, hi, _, _ => by simp at hi
  | r :: S, Pre, e, suf, hz, hg, hok, hc, i, q, hi, hb, hd => by
    obtain ⟨n1, n2, nd, n3⟩ := suf.sep
    have hfo := suf.head
    have nfr : r.fo ≠ r.nm := fun q => n1 (q ▸ hfo)
    have hr := hok r (List.mem_cons_self ..)
    have keep : ∀ z ∈ Pre, gstep l h S e r z = e z := fun z hz' => gstep_ne fun q => n1 (q ▸ hz')
    have hz' : ∀ y ∈ Pre ++ [r.nm], gstep l h S e r y = l y ∨ gstep l h S e r y = h y := fun y hy => by
      rcases List.mem_append.mp hy with q | q
      · rw [keep y q]; exact hz y q
      · rw [List.mem_singleton.mp q]; exact gtwo
    have hgz : ∀ y ∈ Pre ++ [r.nm], g y = l y ∨ g y = h y := fun y hy => by
      rcases List.mem_append.mp hy with q | q
      · rw [hg y q]; exact hz y q
      · rw [List.mem_singleton.mp q]; exact hr.two
    have lb := low_bound (g := g) lh S (Pre ++ [r.nm]) suf.next hgz fun q hq => hok q (List.mem_cons_of_mem _ hq)
    rw [sumP_snoc, sumP_congr hg] at lb
    rw [costR_cons, sumP_cons nd hfo, hg _ hfo] at hc
    have eG : greedy l h (r :: S) e r.nm = gstep l h S e r r.nm := greedy_out S _ n2
    match i, hi with
    | 0, hi =>
      cases hi
      rw [eG] at hd ⊢
      rcases hr.two with g1 | g1
      · exfalso
        rw [gstep_at] at hd
        by_cases c : firm (e r.fo) = true ∨ (pot l h S).2 r.nm + 1 < (pot l h S).1 r.nm + un (l r.nm) (e r.fo)
        · rcases c with c | c
          · have := hr.low (by rw [hg _ hfo]; exact c)
            rw [if_pos (.inl c)] at hd
            exact hd this
          · have gf : firm (e r.fo) = false := by
              rcases hf : firm (e r.fo) with _ | _
              · rfl
              · have := hr.low (by rw [hg _ hfo]; exact hf)
                rw [if_pos (.inr c)] at hd
                exact absurd this hd
            have ef : e r.fo = l r.fo := by
              rcases hz _ hfo with q | q
              · exact q
              · rw [q, lh.hard] at gf; cases gf
            unfold valP at lb
            unfold addR at hc
            rw [g1, lh.soft, if_neg Bool.false_ne_true] at lb
            rw [g1, gf, if_neg Bool.false_ne_true] at hc
            rw [ef] at c hc
            omega
        · rw [if_neg c] at hd
          exact hd g1
      · refine ⟨?_, g1⟩
        rcases gtwo (l := l) (h := h) (S := S) (e := e) (r := r) with q | q
        · exact q
        · exact absurd (g1.trans q.symm) hd
    | i + 1, hi =>
      have e0 : g r.nm = gstep l h S e r r.nm := by
        rw [← eG]; exact hb 0 r (Nat.zero_lt_succ _) rfl
      have key := gkey (S := S) lh (hz _ hfo)
      refine greedy_first lh S (Pre ++ [r.nm]) (gstep l h S e r) suf.next hz' (fun z hz1 => ?_) (fun q hq => hok q (List.mem_cons_of_mem _ hq)) ?_ i q (by simpa using hi) (fun j p hj hp => hb (j + 1) p (Nat.succ_lt_succ hj) (by simpa using hp)) hd
      · rcases List.mem_append.mp hz1 with w | w
        · rw [keep z w]; exact hg z w
        · rw [List.mem_singleton.mp w]; exact e0
      · rw [sumP_snoc, sumP_congr keep]
        rw [e0] at hc
        omega
end Ts

set_option maxRecDepth 100000
set_option maxHeartbeats 4000000
namespace Ts
open PySem L2
def kvN (A : Str → Nat) (l : List Str) : List (Key × V) := kvX (fun z => .int (A z : Nat)) l
def spUnlike : Sp := fun vs H Q _ => ∃ a b : Str, vs = [.str a, .str b] ∧ Q (.int (un a b : Nat)) H
def spCounts (C : Addr) : Sp := fun vs H Q _ => ∃ (t a b : Addr) (rs : List Row) (l h : Str → Str), vs = [.ref t, .ref a, .ref b] ∧ TreeAt C H t rs ∧ rs.length ≤ 90 ∧ H a = some (.dK (kvS l (plc rs))) ∧ H b = some (.dK (kvS h (plc rs))) ∧
  ∀ T A B H', Same H H' → H A = none → H B = none → H' T = some (.tup [.ref A, .ref B]) → H' A = some (.dK (kvN (pot l h rs).1 (plc rs))) → H' B = some (.dK (kvN (pot l h rs).2 (plc rs))) → Q (.ref T) H'
theorem kvN_put {A : Str → Nat} {l : List Str} {z : Str} {m : Int} {n : Nat} (hz : z ∈ l) (hm : m = ((A z + n : Nat) : Int)) : putK (kvN A l) (.inr z) (.int m) = kvN (addAt A z n) l := by
  unfold kvN
  rw [kvX_put hz]
  congr 1
  funext x
  unfold addAt
  by_cases e : x = z
  · rw [if_pos e, if_pos e, e, hm]
  · rw [if_neg e, if_neg e]
theorem kvN_get {A : Str → Nat} {l : List Str} {z : Str} (hz : z ∈ l) {H : Hp} {d : Addr} (e : H d = some (.dK (kvN A l))) : DGet H d (.str z) (some (.int (A z : Nat))) := .inl ⟨_, .inr z, .inl e, rfl, (valV_kvX (fun z => V.int (A z : Nat)) hz).symm⟩
theorem drop_at {rs : List Row} {i : Nat} (hi : i < rs.length) : ∃ R, rs[rs.length - 1 - i]? = some R ∧ rs.drop (rs.length - (i + 1)) = R :: rs.drop (rs.length - i) := by
  refine ⟨rs[rs.length - 1 - i]'(by omega), List.getElem?_eq_getElem _, ?_⟩
  have e : rs.length - (i + 1) = rs.length - 1 - i := by omega
  have e2 : rs.length - i = rs.length - 1 - i + 1 := by omega
  rw [e, e2]
  exact List.drop_eq_getElem_cons _
section
variable {P : Program} {w : World} {K : PySem.W.Frag} {mg : Str → Option Value} {base : Heap} {C : Addr}
theorem sc_unlike : FnScope ["one", "other"] ["one", "other"] (defScope s_unlike) := ⟨rfl, rfl, rfl, by decide +kernel, rfl, by decide +kernel, by decide +kernel⟩
theorem ok_unlike (D : DefAt K mg "unlike" s_unlike ["one", "other"]) : FnOk P w K mg base CX0 2 D.f D.fd ["one", "other"] spUnlike := by
  refine D.F.ok sc_unlike (fun vs H Q E h => ?_) (fun cdv A outer s H vs Q E hr h => ?_)
  · obtain ⟨a, b, rfl, _⟩ := h
    rfl
  · obtain ⟨a, b, rfl, hq⟩ := h
    refine ⟨_, pss_one (ps_ret (pe_ifExp (pt_cmpR op_eq (pv 0) (pv 1) (nomark _)) pe_int pe_int)), ?_⟩
    refine ⟨_, rfl, _, rfl, rfl, _, rfl, ?_⟩
    refine ite2 (fun c => ?_) (fun c => ?_)
    · have e : a = b := V.str.inj (of_decide_eq_true c)
      have : un a b = 0 := by unfold un; rw [if_pos e]
      rw [this] at hq
      exact hq
    · have e : a ≠ b := fun e => c (decide_eq_true (congrArg V.str e))
      have : un a b = 1 := by unfold un; rw [if_neg e]
      rw [this] at hq
      exact hq
abbrev nCounts : List Str := ["tree", "loose", "firm", "if_loose", "if_firm", "box", "folder", "place"]
theorem sc_counts : FnScope nCounts ["tree", "loose", "firm"] (defScope s_entry_counts) := ⟨rfl, rfl, rfl, by decide +kernel, rfl, by decide +kernel, by decide +kernel⟩
theorem ok_counts (D : DefAt K mg "entry_counts" s_entry_counts ["tree", "loose", "firm"]) (hMin : mg "min" = none) (TC : TxC K mg) (T : TxT K mg C) (Du : DefAt K mg "unlike" s_unlike ["one", "other"])
    (mB : MethAt K C "below" "Tree.below" s_Tree_below ["self", "box"]) (GB : FnOk P w K mg base CX0 5 mB.f mB.fd ["self", "box"] (spListOf C belowL))
    (mF : MethAt K C "folder" "Tree.folder" s_Tree_folder ["self", "box"]) (GF : FnOk P w K mg base CX0 4 mF.f mF.fd ["self", "box"] (spGet C fun r => .str r.fo)) : FnOk P w K mg base CX0 6 D.f D.fd ["tree", "loose", "firm"] (spCounts C) := by
  have Gu : FnOk P w K mg base CX0 2 Du.f Du.fd ["one", "other"] spUnlike := ok_unlike Du
  obtain ⟨t1, gT⟩ := TC.top
  refine D.F.ok sc_counts (fun vs H Q E h => ?_) (fun cdv A outer s H vs Q E hr h => ?_)
  · obtain ⟨t, a, b, rs, l, h, rfl, _⟩ := h
    rfl
  · obtain ⟨t, a, b, rs, l, h, rfl, ht, hl, ha, hb, hq⟩ := h
    have hu := hu_of hr
    have h64 := hr.units
    have r4 : Room 4 _ := hr.mono (by decide)
    have r2 : Room 2 _ := hr.mono (by decide)
    have hu1 : (A.deeper (PyProof.Rows.envOfC ("entry_counts" : Str) (defScope s_entry_counts) s.heap.objs.size D.f cdv)).units + 1 < cLine := by omega
    refine ⟨_, pss_cons (ps_lock (ps_setDc (i := 3) (own := [("place", 7)]) (g := gName 7) (tt := tYes) (tk := tVar 7) (tv := tC (.int 0)) rfl sc_counts.nd rfl rfl (swd_true rfl rfl rfl (by decide +kernel)) (pi_keys (pv 1)) (blkOk_by (N := nCounts) (sc := defScope s_entry_counts) (by decide +kernel))
          (fun _ _ _ _ _ => pg_name (i := 7) sc_counts.nd rfl (Or.inl rfl)) (fun _ _ _ _ _ => pts_nil) (fun _ _ _ _ _ => pv 7) (fun _ _ _ _ _ => pe_int)))
      (pss_cons (ps_lock (ps_setDc (i := 4) (own := [("place", 7)]) (g := gName 7) (tt := tYes) (tk := tVar 7) (tv := tC (.int 0)) rfl sc_counts.nd rfl rfl (swd_true rfl rfl rfl (by decide +kernel)) (pi_keys (pv 2)) (blkOk_by (N := nCounts) (sc := defScope s_entry_counts) (by decide +kernel))
          (fun _ _ _ _ _ => pg_name (i := 7) sc_counts.nd rfl (Or.inl rfl)) (fun _ _ _ _ _ => pts_nil) (fun _ _ _ _ _ => pv 7) (fun _ _ _ _ _ => pe_int)))
      (pss_cons (ps_for PassesOwn.never rfl (pi_list (pe_revL (pe_meth (pv 0) T.cl mB.m GB hr mB.b .nil pass0 (pa_cons (pe_glob (by rfl) gT (v := .str ("top" : Str)) ⟨_, rfl⟩) pa_nil)))) (pg_name (i := 5) sc_counts.nd rfl (.inl rfl))
          (pss_cons (ps_set (i := 6) sc_counts.nd rfl (.inl rfl) (pe_meth (pv 0) T.cl mF.m GF r4 mF.b .nil pass0 (pa_cons (pv 5) pa_nil)))
          (pss_cons (ps_daug hu1 (pv 3) (pv 6) (pe_callB (call_min2 rfl) (by rfl) hMin (by decide +kernel) (pa_cons (pe_op op_add (pe_dget hu (pv 3) (pv 5) (fun _ _ => rfl)) (pe_call Gu r2 rfl Du.g Du.F.kp Du.b .nil pass0 (pa_cons (pe_dget hu (pv 1) (pv 5) (fun _ _ => rfl)) (pa_cons (pe_dget hu (pv 1) (pv 6) (fun _ _ => rfl)) pa_nil)))) (pa_cons (pe_op op_add (pe_dget hu (pv 4) (pv 5) (fun _ _ => rfl)) pe_int) pa_nil))) in_add (by intros; rfl))
          (pss_one (ps_daug hu1 (pv 4) (pv 6) (pe_op op_add (pe_dget hu (pv 4) (pv 5) (fun _ _ => rfl)) (pe_call Gu r2 rfl Du.g Du.F.kp Du.b .nil pass0 (pa_cons (pe_dget hu (pv 2) (pv 5) (fun _ _ => rfl)) (pa_cons (pe_dget hu (pv 2) (pv 6) (fun _ _ => rfl)) pa_nil)))) in_add (by intros; rfl))))))
      (pss_one (ps_ret (pe_tup (pa_cons (pv 3) (pa_cons (pv 4) pa_nil))))))), ?_⟩
    have hv := ht.val
    have nd := plc_nd hv
    have lpl : (plc rs).length ≤ 91 := by rw [plc_len']; omega
    obtain ⟨dx, q, f, k, p, qs, h1, _⟩ := id ht.ex
    have noB : (tf q f k p).lookup ("below" : Str) = none := tf_no _ _ _ _ (by decide +kernel) (by decide +kernel) (by decide +kernel) (by decide +kernel)
    have noF : (tf q f k p).lookup ("folder" : Str) = none := tf_no _ _ _ _ (by decide +kernel) (by decide +kernel) (by decide +kernel) (by decide +kernel)
    refine ⟨a, _, ha, trivial, fun od => ?_⟩
    have lkD1 : (upd H a (.frz od (.dK (kvS l (plc rs))))) a = some (.frz od (.dK (kvS l (plc rs)))) := upd_same
    obtain ⟨HlD1, ElD1⟩ : ∃ Hx, Hx = upd H a (.frz od (.dK (kvS l (plc rs)))) := ⟨_, rfl⟩
    rw [← ElD1]
    rw [← ElD1] at lkD1
    refine ⟨_, rfl, a, od, rfl, .inl ⟨_, lkD1, fun D1 hD1 => ?_⟩⟩
    have nD1 : D1 ≠ a := (ne_of_none lkD1 hD1).symm
    refine dc_it (walk_keys (d := a) (o := od) (kvs := kvS l (plc rs))) (fun i H' => Same HlD1 H' ∧ H' D1 = some (.dK (kvN (fun _ => 0) ((plc rs).take i)))) ⟨Same.new hD1, upd_same⟩ (fun i H' _ m => m.1 _ _ lkD1) ?_ ?_
    · rintro i x H5x H5 hi ⟨s5, hD5⟩ ⟨rfl, k', v', hk, rfl⟩
      obtain ⟨z, rfl, hz, rfl⟩ := kvS_at hk
      refine ⟨rfl, tYes_if ⟨_, rfl, _, .inr z, rfl, hD5, small1000 (by unfold kvN; rw [kvX_len, List.length_take]; omega), fun b o eb => ?_, ?_⟩⟩
      · rw [upd_ne (fun y => by rw [y, hD1] at eb; cases eb)]
        exact s5 _ _ eb
      · rw [upd_same]
        exact congrArg _ (congrArg _ (kvX_more nd (fun _ => V.int ((0 : Nat) : Int)) hz))
    rintro H5 ⟨s5, hD5⟩
    have el : (kvS l (plc rs)).length = (plc rs).length := by unfold kvS; rw [kvX_len]
    rw [el, List.take_length] at hD5
    refine ⟨s5 _ _ lkD1, ?_⟩
    rw [ElD1] at s5
    have sH6 := lock_back ha s5
    have eD1 : (upd H5 a (.dK (kvS l (plc rs)))) D1 = some (.dK (kvN (fun _ => 0) (plc rs))) := by rw [upd_ne nD1]; exact hD5
    generalize upd H5 a (.dK (kvS l (plc rs))) = H6 at sH6 eD1
    have hb6 := sH6 _ _ hb
    refine ⟨b, _, hb6, trivial, fun od => ?_⟩
    have lkD2 : (upd H6 b (.frz od (.dK (kvS h (plc rs))))) b = some (.frz od (.dK (kvS h (plc rs)))) := upd_same
    obtain ⟨HlD2, ElD2⟩ : ∃ Hx, Hx = upd H6 b (.frz od (.dK (kvS h (plc rs)))) := ⟨_, rfl⟩
    rw [← ElD2]
    rw [← ElD2] at lkD2
    refine ⟨_, rfl, b, od, rfl, .inl ⟨_, lkD2, fun D2 hD2 => ?_⟩⟩
    have nD2 : D2 ≠ b := (ne_of_none lkD2 hD2).symm
    refine dc_it (walk_keys (d := b) (o := od) (kvs := kvS h (plc rs))) (fun i H' => Same HlD2 H' ∧ H' D2 = some (.dK (kvN (fun _ => 0) ((plc rs).take i)))) ⟨Same.new hD2, upd_same⟩ (fun i H' _ m => m.1 _ _ lkD2) ?_ ?_
    · rintro i x H5x H5 hi ⟨s5, hD5⟩ ⟨rfl, k', v', hk, rfl⟩
      obtain ⟨z, rfl, hz, rfl⟩ := kvS_at hk
      refine ⟨rfl, tYes_if ⟨_, rfl, _, .inr z, rfl, hD5, small1000 (by unfold kvN; rw [kvX_len, List.length_take]; omega), fun b o eb => ?_, ?_⟩⟩
      · rw [upd_ne (fun y => by rw [y, hD2] at eb; cases eb)]
        exact s5 _ _ eb
      · rw [upd_same]
        exact congrArg _ (congrArg _ (kvX_more nd (fun _ => V.int ((0 : Nat) : Int)) hz))
    rintro H5 ⟨s5, hD5⟩
    have el : (kvS h (plc rs)).length = (plc rs).length := by unfold kvS; rw [kvX_len]
    rw [el, List.take_length] at hD5
    refine ⟨s5 _ _ lkD2, ?_⟩
    rw [ElD2] at s5
    have sH8 := lock_back hb6 s5
    have eD2 : (upd H5 b (.dK (kvS h (plc rs)))) D2 = some (.dK (kvN (fun _ => 0) (plc rs))) := by rw [upd_ne nD2]; exact hD5
    generalize upd H5 b (.dK (kvS h (plc rs))) = H8 at sH8 eD2
    have s08 := sH6.trans sH8
    have eD1' := sH8 _ _ eD1
    have fD1 : H D1 = none := by
      have := hD1
      rw [ElD1, upd_ne nD1] at this
      exact this
    have fD2 : H6 D2 = none := by
      have := hD2
      rw [ElD2, upd_ne nD2] at this
      exact this
    have n12 : D1 ≠ D2 := ne_of_none eD1 fD2
    have fD2' : H D2 = none := sH6.free fD2
    clear lkD1 lkD2 ElD1 ElD2 hD1 hD2 eD1
    have ht8 := ht.same s08
    have ha8 := s08 _ _ ha
    have hb8 := s08 _ _ hb
    -- backwards
    refine ⟨_, rfl, t, dx, _, rfl, s08 _ _ h1, noB, t, ("top" : Str), rs, rfl, ht8, .inl rfl, fun bl H9 hbl s9 e9 => ⟨bl, _, rfl, SqL.of e9, fun rl hrl => ⟨rl, rfl, ⟨_, SqL.of upd_same⟩, ?_⟩⟩⟩
    rw [below_top hv] at e9 ⊢
    have s10 : Same H8 (upd H9 rl (.lst ((names rs).map V.str).reverse)) := s9.trans (Same.new hrl)
    have e10 : (upd H9 rl (.lst ((names rs).map V.str).reverse)) rl = some (.lst ((names rs).map V.str).reverse) := upd_same
    generalize upd H9 rl (.lst ((names rs).map V.str).reverse) = H10 at s10 e10
    have nr1 : rl ≠ D1 := fun e => by rw [e, s10 _ _ eD1'] at e10; cases e10
    have nr2 : rl ≠ D2 := fun e => by rw [e, s10 _ _ eD2] at e10; cases e10
    have len : (((names rs).map V.str).reverse).length = rs.length := by unfold names; simp
    refine for_list (K := K) (a := rl) (xs := ((names rs).map V.str).reverse) (fun i σ H' => ∃ v5 v6 : Option V, σ = [some (.ref t), some (.ref a), some (.ref b), some (.ref D1), some (.ref D2), v5, v6, none] ∧ (∀ c o, c ≠ D1 → c ≠ D2 → H10 c = some o → H' c = some o) ∧ H' D1 = some (.dK (kvN (pot l h (rs.drop (rs.length - i))).1 (plc rs))) ∧ H' D2 = some (.dK (kvN (pot l h (rs.drop (rs.length - i))).2 (plc rs)))) ⟨_, _, rfl, fun c o _ _ e => e, by rw [Nat.sub_zero, List.drop_length]; exact s10 _ _ eD1', by rw [Nat.sub_zero, List.drop_length]; exact s10 _ _ eD2⟩ (fun i σ H' _ ⟨_, _, _, kp, _⟩ => SqL.of (kp _ _ nr1 nr2 e10)) ?_ ?_
    · rintro i x σ H11 hx ⟨v5, v6, rfl, kp, eA, eB⟩
      have hi : i < rs.length := by rw [← len]; exact (List.getElem?_eq_some_iff.mp hx).1
      obtain ⟨R, hR, hdr⟩ := drop_at hi
      have ex : x = .str R.nm := by
        rw [List.getElem?_reverse (by rw [← List.length_reverse, len]; exact hi)] at hx
        have e1 : ((names rs).map V.str).length - 1 - i = rs.length - 1 - i := by unfold names; rw [List.length_map, List.length_map]
        rw [e1, List.getElem?_map] at hx
        unfold names at hx
        rw [List.getElem?_map, hR] at hx
        exact (Option.some.inj hx).symm
      subst ex
      have hRm := List.mem_of_getElem? hR
      have ho : ∀ {c : Addr} {o : HO}, H c = some o → H11 c = some o := fun {c o} e => kp _ _ (ne_of_none e fD1) (ne_of_none e fD2') (s10 _ _ (s08 _ _ e))
      have ht11 : TreeAt C H11 t rs := ht.same fun c o e => ho e
      have hfo : R.fo ∈ plc rs := mem_plc.mpr (hv.foAll hRm)
      have hnm : R.nm ∈ plc rs := mem_plc.mpr (.inr (List.mem_map.mpr ⟨R, hRm, rfl⟩))
      refine ⟨_, rfl, t, dx, _, rfl, ho h1, noF, _, rfl, t, R.nm, rs, R, rfl, ht11, rowOf_at hv hR, ?_⟩
      have dgl : ∀ {H' : Hp} {z : Str}, H' a = some (.dK (kvS l (plc rs))) → z ∈ plc rs → DGet H' a (.str z) (some (.str (l z))) := fun {H' z} e hz => .inl ⟨_, .inr z, .inl e, rfl, (valV_kvX (fun z => V.str (l z)) hz).symm⟩
      have dgh : ∀ {H' : Hp} {z : Str}, H' b = some (.dK (kvS h (plc rs))) → z ∈ plc rs → DGet H' b (.str z) (some (.str (h z))) := fun {H' z} e hz => .inl ⟨_, .inr z, .inl e, rfl, (valV_kvX (fun z => V.str (h z)) hz).symm⟩
      refine ⟨_, rfl, _, rfl, D1, _, rfl, kvN_get hfo eA, _, rfl, _, rfl, D1, _, rfl, kvN_get hnm eA, _, rfl, _, rfl, a, _, rfl, dgl (ho ha) hnm, _, rfl, _, rfl, a, _, rfl, dgl (ho ha) hfo, l R.nm, l R.fo, rfl, _, _, rfl, rfl, _, rfl, _, rfl, D2, _, rfl, kvN_get hnm eB, _, _, rfl, rfl, _, _, rfl, _, _, rfl, rfl, _, .inl ⟨_, .inr R.fo, eA, rfl, ?_, rfl⟩, ?_⟩
      · unfold kvN; exact small1000 (by rw [kvX_len]; omega)
      rw [kvN_put (n := min ((pot l h (rs.drop (rs.length - i))).1 R.nm + un (l R.nm) (l R.fo)) ((pot l h (rs.drop (rs.length - i))).2 R.nm + 1)) hfo (by split <;> omega)]
      generalize hS : rs.drop (rs.length - i) = S at eA eB hdr
      obtain ⟨H12, E12⟩ : ∃ Hx, Hx = upd H11 D1 (.dK (kvN (addAt (pot l h S).1 R.fo (min ((pot l h S).1 R.nm + un (l R.nm) (l R.fo)) ((pot l h S).2 R.nm + 1))) (plc rs))) := ⟨_, rfl⟩
      rw [← E12]
      have eA12 : H12 D1 = some (.dK (kvN (pot l h (R :: S)).1 (plc rs))) := by rw [E12, upd_same]; rfl
      have eB12 : H12 D2 = some (.dK (kvN (pot l h S).2 (plc rs))) := by rw [E12, upd_ne n12.symm]; exact eB
      have kp12 : ∀ c o, c ≠ D1 → c ≠ D2 → H10 c = some o → H12 c = some o := fun c o h1 h2 e => by rw [E12, upd_ne h1]; exact kp c o h1 h2 e
      clear E12 eA eB kp ho ht11
      have ho : ∀ {c : Addr} {o : HO}, H c = some o → H12 c = some o := fun {c o} e => kp12 _ _ (ne_of_none e fD1) (ne_of_none e fD2') (s10 _ _ (s08 _ _ e))
      refine ⟨_, rfl, _, rfl, D2, _, rfl, kvN_get hfo eB12, _, rfl, _, rfl, D2, _, rfl, kvN_get hnm eB12, _, rfl, _, rfl, b, _, rfl, dgh (ho hb) hnm, _, rfl, _, rfl, b, _, rfl, dgh (ho hb) hfo, h R.nm, h R.fo, rfl, _, _, rfl, rfl, _, _, rfl, rfl, _, .inl ⟨_, .inr R.fo, eB12, rfl, ?_, rfl⟩, ?_⟩
      · unfold kvN; exact small1000 (by rw [kvX_len]; omega)
      rw [kvN_put (n := (pot l h S).2 R.nm + un (h R.nm) (h R.fo)) hfo (by omega)]
      refine ⟨_, _, rfl, fun c o h1 h2 e => ?_, ?_, ?_⟩
      · rw [upd_ne h2]; exact kp12 c o h1 h2 e
      · rw [hdr, upd_ne n12]; exact eA12
      · rw [hdr, upd_same]; rfl
    · rintro σ H11 ⟨v5, v6, rfl, kp, eA, eB⟩
      rw [len, Nat.sub_self, List.drop_zero] at eA eB
      refine ⟨_, rfl, _, rfl, (by show 2 ≤ sizeLine; decide), fun T hT => ?_⟩
      have nT1 : D1 ≠ T := ne_of_none eA hT
      have nT2 : D2 ≠ T := ne_of_none eB hT
      exact hq T D1 D2 _ (fun c o e => by
        rw [upd_ne (ne_of_none (kp _ _ (ne_of_none e fD1) (ne_of_none e fD2') (s10 _ _ (s08 _ _ e))) hT)]
        exact kp _ _ (ne_of_none e fD1) (ne_of_none e fD2') (s10 _ _ (s08 _ _ e))) fD1 fD2' upd_same (by rw [upd_ne nT1]; exact eA) (by rw [upd_ne nT2]; exact eB)
end
end Ts

set_option maxRecDepth 100000
set_option maxHeartbeats 4000000
namespace Ts
open PySem L2
theorem pot_ne {l h : Str → Str} {q : Row} {S : List Row} {z : Str} (hz : z ≠ q.fo) : (pot l h (q :: S)).1 z = (pot l h S).1 z ∧ (pot l h (q :: S)).2 z = (pot l h S).2 z := by
  refine ⟨?_, ?_⟩
  · show addAt _ q.fo _ z = _
    unfold addAt; rw [if_neg hz]
  · show addAt _ q.fo _ z = _
    unfold addAt; rw [if_neg hz]
theorem Suf.nm_out {Pre : List Str} {S : List Row} (h : Suf Pre S) {r : Row} (hr : r ∈ S) : r.nm ∉ Pre := fun q =>
  (List.nodup_append.mp h.nd).2.2 _ q _ (List.mem_map.mpr ⟨r, hr, rfl⟩) rfl
theorem pot_at {l h : Str → Str} : ∀ (S : List Row) (Pre : List Str), Suf Pre S → ∀ (i : Nat) (r : Row), S[i]? = some r → (pot l h S).1 r.nm = (pot l h (S.drop (i + 1))).1 r.nm ∧ (pot l h S).2 r.nm = (pot l h (S.drop (i + 1))).2 r.nm
  | [], _, _, i, r, hi => by simp at hi
  | q :: S, Pre, suf, i, r, hi => by
    have hn : r.nm ≠ q.fo := fun e => suf.nm_out (List.mem_of_getElem? hi) (e ▸ suf.head)
    have e := pot_ne (l := l) (h := h) (S := S) hn
    match i, hi with
    | 0, hi => cases hi; exact e
    | i + 1, hi =>
      have ih := pot_at (l := l) (h := h) S _ suf.next i r (by simpa using hi)
      rw [e.1, e.2, List.drop_succ_cons]
      exact ih
theorem greedy_at {l h : Str → Str} : ∀ (S : List Row) (Pre : List Str) (e : Str → Str), Suf Pre S → ∀ (i : Nat) (r : Row), S[i]? = some r →
    greedy l h S e r.nm = (if firm (greedy l h S e r.fo) = true ∨ (pot l h (S.drop (i + 1))).2 r.nm + 1 < (pot l h (S.drop (i + 1))).1 r.nm + un (l r.nm) (greedy l h S e r.fo) then h r.nm else l r.nm)
  | [], _, _, _, i, r, hi => by simp at hi
  | q :: S, Pre, e, suf, i, r, hi => by
    obtain ⟨n1, n2, nd, n3⟩ := suf.sep
    match i, hi with
    | 0, hi =>
      cases hi
      have nfr : q.fo ≠ q.nm := fun y => n1 (y ▸ suf.head)
      have a1 : greedy l h (q :: S) e q.nm = gstep l h S e q q.nm := greedy_out S _ n2
      have a2 : greedy l h (q :: S) e q.fo = e q.fo := (greedy_out S _ (n3 _ suf.head)).trans (gstep_ne nfr)
      rw [a1, a2, gstep_at]
      rfl
    | i + 1, hi =>
      have ih := greedy_at (l := l) (h := h) S _ (gstep l h S e q) suf.next i r (by simpa using hi)
      rw [List.drop_succ_cons]
      exact ih
/-- the top as a row of its own -/
def topR : Row := ⟨"top", "", "folder", none⟩
theorem suf_top {rs : List Row} (hv : Valid rs) : Suf [("" : Str)] (topR :: rs) := by
  have ne : ∀ r ∈ rs, r.nm ≠ ("" : Str) := fun r hr e => by
    obtain ⟨i, hi, er⟩ := List.mem_iff_getElem.mp hr
    have := (hv i r (by rw [← er]; exact List.getElem?_eq_getElem hi)).shape.pos.1
    have h1 : ("" : Str).length = 0 := by decide +kernel
    rw [e, h1] at this
    omega
  refine ⟨fun i r hi => ?_, ?_⟩
  · match i, hi with
    | 0, hi => cases hi; exact .inl (List.mem_singleton.mpr rfl)
    | i + 1, hi =>
      have hi : rs[i]? = some r := by simpa using hi
      refine .inr ?_
      rw [List.take_succ_cons]
      rcases hv.fo hi with e | e
      · rw [e]; exact List.mem_cons_self ..
      · exact List.mem_cons_of_mem _ e
  · show (("" : Str) :: ("top" : Str) :: names rs).Nodup
    refine List.nodup_cons.mpr ⟨fun q => ?_, plc_nd hv⟩
    rcases List.mem_cons.mp q with q | q
    · exact absurd q (by decide +kernel)
    · obtain ⟨r, hr, e⟩ := List.mem_map.mp q
      exact ne r hr e
def fewF (l h : Str → Str) (rs : List Row) : Str → Str := greedy l h (topR :: rs) fun _ => "keep"
theorem fewF_empty {l h : Str → Str} {rs : List Row} (hv : Valid rs) : fewF l h rs "" = "keep" := by
  have sf := suf_top hv
  exact greedy_out _ _ fun q => (List.nodup_append.mp sf.nd).2.2 _ (List.mem_singleton.mpr rfl) _ q rfl
theorem fewF_top {l h : Str → Str} {rs : List Row} (hv : Valid rs) : fewF l h rs "top" = (if (pot l h rs).2 "top" + 1 < (pot l h rs).1 "top" + un (l "top") "keep" then h "top" else l "top") := by
  have e := greedy_at (l := l) (h := h) (topR :: rs) _ (fun _ => "keep") (suf_top hv) 0 topR rfl
  have e0 : greedy l h (topR :: rs) (fun _ => "keep") topR.fo = "keep" := fewF_empty hv
  rw [e0] at e
  have nf : ¬ firm ("keep" : Str) = true := by decide +kernel
  by_cases c : (pot l h rs).2 "top" + 1 < (pot l h rs).1 "top" + un (l "top") "keep"
  · rw [if_pos c]
    exact e.trans (if_pos (.inr c))
  · rw [if_neg c]
    exact e.trans (if_neg fun q => q.elim nf c)
theorem fewF_row {l h : Str → Str} {rs : List Row} (hv : Valid rs) {i : Nat} {r : Row} (hi : rs[i]? = some r) : fewF l h rs r.nm = (if firm (fewF l h rs r.fo) = true ∨ (pot l h rs).2 r.nm + 1 < (pot l h rs).1 r.nm + un (l r.nm) (fewF l h rs r.fo) then h r.nm else l r.nm) := by
  have sf := suf_top hv
  have e := greedy_at (l := l) (h := h) (topR :: rs) _ (fun _ => "keep") sf (i + 1) r (by simpa using hi)
  have p := pot_at (l := l) (h := h) rs _ sf.next i r hi
  rw [List.drop_succ_cons, ← p.1, ← p.2] at e
  exact e
end Ts

set_option maxRecDepth 100000
set_option maxHeartbeats 4000000
namespace Ts
open PySem L2
def spFewE (C : Addr) : Sp := fun vs H Q _ => ∃ (t a b : Addr) (rs : List Row) (l h : Str → Str), vs = [.ref t, .ref a, .ref b] ∧ TreeAt C H t rs ∧ rs.length ≤ 90 ∧ a ≠ b ∧ H a = some (.dK (kvS l (plc rs))) ∧ H b = some (.dK (kvS h (plc rs))) ∧
  ∀ D H', H D = none → Same H H' → H' D = some (.dK (kvS (fewF l h rs) (plc rs))) → Q (.ref D) H'
def spAroundP (C : Addr) : Sp := fun vs H Q _ => ∃ (t e : Addr) (z : Str) (rs : List Row) (f : Str → Str), vs = [.ref t, .ref e, .str z] ∧ TreeAt C H t rs ∧ z ∈ plc rs ∧ (∀ r, rowOf rs z = some r → DGet H e (.str r.fo) (some (.str (f r.fo)))) ∧ Q (.str (arF rs f z)) H
theorem fewF_at {l h : Str → Str} {rs : List Row} (hv : Valid rs) {z : Str} (hz : z ∈ plc rs) : fewF l h rs z = (if firm (arF rs (fewF l h rs) z) = true ∨ (pot l h rs).2 z + 1 < (pot l h rs).1 z + un (l z) (arF rs (fewF l h rs) z) then h z else l z) := by
  rcases mem_plc.mp hz with rfl | hn
  · rw [fewF_top hv, arF_top]
    have nf : ¬ firm ("keep" : Str) = true := by decide +kernel
    by_cases c : (pot l h rs).2 "top" + 1 < (pot l h rs).1 "top" + un (l "top") "keep"
    · rw [if_pos c, if_pos (.inr c)]
    · rw [if_neg c, if_neg fun q => q.elim nf c]
  · obtain ⟨r, hr, rfl⟩ := List.mem_map.mp hn
    obtain ⟨i, hi, er⟩ := List.mem_iff_getElem.mp hr
    have e : rs[i]? = some r := by rw [← er]; exact List.getElem?_eq_getElem hi
    have nt : r.nm ≠ ("top" : Str) := fun y => by
      have := top_not hv
      rw [y] at hn
      exact this hn
    rw [arF_row nt (rowOf_at hv e)]
    exact fewF_row hv e
theorem fo_take {rs : List Row} (hv : Valid rs) {i : Nat} {z : Str} (hz : (plc rs)[i]? = some z) {r : Row} (hr : rowOf rs z = some r) : r.fo ∈ (plc rs).take i := by
  have hn : z ∈ names rs := by
    have hr' := hr
    unfold rowOf at hr'
    exact List.mem_map.mpr ⟨r, List.mem_of_find?_eq_some hr', by simpa using List.find?_some hr'⟩
  match i, hz with
  | 0, hz =>
    have e : z = ("top" : Str) := (Option.some.inj hz).symm
    exact absurd (e ▸ hn) (top_not hv)
  | i + 1, hz =>
    have hz : (names rs)[i]? = some z := by simpa [plc] using hz
    unfold names at hz
    rw [List.getElem?_map] at hz
    obtain ⟨q, hq, rfl⟩ := Option.map_eq_some_iff.mp hz
    have e := rowOf_at hv hq
    rw [e] at hr
    cases hr
    unfold plc
    rw [List.take_succ_cons]
    rcases hv.fo hq with e | e
    · rw [e]; exact List.mem_cons_self ..
    · refine List.mem_cons_of_mem _ ?_
      unfold names at e ⊢
      rw [← List.map_take]
      exact e
section
variable {P : Program} {w : World} {K : PySem.W.Frag} {mg : Str → Option Value} {base : Heap} {C : Addr}
theorem ok_aroundP (D : DefAt K mg "effect_around" s_effect_around nAround) (TC : TxC K mg) (TD : TxD K mg w) (T : TxT K mg C)
    (mF : MethAt K C "folder" "Tree.folder" s_Tree_folder ["self", "box"]) (GF : FnOk P w K mg base CX0 4 mF.f mF.fd ["self", "box"] (spGet C fun r => .str r.fo)) : FnOk P w K mg base CX0 5 D.f D.fd nAround (spAroundP C) := by
  obtain ⟨t1, gT⟩ := TC.top
  obtain ⟨t3, gK⟩ := TD.keep
  refine D.F.ok sc_around (fun vs H Q E h => ?_) (fun cdv A outer s H vs Q E hr h => ?_)
  · obtain ⟨t, e, z, rs, f, rfl, _⟩ := h
    rfl
  · obtain ⟨t, e, z, rs, f, rfl, ht, hz, hf, hq⟩ := h
    have hu := hu_of hr
    refine ⟨_, pss_one (ps_ret (pe_ifExp (pt_cmpR op_eq (pv 2) (pe_glob (by rfl) gT (v := .str ("top" : Str)) ⟨_, rfl⟩) (nomark _)) (pe_glob (by rfl) gK (v := .str ("keep" : Str)) ⟨_, rfl⟩)
      (pe_dget hu (pv 1) (pe_meth (pv 0) T.cl mF.m GF hr mF.b .nil pass0 (pa_cons (pv 2) pa_nil)) (fun _ _ => rfl)))), ?_⟩
    obtain ⟨dx, q, ff, k, p, qs, h1, _⟩ := id ht.ex
    have noF : (tf q ff k p).lookup ("folder" : Str) = none := tf_no _ _ _ _ (by decide +kernel) (by decide +kernel) (by decide +kernel) (by decide +kernel)
    refine ⟨_, rfl, rfl, _, rfl, ?_⟩
    refine ite2 (fun c => ?_) (fun c => ?_)
    · have e1 : z = ("top" : Str) := V.str.inj (of_decide_eq_true c)
      subst e1
      rw [arF_top] at hq
      exact hq
    · have e1 : z ≠ ("top" : Str) := fun e => c (decide_eq_true (congrArg V.str e))
      rcases mem_plc.mp hz with e | hn
      · exact absurd e e1
      obtain ⟨r, er, hr', rfl⟩ := rowOf_some hn
      rw [arF_row e1 er] at hq
      exact ⟨_, rfl, _, rfl, t, dx, _, rfl, h1, noF, _, rfl, t, r.nm, rs, r, rfl, ht, er, e, _, rfl, hf r er, hq⟩
abbrev nFew : List Str := ["tree", "loose", "firm", "if_loose", "if_firm", "effects", "place", "around"]
theorem sc_few : FnScope nFew ["tree", "loose", "firm"] (defScope s_fewest_effects) := ⟨rfl, rfl, rfl, by decide +kernel, rfl, by decide +kernel, by decide +kernel⟩
theorem ok_few (D : DefAt K mg "fewest_effects" s_fewest_effects ["tree", "loose", "firm"]) (TF : TxF K mg) (Dc : DefAt K mg "entry_counts" s_entry_counts ["tree", "loose", "firm"]) (Gc : FnOk P w K mg base CX0 6 Dc.f Dc.fd ["tree", "loose", "firm"] (spCounts C)) (Du : DefAt K mg "unlike" s_unlike ["one", "other"])
    (Da : DefAt K mg "effect_around" s_effect_around nAround) (Ga : FnOk P w K mg base CX0 5 Da.f Da.fd nAround (spAroundP C)) : FnOk P w K mg base CX0 7 D.f D.fd ["tree", "loose", "firm"] (spFewE C) := by
  have Gu : FnOk P w K mg base CX0 2 Du.f Du.fd ["one", "other"] spUnlike := ok_unlike Du
  refine D.F.ok sc_few (fun vs H Q E h => ?_) (fun cdv A outer s H vs Q E hr h => ?_)
  · obtain ⟨t, a, b, rs, l, h, rfl, _⟩ := h
    rfl
  · obtain ⟨t, a, b, rs, l, h, rfl, ht, hl, nab, ha, hb, hq⟩ := h
    have hu := hu_of hr
    have h64 := hr.units
    have hu1 : (A.deeper (PyProof.Rows.envOfC ("fewest_effects" : Str) (defScope s_fewest_effects) s.heap.objs.size D.f cdv)).units + 1 < cLine := by omega
    have r5 : Room 5 _ := hr.mono (by decide)
    have r2 : Room 2 _ := hr.mono (by decide)
    refine ⟨_, pss_cons (ps_asg (pe_call Gc hr rfl Dc.g Dc.F.kp Dc.b .nil pass0 (pa_cons (pv 0) (pa_cons (pv 1) (pa_cons (pv 2) pa_nil)))) (pg_tup rfl (pgs_cons (pg_name (i := 3) sc_few.nd rfl (.inl rfl)) (pgs_cons (pg_name (i := 4) sc_few.nd rfl (.inl rfl)) pgs_nil))))
      (pss_cons (ps_set (i := 5) sc_few.nd rfl (.inl rfl) pe_dnewK)
      (pss_cons (ps_lock (ps_for PassesOwn.never rfl (pi_keys (pv 1)) (pg_name (i := 6) sc_few.nd rfl (.inl rfl))
          (pss_cons (ps_set (i := 7) sc_few.nd rfl (.inl rfl) (pe_call Ga r5 rfl Da.g Da.F.kp Da.b .nil pass0 (pa_cons (pv 0) (pa_cons (pv 5) (pa_cons (pv 6) pa_nil)))))
          (pss_one (ps_if (PW.pt (pw_or (pt_cmpR op_in_seq (pv 7) (pe_glob (by rfl) TF.firm (v := .ref TF.firmA) rfl) (by rfl)) (pw_or1 (pt_cmpR op_lt (pe_op op_add (pe_dget hu (pv 4) (pv 6) (fun _ _ => rfl)) pe_int) (pe_op op_add (pe_dget hu (pv 3) (pv 6) (fun _ _ => rfl)) (pe_call Gu r2 rfl Du.g Du.F.kp Du.b .nil pass0 (pa_cons (pe_dget hu (pv 1) (pv 6) (fun _ _ => rfl)) (pa_cons (pv 7) pa_nil)))) (nomark _)))))
            (pss_one (ps_dput hu1 (pv 5) (pv 6) (pe_dget hu (pv 2) (pv 6) (fun _ _ => rfl)) (by rfl))) (pss_one (ps_dput hu1 (pv 5) (pv 6) (pe_dget hu (pv 1) (pv 6) (fun _ _ => rfl)) (by rfl))))))))
      (pss_one (ps_ret (pv 5))))), ?_⟩
    have hv := ht.val
    have nd := plc_nd hv
    have lpl : (plc rs).length ≤ 91 := by rw [plc_len']; omega
    refine ⟨_, rfl, _, rfl, _, rfl, t, a, b, rs, l, h, rfl, ht, hl, ha, hb, fun T A1 B1 H1 s1 fA fB eT eA eB => ?_⟩
    refine ⟨T, _, rfl, sqT eT, rfl, _, _, rfl, _, _, rfl, rfl, ?_⟩
    refine fun D1 hD1 => ?_
    have s2 : Same H1 (upd H1 D1 (.dK [])) := Same.new hD1
    have eD : (upd H1 D1 (.dK [])) D1 = some (.dK []) := upd_same
    generalize upd H1 D1 (.dK []) = H2 at s2 eD
    have s02 := s1.trans s2
    have fD1 := s1.free hD1
    have ha2 := s02 _ _ ha
    refine ⟨a, _, ha2, trivial, fun od => ?_⟩
    have lk : (upd H2 a (.frz od (.dK (kvS l (plc rs))))) a = some (.frz od (.dK (kvS l (plc rs)))) := upd_same
    have nDa : D1 ≠ a := (ne_of_none ha fD1).symm
    have kpl : ∀ c o, c ≠ a → H2 c = some o → (upd H2 a (.frz od (.dK (kvS l (plc rs))))) c = some o := fun c o h1 e => by rw [upd_ne h1]; exact e
    have eDl := kpl _ _ nDa eD
    obtain ⟨Hl, El⟩ : ∃ Hx, Hx = upd H2 a (.frz od (.dK (kvS l (plc rs)))) := ⟨_, rfl⟩
    rw [← El]
    rw [← El] at lk eDl
    have kpl' : ∀ c o, c ≠ a → H2 c = some o → Hl c = some o := fun c o h1 e => by rw [El]; exact kpl c o h1 e
    have htl : TreeAt C Hl t rs := by
      rw [El]
      exact (ht.same s02).lockD ha2 (by unfold kvS; rw [kvX_len, plc_len'])
    have nAa : A1 ≠ a := (ne_of_none ha fA).symm
    have nBa : B1 ≠ a := (ne_of_none ha fB).symm
    have eAl := kpl' _ _ nAa (s2 _ _ eA)
    have eBl := kpl' _ _ nBa (s2 _ _ eB)
    have hbl := kpl' _ _ nab.symm (s02 _ _ hb)
    have nAD : A1 ≠ D1 := ne_of_none eA hD1
    have nBD : B1 ≠ D1 := ne_of_none eB hD1
    have nbD : b ≠ D1 := ne_of_none hb fD1
    refine ⟨_, rfl, a, od, rfl, .inl ⟨_, lk, ?_⟩⟩
    refine for_it (walk_keys (d := a) (o := od) (kvs := kvS l (plc rs))) (fun i σ H' => ∃ v6 v7 : Option V, σ = [some (.ref t), some (.ref a), some (.ref b), some (.ref A1), some (.ref B1), some (.ref D1), v6, v7] ∧ SB D1 Hl H' ∧ H' D1 = some (.dK (kvS (fewF l h rs) ((plc rs).take i)))) ⟨_, _, rfl, SB.refl _ _, eDl⟩ (fun i σ H' _ ⟨_, _, _, sb, _⟩ => sb _ _ nDa.symm lk) ?_ ?_
    · rintro i x σ H5x H5 hi ⟨v6, v7, rfl, sb, eD5⟩ ⟨rfl, k', v', hk, rfl⟩
      obtain ⟨z, rfl, hz, rfl⟩ := kvS_at hk
      have hzm := List.mem_of_getElem? hz
      have ht5 : TreeAt C H5 t rs := by
        refine TreeAt.sb (ht.lockD (o := .frz od (.dK (kvS l (plc rs)))) ha (by unfold kvS; rw [kvX_len, plc_len'])) (w := D1) (fun o e => by rw [upd_ne nDa, fD1] at e; cases e) fun c o n e => sb c o n ?_
        by_cases q : c = a
        · rw [q, upd_same] at e
          rw [q, lk]; exact e
        · rw [upd_ne q] at e
          exact kpl' c o q (s02 _ _ e)
      have eA5 := sb _ _ nAD eAl
      have eB5 := sb _ _ nBD eBl
      have hb5 := sb _ _ nbD hbl
      have ha5 := sb _ _ nDa.symm lk
      have dga : DGet H5 a (.str z) (some (.str (l z))) := .inl ⟨_, .inr z, .inr ⟨od, ha5⟩, rfl, (valV_kvX (fun z => V.str (l z)) hzm).symm⟩
      have dgb : DGet H5 b (.str z) (some (.str (h z))) := .inl ⟨_, .inr z, .inl hb5, rfl, (valV_kvX (fun z => V.str (h z)) hzm).symm⟩
      refine ⟨_, rfl, _, rfl, _, rfl, t, D1, z, rs, fewF l h rs, rfl, ht5, hzm, fun r hr => .inl ⟨_, .inr r.fo, .inl eD5, rfl, (valV_kvX (fun z => V.str (fewF l h rs z)) (fo_take hv hz hr)).symm⟩, ?_⟩
      have fin : ∀ w : Str, w = fewF l h rs z → ∃ v6 v7 : Option V, [some (.ref t), some (.ref a), some (.ref b), some (.ref A1), some (.ref B1), some (.ref D1), some (.str z), some (.str (arF rs (fewF l h rs) z))] = [some (.ref t), some (.ref a), some (.ref b), some (.ref A1), some (.ref B1), some (.ref D1), v6, v7] ∧ SB D1 Hl (upd H5 D1 (.dK (putK (kvS (fewF l h rs) ((plc rs).take i)) (.inr z) (.str w)))) ∧ (upd H5 D1 (.dK (putK (kvS (fewF l h rs) ((plc rs).take i)) (.inr z) (.str w)))) D1 = some (.dK (kvS (fewF l h rs) ((plc rs).take (i + 1)))) := fun w e => ⟨_, _, rfl, fun c o n e => by rw [upd_ne n]; exact sb c o n e, by
        rw [upd_same, e]
        exact congrArg _ (congrArg _ (kvX_more nd (fun z => V.str (fewF l h rs z)) hz))⟩
      have szD : (kvS (fewF l h rs) ((plc rs).take i)).length < sizeLine := by unfold kvS; exact small1000 (by rw [kvX_len, List.length_take]; omega)
      have eF := fewF_at (l := l) (h := h) hv hzm
      refine ⟨_, rfl, TF.firmA, _, rfl, .inr (.inr TF.firmT), rfl, flat_strs _, _, rfl, ?_⟩
      have e0 : (if false = true then !inV (.str (arF rs (fewF l h rs) z)) ((["on", "off"] : List Str).map V.str) else inV (.str (arF rs (fewF l h rs) z)) ((["on", "off"] : List Str).map V.str)) = firm (arF rs (fewF l h rs) z) := by
        rw [if_neg Bool.false_ne_true, inV_strs]; rfl
      rw [e0]
      refine ite2 (fun c => ?_) (fun c => ?_)
      · exact ⟨_, rfl, _, rfl, b, _, rfl, dgb, _, rfl, _, rfl, D1, _, rfl, .inl ⟨_, .inr z, eD5, rfl, szD, rfl⟩, fin _ (by rw [eF, if_pos (.inl c)])⟩
      · refine ⟨_, rfl, _, rfl, B1, _, rfl, kvN_get hzm eB5, _, _, rfl, rfl, _, rfl, _, rfl, A1, _, rfl, kvN_get hzm eA5, _, rfl, _, rfl, a, _, rfl, dga, _, rfl, l z, arF rs (fewF l h rs) z, rfl, _, _, rfl, rfl, _, _, rfl, rfl, _, rfl, ?_⟩
        refine ite2 (fun c2 => ?_) (fun c2 => ?_)
        · exact ⟨_, rfl, _, rfl, b, _, rfl, dgb, _, rfl, _, rfl, D1, _, rfl, .inl ⟨_, .inr z, eD5, rfl, szD, rfl⟩, fin _ (by
            have c3 := of_decide_eq_true c2
            rw [eF, if_pos (.inr (by omega))])⟩
        · exact ⟨_, rfl, _, rfl, a, _, rfl, dga, _, rfl, _, rfl, D1, _, rfl, .inl ⟨_, .inr z, eD5, rfl, szD, rfl⟩, fin _ (by
            rw [eF, if_neg fun q => q.elim c fun q => c2 (decide_eq_true (by omega))])⟩
    · rintro σ H5 ⟨v6, v7, rfl, sb, eD5⟩
      have el : (kvS l (plc rs)).length = (plc rs).length := by unfold kvS; rw [kvX_len]
      rw [el, List.take_length] at eD5
      refine ⟨sb _ _ nDa.symm lk, ?_⟩
      refine ⟨_, rfl, hq D1 _ fD1 (fun c o e => ?_) (by rw [upd_ne nDa]; exact eD5)⟩
      by_cases q : c = a
      · rw [q, upd_same, ← e, q]; exact ha.symm
      · rw [upd_ne q]
        exact sb c o (ne_of_none e fD1) (kpl' c o q (s02 _ _ e))
end
end Ts

set_option maxRecDepth 100000
set_option maxHeartbeats 4000000
namespace Ts
open PySem L2
def softF (rs : List Row) (v w : Str → Bool) : Str → Str := fun z => if z ∈ plc rs ∧ v z ≠ w z then "flip" else "keep"
def hardF (w : Str → Bool) : Str → Str := fun z => if w z = true then "on" else "off"
theorem lh_of (rs : List Row) (v w : Str → Bool) : LH (softF rs v w) (hardF w) := ⟨fun z => by
  unfold softF
  split <;> decide +kernel, fun z => by
  unfold hardF
  split <;> decide +kernel⟩
theorem greedy_mem {l h : Str → Str} {D : Str → Prop} : ∀ (S : List Row) (e : Str → Str), (∀ z, D (l z)  → True) → ∀ z, greedy l h S e z = e z ∨ greedy l h S e z = l z ∨ greedy l h S e z = h z
  | [], e, _, z => .inl rfl
  | r :: S, e, hD, z => by
    rcases greedy_mem (D := D) (l := l) (h := h) S (gstep l h S e r) hD z with q | q
    · show greedy l h S (gstep l h S e r) z = _ ∨ _
      rw [q]
      by_cases e1 : z = r.nm
      · subst e1
        rcases gtwo (l := l) (h := h) (S := S) (e := e) (r := r) with w | w
        · exact .inr (.inl (q.trans w))
        · exact .inr (.inr (q.trans w))
      · exact .inl (gstep_ne e1)
    · exact .inr q
theorem fewF_mem {rs : List Row} {v w : Str → Bool} (z : Str) : fewF (softF rs v w) (hardF w) rs z ∈ words4 := by
  rcases greedy_mem (D := fun _ => True) (l := softF rs v w) (h := hardF w) (topR :: rs) (fun _ => "keep") (fun _ _ => trivial) z with q | q | q
  · show greedy _ _ _ _ z ∈ words4
    rw [q]; decide +kernel
  · show greedy _ _ _ _ z ∈ words4
    rw [q]; unfold softF; split <;> decide +kernel
  · show greedy _ _ _ _ z ∈ words4
    rw [q]; unfold hardF; split <;> decide +kernel
theorem kvG_atF {rs : List Row} {v : Str → Bool} {j : Nat} {k : Key} {x : V} (h : (kvG rs v)[j]? = some (k, x)) : ∃ z : Str, k = .inr z ∧ (plc rs)[j]? = some z ∧ x = .bl (v z) := by
  unfold kvG at h
  rw [List.getElem?_map] at h
  obtain ⟨z, hz, e⟩ := Option.map_eq_some_iff.mp h
  cases e
  exact ⟨z, rfl, hz, rfl⟩
def spFewD (C CM CR : Addr) : Sp := fun vs H Q _ => ∃ (m m2 t t2 : Addr) (rs : List Row) (v w : Str → Bool), vs = [.ref m, .ref m2] ∧ MV C CM H m t rs v ∧ MV C CM H m2 t2 rs w ∧ Unl0 rs ∧ rs.length ≤ 90 ∧ ∀ r H', H r = none → Same H H' → RowAt C CR H' r t rs (leastD rs (fewF (softF rs v w) (hardF w) rs)) → Q (.ref r) H'
section
variable {P : Program} {w : World} {K : PySem.W.Frag} {mg : Str → Option Value} {base : Heap} {C CR CM : Addr}
abbrev nFewD : List Str := ["one", "other", "before", "behind", "loose", "firm", "place"]
theorem sc_fewD : FnScope nFewD ["one", "other"] (defScope s_fewest_deeds) := ⟨rfl, rfl, rfl, by decide +kernel, rfl, by decide +kernel, by decide +kernel⟩
theorem ok_fewD (D : DefAt K mg "fewest_deeds" s_fewest_deeds ["one", "other"]) (TD : TxD K mg w) (TF : TxF K mg) (hOff : ∃ t, mg "OFF" = some (.str "off" t)) (M : TxM K mg CM)
    (Dc : DefAt K mg "check_trees" s_check_trees ["one", "other"]) (Gc : FnOk P w K mg base CX0 4 Dc.f Dc.fd ["one", "other"] (spCheckTrees C CM))
    (Du : DefAt K mg "check_unlocked" s_check_unlocked ["tree"]) (Gu : FnOk P w K mg base CX0 6 Du.f Du.fd ["tree"] (spUnlocked C))
    (mS : MethAt K CM "states" "Meaning.states" s_Meaning_states ["self"]) (GS : FnOk P w K mg base CX0 2 mS.f mS.fd ["self"] (spMStates C CM))
    (De : DefAt K mg "fewest_effects" s_fewest_effects ["tree", "loose", "firm"]) (Ge : FnOk P w K mg base CX0 7 De.f De.fd ["tree", "loose", "firm"] (spFewE C))
    (Dr : DefAt K mg "row_of" s_row_of ["tree", "effects"]) (Gr : FnOk P w K mg base CX0 9 Dr.f Dr.fd ["tree", "effects"] (spRowOf C CR)) : FnOk P w K mg base CX0 10 D.f D.fd ["one", "other"] (spFewD C CM CR) := by
  obtain ⟨tF, gF⟩ := TD.flip
  obtain ⟨tK, gK⟩ := TD.keep
  obtain ⟨tO, gO⟩ := TF.on
  obtain ⟨tX, gX⟩ := hOff
  refine D.F.ok sc_fewD (fun vs H Q E h => ?_) (fun cdv A outer s H vs Q E hr h => ?_)
  · obtain ⟨m, m2, t, t2, rs, v, w', rfl, _⟩ := h
    rfl
  · obtain ⟨m, m2, t, t2, rs, v, w', rfl, hm, hm2, hun, hl, hq⟩ := h
    have hu := hu_of hr
    have r4 : Room 4 _ := hr.mono (by decide)
    have r6 : Room 6 _ := hr.mono (by decide)
    have r2 : Room 2 _ := hr.mono (by decide)
    have r7 : Room 7 _ := hr.mono (by decide)
    refine ⟨_, pss_cons (ps_expr (pe_call Gc r4 rfl Dc.g Dc.F.kp Dc.b .nil pass0 (pa_cons (pv 0) (pa_cons (pv 1) pa_nil))))
      (pss_cons (ps_expr (pe_call Gu r6 rfl Du.g Du.F.kp Du.b .nil pass0 (pa_cons (pe_fld (pv 0) rfl) pa_nil)))
      (pss_cons (ps_asg (pe_tup (pa_cons (pe_meth0 (pv 0) M.cl mS.m GS r2 mS.b .nil pass0) (pa_cons (pe_meth0 (pv 1) M.cl mS.m GS r2 mS.b .nil pass0) pa_nil))) (pg_tup rfl (pgs_cons (pg_name (i := 2) sc_fewD.nd rfl (.inr rfl)) (pgs_cons (pg_name (i := 3) sc_fewD.nd rfl (.inr rfl)) pgs_nil))))
      (pss_cons (ps_lock (ps_setDc (i := 4) (own := [("place", 6)]) (g := gName 6) (tt := tYes) (tk := tVar 6) (tv := tIf (tTest (tOp rEq (tDGet (tVar 2) (tVar 6)) (tDGet (tVar 3) (tVar 6)))) (tC (.str ("keep" : Str))) (tC (.str ("flip" : Str)))) rfl sc_fewD.nd rfl rfl (swd_true rfl rfl rfl (by decide +kernel)) (pi_keys (pv 2)) (blkOk_by (N := nFewD) (sc := defScope s_fewest_deeds) (by decide +kernel))
          (fun _ _ _ _ _ => pg_name (i := 6) sc_fewD.nd rfl (Or.inl rfl)) (fun _ _ _ _ _ => pts_nil) (fun _ _ _ _ _ => pv 6) (fun _ _ _ _ _ => by exact pe_ifExp (pt_cmpR op_eq (pe_dget hu (pv 2) (pv 6) (fun _ _ => rfl)) (pe_dget hu (pv 3) (pv 6) (fun _ _ => rfl)) (nomark _)) (pe_glob (by rfl) gK (v := .str ("keep" : Str)) ⟨_, rfl⟩) (pe_glob (by rfl) gF (v := .str ("flip" : Str)) ⟨_, rfl⟩))))
      (pss_cons (ps_lock (ps_setDc (i := 5) (own := [("place", 6)]) (g := gName 6) (tt := tYes) (tk := tVar 6) (tv := tIf (tTest (tDGet (tVar 3) (tVar 6))) (tC (.str ("on" : Str))) (tC (.str ("off" : Str)))) rfl sc_fewD.nd rfl rfl (swd_true rfl rfl rfl (by decide +kernel)) (pi_keys (pv 2)) (blkOk_by (N := nFewD) (sc := defScope s_fewest_deeds) (by decide +kernel))
          (fun _ _ _ _ _ => pg_name (i := 6) sc_fewD.nd rfl (Or.inl rfl)) (fun _ _ _ _ _ => pts_nil) (fun _ _ _ _ _ => pv 6) (fun _ _ _ _ _ => by exact pe_ifExp (pt_val (pe_dget hu (pv 3) (pv 6) (fun _ _ => rfl))) (pe_glob (by rfl) gO (v := .str ("on" : Str)) ⟨_, rfl⟩) (pe_glob (by rfl) gX (v := .str ("off" : Str)) ⟨_, rfl⟩))))
      (pss_one (ps_ret (pe_call Gr hr rfl Dr.g Dr.F.kp Dr.b .nil pass0 (pa_cons (pe_fld (pv 0) rfl) (pa_cons (pe_call Ge r7 rfl De.g De.F.kp De.b .nil pass0 (pa_cons (pe_fld (pv 0) rfl) (pa_cons (pv 4) (pa_cons (pv 5) pa_nil)))) pa_nil))))))))), ?_⟩
    have hv := hm.valid
    have nd := plc_nd hv
    have lpl : (plc rs).length ≤ 91 := by rw [plc_len']; omega
    obtain ⟨dx, u, k, h1, h2, h3⟩ := hm.turns.ex
    obtain ⟨dx2, u2, k2, g1, g2, g3⟩ := hm2.turns.ex
    have noS : ∀ {x u k : Addr} {d : Bool}, (mf x u k d).lookup ("states" : Str) = none := fun {x u k d} => mf_no _ _ _ _ (by decide +kernel) (by decide +kernel) (by decide +kernel) (by decide +kernel)
    refine ⟨_, rfl, _, rfl, m, m2, t, t2, rs, _, _, _, _, rfl, hm.turns, hm2.turns, ?_⟩
    refine ⟨_, rfl, m, CM, dx, _, _, rfl, h1, M.cl, M.nt, mf_t _ _ _ _, t, rs, rfl, hm.turns.tree, hun, fun H1 s1 => ?_⟩
    refine ⟨_, rfl, m, dx, _, rfl, s1 _ _ h1, noS, m, t, rs, _, _, rfl, hm.turns.same s1, fun b1 hb1 => ?_⟩
    rw [kvM_kvG hv (val_turnsG hv v)]
    have s2 : Same H1 (upd H1 b1 (.dK (kvG rs v))) := Same.new hb1
    have e2 : (upd H1 b1 (.dK (kvG rs v))) b1 = some (.dK (kvG rs v)) := upd_same
    generalize upd H1 b1 (.dK (kvG rs v)) = H2 at s2 e2
    have s02 := s1.trans s2
    refine ⟨_, rfl, m2, dx2, _, rfl, s02 _ _ g1, noS, m2, t2, rs, _, _, rfl, hm2.turns.same s02, fun b2 hb2 => ?_⟩
    rw [kvM_kvG hv (val_turnsG hv w')]
    have n12 : b1 ≠ b2 := ne_of_none e2 hb2
    have s3 : Same H2 (upd H2 b2 (.dK (kvG rs w'))) := Same.new hb2
    have e3 : (upd H2 b2 (.dK (kvG rs w'))) b2 = some (.dK (kvG rs w')) := upd_same
    generalize upd H2 b2 (.dK (kvG rs w')) = H3 at s3 e3
    refine ⟨(by show 2 ≤ sizeLine; decide), fun tp htp => ⟨tp, _, rfl, sqT upd_same, rfl, _, _, rfl, _, _, rfl, rfl, ?_⟩⟩
    have s4 : Same H3 (upd H3 tp (.tup [.ref b1, .ref b2])) := Same.new htp
    generalize upd H3 tp (.tup [.ref b1, .ref b2]) = H4 at s4
    have s04 := s02.trans (s3.trans s4)
    have eb1 := (s3.trans s4) _ _ e2
    have eb2 := s4 _ _ e3
    refine ⟨b1, _, eb1, trivial, fun od => ?_⟩
    have lkD1 : (upd H4 b1 (.frz od (.dK (kvG rs v)))) b1 = some (.frz od (.dK (kvG rs v))) := upd_same
    obtain ⟨HlD1, ElD1⟩ : ∃ Hx, Hx = upd H4 b1 (.frz od (.dK (kvG rs v))) := ⟨_, rfl⟩
    have kpD1 : ∀ c o, c ≠ b1 → H4 c = some o → HlD1 c = some o := fun c o h1 e => by rw [ElD1, upd_ne h1]; exact e
    rw [← ElD1]
    rw [← ElD1] at lkD1
    have eb2l := kpD1 _ _ n12.symm eb2
    refine ⟨_, rfl, b1, od, rfl, .inl ⟨_, lkD1, fun D1 hD1 => ?_⟩⟩
    have nD1 : D1 ≠ b1 := (ne_of_none lkD1 hD1).symm
    refine dc_it (walk_keys (d := b1) (o := od) (kvs := (kvG rs v))) (fun i H' => Same HlD1 H' ∧ H' D1 = some (.dK (kvS (softF rs v w') ((plc rs).take i)))) ⟨Same.new hD1, upd_same⟩ (fun i H' _ m => m.1 _ _ lkD1) ?_ ?_
    · rintro i x H5x H5 hi ⟨s5, hD5⟩ ⟨rfl, k', v', hk, rfl⟩
      obtain ⟨z, rfl, hz, rfl⟩ := kvG_atF hk
      have hzm := List.mem_of_getElem? hz
      have szD : (kvS (softF rs v w') ((plc rs).take i)).length < sizeLine := by unfold kvS; exact small1000 (by rw [kvX_len, List.length_take]; omega)
      have fin : ∀ y : Str, y = (softF rs v w') z → Same HlD1 (upd H5 D1 (.dK (putK (kvS (softF rs v w') ((plc rs).take i)) (.inr z) (.str y)))) ∧ (upd H5 D1 (.dK (putK (kvS (softF rs v w') ((plc rs).take i)) (.inr z) (.str y)))) D1 = some (.dK (kvS (softF rs v w') ((plc rs).take (i + 1)))) := fun y e => ⟨fun b o eb => by
        rw [upd_ne (fun y => by rw [y, hD1] at eb; cases eb)]
        exact s5 _ _ eb, by
        rw [upd_same, e]
        exact congrArg _ (congrArg _ (kvX_more nd (fun z => V.str ((softF rs v w') z)) hz))⟩
      have dg1 : DGet H5 b1 (.str z) (some (.bl (v z))) := .inl ⟨_, .inr z, .inr ⟨od, s5 _ _ lkD1⟩, rfl, (valV_kvG v hzm).symm⟩
      have dg2 : DGet H5 b2 (.str z) (some (.bl (w' z))) := .inl ⟨_, .inr z, .inl (s5 _ _ eb2l), rfl, (valV_kvG w' hzm).symm⟩
      refine ⟨rfl, tYes_if ⟨_, rfl, _, rfl, _, rfl, b1, _, rfl, dg1, _, rfl, _, rfl, b2, _, rfl, dg2, rfl, _, rfl, ?_⟩⟩
      refine ite2 (fun c => ?_) (fun c => ?_)
      · have c' : v z = w' z := V.bl.inj (of_decide_eq_true c)
        exact ⟨_, .inr z, rfl, hD5, szD, fin _ (by unfold softF; rw [if_neg fun q => q.2 c'])⟩
      · have c' : v z ≠ w' z := fun e => c (decide_eq_true (congrArg V.bl e))
        exact ⟨_, .inr z, rfl, hD5, szD, fin _ (by unfold softF; rw [if_pos ⟨hzm, c'⟩])⟩
    rintro H5 ⟨s5, hD5⟩
    have el : ((kvG rs v)).length = (plc rs).length := by unfold kvG; rw [List.length_map]
    rw [el, List.take_length] at hD5
    refine ⟨s5 _ _ lkD1, ?_⟩
    rw [ElD1] at s5
    have sH6 := lock_back eb1 s5
    have eD1 : (upd H5 b1 (.dK (kvG rs v))) D1 = some (.dK (kvS (softF rs v w') (plc rs))) := by rw [upd_ne nD1]; exact hD5
    have fD1 : H4 D1 = none := by
      have := hD1
      rw [ElD1, upd_ne nD1] at this
      exact this
    generalize upd H5 b1 (.dK (kvG rs v)) = H6 at sH6 eD1
    clear lkD1 ElD1 kpD1 hD1
    have eb1' := sH6 _ _ eb1
    have eb2' := sH6 _ _ eb2
    refine ⟨b1, _, eb1', trivial, fun od => ?_⟩
    have lkD2 : (upd H6 b1 (.frz od (.dK (kvG rs v)))) b1 = some (.frz od (.dK (kvG rs v))) := upd_same
    obtain ⟨HlD2, ElD2⟩ : ∃ Hx, Hx = upd H6 b1 (.frz od (.dK (kvG rs v))) := ⟨_, rfl⟩
    have kpD2 : ∀ c o, c ≠ b1 → H6 c = some o → HlD2 c = some o := fun c o h1 e => by rw [ElD2, upd_ne h1]; exact e
    rw [← ElD2]
    rw [← ElD2] at lkD2
    have eb2l := kpD2 _ _ n12.symm eb2'
    refine ⟨_, rfl, b1, od, rfl, .inl ⟨_, lkD2, fun D2 hD2 => ?_⟩⟩
    have nD2 : D2 ≠ b1 := (ne_of_none lkD2 hD2).symm
    refine dc_it (walk_keys (d := b1) (o := od) (kvs := (kvG rs v))) (fun i H' => Same HlD2 H' ∧ H' D2 = some (.dK (kvS (hardF w') ((plc rs).take i)))) ⟨Same.new hD2, upd_same⟩ (fun i H' _ m => m.1 _ _ lkD2) ?_ ?_
    · rintro i x H5x H5 hi ⟨s5, hD5⟩ ⟨rfl, k', v', hk, rfl⟩
      obtain ⟨z, rfl, hz, rfl⟩ := kvG_atF hk
      have hzm := List.mem_of_getElem? hz
      have szD : (kvS (hardF w') ((plc rs).take i)).length < sizeLine := by unfold kvS; exact small1000 (by rw [kvX_len, List.length_take]; omega)
      have fin : ∀ y : Str, y = (hardF w') z → Same HlD2 (upd H5 D2 (.dK (putK (kvS (hardF w') ((plc rs).take i)) (.inr z) (.str y)))) ∧ (upd H5 D2 (.dK (putK (kvS (hardF w') ((plc rs).take i)) (.inr z) (.str y)))) D2 = some (.dK (kvS (hardF w') ((plc rs).take (i + 1)))) := fun y e => ⟨fun b o eb => by
        rw [upd_ne (fun y => by rw [y, hD2] at eb; cases eb)]
        exact s5 _ _ eb, by
        rw [upd_same, e]
        exact congrArg _ (congrArg _ (kvX_more nd (fun z => V.str ((hardF w') z)) hz))⟩
      have dg2 : DGet H5 b2 (.str z) (some (.bl (w' z))) := .inl ⟨_, .inr z, .inl (s5 _ _ eb2l), rfl, (valV_kvG w' hzm).symm⟩
      refine ⟨rfl, tYes_if ⟨_, rfl, _, rfl, _, rfl, b2, _, rfl, dg2, _, rfl, ?_⟩⟩
      refine ite2 (fun c => ?_) (fun c => ?_)
      · exact ⟨_, .inr z, rfl, hD5, szD, fin _ (by unfold hardF; rw [if_pos c])⟩
      · exact ⟨_, .inr z, rfl, hD5, szD, fin _ (by unfold hardF; rw [if_neg c])⟩
    rintro H5 ⟨s5, hD5⟩
    have el : ((kvG rs v)).length = (plc rs).length := by unfold kvG; rw [List.length_map]
    rw [el, List.take_length] at hD5
    refine ⟨s5 _ _ lkD2, ?_⟩
    rw [ElD2] at s5
    have sH8 := lock_back eb1' s5
    have eD2 : (upd H5 b1 (.dK (kvG rs v))) D2 = some (.dK (kvS (hardF w') (plc rs))) := by rw [upd_ne nD2]; exact hD5
    have fD2 : H6 D2 = none := by
      have := hD2
      rw [ElD2, upd_ne nD2] at this
      exact this
    generalize upd H5 b1 (.dK (kvG rs v)) = H8 at sH8 eD2
    clear lkD2 ElD2 kpD2 hD2
    have s08 := s04.trans (sH6.trans sH8)
    have eD1' := sH8 _ _ eD1
    have nDD : D1 ≠ D2 := ne_of_none eD1 fD2
    refine ⟨_, rfl, m, CM, dx, _, _, rfl, s08 _ _ h1, M.cl, M.nt, mf_t _ _ _ _, ?_⟩
    refine ⟨_, rfl, m, CM, dx, _, _, rfl, s08 _ _ h1, M.cl, M.nt, mf_t _ _ _ _, _, rfl, _, rfl, t, D1, D2, rs, softF rs v w', hardF w', rfl, hm.turns.tree.same s08, hl, nDD, eD1', eD2, fun e H9 he s9 ee => ?_⟩
    have s09 := s08.trans s9
    exact ⟨t, e, rs, fewF (softF rs v w') (hardF w') rs, rfl, hm.turns.tree.same s09, hun, ee, fewF_mem, hl, fun r H' hn s' hr' => hq r H' (s09.free hn) (s09.trans s') hr'⟩
end
end Ts

set_option maxRecDepth 100000
set_option maxHeartbeats 4000000
namespace Ts
open PySem L2
/-- the least row of any map of the told form has these effects -/
theorem eff_leastF {rs : List Row} (hv : Valid rs) {f : Str → Str} (f4 : ∀ b, f b ∈ words4) (fd : ∀ r ∈ rs, firm (f r.fo) = true → firm (f r.nm) = true) : ∀ z ∈ plc rs, eff rs (leastD rs f) z = f z := by
  have top : eff rs (leastD rs f) "top" = f "top" := by
    have e : leastD rs f = ((([("top" : Str)]).filter fun z => decide (f z ≠ arF rs f z)).map fun z => (leastW (f z), z)) ++ (((names rs).filter fun z => decide (f z ≠ arF rs f z)).map fun z => (leastW (f z), z)) := by
      unfold leastD entL
      rw [show plc rs = [("top" : Str)] ++ names rs from rfl, List.filter_append, List.map_append]
    rw [e, eff_fold, foldE_app, fold_skip _ fun d hd => by
      obtain ⟨z, hz, rfl⟩ := List.mem_map.mp hd
      refine within_later hv (i := 0) (.inl rfl) ?_
      rw [List.drop_zero]
      exact (List.mem_filter.mp hz).1]
    by_cases q : f "top" = "keep"
    · rw [List.filter_cons_of_neg (by rw [arF_top]; simp [q])]
      exact q.symm
    · rw [List.filter_cons_of_pos (by rw [arF_top]; simp [q])]
      show stepE rs (leastW (f "top"), "top") (fun _ => "keep") "top" = f "top"
      unfold stepE
      rw [if_pos (by unfold within; rw [decide_eq_true rfl]; rfl)]
      unfold leastW
      cases c : firm (f "top") with
      | true => rw [if_pos rfl, if_neg (firm_words _ (f4 _) c)]
      | false => rw [if_neg Bool.false_ne_true, if_pos rfl]; exact loose_flp _ (f4 _) _ w_keep c (by decide +kernel) q
  have main : ∀ (i : Nat) (r : Row), rs[i]? = some r → eff rs (leastD rs f) r.nm = f r.nm := by
    intro i
    induction i using Nat.strongRecOn with
    | _ i ih =>
      intro r hr
      have hrm := List.mem_of_getElem? hr
      have nt : r.nm ≠ ("top" : Str) := fun e => top_not hv (by rw [← e]; exact List.mem_map.mpr ⟨r, hrm, rfl⟩)
      have ro := rowOf_at hv hr
      have foi := hv.fo hr
      have ef : eff rs (leastD rs f) r.fo = f r.fo := by
        rcases foi with e | e
        · rw [e]; exact top
        · obtain ⟨q, hq, eq⟩ := List.mem_map.mp e
          obtain ⟨j, hj, ej⟩ := List.mem_take_iff_getElem.mp hq
          rw [← eq]
          exact ih j (by omega) q (by rw [← ej]; exact List.getElem?_eq_getElem _)
      have sp := least_split hr f
      obtain ⟨A, hA⟩ : ∃ A, A = (((("top" : Str) :: names (rs.take i)).filter fun z => decide (f z ≠ arF rs f z)).map fun z => (leastW (f z), z)) := ⟨_, rfl⟩
      obtain ⟨B, hB⟩ : ∃ B, B = (((names (rs.drop (i + 1))).filter fun z => decide (f z ≠ arF rs f z)).map fun z => (leastW (f z), z)) := ⟨_, rfl⟩
      obtain ⟨M, hM⟩ : ∃ M, M = (([r.nm].filter fun z => decide (f z ≠ arF rs f z)).map fun z => (leastW (f z), z)) := ⟨_, rfl⟩
      rw [← hA, ← hB, ← hM] at sp
      have inTake : r.nm ∈ names (rs.take (i + 1)) := by
        rw [take_more hr]; unfold names; rw [List.map_append]; exact List.mem_append_right _ (List.mem_singleton.mpr rfl)
      have skB : ∀ b, (b = ("top" : Str) ∨ b ∈ names (rs.take (i + 1))) → ∀ e, foldE rs B e b = e b := fun b hb e => fold_skip e fun d hd => by
        rw [hB] at hd
        obtain ⟨z, hz, rfl⟩ := List.mem_map.mp hd
        exact within_later hv hb (List.mem_filter.mp hz).1
      have skM : ∀ e, foldE rs M e r.fo = e r.fo := fun e => fold_skip e fun d hd => by
        rw [hM] at hd
        obtain ⟨z, hz, rfl⟩ := List.mem_map.mp hd
        have hz1 := List.mem_singleton.mp (List.mem_filter.mp hz).1
        refine within_later hv foi ?_
        rw [hz1]
        obtain ⟨hi, e⟩ := List.getElem?_eq_some_iff.mp hr
        rw [List.drop_eq_getElem_cons hi, e]
        exact List.mem_map.mpr ⟨r, List.mem_cons_self .., rfl⟩
      have foi2 : r.fo = ("top" : Str) ∨ r.fo ∈ names (rs.take (i + 1)) := foi.imp id fun h => by
        rw [take_more hr]; unfold names; rw [List.map_append]; exact List.mem_append_left _ h
      have eA : foldE rs A (fun _ => "keep") r.fo = f r.fo := by
        rw [← ef, sp, eff_fold, foldE_app, foldE_app, skB _ foi2, skM]
      have eA2 : foldE rs A (fun _ => "keep") r.nm = f r.fo := by
        rw [← eA]
        refine fold_same _ (fun d hd => ?_) rfl
        rw [hA] at hd
        obtain ⟨z, hz, rfl⟩ := List.mem_map.mp hd
        refine within_up hv hrm fun e => ?_
        have e' : r.nm = z := e
        rcases List.mem_cons.mp (List.mem_filter.mp hz).1 with h | h
        · exact nt (e'.trans h)
        · exact (hv i r hr).new (by rw [e']; exact h)
      rw [sp, eff_fold, foldE_app, foldE_app, skB _ (.inr inTake)]
      have ar := arF_row (f := f) nt ro
      by_cases q : f r.nm = f r.fo
      · rw [hM, List.filter_cons_of_neg (by rw [ar]; simp [q]), List.filter_nil]
        exact eA2.trans q.symm
      · rw [hM, List.filter_cons_of_pos (by rw [ar]; simp [q]), List.filter_nil]
        show stepE rs (leastW (f r.nm), r.nm) (foldE rs A fun _ => "keep") r.nm = f r.nm
        unfold stepE
        rw [if_pos (by unfold within; rw [decide_eq_true rfl]; rfl), eA2]
        unfold leastW
        cases c : firm (f r.nm) with
        | true => rw [if_pos rfl, if_neg (firm_words _ (f4 _) c)]
        | false =>
          rw [if_neg Bool.false_ne_true, if_pos rfl]
          refine loose_flp _ (f4 _) _ (f4 _) c ?_ q
          cases c2 : firm (f r.fo) with
          | false => rfl
          | true => rw [fd r hrm c2] at c; cases c
  intro z hz
  rcases mem_plc.mp hz with rfl | hz
  · exact top
  · obtain ⟨r, hr, rfl⟩ := List.mem_map.mp hz
    obtain ⟨i, hi, e⟩ := List.mem_iff_getElem.mp hr
    exact main i r (by rw [← e]; exact List.getElem?_eq_getElem hi)
theorem softF_empty {rs : List Row} (hv : Valid rs) (v w : Str → Bool) : softF rs v w "" = "keep" := by
  unfold softF
  refine if_neg fun q => ?_
  have sf := suf_top hv
  exact (List.nodup_append.mp sf.nd).2.2 _ (List.mem_singleton.mpr rfl) _ q.1 rfl
theorem few_pre {rs : List Row} (hv : Valid rs) (v w : Str → Bool) : ∀ z ∈ [("" : Str)], (fun _ : Str => ("keep" : Str)) z = softF rs v w z ∨ (fun _ : Str => ("keep" : Str)) z = hardF w z := fun z hz => by
  rw [List.mem_singleton.mp hz]
  exact .inl (softF_empty hv v w).symm
theorem few_down {rs : List Row} (hv : Valid rs) (v w : Str → Bool) : ∀ r ∈ rs, firm (fewF (softF rs v w) (hardF w) rs r.fo) = true → firm (fewF (softF rs v w) (hardF w) rs r.nm) = true := fun r hr hf => by
  have ok := greedy_ok (l := softF rs v w) (h := hardF w) (topR :: rs) _ (fun _ => "keep") (suf_top hv) (few_pre hv v w) r (List.mem_cons_of_mem _ hr)
  have e : fewF (softF rs v w) (hardF w) rs r.nm = hardF w r.nm := ok.low hf
  rw [e]
  exact (lh_of rs v w).hard _
theorem few_two {rs : List Row} (hv : Valid rs) (v w : Str → Bool) {z : Str} (hz : z ∈ plc rs) : fewF (softF rs v w) (hardF w) rs z = softF rs v w z ∨ fewF (softF rs v w) (hardF w) rs z = hardF w z :=
  greedy_two (topR :: rs) _ (fun _ => "keep") (suf_top hv) (few_pre hv v w) z (.inr hz)
theorem lead_soft {rs : List Row} {v w : Str → Bool} {z : Str} (hz : z ∈ plc rs) : vb (softF rs v w z) (v z) = w z := by
  unfold softF
  by_cases c : v z = w z
  · rw [if_neg fun q => q.2 c, ← c]
    cases v z <;> decide +kernel
  · rw [if_pos ⟨hz, c⟩]
    revert c
    cases v z <;> cases w z <;> decide +kernel
theorem lead_hard {v w : Str → Bool} {z : Str} : vb (hardF w z) (v z) = w z := by
  unfold hardF
  cases w z <;> cases v z <;> decide +kernel
/-- the fewest deeds lead there -/
theorem few_leads {rs : List Row} (hv : Valid rs) (v w : Str → Bool) : ∀ z ∈ plc rs, doneV rs v (leastD rs (fewF (softF rs v w) (hardF w) rs)) z = w z := fun z hz => by
  rw [done_eff (least_words fun b => fewF_mem b).words, eff_leastF hv (fun b => fewF_mem b) (few_down hv v w) z hz]
  rcases few_two hv v w hz with e | e
  · rw [e]; exact lead_soft hz
  · rw [e]; exact lead_hard
/-- entries counted as costs -/
theorem ent_cost {rs : List Row} (hv : Valid rs) {f : Str → Str} (f0 : f "" = "keep") : (entL rs f).length = costR f (topR :: rs) := by
  have e : ∀ (S : List Row), (∀ r ∈ S, r ∈ rs) → ((names S).filter fun z => decide (f z ≠ arF rs f z)).length = costR f S := by
    intro S
    induction S with
    | nil => intro _; rfl
    | cons r S ih =>
      intro hS
      have hr := hS r (List.mem_cons_self ..)
      have ih' := ih fun q hq => hS q (List.mem_cons_of_mem _ hq)
      obtain ⟨i, hi, er⟩ := List.mem_iff_getElem.mp hr
      have ro : rowOf rs r.nm = some r := rowOf_at hv (by rw [← er]; exact List.getElem?_eq_getElem hi)
      have nt : r.nm ≠ ("top" : Str) := fun y => top_not hv (by rw [← y]; exact List.mem_map.mpr ⟨r, hr, rfl⟩)
      rw [costR_cons, ← ih']
      show ((r.nm :: names S).filter _).length = _
      unfold un
      by_cases c : f r.nm = f r.fo
      · rw [List.filter_cons_of_neg (by rw [arF_row nt ro]; simp [c]), if_pos c, Nat.zero_add]
      · rw [List.filter_cons_of_pos (by rw [arF_row nt ro]; simp [c]), if_neg c, List.length_cons, Nat.add_comm]
  have e1 := e rs fun _ h => h
  unfold entL
  rw [costR_cons, ← e1]
  show ((("top" : Str) :: names rs).filter _).length = un (f "top") (f "") + _
  rw [f0]
  unfold un
  by_cases c : f "top" = "keep"
  · rw [List.filter_cons_of_neg (by rw [arF_top]; simp [c]), if_pos c, Nat.zero_add]
  · rw [List.filter_cons_of_pos (by rw [arF_top]; simp [c]), if_neg c, List.length_cons, Nat.add_comm]
theorem lead_two {rs : List Row} {v w : Str → Bool} {z : Str} (hz : z ∈ plc rs) {x : Str} (hx : x ∈ words4) (h : vb x (v z) = w z) : x = softF rs v w z ∨ x = hardF w z := by
  simp only [words4, List.mem_cons, List.not_mem_nil, or_false] at hx
  unfold softF hardF
  rcases hx with rfl | rfl | rfl | rfl
  · left
    refine (if_neg fun q => q.2 ?_).symm
    rw [← h]
    cases v z <;> decide +kernel
  · right
    refine (if_pos ?_).symm
    rw [← h]
    cases v z <;> decide +kernel
  · right
    refine (if_neg ?_).symm
    rw [← h]
    cases v z <;> decide +kernel
  · left
    refine (if_pos ⟨hz, ?_⟩).symm
    rw [← h]
    cases v z <;> decide +kernel
theorem firm_soft {rs : List Row} {v w : Str → Bool} {z : Str} : firm (softF rs v w z) = false := (lh_of rs v w).soft z
/-- a map that leads there and is firm below what is firm is of the told form -/
theorem form_of {rs : List Row} {v w : Str → Bool} {g : Str → Str} (two : ∀ z ∈ plc rs, g z = softF rs v w z ∨ g z = hardF w z) (g0 : g "" = "keep") (down : ∀ r ∈ rs, firm (g r.fo) = true → firm (g r.nm) = true) : ∀ r ∈ topR :: rs, OkR (softF rs v w) (hardF w) g r := fun r hr => by
  rcases List.mem_cons.mp hr with rfl | hr
  · refine ⟨fun hf => ?_, two _ (mem_plc.mpr (.inl rfl))⟩
    have e : g topR.fo = "keep" := g0
    rw [e] at hf
    exact absurd hf (by decide +kernel)
  · have hz : r.nm ∈ plc rs := mem_plc.mpr (.inr (List.mem_map.mpr ⟨r, hr, rfl⟩))
    refine ⟨fun hf => ?_, two _ hz⟩
    rcases two _ hz with e | e
    · have := down r hr hf
      rw [e, firm_soft] at this
      cases this
    · exact e
theorem suf_empty {rs : List Row} (hv : Valid rs) : ("" : Str) ∉ plc rs := fun q =>
  (List.nodup_append.mp (suf_top hv).nd).2.2 _ (List.mem_singleton.mpr rfl) _ q rfl
theorem entL_congr {rs : List Row} (hv : Valid rs) {f g : Str → Str} (h : ∀ z ∈ plc rs, f z = g z) : entL rs f = entL rs g := ent_congr hv h
/-- no map that leads there has fewer entries -/
theorem few_low {rs : List Row} (hv : Valid rs) {v w : Str → Bool} {g : Str → Str} (two : ∀ z ∈ plc rs, g z = softF rs v w z ∨ g z = hardF w z) (down : ∀ r ∈ rs, firm (g r.fo) = true → firm (g r.nm) = true) :
    (entL rs (fewF (softF rs v w) (hardF w) rs)).length ≤ (entL rs g).length := by
  obtain ⟨g', hg'⟩ : ∃ g' : Str → Str, g' = fun z => if z = ("" : Str) then ("keep" : Str) else g z := ⟨_, rfl⟩
  have e0 : g' "" = "keep" := by rw [hg']; exact if_pos rfl
  have e1 : ∀ z ∈ plc rs, g' z = g z := fun z hz => by rw [hg']; exact if_neg fun (e : z = ("" : Str)) => suf_empty hv (e ▸ hz)
  have two' : ∀ z ∈ plc rs, g' z = softF rs v w z ∨ g' z = hardF w z := fun z hz => by rw [e1 z hz]; exact two z hz
  have down' : ∀ r ∈ rs, firm (g' r.fo) = true → firm (g' r.nm) = true := fun r hr => by
    have a : r.fo ∈ plc rs := by
      obtain ⟨i, hi, er⟩ := List.mem_iff_getElem.mp hr
      exact mem_plc.mpr (hv.foAll hr)
    have b : r.nm ∈ plc rs := mem_plc.mpr (.inr (List.mem_map.mpr ⟨r, hr, rfl⟩))
    rw [e1 _ a, e1 _ b]
    exact down r hr
  rw [← ent_congr hv e1, ent_cost hv (fewF_empty hv), ent_cost hv e0]
  have pre := few_pre hv v w
  have lb := low_bound (lh_of rs v w) (topR :: rs) [""] (suf_top hv) (fun z hz => by
    rw [List.mem_singleton.mp hz, e0]; exact .inl (softF_empty hv v w).symm) (form_of two' e0 down')
  have gc := greedy_cost (lh_of rs v w) (topR :: rs) [""] (fun _ => "keep") (suf_top hv) pre
  have sc : sumP (softF rs v w) (hardF w) (topR :: rs) (fun _ => "keep") [""] = sumP (softF rs v w) (hardF w) (topR :: rs) g' [""] := sumP_congr fun z hz => by
    rw [List.mem_singleton.mp hz, e0]
  show costR (greedy _ _ _ _) _ ≤ _
  rw [gc, sc]
  exact lb
/-- no row that leads there has fewer deeds -/
theorem few_least {rs : List Row} (hv : Valid rs) {v w : Str → Bool} {ds : List De} (hw : Words ds) (h : ∀ z ∈ plc rs, doneV rs v ds z = w z) : (entL rs (fewF (softF rs v w) (hardF w) rs)).length ≤ ds.length := by
  refine Nat.le_trans (few_low hv (g := eff rs ds) (fun z hz => ?_) fun r hr => firm_down hv hr hw) (ent_le hv ds)
  refine lead_two hz (eff_mem hw z) ?_
  rw [← done_eff hw]
  exact h z hz
end Ts

set_option maxRecDepth 100000
set_option maxHeartbeats 4000000
namespace Ts
open PySem L2
def pricesF : List (Option Int) := [some 1, some 1, some 2, some 5]
theorem pricesF_ok : ∀ q ∈ pricesF, PriceOk q := by
  intro q hq
  simp [pricesF] at hq
  rcases hq with rfl | rfl | rfl <;> simp [PriceOk]
theorem pricesF_some : ∀ q ∈ pricesF, q ≠ none := by
  intro q hq
  simp [pricesF] at hq
  rcases hq with rfl | rfl | rfl <;> simp
def spFree : Sp := fun vs H Q _ => ∃ (a : Addr) (many n : Int), vs = [.ref a, .int many] ∧ Stm H a n ∧ n ≤ 500000000 ∧ 0 ≤ many ∧ many ≤ 40 ∧
  ∀ (p : Addr) (as : List Addr) (rs : List Row) (H' : Hp), H p = none → p ≠ a → H' p = some (.lst (as.map V.ref)) → RowsAt H' as rs → Valid rs → (rs.length : Int) ≤ many → Unl0 rs → SB a H H' → Stm H' a (n + 13 * many) → Q (.ref p) H'
def spLDeeds : Sp := fun vs H Q _ => ∃ (a p : Addr) (most n : Int) (rs : List Row), vs = [.ref a, .ref p, .int most] ∧ Stm H a n ∧ n ≤ 500000000 ∧ p ≠ a ∧ RowsL H p rs ∧ rs.length ≤ 100 ∧ 0 ≤ most ∧ most ≤ 40 ∧
  ∀ (D : Addr) (as : List Addr) (ds : List De) (H' : Hp), H D = none → D ≠ a → H' D = some (.lst (as.map V.ref)) → DsAt H' as ds → VDs rs ds → (ds.length : Int) ≤ most → SB a H H' → Stm H' a (n + 100) → Q (.ref D) H'
def kvB' (v : Str → Bool) (rs : List Row) : List (Key × V) := kvX (fun z => .bl (v z)) (plc rs)
def spLDone : Sp := fun vs H Q _ => ∃ (p vd dl : Addr) (rs : List Row) (as : List Addr) (ds : List De) (v : Str → Bool), vs = [.ref p, .ref vd, .ref dl] ∧ RowsL H p rs ∧ Valid rs ∧ rs.length ≤ 100 ∧ H vd = some (.dK (kvB' v rs)) ∧ H dl = some (.lst (as.map V.ref)) ∧ DsAt H as ds ∧ VDs rs ds ∧
  ∀ D H', H D = none → Same H H' → H' D = some (.dK (kvB' (doneV rs v ds) rs)) → Q (.ref D) H'
theorem wordsL_in : ∀ x ∈ (["on", "off", "flip", "flip", "flip"] : List Str).map V.str, ∃ z, x = V.str z ∧ z ∈ words3 := by
  intro x hx
  obtain ⟨z, hz, rfl⟩ := List.mem_map.mp hx
  refine ⟨z, rfl, ?_⟩
  simp only [List.mem_cons, List.not_mem_nil, or_false] at hz
  rcases hz with rfl | rfl | rfl | rfl | rfl <;> decide +kernel
section
variable {P : Program} {w : World} {K : PySem.W.Frag} {mg : Str → Option Value} {base : Heap} {C : Addr}
theorem sc_free : FnScope ["_law_stream_here", "_law_many"] ["_law_stream_here", "_law_many"] (defScope s_L_free_rows) := ⟨rfl, rfl, rfl, by decide +kernel, rfl, by decide +kernel, by decide +kernel⟩
theorem ok_free (D : DefAt K mg "_law_free_rows" s_L_free_rows ["_law_stream_here", "_law_many"]) (Dk : DefAt K mg "_law_kinds" s_L_kinds [])
    (Dr : DefAt K mg "_law_rows" s_L_rows ["_law_stream_here", "_law_many", "_law_kinds_here", "_law_prices"]) (Gr : FnOk P w K mg base CX0 5 Dr.f Dr.fd ["_law_stream_here", "_law_many", "_law_kinds_here", "_law_prices"] (spRows K)) : FnOk P w K mg base CX0 6 D.f D.fd ["_law_stream_here", "_law_many"] spFree := by
  have Gk : FnOk P w K mg base CX0 2 Dk.f Dk.fd [] spKinds := ok_kinds Dk
  refine D.F.ok sc_free (fun vs H Q E h => ?_) (fun cdv A outer s H vs Q E hr h => ?_)
  · obtain ⟨a, many, n, rfl, _⟩ := h
    rfl
  · obtain ⟨a, many, n, rfl, hst, hn, m0, m40, hq⟩ := h
    have hr1 : Room 2 _ := hr.mono (by decide)
    refine ⟨_, pss_one (ps_ret (pe_call Gr hr rfl Dr.g Dr.F.kp Dr.b .nil pass0 (pa_cons (pv 0) (pa_cons (pv 1) (pa_cons (pe_call0 Gk hr1 rfl Dk.g Dk.F.kp Dk.b .nil pass0) (pa_cons (pe_lst (pa_cons pe_int (pa_cons pe_int (pa_cons pe_int (pa_cons pe_int pa_nil))))) pa_nil)))))), ?_⟩
    refine ⟨_, rfl, _, rfl, rfl, fun kl hkl => ⟨(by show 4 ≤ sizeLine; decide), fun pl hpl => ?_⟩⟩
    have nka : kl ≠ a := (hst.ne hkl).symm
    have npa : pl ≠ a := ((hst.upd hkl).ne hpl).symm
    have nkp : kl ≠ pl := fun e => by rw [← e, upd_same] at hpl; cases hpl
    have s4 : Same H (upd (upd H kl (.lst (kindsL.map V.str))) pl (.lst (pricesF.map prV))) := (Same.new hkl).trans (Same.new hpl)
    refine ⟨a, kl, pl, many, n, kindsL, pricesF, rfl, hst.same s4, by omega, m0, m40, nka, npa, SqL.of (by rw [upd_ne nkp]; exact upd_same), SqL.of upd_same, by decide, by decide, by decide, by decide, kinds_ok3, pricesF_ok, fun p as rs H5 hp0 np hp hrows hv hl hmem sb5 st5 => ?_⟩
    exact hq p as rs H5 (s4.free hp0) np hp hrows hv hl (fun r hr => pricesF_some _ (hmem r hr).2.1) (fun b o nb e => sb5 b o nb (s4 _ _ e)) st5
abbrev pDone : List Str := ["_law_rows_here", "_law_values", "_law_deeds"]
abbrev nDone : List Str := ["_law_rows_here", "_law_values", "_law_deeds", "_law_found", "_law_word", "_law_place", "_law_box"]
theorem sc_done : FnScope nDone pDone (defScope s_L_done) := ⟨rfl, rfl, rfl, by decide +kernel, rfl, by decide +kernel, by decide +kernel⟩
theorem ok_done (D : DefAt K mg "_law_done" s_L_done pDone) (B : TxB mg) (Dw : DefAt K mg "_law_way" s_L_way ["_law_rows_here", "_law_box"]) : FnOk P w K mg base CX0 3 D.f D.fd pDone spLDone := by
  have Gw : FnOk P w K mg base CX0 2 Dw.f Dw.fd ["_law_rows_here", "_law_box"] spWay := ok_way Dw B
  refine D.F.ok sc_done (fun vs H Q E h => ?_) (fun cdv A outer s H vs Q E hr h => ?_)
  · obtain ⟨p, vd, dl, rs, as, ds, v, rfl, _⟩ := h
    rfl
  · obtain ⟨p, vd, dl, rs, as, ds, v, rfl, hL, hv, hl, hvd, hdl, hds, hok, hq⟩ := h
    have hu := hu_of hr
    refine ⟨_, pss_cons (ps_set (i := 3) sc_done.nd rfl (.inl rfl) (pe_callTy (T := "dict") call_dictD (by rfl) B.dict (by decide +kernel) (pa_cons (pv 1) pa_nil)))
      (pss_cons (ps_for PassesOwn.never rfl (pi_list (pv 2)) (pg_tup rfl (pgs_cons (pg_name (i := 4) sc_done.nd rfl (.inl rfl)) (pgs_cons (pg_name (i := 5) sc_done.nd rfl (.inl rfl)) pgs_nil)))
        (pss_one (ps_for PassesOwn.never rfl (pi_list (pe_callTy (call_list_dK rfl) (by rfl) B.list (by decide +kernel) (pa_cons (pv 1) pa_nil))) (pg_name (i := 6) sc_done.nd rfl (.inl rfl))
          (pss_one (ps_if (pt_weak (PW.pt (pw_or (pt_cmpR op_eq (pv 6) (pv 5) (nomark _)) (pw_or (pt_cmpR op_eq (pv 5) pe_str (nomark _)) (pw_or1 (PW.pt (pw_and (pt_cmpR op_ne (pv 6) pe_str (nomark _)) (pw_and1 (pt_cmpR op_in_seq (pv 5) (pe_call Gw hr rfl Dw.g Dw.F.kp Dw.b .nil pass0 (pa_cons (pv 0) (pa_cons (pv 6) pa_nil))) (by rfl))))))))))
            (pss_one (ps_dput hu (pv 3) (pv 6) (pe_weak (pe_ifExp (pt_cmpR op_ne (pv 4) pe_str (nomark _)) (pe_cmpR op_eq (pv 4) pe_str (nomark _)) (pe_not (pe_dget hu (pv 3) (pv 6) (fun _ _ => rfl))))) rfl)) pss_nil)))))
      (pss_one (ps_ret (pv 3)))), ?_⟩
    have nd := plc_nd hv
    have lpl : (plc rs).length ≤ 101 := by rw [plc_len']; omega
    refine ⟨_, rfl, vd, _, rfl, .inl hvd, fun fd hfd => ?_⟩
    have s1 : Same H (upd H fd (.dK (kvB' v rs))) := Same.new hfd
    have e1 : (upd H fd (.dK (kvB' v rs))) fd = some (.dK (kvB' v rs)) := upd_same
    generalize upd H fd (.dK (kvB' v rs)) = H1 at s1 e1
    refine ⟨_, rfl, dl, rfl, ⟨_, SqL.of (s1 _ _ hdl)⟩, ?_⟩
    refine for_list (K := K) (a := dl) (xs := as.map V.ref) (fun i σ H' => ∃ v4 v5 v6 : Option V, σ = [some (.ref p), some (.ref vd), some (.ref dl), some (.ref fd), v4, v5, v6] ∧ Same H H' ∧ H' fd = some (.dK (kvB' (doneV rs v (ds.take i)) rs))) ⟨_, _, _, rfl, s1, e1⟩ (fun i σ H' _ ⟨_, _, _, _, s, _⟩ => SqL.of (s _ _ hdl)) ?_ ?_
    · rintro i x σ H2 hx ⟨v4, v5, v6, rfl, s2, e2⟩
      obtain ⟨a, d, rfl, ha, hd, he⟩ := hds.get hx
      obtain ⟨hw3, hpl⟩ := hok d (List.mem_of_getElem? hd)
      refine ⟨a, _, rfl, sqT (s2 _ _ he), rfl, _, _, rfl, _, _, rfl, rfl, ?_⟩
      refine ⟨_, rfl, vd, _, rfl, s2 _ _ hvd, fun kl hkl => ?_⟩
      have ek : (kvB' v rs).map (fun kv => kV kv.1) = (plc rs).map V.str := by
        unfold kvB' kvX
        rw [List.map_map]
        rfl
      rw [ek]
      have s3 : Same H2 (upd H2 kl (.lst ((plc rs).map V.str))) := Same.new hkl
      have e3 : (upd H2 kl (.lst ((plc rs).map V.str))) kl = some (.lst ((plc rs).map V.str)) := upd_same
      have n3 : kl ≠ fd := fun e => by rw [e, e2] at hkl; cases hkl
      generalize upd H2 kl (.lst ((plc rs).map V.str)) = H3 at s3 e3
      refine ⟨kl, rfl, ⟨_, SqL.of e3⟩, ?_⟩
      refine for_list (K := K) (a := kl) (xs := (plc rs).map V.str) (fun j σ H' => ∃ v6 : Option V, σ = [some (.ref p), some (.ref vd), some (.ref dl), some (.ref fd), some (.str d.1), some (.str d.2), v6] ∧ SB fd H3 H' ∧ H' fd = some (.dK (kvB' (fun b => if b ∈ (plc rs).take j then doneV rs v (ds.take (i + 1)) b else doneV rs v (ds.take i) b) rs))) ⟨_, rfl, SB.refl _ _, ?_⟩ (fun j σ H' _ ⟨_, _, sb, _⟩ => SqL.of (sb _ _ n3 e3)) ?_ ?_
      · rw [s3 _ _ e2]
        unfold kvB'
        refine congrArg (fun l => some (HO.dK l)) (kvX_congr fun b _ => ?_)
        rw [List.take_zero]
        dsimp only
        rw [if_neg (by simp)]
      · rintro j x σ H4 hx ⟨v6, rfl, sb4, e4⟩
        rw [List.getElem?_map] at hx
        obtain ⟨z, hz, rfl⟩ := Option.map_eq_some_iff.mp hx
        have hzp := List.mem_of_getElem? hz
        have s4 : ∀ b o, b ≠ fd → H b = some o → H4 b = some o := fun b o nb e => sb4 _ _ nb (s3 _ _ (s2 _ _ e))
        have nfd : ∀ {b : Addr} {o : HO}, H b = some o → b ≠ fd := fun {b o} e => ne_of_none e hfd
        have sH4 : Same H H4 := fun b o e => s4 b o (nfd e) e
        have hnot : z ∉ (plc rs).take j := fun hm => by
          obtain ⟨j2, hj2, e⟩ := List.mem_take_iff_getElem.mp hm
          obtain ⟨hi2, e5⟩ := List.getElem?_eq_some_iff.mp hz
          have := (List.getElem_inj nd).mp (e.trans e5.symm)
          omega
        have mem1 : ∀ b, b ∈ (plc rs).take (j + 1) ↔ b ∈ (plc rs).take j ∨ b = z := fun b => by
          rw [take_more hz, List.mem_append, List.mem_singleton]
        have wl := within_law hv (p := d.2) hzp
        have eqS : ∀ x y : Str, decide (V.str x = V.str y) = decide (x = y) := fun x y => decide_eq_decide.mpr ⟨fun h => V.str.inj h, fun h => congrArg _ h⟩
        refine ⟨fun b H' => b = within rs d.2 z ∧ Same H4 H', ?_, ?_⟩
        · refine ⟨_, rfl, _, rfl, rfl, _, rfl, ?_⟩
          rw [eqS]
          refine ite2 (fun c1 => ?_) (fun c1 => ?_)
          · exact ⟨(wl.mpr (.inl (of_decide_eq_true c1))).symm, Same.refl _⟩
          refine ⟨_, rfl, rfl, _, rfl, ?_⟩
          rw [eqS]
          refine ite2 (fun c2 => ?_) (fun c2 => ?_)
          · exact ⟨(wl.mpr (.inr (.inl (of_decide_eq_true c2)))).symm, Same.refl _⟩
          refine ⟨_, rfl, rfl, _, rfl, ?_⟩
          have d1 : ¬ z = d.2 := fun e => c1 (decide_eq_true e)
          have d2 : ¬ d.2 = ("top" : Str) := fun e => c2 (decide_eq_true e)
          rw [eqS]
          refine ite2 (fun c3 => ?_) (fun c3 => ?_)
          · have d3 : z ≠ ("top" : Str) := fun e => by rw [e] at c3; simp at c3
            refine ⟨_, rfl, _, rfl, _, rfl, p, z, rs, rfl, hL.same sH4, hv, hl, mem_plc.mp hzp, fun Dw H5 hDw s5 e5 => ?_⟩
            refine ⟨Dw, _, rfl, .inl (SqL.of e5), rfl, flat_strs _, _, rfl, ?_, s5⟩
            rw [if_neg Bool.false_ne_true, inV_strs]
            refine Bool.eq_iff_iff.mpr ⟨fun h => wl.mpr (.inr (.inr ⟨d3, of_decide_eq_true h⟩)), fun h => ?_⟩
            rcases wl.mp h with e | e | ⟨_, e⟩
            · exact absurd e d1
            · exact absurd e d2
            · exact decide_eq_true e
          · have d3 : z = ("top" : Str) := Classical.byContradiction fun e => c3 (by rw [decide_eq_false e]; rfl)
            refine ⟨?_, Same.refl _⟩
            cases hh : within rs d.2 z with
            | false => rfl
            | true =>
              rcases wl.mp hh with e | e | ⟨e, _⟩
              · exact absurd e d1
              · exact absurd e d2
              · exact absurd d3 e
        rintro b H5 ⟨rfl, s5⟩
        have e5 := s5 _ _ e4
        have dg := DGet.k (k := Sum.inr z) e5
        rw [show valV (kvB' (fun b => if b ∈ (plc rs).take j then doneV rs v (ds.take (i + 1)) b else doneV rs v (ds.take i) b) rs) (.inr z : Key) = some (V.bl (doneV rs v (ds.take i) z)) from by
          unfold kvB'
          rw [valV_kvX _ hzp]
          dsimp only
          rw [if_neg hnot]] at dg
        refine ite2 (fun c => ?_) (fun c => ?_)
        · refine ⟨fun x H' => x = .bl (doneV rs v (ds.take (i + 1)) z) ∧ H' = H5, ?_, ?_⟩
          · have step : doneV rs v (ds.take (i + 1)) z = if d.1 = "flip" then !(doneV rs v (ds.take i) z) else decide (d.1 = "on") := by
              rw [take_more hd, doneV_snoc]
              unfold stepV
              rw [if_pos c]
            refine ⟨_, rfl, rfl, _, rfl, ?_⟩
            rw [eqS]
            refine ite2 (fun cf => ?_) (fun cf => ?_)
            · have hf : ¬ d.1 = ("flip" : Str) := fun e => by rw [e] at cf; simp at cf
              refine ⟨_, rfl, rfl, ?_, rfl⟩
              rw [eqS, step, if_neg hf]
            · have hf : d.1 = ("flip" : Str) := Classical.byContradiction fun e => cf (by rw [decide_eq_false e]; rfl)
              refine ⟨_, rfl, _, rfl, fd, _, rfl, dg, _, rfl, ?_, rfl⟩
              rw [step, if_pos hf]
          rintro x H6 ⟨rfl, rfl⟩
          refine ⟨_, rfl, _, rfl, fd, _, rfl, DPut.k (k := Sum.inr z) e5 (small1000 (by unfold kvB'; rw [kvX_len]; omega)), ?_⟩
          refine ⟨_, rfl, fun b o nb e => by rw [upd_ne nb]; exact s5 _ _ (sb4 b o nb e), ?_⟩
          rw [upd_same]
          unfold kvB'
          rw [kvX_put hzp]
          refine congrArg (fun l => some (HO.dK l)) (kvX_congr fun b _ => ?_)
          dsimp only
          by_cases eb : b = z
          · subst eb
            rw [if_pos rfl, if_pos ((mem1 b).mpr (.inr rfl))]
          · rw [if_neg eb]
            by_cases ej : b ∈ (plc rs).take j
            · rw [if_pos ej, if_pos ((mem1 b).mpr (.inl ej))]
            · rw [if_neg ej, if_neg (fun h => ((mem1 b).mp h).elim ej eb)]
        · refine ⟨_, rfl, fun b o nb e => s5 _ _ (sb4 _ _ nb e), ?_⟩
          rw [e5]
          unfold kvB'
          refine congrArg (fun l => some (HO.dK l)) (kvX_congr fun b _ => ?_)
          dsimp only
          by_cases eb : b = z
          · subst eb
            rw [if_neg hnot, if_pos ((mem1 b).mpr (.inr rfl)), take_more hd, doneV_snoc]
            unfold stepV
            rw [if_neg c]
          · by_cases ej : b ∈ (plc rs).take j
            · rw [if_pos ej, if_pos ((mem1 b).mpr (.inl ej))]
            · rw [if_neg ej, if_neg (fun h => ((mem1 b).mp h).elim ej eb)]
      · rintro σ H4 ⟨v6, rfl, sb4, e4⟩
        rw [List.length_map, List.take_length] at e4
        refine ⟨_, _, _, rfl, fun b o e => sb4 _ _ (ne_of_none e hfd) (s3 _ _ (s2 _ _ e)), ?_⟩
        rw [e4]
        unfold kvB'
        refine congrArg (fun l => some (HO.dK l)) (kvX_congr fun b hb => ?_)
        dsimp only
        rw [if_pos hb]
    · rintro σ H2 ⟨v4, v5, v6, rfl, s2, e2⟩
      rw [List.length_map, hds.len, List.take_length] at e2
      exact ⟨_, rfl, hq fd H2 hfd s2 e2⟩
end
end Ts

set_option maxRecDepth 100000
set_option maxHeartbeats 4000000
namespace Ts
open PySem L2
theorem merge_kvX (f : Str → V) {l : List Str} (nd : l.Nodup) : ∀ n, n ≤ l.length → mergeK [] (kvX f (l.take n)) = kvX f (l.take n) := by
  intro n
  induction n with
  | zero => intro _; rfl
  | succ n ih =>
    intro hn
    have hr : l[n]? = some l[n] := List.getElem?_eq_getElem (by omega)
    have e : kvX f (l.take (n + 1)) = kvX f (l.take n) ++ [(.inr l[n], f l[n])] := by
      rw [take_more hr]; unfold kvX; rw [List.map_append]; rfl
    rw [e]
    unfold mergeK
    rw [List.foldl_append]
    have ih' := ih (by omega)
    unfold mergeK at ih'
    rw [ih']
    show putK (kvX f (l.take n)) (.inr l[n]) (f l[n]) = _
    rw [kvX_more nd f hr, e]
theorem merge_allX (f : Str → V) {l : List Str} (nd : l.Nodup) : mergeK [] (kvX f l) = kvX f l := by
  have := merge_kvX f nd l.length (Nat.le_refl _)
  rw [List.take_length] at this
  exact this
def rDictP (K : PySem.W.Frag) : List V → Hp → VK → Prop := fun xs H Q => ∃ (a : Addr) (ps : List Addr) (kvs : List (Key × V)), xs = [V.ref a] ∧ SqL K H a (ps.map V.ref) ∧ Paired (fun p (kv : Key × V) => SqT K H p [kV kv.1, kv.2]) ps kvs ∧ ∀ p, H p = none → Q (V.ref p) (upd H p (.dK (mergeK [] kvs)))
end Ts

set_option maxRecDepth 100000
set_option maxHeartbeats 1000000
namespace Ts
open PySem L2
/-! ### a written dict whose keys are tuples of truths -/
abbrev tkB (P : Program) (w : World) : HeapKind P w (List Leaf) := tupleKind (leafKind P w)
def keyB (bs : List Bool) : List Leaf := bs.map fun b => Leaf.num (if b = true then 1 else 0)
/-- an entry: the key's truths, the key's place, the word -/
abbrev EnB := List Bool × Addr × Str
def PairB : List (List Leaf × Addr × Value) → List EnB → Prop := Paired fun x y => x.1 = keyB y.1 ∧ x.2.1 = y.2.1 ∧ RelV (.str y.2.2) x.2.2
structure NamesO (P : Program) (w : World) (o : Obj) (l : List EnB) : Prop where
  ex : Obj.ExactDict o
  da : ∃ (es : Array DictEntry) (ep : Nat) (xs : List (List Leaf × Addr × Value)), o.data = .dict es ep ∧ es.toList = xs.map (entryOfKey (tkB P w)) ∧ PairB xs l
  nd : (l.map fun y => keyB y.1).Nodup
def extB (p : Addr) (o : Obj) : HO := .ext fun h => h.get? p = some o
theorem pairB_keys : ∀ {xs : List (List Leaf × Addr × Value)} {l : List EnB}, PairB xs l → xs.map (fun x => x.1) = l.map fun y => keyB y.1
  | _, _, .nil => rfl
  | _, _, .cons h t => by rw [List.map_cons, List.map_cons, h.1, pairB_keys t]
theorem tup_key {P : Program} {w : World} {H : Hp} {h : Heap} {a : Addr} {bs : List Bool} (ok : HOk P w H h) (e : H a = some (.tup (bs.map V.bl))) : (tkB P w).is h (keyB bs) a := by
  have := ok a _ e
  unfold ObjOk at this
  obtain ⟨_, its, hv, o, ho, hc, n, hd⟩ := this
  refine ⟨o, its.toArray, n, ho, hc, hd, ?_⟩
  clear e ho hd hc
  have key : ∀ (bs : List Bool) (its : List Value), Vals (bs.map V.bl) its → ItemsAre (leafKind P w) (keyB bs) its := by
    intro bs
    induction bs with
    | nil => intro its hv; cases hv; exact .nil
    | cons b bs ih =>
      intro its hv
      cases hv with
      | cons r t =>
        cases r
        refine .cons ?_ (ih _ t)
        show decide ((if b = true then (1 : Int) else 0) = if b = true then 1 else 0) = true
        exact decide_eq_true rfl
  exact key bs its hv
theorem carriesB {P : Program} {w : World} {H : Hp} {h : Heap} (ok : HOk P w H h) : ∀ {l : List EnB} {ws : List (Value × Value)}, VV (l.map fun y => (V.ref y.2.1, V.str y.2.2)) ws → (∀ y ∈ l, H y.2.1 = some (.tup (y.1.map V.bl))) → ∃ xs, CarriesH (tkB P w) h ws xs ∧ PairB xs l
  | [], ws, r, _ => by
    cases r
    exact ⟨[], trivial, .nil⟩
  | y :: l, ws, r, hk => by
    cases r with
    | cons r t =>
      obtain ⟨xs, c, p⟩ := carriesB ok t fun z hz => hk z (List.mem_cons_of_mem _ hz)
      refine ⟨(keyB y.1, y.2.1, _) :: xs, ⟨r.1, rfl, tup_key ok (hk y (List.mem_cons_self ..)), c⟩, .cons ⟨rfl, rfl, r.2⟩ p⟩
theorem storedAll_new : ∀ (xs acc : List (List Leaf × Addr × Value)), ((acc ++ xs).map fun x => x.1).Nodup → storedAllH acc xs = acc ++ xs
  | [], acc, _ => (List.append_nil acc).symm
  | x :: xs, acc, nd => by
    have h1 : storedH acc x.1 x.2.1 x.2.2 = acc ++ [x] := by
      unfold storedH
      rw [if_neg]
      · unfold atKey
        intro h
        rw [Option.isSome_map, List.find?_isSome] at h
        obtain ⟨y, hy, e⟩ := h
        rw [List.map_append, List.map_cons] at nd
        have := List.nodup_append.mp nd
        exact this.2.2 y.1 (List.mem_map.mpr ⟨y, hy, rfl⟩) x.1 (List.mem_cons_self ..) (of_decide_eq_true e)
    show storedAllH (storedH acc x.1 x.2.1 x.2.2) xs = _
    rw [h1, storedAll_new xs (acc ++ [x]) (by rw [List.append_assoc]; exact nd), List.append_assoc]
    rfl
def tDispB (P : Program) (w : World) (trs : List (TE × TE)) : TE := fun σ H Q => ∀ p : Addr, H p = none → tPairs trs σ (upd H p (.dK [])) fun ps H2 => H2 p = some (.dK []) ∧ ∃ l : List EnB, ps = l.map (fun y => (V.ref y.2.1, V.str y.2.2)) ∧ (∀ y ∈ l, H2 y.2.1 = some (.tup (y.1.map V.bl))) ∧ (l.map fun y => keyB y.1).Nodup ∧
  ∀ o, (p == sysModules) = false → NamesO P w o l → Q (.ref p) (upd H2 p (extB p o))
theorem pe_dispB {X : Cx} {pos : Pos} {keys : List (Option Expr)} {values : List Expr} {trs : List (TE × TE)} (hu : X.A.units < cLine) (h : PPs X pos keys values trs) (hall : (keys.all fun x => x.isSome) = true) (hl : keys.length = values.length) (h0 : keys ≠ []) (h15 : keys.length ≤ 15) : PE X (.Dict keys values pos) (tDispB X.prog X.w trs) := ⟨fun pins s σ H Q I q => by
  have hn := HOk.fresh I.hok (Nat.le_refl s.heap.objs.size)
  have I1 := Inv.laid (t' := s.toks) I (fun x x1 q => Heap.get?_push_of_some { cls := Value.type "dict", data := Data.dict #[] } q) (Nat.le_refl s.heap.objs.size) (dk_empty s.heap (Inv.big I))
  have hlen := pairTrees_length keys values X.env pos hall hl
  have hne : pairTrees keys values X.env pos ≠ [] := fun e => h0 (by
    rw [e] at hlen
    exact List.length_eq_zero_iff.mp hlen.symm)
  rw [arm_eval_Dict, zip_pairTrees keys values X.env pos hall hl, dictDisplay_pairs _ hne (by omega)]
  refine wpAny_bind (wpAny_standAt (wpAny_bind (wpAny_subDictH (knd := tkB X.prog X.w) hu (by omega) ?_)))
  refine thn (h.run pins _ σ _ _ I1 (q _ hn)) fun ws s2 ⟨ps, H2, I2, rel, e2, l, ep, hk, nd, q2⟩ => ?_
  subst ep
  obtain ⟨xs, c, pr⟩ := carriesB I2.hok rel hk
  obtain ⟨_, hd, vs0, r0, dd⟩ := dk_of I2.hok e2
  cases r0
  obtain ⟨o0, es0, ep0, z1, z2, z3, z4, z5⟩ := dd
  refine ⟨xs, c, ⟨o0, es0, ep0, z1, z2, z3, ?_, fun x hx => absurd hx List.not_mem_nil, List.nodup_nil⟩, fun h' tk dd' hs => wpAny_pure ?_⟩
  · cases hh : es0.toList with
    | nil => rfl
    | cons a b =>
      rw [hh] at z5
      exact absurd z5.1 (by intro z; cases z)
  rw [storedAll_new xs [] (by rw [List.nil_append, pairB_keys pr]; exact nd), List.nil_append] at dd'
  obtain ⟨o, es, ep, y1, y2, y3, y4, y5, y6⟩ := dd'
  have no : NamesO X.prog X.w o l := ⟨y2, ⟨es, ep, xs, y3, y4, pr⟩, nd⟩
  refine ⟨V.ref s.heap.objs.size, _, d_write I2 (by rw [e2]; trivial) hs ⟨o, y1⟩ ?_, rfl, q2 o hd no⟩
  unfold extB ObjOk
  exact ⟨y1, ⟨o, y1⟩, fun h1 h2 e k => k _ e⟩⟩
theorem valB : ∀ {xs : List (List Leaf × Addr × Value)} {l : List EnB}, PairB xs l → ∀ (k : List Leaf) (z : V) (r : Value), RelV z r → RelV (((l.find? fun y => decide (keyB y.1 = k)).map fun y => V.str y.2.2).getD z) ((valueAt (pairsH xs) k).getD r)
  | _, _, .nil, k, z, r, rz => rz
  | x :: xs, y :: l, .cons h t, k, z, r, rz => by
    have ih := valB t k z r rz
    unfold valueAt pairsH at ih ⊢
    rw [List.map_cons, List.find?_cons, List.find?_cons]
    dsimp only
    rw [h.1]
    by_cases e : keyB y.1 = k
    · rw [decide_eq_true e]
      exact h.2.2
    · rw [decide_eq_false e]
      exact ih
def tDGetB (P : Program) (w : World) (td ty tx : TE) : TE := fun σ H Q => td σ H fun x H1 => ∃ (p : Addr) (o : Obj) (l : List EnB), x = .ref p ∧ H1 p = some (extB p o) ∧ (p == sysModules) = false ∧ NamesO P w o l ∧ ty σ H1 fun y H2 => tx σ H2 fun z H3 => ∃ (a : Addr) (bs : List Bool), y = .ref a ∧ H3 a = some (.tup (bs.map V.bl)) ∧ H3 p = some (extB p o) ∧ (∀ y ∈ l, H3 y.2.1 = some (.tup (y.1.map V.bl))) ∧
  Q (((l.find? fun y => decide (keyB y.1 = keyB bs)).map fun y => V.str y.2.2).getD z) H3
theorem ext_at {P : Program} {w : World} {H : Hp} {h : Heap} {p : Addr} {o : Obj} (ok : HOk P w H h) (e : H p = some (extB p o)) : h.get? p = some o := by
  have := ok p _ e
  unfold extB ObjOk at this
  exact this.1
theorem paired_all {xs : List (List Leaf × Addr × Value)} {l : List EnB} (p : PairB xs l) : ∀ x ∈ xs, ∃ y ∈ l, x.1 = keyB y.1 ∧ x.2.1 = y.2.1 := by
  induction p with
  | nil => intro x hx; cases hx
  | cons h t ih =>
    intro x hx
    rcases List.mem_cons.mp hx with rfl | hx
    · exact ⟨_, List.mem_cons_self .., h.1, h.2.1⟩
    · obtain ⟨y, hy, e⟩ := ih x hx
      exact ⟨y, List.mem_cons_of_mem _ hy, e⟩
theorem pe_dgetB {X : Cx} {o e f : Expr} {apos cpos : Pos} {td ty tx : TE} (hu : X.A.units + 1 < cLine) (ho : PE X o td) (he : PE X e ty) (hf : PE X f tx) (m : M2 X o "get" apos e f cpos) : PE X (.Call (.Attribute o "get" apos) [e, f] [] cpos) (tDGetB X.prog X.w td ty tx) := ⟨fun pins s σ H Q I h => by
  refine wpAny_Call_method m.base m.few m.line F.plainAttrs_dict F.slot_dict_get F.type_dict_get ?_
  refine thn (ho.run pins s σ H _ I h) fun u s1 ⟨x, H1, I1, rx, p, ob, l, ex, hp, hsys, no, q1⟩ => ?_
  subst ex
  cases rx
  have h1 := ext_at I1.hok hp
  refine ⟨⟨ob, h1, no.ex.1⟩, fun b q => ?_, ?_⟩
  · cases q
    exact ⟨ob, h1, no.ex.2.1⟩
  rw [m.trees]
  refine Calls.callWith_builtin rfl (Calls.evalArgs_plain (Calls.spliced_cons ?_))
  refine thn (he.run pins s1 σ H1 _ I1 q1) fun iv s2 ⟨y, H2, I2, ry, q2⟩ => ?_
  refine Calls.spliced_cons ?_
  refine thn (hf.run pins s2 σ H2 _ I2 q2) fun fv s3 ⟨z, H3, I3, rz, a, bs, ey, ha, hp3, hk, q3⟩ => ?_
  refine Calls.spliced_nil ?_
  subst ey
  cases ry
  have h3 := ext_at I3.hok hp3
  obtain ⟨es, ep, xs, d1, d2, d3⟩ := no.da
  have dk : Heap.DictKeyed (tkB X.prog X.w) s3.heap p (pairsH xs) := Heap.DictKeyed.ofEntries xs h3 no.ex d1 d2 (fun x hx => by
    obtain ⟨y, hy, e1, e2⟩ := paired_all d3 x hx
    rw [e1, e2]
    exact tup_key I3.hok (hk y hy)) (by rw [pairB_keys d3]; exact no.nd)
  refine getOr_keyed (knd := tkB X.prog X.w) (tupleKind_room_in1 hu) (tup_key I3.hok ha) hsys dk ?_
  exact ⟨_, H3, Inv.tok I3 _, valB d3 (keyB bs) z fv rz, q3⟩⟩
end Ts

set_option maxRecDepth 100000
set_option maxHeartbeats 4000000
namespace Ts
open PySem L2
theorem wipe_set1 (σ : St) (j : Nat) (v : Option V) : wipe ((wipe σ [j]).set j v) [j] = wipe σ [j] := by
  simp [wipe, List.set_set]
/-- the top and the names of rows -/
theorem rd_places {K : PySem.W.Frag} {σ : St} {H : Hp} {Q : VK} {jr jo : Nat} {p : Addr} {rs : List Row} (hj : σ[jr]? = some (some (.ref p))) (ho : jo < σ.length) (hL : RowsL H p rs) (hl : rs.length ≤ 100)
    (k : ∀ D H', H D = none → Same H H' → H' D = some (.lst ((plc rs).map V.str)) → Q (.ref D) H') : tOp rCat (tLst (tCons (tC (.str ("top" : Str))) tNil)) (tLc (iList K (tVar jr)) (gName jo) tYes (tOp (rIxT K) (tVar jo) (tC (.int 0))) [jo]) σ H Q := by
  obtain ⟨ras, hp, hrows⟩ := id hL.ex
  refine ⟨(by show 1 ≤ sizeLine; decide), fun l1 hl1 => ?_⟩
  have s1 : Same H (upd H l1 (.lst [V.str ("top" : Str)])) := Same.new hl1
  have e1 : (upd H l1 (.lst [V.str ("top" : Str)])) l1 = some (.lst [V.str ("top" : Str)]) := upd_same
  generalize upd H l1 (.lst [V.str ("top" : Str)]) = H1 at s1 e1
  refine ⟨_, hj, p, rfl, ⟨_, SqL.of (s1 _ _ hp)⟩, fun D2 hD2 => ?_⟩
  have so : jo < (wipe σ [jo]).length := by rw [wipe_length]; exact ho
  refine lc_list (K := K) (a := p) (xs := ras.map V.ref) (fun i H' => Same H1 H' ∧ H' D2 = some (.lst ((names (rs.take i)).map V.str))) ⟨Same.new hD2, upd_same⟩ (fun i H' _ m => m.1.seq (SqL.of (s1 _ _ hp))) ?_ ?_
  · rintro i x H3 hx ⟨s3, hD3⟩
    rw [List.getElem?_map] at hx
    obtain ⟨ra, hra, rfl⟩ := Option.map_eq_some_iff.mp hx
    obtain ⟨r, hr'⟩ : ∃ r, rs[i]? = some r := ⟨rs[i]'(by rw [← hrows.len]; exact (List.getElem?_eq_some_iff.mp hra).1), List.getElem?_eq_getElem _⟩
    have e0 := (s1.trans s3) _ _ (hrows.at_ i ra r hra hr')
    refine ⟨wipe_set1 _ _ _, tYes_if ⟨_, List.getElem?_set_self so, ra, _, _, _, rfl, rfl, sqT e0, atI0 _ _ _ _, _, hD3, small1000 (by unfold names; rw [List.length_map, List.length_map, List.length_take]; omega), fun b o eb => ?_, ?_⟩⟩
    · rw [upd_ne (fun y => by rw [y, hD2] at eb; cases eb)]
      exact s3 _ _ eb
    · rw [upd_same, take_more hr']
      unfold names
      rw [List.map_append, List.map_append]; rfl
  rintro H3 ⟨s3, hD3⟩
  rw [List.length_map, hrows.len, List.take_length] at hD3
  refine ⟨l1, D2, _, _, rfl, rfl, s3 _ _ e1, hD3, szl (by unfold names; rw [List.length_map, List.length_map]; show 1 + _ ≤ 1000; omega), fun pl hpl => ?_⟩
  have s4 : Same H (upd H3 pl (.lst ([V.str ("top" : Str)] ++ (names rs).map V.str))) := (s1.trans s3).trans (Same.new hpl)
  exact k pl _ ((s1.trans s3).free hpl) s4 upd_same
/-- a dict made of pairs of a list of texts and what is told of each -/
theorem rd_dict {K : PySem.W.Frag} {σ : St} {H : Hp} {Q : VK} {te tv : TE} {jo : Nat} {l : List Str} {f : Str → V} (ho : jo < σ.length) (nd : l.Nodup) (ll : l.length ≤ 200)
    (rl : ∀ R : VK, (∀ pl H1, Same H H1 → H1 pl = some (.lst (l.map V.str)) → R (.ref pl) H1) → te σ H R)
    (htv : ∀ z ∈ l, ∀ H1, Same H H1 → ∀ Q' : VK, (∀ H2, Same H1 H2 → Q' (f z) H2) → tv ((wipe σ [jo]).set jo (some (.str z))) H1 Q')
    (k : ∀ D H', H D = none → Same H H' → H' D = some (.dK (kvX f l)) → Q (.ref D) H') : tCB (rDictP K) (tCons (tLc (iList K te) (gName jo) tYes (tTup (tCons (tVar jo) (tCons tv tNil))) [jo]) tNil) σ H Q := by
  refine rl _ fun pl H1 s1 e1 => ?_
  refine ⟨pl, rfl, ⟨_, SqL.of e1⟩, fun D7 hD7 => ?_⟩
  have so : jo < (wipe σ [jo]).length := by rw [wipe_length]; exact ho
  refine lc_list (K := K) (a := pl) (xs := l.map V.str) (fun j H' => Same H1 H' ∧ ∃ ps : List Addr, H' D7 = some (.lst (ps.map V.ref)) ∧ Paired (fun q (kv : Key × V) => SqT K H' q [kV kv.1, kv.2]) ps (kvX f (l.take j))) ⟨Same.new hD7, [], upd_same, .nil⟩ (fun j H' _ m => m.1.seq (SqL.of e1)) ?_ ?_
  · rintro j y H8 hy ⟨s8, ps, e8, pr⟩
    rw [List.getElem?_map] at hy
    obtain ⟨z, hz, rfl⟩ := Option.map_eq_some_iff.mp hy
    have plen := pr.length
    rw [kvX_len, List.length_take] at plen
    refine ⟨wipe_set1 _ _ _, tYes_if ⟨_, List.getElem?_set_self so, htv z (List.mem_of_getElem? hz) H8 (s1.trans s8) _ fun H9 s9 => ⟨(by show 2 ≤ sizeLine; decide), fun t ht => ?_⟩⟩⟩
    have e9 := s9 _ _ e8
    have nDt : D7 ≠ t := ne_of_none e9 ht
    refine ⟨ps.map V.ref, by rw [upd_ne nDt]; exact e9, small1000 (by rw [List.length_map, plen]; omega), fun b o eb => ?_, ps ++ [t], by rw [upd_same, List.map_append]; rfl, ?_⟩
    · rw [upd_ne (fun y => by rw [y, hD7] at eb; cases eb), upd_ne (ne_of_none (s9 _ _ (s8 _ _ eb)) ht)]
      exact s9 _ _ (s8 _ _ eb)
    · have ek : kvX f (l.take (j + 1)) = kvX f (l.take j) ++ [(.inr z, f z)] := by
        rw [take_more hz]; unfold kvX; rw [List.map_append]; rfl
      rw [ek]
      have keep : ∀ {b : Addr} {xs : List V}, SqT K H8 b xs → SqT K (upd (upd H9 t (.tup [V.str z, f z])) D7 (.lst (ps.map V.ref ++ [V.ref t]))) b xs := fun {b xs} h => by
        rcases h with (h | ⟨o, h⟩) | h
        · exact .inl (.inl (by rw [upd_ne (fun y => by rw [y, e8] at h; cases h), upd_ne (ne_of_none (s9 _ _ h) ht)]; exact s9 _ _ h))
        · exact .inl (.inr ⟨o, by rw [upd_ne (fun y => by rw [y, e8] at h; cases h), upd_ne (ne_of_none (s9 _ _ h) ht)]; exact s9 _ _ h⟩)
        · exact .inr h
      exact (pr.mono fun _ _ h => keep h).snoc (sqT (by rw [upd_ne nDt.symm]; exact upd_same))
  rintro H8 ⟨s8, ps, e8, pr⟩
  rw [List.length_map, List.take_length] at pr
  refine ⟨D7, ps, _, rfl, SqL.of e8, pr, fun vd hvd => ?_⟩
  rw [merge_allX _ nd]
  exact k vd _ ((s1.trans s8).free hvd) ((s1.trans s8).trans (Same.new hvd)) upd_same
end Ts

set_option maxRecDepth 100000
set_option maxHeartbeats 4000000
namespace Ts
open PySem L2
def spLEnt : Sp := fun vs H Q _ => ∃ (p d : Addr) (rs : List Row) (f : Str → Str), vs = [.ref p, .ref d] ∧ RowsL H p rs ∧ Valid rs ∧ rs.length ≤ 90 ∧ H d = some (.dK (kvS f (plc rs))) ∧ ∀ H', Same H H' → Q (.int (entL rs f).length) H'
theorem ent_len {rs : List Row} (hv : Valid rs) (f : Str → Str) : (entL rs f).length = un (f "top") "keep" + ((rs.filter fun r => decide (f r.nm ≠ f r.fo))).length := by
  have e : ∀ (S : List Row), (∀ r ∈ S, r ∈ rs) → ((names S).filter fun z => decide (f z ≠ arF rs f z)).length = (S.filter fun r => decide (f r.nm ≠ f r.fo)).length := by
    intro S
    induction S with
    | nil => intro _; rfl
    | cons r S ih =>
      intro hS
      have hr := hS r (List.mem_cons_self ..)
      have ih' := ih fun q hq => hS q (List.mem_cons_of_mem _ hq)
      obtain ⟨i, hi, er⟩ := List.mem_iff_getElem.mp hr
      have ro : rowOf rs r.nm = some r := rowOf_at hv (by rw [← er]; exact List.getElem?_eq_getElem hi)
      have nt : r.nm ≠ ("top" : Str) := fun y => top_not hv (by rw [← y]; exact List.mem_map.mpr ⟨r, hr, rfl⟩)
      show ((r.nm :: names S).filter _).length = _
      by_cases c : f r.nm = f r.fo
      · rw [List.filter_cons_of_neg (by rw [arF_row nt ro]; simp [c]), List.filter_cons_of_neg (by simp [c]), ih']
      · rw [List.filter_cons_of_pos (by rw [arF_row nt ro]; simp [c]), List.filter_cons_of_pos (by simp [c]), List.length_cons, List.length_cons, ih']
  have e1 := e rs fun _ h => h
  unfold entL
  rw [← e1]
  show ((("top" : Str) :: names rs).filter _).length = _
  unfold un
  by_cases c : f "top" = "keep"
  · rw [List.filter_cons_of_neg (by rw [arF_top]; simp [c]), if_pos c, Nat.zero_add]
  · rw [List.filter_cons_of_pos (by rw [arF_top]; simp [c]), if_neg c, List.length_cons, Nat.add_comm]
section
variable {P : Program} {w : World} {K : PySem.W.Frag} {mg : Str → Option Value} {base : Heap} {C : Addr}
abbrev nLEnt : List Str := ["_law_rows_here", "_law_maps", "_law_row"]
theorem sc_LEnt : FnScope nLEnt ["_law_rows_here", "_law_maps"] (defScope s_L_entries) := ⟨rfl, rfl, rfl, by decide +kernel, rfl, by decide +kernel, by decide +kernel⟩
theorem ok_LEnt (D : DefAt K mg "_law_entries" s_L_entries ["_law_rows_here", "_law_maps"]) (B : TxB mg) : FnOk P w K mg base CX0 2 D.f D.fd ["_law_rows_here", "_law_maps"] spLEnt := by
  refine D.F.ok sc_LEnt (fun vs H Q E h => ?_) (fun cdv A outer s H vs Q E hr h => ?_)
  · obtain ⟨p, d, rs, f, rfl, _⟩ := h
    rfl
  · obtain ⟨p, d, rs, f, rfl, hL, hv, hl, hd, hq⟩ := h
    obtain ⟨ras, hp, hrows⟩ := id hL.ex
    have hu := hu_of hr
    refine ⟨_, pss_one (ps_ret (pe_op op_add (pe_callTy (T := "int") call_int1 (by rfl) B.int (by decide +kernel) (pa_cons (pe_cmpR op_ne (pe_dget hu (pv 1) pe_str (fun _ _ => rfl)) pe_str (nomark _)) pa_nil))
      (pe_callB call_len_seq (by rfl) B.len PySem.boot_len (pa_cons (pe_lc (own := [("_law_row", 2)]) (g := gName 2) (tt := tTest (tOp rNe (tDGet (tVar 1) (tOp (rIxT K) (tVar 2) (tC (.int 0)))) (tDGet (tVar 1) (tOp (rIxT K) (tVar 2) (tC (.int 1)))))) (te := tVar 2) rfl sc_LEnt.nd (pi_list (pv 0)) (blkOk_by (N := nLEnt) (sc := defScope s_L_entries) (by decide +kernel))
        (fun _ _ _ _ _ => pg_name (i := 2) sc_LEnt.nd rfl (Or.inl rfl)) (fun _ _ _ _ _ => by exact pts_one (pt_cmpR op_ne (pe_dget hu (pv 1) (pe_ix ix_tup (pv 2) pe_int (fun _ _ => rfl)) (fun _ _ => rfl)) (pe_dget hu (pv 1) (pe_ix ix_tup (pv 2) pe_int (fun _ _ => rfl)) (fun _ _ => rfl)) (nomark _))) (fun _ _ _ _ _ => pv 2)) pa_nil)))), ?_⟩
    have dg : ∀ {H' : Hp} {z : Str}, H' d = some (.dK (kvS f (plc rs))) → z ∈ plc rs → DGet H' d (.str z) (some (.str (f z))) := fun {H' z} e hz => .inl ⟨_, .inr z, .inl e, rfl, (valV_kvX (fun z => V.str (f z)) hz).symm⟩
    refine ⟨_, rfl, d, _, rfl, dg hd (mem_plc.mpr (.inl rfl)), rfl, .inr ⟨_, rfl, _, rfl, p, rfl, ⟨_, SqL.of hp⟩, fun D2 hD2 => ?_⟩⟩
    refine lc_list (K := K) (a := p) (xs := ras.map V.ref) (fun i H' => Same H H' ∧ ∃ xs : List V, H' D2 = some (.lst xs) ∧ xs.length = ((rs.take i).filter fun r => decide (f r.nm ≠ f r.fo)).length) ⟨Same.new hD2, [], upd_same, rfl⟩ (fun i H' _ m => m.1.seq (SqL.of hp)) ?_ ?_
    · rintro i x H3 hx ⟨s3, xs, hD3, hlen⟩
      obtain ⟨ra, r, rfl, hra, hr', e0⟩ := rows_at hrows hx
      have hrm := List.mem_of_getElem? hr'
      have hnm : r.nm ∈ plc rs := mem_plc.mpr (.inr (List.mem_map.mpr ⟨r, hrm, rfl⟩))
      have hfo : r.fo ∈ plc rs := mem_plc.mpr (hv.foAll hrm)
      have ek : ((rs.take (i + 1)).filter fun r => decide (f r.nm ≠ f r.fo)).length = ((rs.take i).filter fun r => decide (f r.nm ≠ f r.fo)).length + (if f r.nm = f r.fo then 0 else 1) := by
        rw [take_more hr', List.filter_append, List.length_append]
        by_cases c : f r.nm = f r.fo
        · rw [List.filter_cons_of_neg (by simp [c]), if_pos c]; rfl
        · rw [List.filter_cons_of_pos (by simp [c]), if_neg c]; rfl
      have szD : xs.length < sizeLine := small1000 (by
        have := List.length_filter_le (fun r : Row => decide (f r.nm ≠ f r.fo)) (rs.take i)
        rw [List.length_take] at this
        omega)
      refine ⟨rfl, _, rfl, _, rfl, ra, _, _, _, rfl, rfl, sqT (s3 _ _ e0), atI0 _ _ _ _, d, _, rfl, dg (s3 _ _ hd) hnm, _, rfl, _, rfl, ra, _, _, _, rfl, rfl, sqT (s3 _ _ e0), atI1 _ _ _ _, d, _, rfl, dg (s3 _ _ hd) hfo, rfl, _, rfl, ?_⟩
      refine ite2 (fun c => ?_) (fun c => ?_)
      · have c' : f r.nm ≠ f r.fo := fun e => by
          rw [e] at c; simp at c
        refine ⟨_, rfl, xs, hD3, szD, fun b o eb => ?_, xs ++ [.ref ra], upd_same, by rw [ek, if_neg c', List.length_append, hlen]; rfl⟩
        rw [upd_ne (fun y => by rw [y, hD2] at eb; cases eb)]
        exact s3 _ _ eb
      · have c' : f r.nm = f r.fo := Classical.byContradiction fun q => c (by
          show (!decide (V.str (f r.nm) = V.str (f r.fo))) = true
          rw [decide_eq_false fun e => q (V.str.inj e)]; rfl)
        exact ⟨s3, xs, hD3, by rw [ek, if_pos c', hlen]; rfl⟩
    rintro H3 ⟨s3, xs, hD3, hlen⟩
    rw [List.length_map, hrows.len, List.take_length] at hlen
    refine ⟨D2, _, rfl, .inl (SqL.of hD3), _, _, rfl, rfl, ?_⟩
    have fin := hq H3 s3
    rw [ent_len hv f] at fin
    have e : (if (!decide (V.str (f "top") = V.str ("keep" : Str))) = true then (1 : Int) else 0) + (xs.length : Int) = ((un (f "top") "keep" + (rs.filter fun r => decide (f r.nm ≠ f r.fo)).length : Nat) : Int) := by
      rw [hlen]
      unfold un
      by_cases c : f "top" = "keep"
      · rw [if_pos c, c, if_neg (by simp)]; push_cast; rfl
      · rw [if_neg c, if_pos (by simp [c])]; push_cast; rfl
    rw [← e] at fin
    exact fin
end
end Ts

set_option maxRecDepth 100000
set_option maxHeartbeats 4000000
namespace Ts
open PySem L2
def spLShort : Sp := fun vs H Q _ => ∃ (p a b : Addr) (many : Int) (rs : List Row) (v w : Str → Bool), vs = [.ref p, .ref a, .ref b, .int many] ∧ RowsL H p rs ∧ Valid rs ∧ rs.length ≤ 12 ∧ H a = some (.dK (kvG rs v)) ∧ H b = some (.dK (kvG rs w)) ∧ 0 ≤ many ∧ many ≤ 2 ∧ many < ((entL rs (fewF (softF rs v w) (hardF w) rs)).length : Int) ∧ ∀ H', Same H H' → Q (.bl false) H'
def allD (rs : List Row) : List De := words3.flatMap fun w => (plc rs).map fun z => (w, z)
theorem allD_mem {rs : List Row} : ∀ d ∈ allD rs, d.1 ∈ words3 ∧ d.2 ∈ plc rs := fun d hd => by
  unfold allD at hd
  obtain ⟨w, hw, hd⟩ := List.mem_flatMap.mp hd
  obtain ⟨z, hz, rfl⟩ := List.mem_map.mp hd
  exact ⟨hw, hz⟩
def allT (rs : List Row) (i : Nat) : List De := (words3.take i).flatMap fun w => (plc rs).map fun z => (w, z)
theorem allT_len {rs : List Row} {i : Nat} (h : i ≤ 3) : (allT rs i).length ≤ 3 * (plc rs).length := by
  unfold allT
  rw [List.length_flatMap]
  have : ((words3.take i).map fun w => ((plc rs).map fun z => ((w, z) : De)).length) = List.replicate i (plc rs).length := by
    match i, h with
    | 0, _ => rfl
    | 1, _ => simp [words3]
    | 2, _ => simp [words3]
    | 3, _ => simp [words3]
  rw [this]
  simp
  exact Nat.mul_le_mul h (Nat.le_refl _)
/-- where fewer deeds do not lead -/
theorem short_no {rs : List Row} (hv : Valid rs) {v w : Str → Bool} {ds : List De} (hw : Words ds) (h : ds.length < (entL rs (fewF (softF rs v w) (hardF w) rs)).length) : allE (fun z => V.bl (doneV rs v ds z)) (fun z => V.bl (w z)) (plc rs) = false := by
  rcases hc : allE (fun z => V.bl (doneV rs v ds z)) (fun z => V.bl (w z)) (plc rs) with _ | _
  · rfl
  · exfalso
    have := few_least hv hw (v := v) (w := w) fun z hz => by
      unfold allE at hc
      have e := List.all_eq_true.mp hc z hz
      have e' : L2.eqV (V.bl (doneV rs v ds z)) (V.bl (w z)) = true := e
      revert e'
      cases doneV rs v ds z <;> cases w z <;> first | (intro _; rfl) | (intro h; cases h)
    omega
section
variable {P : Program} {w : World} {K : PySem.W.Frag} {mg : Str → Option Value} {base : Heap} {C : Addr}
abbrev pLSh : List Str := ["_law_rows_here", "_law_mine", "_law_theirs", "_law_many"]
abbrev nLSh : List Str := ["_law_rows_here", "_law_mine", "_law_theirs", "_law_many", "_law_deeds", "_law_word", "_law_deed", "_law_box", "_law_more"]
theorem sc_LSh : FnScope nLSh pLSh (defScope s_L_shorter) := ⟨rfl, rfl, rfl, by decide +kernel, rfl, by decide +kernel, by decide +kernel⟩
theorem ok_LSh (D : DefAt K mg "_law_shorter" s_L_shorter pLSh) (hAny : mg "any" = none) (Dn : DefAt K mg "_law_done" s_L_done pDone) (Gn : FnOk P w K mg base CX0 3 Dn.f Dn.fd pDone spLDone) : FnOk P w K mg base CX0 4 D.f D.fd pLSh spLShort := by
  refine D.F.ok sc_LSh (fun vs H Q E h => ?_) (fun cdv A outer s H vs Q E hr h => ?_)
  · obtain ⟨p, a, b, many, rs, v, w', rfl, _⟩ := h
    rfl
  · obtain ⟨p, a, b, many, rs, v, w', rfl, hL, hv, hl, ha, hb, m0, m2, hm, hq⟩ := h
    have hu := hu_of hr
    have h64 := hr.units
    have hu0 := Nat.lt_of_le_of_lt (Nat.le_add_right _ _) h64
    refine ⟨_, pss_cons (ps_set (i := 4) sc_LSh.nd rfl (.inl rfl) (pe_lst pa_nil))
      (pss_cons (ps_for PassesOwn.never rfl (pi_tup (pe_tup (pa_cons pe_str (pa_cons pe_str (pa_cons pe_str pa_nil))))) (pg_name (i := 5) sc_LSh.nd rfl (.inr rfl))
          (pss_one (ps_expr (pe_bm PySem.F.plainAttrs_list PySem.F.slot_list_extend PySem.F.type_list_extend mt_extend (pv 4) (pa_cons (pe_lock (pe_lc (own := [("_law_box", 7)]) (g := gName 7) (tt := tYes) (te := tTup (tCons (tVar 5) (tCons (tVar 7) tNil))) rfl sc_LSh.nd (pi_keys (pv 1)) (blkOk_by (N := nLSh) (sc := defScope s_L_shorter) (by decide +kernel))
            (fun _ _ _ _ _ => pg_name (i := 7) sc_LSh.nd rfl (Or.inl rfl)) (fun _ _ _ _ _ => pts_nil) (fun _ _ _ _ _ => by exact pe_tup (pa_cons (pv 5) (pa_cons (pv 7) pa_nil))))) pa_nil)))))
      (pss_cons (ps_if (pt_cmpR op_eq (pv 3) pe_int (nomark _)) (pss_one (ps_ret (pe_cmpR (op_eqX hu0) (pv 1) (pv 2) (nomark _)))) pss_nil)
      (pss_cons (ps_if (pt_cmpR op_eq (pv 3) pe_int (nomark _)) (pss_one (ps_ret (pe_callB (cr_any rfl) (by rfl) hAny (by decide +kernel) (pa_cons (pe_lc (own := [("_law_deed", 6)]) (g := gName 6) (tt := tYes) (te := tOp rEqX (tCall spLDone [] E0 (tCons (tVar 0) (tCons (tVar 1) (tCons (tLst (tCons (tVar 6) tNil)) tNil)))) (tVar 2)) rfl sc_LSh.nd (pi_list (pv 4)) (blkOk_by (N := nLSh) (sc := defScope s_L_shorter) (by decide +kernel))
            (fun _ _ _ _ _ => pg_name (i := 6) sc_LSh.nd rfl (Or.inl rfl)) (fun _ _ _ _ _ => pts_nil) (fun _ _ _ _ _ => by exact pe_cmpR (op_eqX hu0) (pe_call Gn hr rfl Dn.g Dn.F.kp Dn.b .nil pass0 (pa_cons (pv 0) (pa_cons (pv 1) (pa_cons (pe_lst (pa_cons (pv 6) pa_nil)) pa_nil)))) (pv 2) (nomark _))) pa_nil)))) pss_nil)
      (pss_cons (ps_for PassesOwn.never rfl (pi_list (pv 4)) (pg_name (i := 6) sc_LSh.nd rfl (.inr rfl))
          (pss_one (ps_if (pt_val (pe_callB (cr_any rfl) (by rfl) hAny (by decide +kernel) (pa_cons (pe_lc (own := [("_law_more", 8)]) (g := gName 8) (tt := tYes) (te := tOp rEqX (tCall spLDone [] E0 (tCons (tVar 0) (tCons (tVar 1) (tCons (tLst (tCons (tVar 6) (tCons (tVar 8) tNil))) tNil)))) (tVar 2)) rfl sc_LSh.nd (pi_list (pv 4)) (blkOk_by (N := nLSh) (sc := defScope s_L_shorter) (by decide +kernel))
            (fun _ _ _ _ _ => pg_name (i := 8) sc_LSh.nd rfl (Or.inl rfl)) (fun _ _ _ _ _ => pts_nil) (fun _ _ _ _ _ => by exact pe_cmpR (op_eqX hu0) (pe_call Gn hr rfl Dn.g Dn.F.kp Dn.b .nil pass0 (pa_cons (pv 0) (pa_cons (pv 1) (pa_cons (pe_lst (pa_cons (pv 6) (pa_cons (pv 8) pa_nil))) pa_nil)))) (pv 2) (nomark _))) pa_nil))) (pss_one (ps_ret pe_bl)) pss_nil)))
      (pss_one (ps_ret pe_bl)))))), ?_⟩
    have nd := plc_nd hv
    have lpl : (plc rs).length ≤ 13 := by rw [plc_len']; omega
    refine ⟨(by show 0 ≤ sizeLine; decide), fun dl hdl => ?_⟩
    have s1 : Same H (upd H dl (.lst [])) := Same.new hdl
    have e1 : (upd H dl (.lst [])) dl = some (.lst (([] : List Addr).map V.ref)) := upd_same
    generalize upd H dl (.lst []) = H1 at s1 e1
    refine ⟨(by show 3 ≤ sizeLine; decide), fun tv htv => ?_⟩
    have s2 : Same H1 (upd H1 tv (.tup [V.str "on", V.str "off", V.str "flip"])) := Same.new htv
    have e2 : (upd H1 tv (.tup [V.str "on", V.str "off", V.str "flip"])) tv = some (.tup (words3.map V.str)) := upd_same
    have e12 := s2 _ _ e1
    generalize upd H1 tv (.tup [V.str "on", V.str "off", V.str "flip"]) = H2 at s2 e2 e12
    have s02 := s1.trans s2
    have ntd : tv ≠ dl := fun e => by rw [e, e12] at e2; cases e2
    have nad : a ≠ dl := ne_of_none ha hdl
    refine ⟨tv, rfl, ⟨_, sqT e2⟩, ?_⟩
    refine for_tup (K := K) (a := tv) (xs := words3.map V.str) (fun i σ H' => ∃ w5 : Option V, σ = [some (.ref p), some (.ref a), some (.ref b), some (.int many), some (.ref dl), w5, none, none, none] ∧ SB dl H2 H' ∧ ∃ as : List Addr, H' dl = some (.lst (as.map V.ref)) ∧ DsAt H' as (allT rs i)) ⟨_, rfl, SB.refl _ _, [], e12, DsAt.nil⟩ (fun i σ H' _ ⟨_, _, sb, _⟩ => sqT (sb _ _ ntd e2)) ?_ ?_
    · rintro i x σ H3 hx ⟨w5, rfl, sb3, as, e3, d3⟩
      rw [List.getElem?_map] at hx
      obtain ⟨wd, hw, rfl⟩ := Option.map_eq_some_iff.mp hx
      have hi : i < 3 := (List.getElem?_eq_some_iff.mp hw).1
      have ha3 : H3 a = some (.dK (kvG rs v)) := sb3 _ _ nad (s02 _ _ ha)
      refine ⟨_, rfl, .inl ⟨rfl, _, SqL.of e3⟩, ?_⟩
      refine ⟨a, _, ha3, trivial, fun od => ?_⟩
      have lk : (upd H3 a (.frz od (.dK (kvG rs v)))) a = some (.frz od (.dK (kvG rs v))) := upd_same
      obtain ⟨Hl, El⟩ : ∃ Hx, Hx = upd H3 a (.frz od (.dK (kvG rs v))) := ⟨_, rfl⟩
      rw [← El]
      rw [← El] at lk
      refine ⟨_, rfl, a, od, rfl, .inl ⟨_, lk, fun D5 hD5 => ?_⟩⟩
      have nDa : D5 ≠ a := (ne_of_none lk hD5).symm
      refine lc_it (walk_keys (d := a) (o := od) (kvs := kvG rs v)) (fun j H' => Same Hl H' ∧ ∃ bs : List Addr, H' D5 = some (.lst (bs.map V.ref)) ∧ DsAt H' bs (((plc rs).take j).map fun z => (wd, z))) ⟨Same.new hD5, [], upd_same, DsAt.nil⟩ (fun j H' _ m => m.1 _ _ lk) ?_ ?_
      · rintro j y H5x H6 hj ⟨s6, bs, e6, d6⟩ ⟨rfl, k', v', hk, rfl⟩
        obtain ⟨z, rfl, hz, rfl⟩ := kvG_atF hk
        have lb : bs.length ≤ 13 := by rw [d6.len, List.length_map, List.length_take]; omega
        refine ⟨rfl, tYes_if ⟨_, rfl, _, rfl, (by show 2 ≤ sizeLine; decide), fun t ht => ?_⟩⟩
        have nDt : D5 ≠ t := ne_of_none e6 ht
        refine ⟨bs.map V.ref, by rw [upd_ne nDt]; exact e6, small1000 (by rw [List.length_map]; omega), fun b o eb => ?_, bs ++ [t], by rw [upd_same, List.map_append]; rfl, ?_⟩
        · rw [upd_ne (fun y => by rw [y, hD5] at eb; cases eb), upd_ne (ne_of_none (s6 _ _ eb) ht)]
          exact s6 _ _ eb
        · rw [take_more hz, List.map_append]
          have kp : ∀ {b : Addr} {xs : List V}, H6 b = some (.tup xs) → (upd (upd H6 t (.tup [V.str wd, V.str z])) D5 (.lst (bs.map V.ref ++ [V.ref t]))) b = some (.tup xs) := fun {b xs} e => by
            rw [upd_ne (fun y => by rw [y, e6] at e; cases e), upd_ne (ne_of_none e ht)]; exact e
          exact DsAt.snoc ⟨d6.len, fun i2 b d x y => kp (d6.at_ i2 b d x y)⟩ (by rw [upd_ne nDt.symm]; exact upd_same)
      rintro H5 ⟨s5, bs, e5, d5⟩
      have el : (kvG rs v).length = (plc rs).length := by unfold kvG; rw [List.length_map]
      rw [el, List.take_length] at d5
      refine ⟨s5 _ _ lk, ?_⟩
      rw [El] at s5
      have sB := lock_back ha3 s5
      have e6 : (upd H5 a (.dK (kvG rs v))) D5 = some (.lst (bs.map V.ref)) := by rw [upd_ne nDa]; exact e5
      have d6 : DsAt (upd H5 a (.dK (kvG rs v))) bs ((plc rs).map fun z => (wd, z)) := ⟨d5.len, fun i2 b d x y => by
        have e3 := d5.at_ i2 b d x y
        rw [upd_ne (fun q => by rw [q, s5 _ _ (by rw [← El]; exact lk)] at e3; cases e3)]
        exact e3⟩
      generalize upd H5 a (.dK (kvG rs v)) = H6 at sB e6 d6
      have la : as.length ≤ 39 := by
        rw [d3.len]
        have := allT_len (rs := rs) (i := i) (by omega)
        omega
      have lb : bs.length ≤ 13 := by rw [d6.len, List.length_map]; exact lpl
      have e36 := sB _ _ e3
      refine ⟨dl, D5, _, _, rfl, rfl, e36, e6, szl (by rw [List.length_map, List.length_map]; omega), _, rfl, fun b o nb e => by rw [upd_ne nb]; exact sB _ _ (sb3 _ _ nb e), as ++ bs, by rw [upd_same, List.map_append], ?_⟩
      have et : allT rs (i + 1) = allT rs i ++ (plc rs).map fun z => (wd, z) := by
        unfold allT
        rw [take_more hw, List.flatMap_append]
        simp
      rw [et]
      have kp : ∀ {b : Addr} {xs : List V}, H6 b = some (.tup xs) → (upd H6 dl (.lst (as.map V.ref ++ bs.map V.ref))) b = some (.tup xs) := fun {b xs} e => by
        rw [upd_ne (fun y => by rw [y, e36] at e; cases e)]; exact e
      exact DsAt.append ⟨d3.len, fun i2 b d x y => kp (sB _ _ (d3.at_ i2 b d x y))⟩ ⟨d6.len, fun i2 b d x y => kp (d6.at_ i2 b d x y)⟩
    rintro σ H3 ⟨w5, rfl, sb3, as, e3, d3⟩
    have s03 : Same H H3 := fun b o e => sb3 _ _ (ne_of_none e hdl) (s02 _ _ e)
    have ea : allT rs (words3.map V.str).length = allD rs := rfl
    rw [ea] at d3
    have ha3 := s03 _ _ ha
    have hb3 := s03 _ _ hb
    have L3 := hL.same s03
    have la : as.length ≤ 39 := by
      rw [d3.len]
      have := allT_len (rs := rs) (i := 3) (by omega)
      have e : allT rs 3 = allD rs := rfl
      rw [e] at this
      omega
    have flat : ∀ (f g : Str → Bool), ∀ z ∈ plc rs, flatV ((fun z => V.bl (f z)) z) = true ∧ flatV ((fun z => V.bl (g z)) z) = true := fun _ _ _ _ => ⟨rfl, rfl⟩
    have any0 : ∀ n, (List.replicate n false).any id = false := fun n => by
      induction n with
      | zero => rfl
      | succ n ih => rw [List.replicate_succ, List.any_cons, ih]; rfl
    refine ⟨_, rfl, rfl, _, rfl, ?_⟩
    refine ite2 (fun c => ?_) (fun c => ?_)
    · have e0 : many = 0 := V.int.inj (of_decide_eq_true c)
      refine ⟨_, rfl, _, rfl, a, b, fun z => .bl (v z), fun z => .bl (w' z), plc rs, rfl, rfl, ha3, hb3, flat _ _, ?_⟩
      have e := short_no hv (v := v) (w := w') (ds := []) (fun d hd => by cases hd) (by show 0 < _; omega)
      have e' : allE (fun z => V.bl (v z)) (fun z => V.bl (w' z)) (plc rs) = false := e
      rw [e']
      exact hq _ s03
    have n0 : many ≠ 0 := fun e => c (by rw [e]; exact decide_eq_true rfl)
    refine ⟨_, rfl, rfl, _, rfl, ?_⟩
    refine ite2 (fun c1 => ?_) (fun c1 => ?_)
    · have e1' : many = 1 := V.int.inj (of_decide_eq_true c1)
      refine ⟨_, rfl, dl, rfl, ⟨_, SqL.of e3⟩, fun D6 hD6 => ?_⟩
      refine lc_list (K := K) (a := dl) (xs := as.map V.ref) (fun j H' => Same H3 H' ∧ H' D6 = some (.lst ((List.replicate j false).map V.bl))) ⟨Same.new hD6, upd_same⟩ (fun j H' _ m => m.1.seq (SqL.of e3)) ?_ ?_
      · rintro j x H4 hx ⟨s4, eD6⟩
        have jl : j < as.length := by
          have := (List.getElem?_eq_some_iff.mp hx).1
          rwa [List.length_map] at this
        obtain ⟨ad, d, rfl, had, hd, e0⟩ := d3.get hx
        have hdm := allD_mem d (List.mem_of_getElem? hd)
        refine ⟨rfl, tYes_if ⟨_, rfl, _, rfl, _, rfl, (by show 1 ≤ sizeLine; decide), fun l1 hl1 => ?_⟩⟩
        have s5 : Same H4 (upd H4 l1 (.lst [V.ref ad])) := Same.new hl1
        have e5 : (upd H4 l1 (.lst [V.ref ad])) l1 = some (.lst (([ad] : List Addr).map V.ref)) := upd_same
        generalize upd H4 l1 (.lst [V.ref ad]) = H5 at s5 e5
        have s35 := s4.trans s5
        have dd : DsAt H5 [ad] [d] := DsAt.snoc DsAt.nil (s35 _ _ e0)
        have vd : VDs rs [d] := fun q hq => by rw [List.mem_singleton.mp hq]; exact hdm
        refine ⟨p, a, l1, rs, [ad], [d], v, rfl, L3.same s35, hv, by omega, s35 _ _ ha3, e5, dd, vd, fun Dd H6 hDd s6 eDd => ?_⟩
        have s36 := s35.trans s6
        refine ⟨_, rfl, Dd, b, fun z => .bl (doneV rs v [d] z), fun z => .bl (w' z), plc rs, rfl, rfl, eDd, s36 _ _ hb3, flat _ _, ?_⟩
        rw [short_no hv (v := v) (w := w') (ds := [d]) vd.words (by show 1 < _; omega)]
        refine ⟨_, (s5.trans s6) _ _ eD6, small1000 (by rw [List.length_map, List.length_replicate]; omega), fun b o eb => ?_, ?_⟩
        · rw [upd_ne (fun y => by rw [y, hD6] at eb; cases eb)]
          exact s36 _ _ eb
        · rw [upd_same, List.replicate_succ', List.map_append]; rfl
      rintro H4 ⟨s4, eD6⟩
      refine ⟨D6, _, rfl, SqL.of eD6, ?_⟩
      rw [any0]
      exact hq _ (s03.trans s4)
    have n1 : many ≠ 1 := fun e => c1 (by rw [e]; exact decide_eq_true rfl)
    have e2' : many = 2 := by omega
    refine ⟨_, rfl, dl, rfl, ⟨_, SqL.of e3⟩, ?_⟩
    refine for_list (K := K) (a := dl) (xs := as.map V.ref) (fun j σ H' => ∃ w6 : Option V, σ = [some (.ref p), some (.ref a), some (.ref b), some (.int many), some (.ref dl), w5, w6, none, none] ∧ Same H3 H') ⟨_, rfl, Same.refl _⟩ (fun j σ H' _ ⟨_, _, s⟩ => s.seq (SqL.of e3)) ?_ ?_
    · rintro i x σ H7 hx ⟨w6, rfl, s7⟩
      obtain ⟨ax, dx, rfl, hax, hdx, ex0⟩ := d3.get hx
      have hdxm := allD_mem dx (List.mem_of_getElem? hdx)
      have e37 := s7 _ _ e3
      refine ⟨_, rfl, dl, rfl, ⟨_, SqL.of e37⟩, fun D6 hD6 => ?_⟩
      refine lc_list (K := K) (a := dl) (xs := as.map V.ref) (fun j H' => Same H7 H' ∧ H' D6 = some (.lst ((List.replicate j false).map V.bl))) ⟨Same.new hD6, upd_same⟩ (fun j H' _ m => m.1.seq (SqL.of e37)) ?_ ?_
      · rintro j x H4 hx ⟨s4, eD6⟩
        have jl : j < as.length := by
          have := (List.getElem?_eq_some_iff.mp hx).1
          rwa [List.length_map] at this
        obtain ⟨ad, d, rfl, had, hd, e0⟩ := d3.get hx
        have hdm := allD_mem d (List.mem_of_getElem? hd)
        refine ⟨rfl, tYes_if ⟨_, rfl, _, rfl, _, rfl, _, rfl, (by show 2 ≤ sizeLine; decide), fun l1 hl1 => ?_⟩⟩
        have s5 : Same H4 (upd H4 l1 (.lst [V.ref ax, V.ref ad])) := Same.new hl1
        have e5 : (upd H4 l1 (.lst [V.ref ax, V.ref ad])) l1 = some (.lst (([ax, ad] : List Addr).map V.ref)) := upd_same
        generalize upd H4 l1 (.lst [V.ref ax, V.ref ad]) = H5 at s5 e5
        have s35 := s7.trans (s4.trans s5)
        have dd : DsAt H5 [ax, ad] [dx, d] := DsAt.snoc (DsAt.snoc DsAt.nil (s35 _ _ ex0)) (s35 _ _ e0)
        have vd : VDs rs [dx, d] := fun q hq => by
          rcases List.mem_cons.mp hq with rfl | hq
          · exact hdxm
          · rw [List.mem_singleton.mp hq]; exact hdm
        refine ⟨p, a, l1, rs, [ax, ad], [dx, d], v, rfl, L3.same s35, hv, by omega, s35 _ _ ha3, e5, dd, vd, fun Dd H6 hDd s6 eDd => ?_⟩
        have s36 := s35.trans s6
        refine ⟨_, rfl, Dd, b, fun z => .bl (doneV rs v [dx, d] z), fun z => .bl (w' z), plc rs, rfl, rfl, eDd, s36 _ _ hb3, flat _ _, ?_⟩
        rw [short_no hv (v := v) (w := w') (ds := [dx, d]) vd.words (by show 2 < _; omega)]
        refine ⟨_, (s5.trans s6) _ _ eD6, small1000 (by rw [List.length_map, List.length_replicate]; omega), fun b o eb => ?_, ?_⟩
        · rw [upd_ne (fun y => by rw [y, hD6] at eb; cases eb)]
          exact (s4.trans (s5.trans s6)) _ _ eb
        · rw [upd_same, List.replicate_succ', List.map_append]; rfl
      rintro H4 ⟨s4, eD6⟩
      exact ⟨D6, _, rfl, SqL.of eD6, _, rfl, iteF' (any0 _) ⟨_, rfl, s7.trans s4⟩⟩
    rintro σ H7 ⟨w6, rfl, s7⟩
    exact hq _ (s03.trans s7)
end
end Ts

set_option maxRecDepth 100000
set_option maxHeartbeats 4000000
namespace Ts
open PySem L2
def cN (i : Nat) : Str := ("c" : Str) ++ ⟨#[97 + i]⟩
theorem cN_inj : ∀ i, i < 11 → ∀ j, j < 11 → cN i = cN j → i = j := by decide +kernel
theorem cN_len : ∀ i, i < 11 → (cN i).length = 2 := by decide +kernel
theorem cN_low : ∀ i, i < 11 → Low (cN i) := by unfold Low; decide +kernel
theorem ak_at : ∀ i, i < 11 → ("abcdefghijk" : Str).cps[i]? = some (97 + i) := by decide +kernel
def chFo (i : Nat) : Str := if i = 0 then "top" else cN (i - 1)
def chR (i : Nat) : Row := ⟨cN i, chFo i, "folder", some 1⟩
def chain (n : Nat) : List Row := (List.range n).map chR
theorem chain_more (n : Nat) : chain (n + 1) = chain n ++ [chR n] := by
  unfold chain; rw [List.range_succ, List.map_append]; rfl
theorem chain_home {n : Nat} : chFo n = ("top" : Str) ∨ ∃ q ∈ chain n, q.nm = chFo n ∧ q.ki = ("folder" : Str) := by
  match n with
  | 0 => exact .inl rfl
  | n + 1 =>
    refine .inr ⟨chR n, ?_, rfl, rfl⟩
    rw [chain_more]
    exact List.mem_append_right _ (List.mem_singleton.mpr rfl)
theorem chain_valid : ∀ n, n ≤ 11 → Valid (chain n)
  | 0, _ => Valid.nil
  | n + 1, h => by
    rw [chain_more]
    refine (chain_valid n (by omega)).snoc ⟨⟨.inl (.inr (.inl (cN_len n (by omega)))), cN_low n (by omega)⟩, fun e => ?_, fun hm => ?_, chain_home, (show ("folder" : Str) ∈ kinds3 by decide +kernel), (show (1 : Int) ≤ 1 by decide)⟩
    · have := congrArg Str.length e
      rw [show (chR n).nm = cN n from rfl, cN_len n (by omega), top_len] at this
      exact absurd this (by decide)
    · obtain ⟨q, hq, e⟩ := List.mem_map.mp hm
      obtain ⟨j, hj, rfl⟩ := List.mem_map.mp hq
      have hj := List.mem_range.mp hj
      have := cN_inj j (by omega) n (by omega) e
      omega
def chainR : List Row := chain 11 ++ [⟨"item", chFo 11, "item", some 1⟩]
theorem chainR_valid : Valid chainR := by
  refine (chain_valid 11 (by omega)).snoc ⟨⟨.inr (by decide +kernel), by unfold Low; decide +kernel⟩, by decide +kernel, fun hm => ?_, chain_home (n := 11), (show ("item" : Str) ∈ kinds3 by decide +kernel), (show (1 : Int) ≤ 1 by decide)⟩
  obtain ⟨q, hq, e⟩ := List.mem_map.mp hm
  obtain ⟨j, hj, rfl⟩ := List.mem_map.mp hq
  have hj := List.mem_range.mp hj
  have := congrArg Str.length e
  rw [show (chR j).nm = cN j from rfl, cN_len j (by omega)] at this
  exact absurd this (by decide +kernel)
theorem chainR_len : chainR.length = 12 := by unfold chainR chain; simp
theorem chainR_un : Unl0 chainR := fun r hr => by
  unfold chainR at hr
  rcases List.mem_append.mp hr with hr | hr
  · obtain ⟨j, _, rfl⟩ := List.mem_map.mp hr
    simp [chR]
  · rw [List.mem_singleton.mp hr]; simp
def spLChain : Sp := fun vs H Q _ => vs = [] ∧ ∀ p H', H p = none → Same H H' → RowsL H' p chainR → Q (.ref p) H'
section
variable {P : Program} {w : World} {K : PySem.W.Frag} {mg : Str → Option Value} {base : Heap} {C : Addr}
abbrev nCh : List Str := ["_law_rows_here", "_law_folder", "_law_letter"]
theorem sc_Ch : FnScope nCh [] (defScope s_L_chain) := ⟨rfl, rfl, rfl, by decide +kernel, rfl, by decide +kernel, by decide +kernel⟩
theorem ok_Ch (D : DefAt K mg "_law_chain" s_L_chain []) : FnOk P w K mg base CX0 2 D.f D.fd [] spLChain := by
  refine D.F.ok sc_Ch (fun vs H Q E h => ?_) (fun cdv A outer s H vs Q E hr h => ?_)
  · obtain ⟨rfl, _⟩ := h
    rfl
  · obtain ⟨rfl, hq⟩ := h
    refine ⟨_, pss_cons (ps_par (i := 0) (j := 1) rfl sc_Ch.nd rfl rfl (by decide) rfl rfl (pa_cons (pe_lst pa_nil) (pa_cons pe_str pa_nil)) (by rfl))
      (pss_cons (ps_for PassesOwn.never rfl (pi_str pe_str) (pg_name (i := 2) sc_Ch.nd rfl (.inl rfl))
          (pss_cons (ps_expr (pe_bm PySem.F.plainAttrs_list PySem.F.slot_list_append PySem.F.type_list_append mt_append (pv 0) (pa_cons (pe_tup (pa_cons (pe_op op_add_str pe_str (pv 2)) (pa_cons (pv 1) (pa_cons pe_str (pa_cons pe_int pa_nil))))) pa_nil)))
          (pss_one (ps_set (i := 1) sc_Ch.nd rfl (.inl rfl) (pe_op op_add_str pe_str (pv 2))))))
      (pss_one (ps_ret (pe_op op_cat (pv 0) (pe_lst (pa_cons (pe_tup (pa_cons pe_str (pa_cons (pv 1) (pa_cons pe_str (pa_cons pe_int pa_nil))))) pa_nil)))))), ?_⟩
    refine ⟨(by show 0 ≤ sizeLine; decide), fun p hp => ⟨_, _, rfl, ?_⟩⟩
    have s1 : Same H (upd H p (.lst [])) := Same.new hp
    have e1 : (upd H p (.lst [])) p = some (.lst (([] : List Addr).map V.ref)) := upd_same
    generalize upd H p (.lst []) = H1 at s1 e1
    refine ⟨("abcdefghijk" : Str), rfl, ?_⟩
    refine for_it (walk_str (z := ("abcdefghijk" : Str))) (fun i σ H' => ∃ v2 : Option V, σ = [some (.ref p), some (.str (chFo i)), v2] ∧ SB p H1 H' ∧ ∃ as : List Addr, H' p = some (.lst (as.map V.ref)) ∧ RowsAt H' as (chain i)) ⟨_, rfl, SB.refl _ _, [], e1, RowsAt.nil⟩ (fun i σ H' _ _ => trivial) ?_ ?_
    · rintro i x σ H2 H3 hi ⟨v2, rfl, sb, as, e2, r2⟩ ⟨rfl, c, hc, rfl⟩
      have i11 : i < 11 := hi
      rw [ak_at i i11] at hc
      cases hc
      refine ⟨_, rfl, .inl ⟨rfl, _, SqL.of e2⟩, ?_⟩
      refine ⟨_, rfl, _, _, rfl, rfl, (by show 2 ≤ sizeLine; decide), _, rfl, (by show 4 ≤ sizeLine; decide), fun t ht => ?_⟩
      have npt : p ≠ t := ne_of_none e2 ht
      have la : as.length ≤ 11 := by rw [r2.len]; unfold chain; rw [List.length_map, List.length_range]; omega
      refine ⟨p, _, _, rfl, rfl, by rw [upd_ne npt]; exact e2, small1000 (by rw [List.length_map]; omega), _, rfl, _, _, rfl, rfl, (by show 2 ≤ sizeLine; decide), _, rfl, fun b o nb eb => ?_, as ++ [t], by rw [upd_same, List.map_append]; rfl, ?_⟩
      · rw [upd_ne nb, upd_ne (ne_of_none (sb _ _ nb eb) ht)]
        exact sb _ _ nb eb
      · rw [chain_more]
        have kp : ∀ {b : Addr} {xs : List V}, H3 b = some (.tup xs) → (upd (upd H3 t (.tup (rowVs (chR i)))) p (.lst (as.map V.ref ++ [V.ref t]))) b = some (.tup xs) := fun {b xs} e => by
          rw [upd_ne (fun y => by rw [y, e2] at e; cases e), upd_ne (ne_of_none e ht)]; exact e
        exact RowsAt.snoc ⟨r2.len, fun i2 b d x y => kp (r2.at_ i2 b d x y)⟩ (by rw [upd_ne npt.symm]; exact upd_same)
    · rintro σ H2 ⟨v2, rfl, sb, as, e2, r2⟩
      have e11 : ("abcdefghijk" : Str).cps.size = 11 := by decide +kernel
      rw [e11] at r2 ⊢
      refine ⟨_, rfl, _, rfl, (by show 4 ≤ sizeLine; decide), fun t ht => ⟨(by show 1 ≤ sizeLine; decide), fun l2 hl2 => ?_⟩⟩
      have s3 : Same H2 (upd (upd H2 t (.tup (rowVs ⟨"item", chFo 11, "item", some 1⟩))) l2 (.lst [V.ref t])) := (Same.new ht).trans (Same.new hl2)
      have eT : (upd (upd H2 t (.tup (rowVs ⟨"item", chFo 11, "item", some 1⟩))) l2 (.lst [V.ref t])) t = some (.tup (rowVs ⟨"item", chFo 11, "item", some 1⟩)) := (Same.new hl2) _ _ upd_same
      have eL : (upd (upd H2 t (.tup (rowVs ⟨"item", chFo 11, "item", some 1⟩))) l2 (.lst [V.ref t])) l2 = some (.lst [V.ref t]) := upd_same
      have eE : (upd (upd H2 t (.tup [V.str ("item" : Str), V.str (chFo 11), V.str ("item" : Str), V.int 1])) l2 (.lst [V.ref t])) = (upd (upd H2 t (.tup (rowVs ⟨"item", chFo 11, "item", some 1⟩))) l2 (.lst [V.ref t])) := rfl
      rw [eE]
      clear eE
      generalize (upd (upd H2 t (.tup (rowVs ⟨"item", chFo 11, "item", some 1⟩))) l2 (.lst [V.ref t])) = H4 at s3 eT eL
      have la : as.length = 11 := by rw [r2.len]; unfold chain; rw [List.length_map, List.length_range]
      refine ⟨p, l2, _, _, rfl, rfl, s3 _ _ e2, eL, szl (by rw [List.length_map, la]; show 11 + 1 ≤ 1000; omega), fun l3 hl3 => ?_⟩
      have s4 : Same H4 (upd H4 l3 (.lst (as.map V.ref ++ [V.ref t]))) := Same.new hl3
      have s14 : Same H (upd H4 l3 (.lst (as.map V.ref ++ [V.ref t]))) := fun b o e => s4 _ _ (s3 _ _ (sb _ _ (ne_of_none e hp) (s1 _ _ e)))
      have f3 : H l3 = none := by
        rcases hx : H l3 with _ | o
        · rfl
        · have := s3 _ _ (sb _ _ (ne_of_none hx hp) (s1 _ _ hx))
          rw [this] at hl3; cases hl3
      exact hq l3 _ f3 s14 ⟨as ++ [t], by rw [upd_same, List.map_append]; rfl, ((r2.same s3).same s4).snoc (s4 _ _ eT)⟩
end
end Ts

set_option maxRecDepth 100000
set_option maxHeartbeats 4000000
namespace Ts
open PySem L2
/-! ### all maps of the told form in their order -/
def setF (e : Str → Str) (z x : Str) : Str → Str := fun y => if y = z then x else e y
def stepCh (l h : Str → Str) (r : Row) (e : Str → Str) : List (Str → Str) := (if firm (e r.fo) = true then [] else [setF e r.nm (l r.nm)]) ++ [setF e r.nm (h r.nm)]
def chList (l h : Str → Str) (S : List Row) (gs : List (Str → Str)) : List (Str → Str) := S.foldl (fun gs r => gs.flatMap (stepCh l h r)) gs
def chFrom (l h : Str → Str) : List Row → (Str → Str) → List (Str → Str)
  | [], e => [e]
  | r :: S, e => (if firm (e r.fo) = true then [] else chFrom l h S (setF e r.nm (l r.nm))) ++ chFrom l h S (setF e r.nm (h r.nm))
theorem setF_at {e : Str → Str} {z x : Str} : setF e z x z = x := if_pos rfl
theorem setF_ne {e : Str → Str} {z x y : Str} (h : y ≠ z) : setF e z x y = e y := if_neg h
theorem chFrom_step {l h : Str → Str} {r : Row} {S : List Row} {e : Str → Str} : chFrom l h (r :: S) e = (stepCh l h r e).flatMap (chFrom l h S) := by
  show (if firm (e r.fo) = true then [] else chFrom l h S (setF e r.nm (l r.nm))) ++ chFrom l h S (setF e r.nm (h r.nm)) = _
  unfold stepCh
  by_cases c : firm (e r.fo) = true
  · rw [if_pos c, if_pos c]; simp
  · rw [if_neg c, if_neg c]; simp
theorem chList_from {l h : Str → Str} : ∀ (S : List Row) (gs : List (Str → Str)), chList l h S gs = gs.flatMap (chFrom l h S)
  | [], gs => by
    show gs = gs.flatMap fun e => [e]
    simp
  | r :: S, gs => by
    show chList l h S (gs.flatMap (stepCh l h r)) = _
    rw [chList_from S, List.flatMap_assoc]
    exact congrArg (fun f => gs.flatMap f) (funext fun e => (chFrom_step).symm)
theorem chList_more {l h : Str → Str} {S : List Row} {gs : List (Str → Str)} {i : Nat} {r : Row} (hi : S[i]? = some r) : chList l h (S.take (i + 1)) gs = (chList l h (S.take i) gs).flatMap (stepCh l h r) := by
  unfold chList
  rw [take_more hi, List.foldl_append]
  rfl
theorem chFrom_len {l h : Str → Str} : ∀ (S : List Row) (e : Str → Str), (chFrom l h S e).length ≤ 2 ^ S.length
  | [], e => Nat.le_refl _
  | r :: S, e => by
    show ((if firm (e r.fo) = true then [] else chFrom l h S (setF e r.nm (l r.nm))) ++ chFrom l h S (setF e r.nm (h r.nm))).length ≤ 2 ^ (S.length + 1)
    rw [List.length_append, Nat.pow_succ]
    have h1 := chFrom_len (l := l) (h := h) S (setF e r.nm (l r.nm))
    have h2 := chFrom_len (l := l) (h := h) S (setF e r.nm (h r.nm))
    split
    · rw [List.length_nil]; omega
    · omega
theorem chFrom_out {l h : Str → Str} : ∀ (S : List Row) (e : Str → Str) {z : Str}, z ∉ names S → ∀ g ∈ chFrom l h S e, g z = e z
  | [], e, z, _, g, hg => by rw [List.mem_singleton.mp hg]
  | r :: S, e, z, hz, g, hg => by
    have z1 : z ≠ r.nm := fun q => hz (by rw [q]; exact List.mem_cons_self ..)
    have z2 : z ∉ names S := fun q => hz (List.mem_cons_of_mem _ q)
    have hg' : g ∈ (if firm (e r.fo) = true then [] else chFrom l h S (setF e r.nm (l r.nm))) ++ chFrom l h S (setF e r.nm (h r.nm)) := hg
    rcases List.mem_append.mp hg' with q | q
    · split at q
      · cases q
      · rw [chFrom_out S _ z2 g q, setF_ne z1]
    · rw [chFrom_out S _ z2 g q, setF_ne z1]
theorem chFrom_ok {l h : Str → Str} (lh : LH l h) : ∀ (S : List Row) (Pre : List Str) (e : Str → Str), Suf Pre S → ∀ g ∈ chFrom l h S e, ∀ r ∈ S, OkR l h g r
  | [], _, _, _, _, _, r, hr => by cases hr
  | r :: S, Pre, e, suf, g, hg, q, hq => by
    obtain ⟨n1, n2, nd, n3⟩ := suf.sep
    have hfo := suf.head
    have nfr : r.fo ≠ r.nm := fun q => n1 (q ▸ hfo)
    have hg' : g ∈ (if firm (e r.fo) = true then [] else chFrom l h S (setF e r.nm (l r.nm))) ++ chFrom l h S (setF e r.nm (h r.nm)) := hg
    rcases List.mem_append.mp hg' with k | k
    · split at k
      · cases k
      · rename_i c
        rcases List.mem_cons.mp hq with rfl | hq
        · have e1 := chFrom_out S _ n2 g k
          have e2 := chFrom_out S _ (n3 _ hfo) g k
          rw [setF_at] at e1
          rw [setF_ne nfr] at e2
          exact ⟨fun hf => absurd (by rw [← e2]; exact hf) c, .inl e1⟩
        · exact chFrom_ok lh S _ _ suf.next g k q hq
    · rcases List.mem_cons.mp hq with rfl | hq
      · have e1 := chFrom_out S _ n2 g k
        rw [setF_at] at e1
        exact ⟨fun _ => e1, .inr e1⟩
      · exact chFrom_ok lh S _ _ suf.next g k q hq
/-- of two maps the one that comes first has soft where they first differ -/
theorem chFrom_lex {l h : Str → Str} (lh : LH l h) : ∀ (S : List Row) (Pre : List Str) (e : Str → Str), Suf Pre S → ∀ (j k : Nat) (g G : Str → Str), j < k → (chFrom l h S e)[j]? = some g → (chFrom l h S e)[k]? = some G →
    ∃ (i : Nat) (r : Row), S[i]? = some r ∧ (∀ (p : Nat) (q : Row), p < i → S[p]? = some q → g q.nm = G q.nm) ∧ g r.nm = l r.nm ∧ G r.nm = h r.nm
  | [], _, _, _, j, k, g, G, hjk, hj, hk => by
    exfalso
    have h1 : k < 1 := (List.getElem?_eq_some_iff.mp hk).1
    omega
  | r :: S, Pre, e, suf, j, k, g, G, hjk, hj, hk => by
    obtain ⟨n1, n2, nd, n3⟩ := suf.sep
    obtain ⟨A, hA⟩ : ∃ A, A = (if firm (e r.fo) = true then [] else chFrom l h S (setF e r.nm (l r.nm))) := ⟨_, rfl⟩
    obtain ⟨B, hB⟩ : ∃ B, B = chFrom l h S (setF e r.nm (h r.nm)) := ⟨_, rfl⟩
    have eq : chFrom l h (r :: S) e = A ++ B := by rw [hA, hB]; rfl
    rw [eq] at hj hk
    have inA : ∀ x ∈ A, x ∈ chFrom l h S (setF e r.nm (l r.nm)) ∧ A = chFrom l h S (setF e r.nm (l r.nm)) := fun x hx => by
      rw [hA] at hx ⊢
      split at hx
      · cases hx
      · rename_i c
        exact ⟨hx, if_neg c⟩
    have lift : ∀ {e' : Str → Str} {j' k' : Nat}, j' < k' → (chFrom l h S e')[j']? = some g → (chFrom l h S e')[k']? = some G → ∃ (i : Nat) (q : Row), (r :: S)[i]? = some q ∧ (∀ (p : Nat) (q : Row), p < i → (r :: S)[p]? = some q → g q.nm = G q.nm) ∧ g q.nm = l q.nm ∧ G q.nm = h q.nm := fun {e' j' k'} h1 h2 h3 => by
      obtain ⟨i, q, a1, a2, a3⟩ := chFrom_lex lh S _ _ suf.next j' k' g G h1 h2 h3
      refine ⟨i + 1, q, by simpa using a1, fun p q2 hp hq2 => ?_, a3⟩
      match p, hp, hq2 with
      | 0, _, hq2 =>
        cases hq2
        rw [chFrom_out S _ n2 g (List.mem_of_getElem? h2), chFrom_out S _ n2 G (List.mem_of_getElem? h3)]
      | p + 1, hp, hq2 => exact a2 p q2 (by omega) (by simpa using hq2)
    rcases Nat.lt_or_ge k A.length with c | c
    · rw [List.getElem?_append_left c] at hk
      rw [List.getElem?_append_left (by omega)] at hj
      obtain ⟨_, e2⟩ := inA G (List.mem_of_getElem? hk)
      rw [e2] at hj hk
      exact lift hjk hj hk
    · rw [List.getElem?_append_right c] at hk
      rcases Nat.lt_or_ge j A.length with d | d
      · rw [List.getElem?_append_left d] at hj
        have h1 := (inA g (List.mem_of_getElem? hj)).1
        have h2 : G ∈ chFrom l h S (setF e r.nm (h r.nm)) := by rw [← hB]; exact List.mem_of_getElem? hk
        have e1 := chFrom_out S _ n2 g h1
        have e2 := chFrom_out S _ n2 G h2
        rw [setF_at] at e1 e2
        exact ⟨0, r, rfl, fun p q hp => absurd hp (Nat.not_lt_zero _), e1, e2⟩
      · rw [List.getElem?_append_right d] at hj
        rw [hB] at hj hk
        exact lift (by omega) hj hk
theorem greedy_in {l h : Str → Str} : ∀ (S : List Row) (e : Str → Str), greedy l h S e ∈ chFrom l h S e
  | [], e => List.mem_singleton.mpr rfl
  | r :: S, e => by
    show greedy l h S (gstep l h S e r) ∈ (if firm (e r.fo) = true then [] else chFrom l h S (setF e r.nm (l r.nm))) ++ chFrom l h S (setF e r.nm (h r.nm))
    by_cases c : firm (e r.fo) = true ∨ (pot l h S).2 r.nm + 1 < (pot l h S).1 r.nm + un (l r.nm) (e r.fo)
    · have q : gstep l h S e r = setF e r.nm (h r.nm) := funext fun z => by
        unfold gstep setF
        by_cases d : z = r.nm
        · rw [if_pos d, if_pos d, if_pos c]
        · rw [if_neg d, if_neg d]
      rw [q]
      exact List.mem_append_right _ (greedy_in S _)
    · have q : gstep l h S e r = setF e r.nm (l r.nm) := funext fun z => by
        unfold gstep setF
        by_cases d : z = r.nm
        · rw [if_pos d, if_pos d, if_neg c]
        · rw [if_neg d, if_neg d]
      rw [q, if_neg fun d => c (.inl d)]
      exact List.mem_append_left _ (greedy_in S _)
def chAll (rs : List Row) (v w : Str → Bool) : List (Str → Str) := chFrom (softF rs v w) (hardF w) (topR :: rs) fun _ => "keep"
abbrev fewG (rs : List Row) (v w : Str → Bool) : Str → Str := fewF (softF rs v w) (hardF w) rs
theorem ch_empty {rs : List Row} (hv : Valid rs) {v w : Str → Bool} {g : Str → Str} (hg : g ∈ chAll rs v w) : g "" = "keep" := by
  refine chFrom_out _ _ (fun q => ?_) g hg
  exact (List.nodup_append.mp (suf_top hv).nd).2.2 _ (List.mem_singleton.mpr rfl) _ q rfl
theorem ch_cost {rs : List Row} (hv : Valid rs) {v w : Str → Bool} {g : Str → Str} (hg : g ∈ chAll rs v w) : (entL rs (fewG rs v w)).length ≤ (entL rs g).length := by
  rw [ent_cost hv (ch_empty hv hg), ent_cost hv (fewF_empty hv)]
  have lh := lh_of rs v w
  have pre := few_pre hv v w
  show costR (greedy _ _ _ _) _ ≤ _
  rw [greedy_cost lh (topR :: rs) [""] (fun _ => "keep") (suf_top hv) pre]
  have lb := low_bound (g := g) lh (topR :: rs) [""] (suf_top hv) (fun z hz => by
    rw [List.mem_singleton.mp hz, ch_empty hv hg]; exact .inl (softF_empty hv v w).symm) (chFrom_ok lh (topR :: rs) [""] _ (suf_top hv) g hg)
  rw [sumP_congr (g' := g) fun z hz => by rw [List.mem_singleton.mp hz, ch_empty hv hg]]
  exact lb
/-- the first of the least is the code's choice -/
theorem ch_first {rs : List Row} (hv : Valid rs) {v w : Str → Bool} {k : Nat} {g : Str → Str} (hk : (chAll rs v w)[k]? = some g)
    (hm : ∀ (j : Nat) (f : Str → Str), (chAll rs v w)[j]? = some f → (entL rs g).length < (entL rs f).length ∨ ((entL rs g).length = (entL rs f).length ∧ k ≤ j)) : g = fewG rs v w := by
  have lh := lh_of rs v w
  have pre := few_pre hv v w
  have hg := List.mem_of_getElem? hk
  obtain ⟨m, hm1, hm2⟩ := List.mem_iff_getElem.mp (greedy_in (l := softF rs v w) (h := hardF w) (topR :: rs) fun _ => "keep")
  have em : (chAll rs v w)[m]? = some (fewG rs v w) := by
    show (chFrom _ _ _ _)[m]? = _
    rw [List.getElem?_eq_getElem hm1, hm2]
    rfl
  have low := ch_cost hv hg
  rcases hm m _ em with q | ⟨q1, q2⟩
  · omega
  · rcases Nat.lt_or_ge k m with c | c
    · exfalso
      obtain ⟨i, r, h1, h2, h3, h4⟩ := chFrom_lex lh (topR :: rs) [""] (fun _ => "keep") (suf_top hv) k m g (fewG rs v w) c hk em
      have hc : costR g (topR :: rs) ≤ sumP (softF rs v w) (hardF w) (topR :: rs) (fun _ => "keep") [""] := by
        rw [← ent_cost hv (ch_empty hv hg), q1, ent_cost hv (fewF_empty hv)]
        exact Nat.le_of_eq (greedy_cost lh (topR :: rs) [""] (fun _ => "keep") (suf_top hv) pre)
      have d : g r.nm ≠ fewG rs v w r.nm := fun y => by
        rw [h3, h4] at y
        have a := lh.soft r.nm
        rw [y, lh.hard] at a
        cases a
      have fin := greedy_first (g := g) lh (topR :: rs) [""] (fun _ => "keep") (suf_top hv) pre (fun z hz => by rw [List.mem_singleton.mp hz]; exact ch_empty hv hg) (chFrom_ok lh (topR :: rs) [""] _ (suf_top hv) g hg) hc i r h1 h2 d
      have a := lh.soft r.nm
      rw [← h3, fin.2, lh.hard] at a
      cases a
    · have : k = m := Nat.le_antisymm q2 c
      rw [this, em] at hk
      exact (Option.some.inj hk).symm
end Ts

set_option maxRecDepth 100000
set_option maxHeartbeats 4000000
namespace Ts
open PySem L2
/-- dicts of maps -/
structure DcAt (H : Hp) (ds : List Addr) (gs : List (Str → Str)) (l : List Str) : Prop where
  len : ds.length = gs.length
  at_ : ∀ (i : Nat) (d : Addr) (g : Str → Str), ds[i]? = some d → gs[i]? = some g → H d = some (.dK (kvS g l))
theorem DcAt.same {H H' : Hp} {ds : List Addr} {gs : List (Str → Str)} {l : List Str} (h : DcAt H ds gs l) (s : Same H H') : DcAt H' ds gs l := ⟨h.len, fun i d g a b => s _ _ (h.at_ i d g a b)⟩
theorem DcAt.nil {H : Hp} {l : List Str} : DcAt H [] [] l := ⟨rfl, fun i d g a _ => by simp at a⟩
theorem DcAt.snoc {H : Hp} {ds : List Addr} {gs : List (Str → Str)} {l : List Str} {d : Addr} {g : Str → Str} (h : DcAt H ds gs l) (e : H d = some (.dK (kvS g l))) : DcAt H (ds ++ [d]) (gs ++ [g]) l := by
  refine ⟨by rw [List.length_append, List.length_append, h.len]; rfl, fun i d' g' a b => ?_⟩
  rcases Nat.lt_or_ge i ds.length with c | c
  · rw [List.getElem?_append_left c] at a
    rw [List.getElem?_append_left (by rw [← h.len]; exact c)] at b
    exact h.at_ i d' g' a b
  · rw [List.getElem?_append_right c] at a
    rw [List.getElem?_append_right (by rw [← h.len]; exact c), ← h.len] at b
    match q : i - ds.length with
    | 0 => rw [q] at a b; cases a; cases b; exact e
    | n + 1 => rw [q] at a; simp at a
theorem DcAt.get {H : Hp} {ds : List Addr} {gs : List (Str → Str)} {l : List Str} (h : DcAt H ds gs l) {i : Nat} {x : V} (hx : (ds.map V.ref)[i]? = some x) : ∃ d g, x = .ref d ∧ ds[i]? = some d ∧ gs[i]? = some g ∧ H d = some (.dK (kvS g l)) := by
  rw [List.getElem?_map] at hx
  obtain ⟨d, hd, rfl⟩ := Option.map_eq_some_iff.mp hx
  obtain ⟨g, hg⟩ : ∃ g, gs[i]? = some g := ⟨gs[i]'(by rw [← h.len]; exact (List.getElem?_eq_some_iff.mp hd).1), List.getElem?_eq_getElem _⟩
  exact ⟨d, g, rfl, hd, hg, h.at_ i d g hd hg⟩
def foV (r : Row) : V := if r.nm = ("top" : Str) then .non else .str r.fo
/-- pairs of a box and its folder -/
structure PrAt (H : Hp) (as : List Addr) (S : List Row) : Prop where
  len : as.length = S.length
  at_ : ∀ (i : Nat) (a : Addr) (r : Row), as[i]? = some a → S[i]? = some r → H a = some (.tup [.str r.nm, foV r])
theorem PrAt.same {H H' : Hp} {as : List Addr} {S : List Row} (h : PrAt H as S) (s : Same H H') : PrAt H' as S := ⟨h.len, fun i d g a b => s _ _ (h.at_ i d g a b)⟩
theorem PrAt.snoc {H : Hp} {as : List Addr} {S : List Row} {a : Addr} {r : Row} (h : PrAt H as S) (e : H a = some (.tup [.str r.nm, foV r])) : PrAt H (as ++ [a]) (S ++ [r]) := by
  refine ⟨by rw [List.length_append, List.length_append, h.len]; rfl, fun i d' g' x b => ?_⟩
  rcases Nat.lt_or_ge i as.length with c | c
  · rw [List.getElem?_append_left c] at x
    rw [List.getElem?_append_left (by rw [← h.len]; exact c)] at b
    exact h.at_ i d' g' x b
  · rw [List.getElem?_append_right c] at x
    rw [List.getElem?_append_right (by rw [← h.len]; exact c), ← h.len] at b
    match q : i - as.length with
    | 0 => rw [q] at x b; cases x; cases b; exact e
    | n + 1 => rw [q] at x; simp at x
theorem PrAt.get {H : Hp} {as : List Addr} {S : List Row} (h : PrAt H as S) {i : Nat} {x : V} (hx : (as.map V.ref)[i]? = some x) : ∃ a r, x = .ref a ∧ S[i]? = some r ∧ H a = some (.tup [.str r.nm, foV r]) := by
  rw [List.getElem?_map] at hx
  obtain ⟨d, hd, rfl⟩ := Option.map_eq_some_iff.mp hx
  obtain ⟨g, hg⟩ : ∃ g, S[i]? = some g := ⟨S[i]'(by rw [← h.len]; exact (List.getElem?_eq_some_iff.mp hd).1), List.getElem?_eq_getElem _⟩
  exact ⟨d, g, rfl, hg, h.at_ i d g hd hg⟩
theorem kvS_set {g : Str → Str} {l : List Str} {z x : Str} (hn : z ∉ l) : putK (kvS g l) (.inr z) (.str x) = kvS (setF g z x) (l ++ [z]) := by
  have e : kvS g l = kvX (fun y => V.str (setF g z x y)) l := kvX_congr fun y hy => by
    rw [setF_ne fun q : y = z => hn (q ▸ hy)]
  rw [e]
  have := kvX_snoc (f := fun y => V.str (setF g z x y)) hn
  rw [setF_at] at this
  exact this
theorem soft_in4 {rs : List Row} {v w : Str → Bool} (z : Str) : softF rs v w z ∈ words4 := by unfold softF; split <;> decide +kernel
theorem hard_in4 {w : Str → Bool} (z : Str) : hardF w z ∈ words4 := by unfold hardF; split <;> decide +kernel
theorem chFrom_w {l h : Str → Str} (hl : ∀ z, l z ∈ words4) (hh : ∀ z, h z ∈ words4) : ∀ (S : List Row) (e : Str → Str), (∀ z, e z ∈ words4) → ∀ g ∈ chFrom l h S e, ∀ z, g z ∈ words4
  | [], e, he, g, hg, z => by rw [List.mem_singleton.mp hg]; exact he z
  | r :: S, e, he, g, hg, z => by
    have st : ∀ x, x ∈ words4 → ∀ y, setF e r.nm x y ∈ words4 := fun x hx y => by
      unfold setF
      split
      · exact hx
      · exact he y
    have hg' : g ∈ (if firm (e r.fo) = true then [] else chFrom l h S (setF e r.nm (l r.nm))) ++ chFrom l h S (setF e r.nm (h r.nm)) := hg
    rcases List.mem_append.mp hg' with q | q
    · split at q
      · cases q
      · exact chFrom_w hl hh S _ (st _ (hl _)) g q z
    · exact chFrom_w hl hh S _ (st _ (hh _)) g q z
theorem soft_in : ∀ x ∈ words4, inV (.str x) [V.str ("keep" : Str), V.str ("flip" : Str)] = !firm x := by decide +kernel
def partCh (l h : Str → Str) (r : Row) (e : Str → Str) : Nat → List (Str → Str)
  | 0 => []
  | 1 => if firm (e r.fo) = true then [] else [setF e r.nm (l r.nm)]
  | _ => stepCh l h r e
theorem partCh_len {l h : Str → Str} {r : Row} {e : Str → Str} : ∀ m, m < 2 → (partCh l h r e m).length ≤ 1
  | 0, _ => Nat.zero_le _
  | 1, _ => by
    show (if firm (e r.fo) = true then [] else [setF e r.nm (l r.nm)]).length ≤ 1
    split
    · exact Nat.zero_le _
    · exact Nat.le_refl _
  | _ + 2, h => by omega
theorem flat_len {l h : Str → Str} {r : Row} : ∀ gs : List (Str → Str), (gs.flatMap (stepCh l h r)).length ≤ 2 * gs.length
  | [] => Nat.le_refl _
  | g :: gs => by
    have ih := flat_len (l := l) (h := h) (r := r) gs
    rw [List.flatMap_cons, List.length_append, List.length_cons]
    have : (stepCh l h r g).length ≤ 2 := by
      unfold stepCh
      rw [List.length_append]
      split
      · show 0 + 1 ≤ 2; omega
      · show 1 + 1 ≤ 2; omega
    omega
theorem kvG_get {rs : List Row} {v : Str → Bool} {z : Str} (hz : z ∈ plc rs) {H : Hp} {d : Addr} (e : H d = some (.dK (kvG rs v))) : DGet H d (.str z) (some (.bl (v z))) := .inl ⟨_, .inr z, .inl e, rfl, (valV_kvG v hz).symm⟩
def spLChoi : Sp := fun vs H Q _ => ∃ (p a b : Addr) (rs : List Row) (v w : Str → Bool), vs = [.ref p, .ref a, .ref b] ∧ RowsL H p rs ∧ Valid rs ∧ rs.length ≤ 8 ∧ H a = some (.dK (kvG rs v)) ∧ H b = some (.dK (kvG rs w)) ∧
  ∀ D ds H', H D = none → Same H H' → H' D = some (.lst (ds.map V.ref)) → DcAt H' ds (chAll rs v w) (plc rs) → Q (.ref D) H'
section
variable {P : Program} {w : World} {K : PySem.W.Frag} {mg : Str → Option Value} {base : Heap} {C : Addr}
abbrev pLCh : List Str := ["_law_rows_here", "_law_mine", "_law_theirs"]
abbrev nLCh : List Str := ["_law_rows_here", "_law_mine", "_law_theirs", "_law_found", "_law_box", "_law_folder", "_law_soft", "_law_hard", "_law_longer", "_law_maps", "_law_one", "_law_more", "_law_row"]
theorem sc_LCh : FnScope nLCh pLCh (defScope s_L_choices) := ⟨rfl, rfl, rfl, by decide +kernel, rfl, by decide +kernel, by decide +kernel⟩
theorem ok_LCh (D : DefAt K mg "_law_choices" s_L_choices pLCh) (B : TxB mg) : FnOk P w K mg base CX0 2 D.f D.fd pLCh spLChoi := by
  refine D.F.ok sc_LCh (fun vs H Q E h => ?_) (fun cdv A outer s H vs Q E hr h => ?_)
  · obtain ⟨p, a, b, rs, v, w', rfl, _⟩ := h
    rfl
  · obtain ⟨p, a, b, rs, v, w', rfl, hL, hv, hl, ha, hb, hq⟩ := h
    have hu := hu_of hr
    refine ⟨_, pss_cons (ps_set (i := 3) sc_LCh.nd rfl (.inl rfl) (pe_lst (pa_cons pe_dnewK pa_nil)))
      (pss_cons (ps_for PassesOwn.never rfl (pi_list (pe_op op_cat (pe_lst (pa_cons (pe_tup (pa_cons pe_str (pa_cons pe_non pa_nil))) pa_nil))
            (pe_lc (own := [("_law_row", 12)]) (g := gName 12) (tt := tYes) (te := tTup (tCons (tOp (rIxT K) (tVar 12) (tC (.int 0))) (tCons (tOp (rIxT K) (tVar 12) (tC (.int 1))) tNil))) rfl sc_LCh.nd (pi_list (pv 0)) (blkOk_by (N := nLCh) (sc := defScope s_L_choices) (by decide +kernel))
              (fun _ _ _ _ _ => pg_name (i := 12) sc_LCh.nd rfl (Or.inl rfl)) (fun _ _ _ _ _ => pts_nil) (fun _ _ _ _ _ => by exact pe_tup (pa_cons (pe_ix ix_tup (pv 12) pe_int (fun _ _ => rfl)) (pa_cons (pe_ix ix_tup (pv 12) pe_int (fun _ _ => rfl)) pa_nil))))))
          (pg_tup rfl (pgs_cons (pg_name (i := 4) sc_LCh.nd rfl (.inl rfl)) (pgs_cons (pg_name (i := 5) sc_LCh.nd rfl (.inl rfl)) pgs_nil)))
        (pss_cons (ps_set (i := 6) sc_LCh.nd rfl (.inl rfl) (pe_weak (pe_ifExp (pt_cmpR op_eq (pe_dget hu (pv 1) (pv 4) (fun _ _ => rfl)) (pe_dget hu (pv 2) (pv 4) (fun _ _ => rfl)) (nomark _)) pe_str pe_str)))
        (pss_cons (ps_par (i := 7) (j := 8) rfl sc_LCh.nd rfl rfl (by decide) rfl rfl (pa_cons (pe_weak (pe_ifExp (pt_val (pe_dget hu (pv 2) (pv 4) (fun _ _ => rfl))) pe_str pe_str)) (pa_cons (pe_lst pa_nil) pa_nil)) (by rfl))
        (pss_cons (ps_for PassesOwn.never rfl (pi_list (pe_callTy (T := "list") call_list_of (by rfl) B.list (by decide +kernel) (pa_cons (pv 3) pa_nil))) (pg_name (i := 9) sc_LCh.nd rfl (.inl rfl))
          (pss_one (ps_for PassesOwn.never rfl (pi_tup (pe_tup (pa_cons (pv 6) (pa_cons (pv 7) pa_nil)))) (pg_name (i := 10) sc_LCh.nd rfl (.inl rfl))
            (pss_one (ps_if (pt_weak (PW.pt (pw_or (pt_cmpR op_eq (pv 10) (pv 7) (nomark _)) (pw_or (pt_cmpR op_isN (pv 5) pe_non (nomark _)) (pw_or1 (pt_cmpR op_in_seq (pe_dget hu (pv 9) (pv 5) (fun _ _ => rfl)) (pe_tup (pa_cons pe_str (pa_cons pe_str pa_nil))) (by rfl)))))))
              (pss_cons (ps_set (i := 11) sc_LCh.nd rfl (.inl rfl) (pe_callTy (T := "dict") call_dictD (by rfl) B.dict (by decide +kernel) (pa_cons (pv 9) pa_nil)))
              (pss_cons (ps_dput hu (pv 11) (pv 4) (pv 10) rfl)
              (pss_one (ps_expr (pe_bm PySem.F.plainAttrs_list PySem.F.slot_list_append PySem.F.type_list_append mt_append (pv 8) (pa_cons (pv 11) pa_nil)))))) pss_nil)))))
        (pss_one (ps_set (i := 3) sc_LCh.nd rfl (.inl rfl) (pv 8)))))))
      (pss_one (ps_ret (pv 3)))), ?_⟩
    obtain ⟨l, el⟩ : ∃ l, l = softF rs v w' := ⟨_, rfl⟩
    obtain ⟨h, eh⟩ : ∃ h, h = hardF w' := ⟨_, rfl⟩
    have nd := plc_nd hv
    have eqS : ∀ x y : Str, decide (V.str x = V.str y) = decide (x = y) := fun x y => decide_eq_decide.mpr ⟨fun h => V.str.inj h, fun h => congrArg _ h⟩
    -- the first list
    refine fun d0 hd0 => ⟨(by show 1 ≤ sizeLine; decide), fun f0 hf0 => ?_⟩
    have s2 : Same H (upd (upd H d0 (.dK [])) f0 (.lst [V.ref d0])) := (Same.new hd0).trans (Same.new hf0)
    have e2 : (upd (upd H d0 (.dK [])) f0 (.lst [V.ref d0])) f0 = some (.lst (([d0] : List Addr).map V.ref)) := upd_same
    have c2 : DcAt (upd (upd H d0 (.dK [])) f0 (.lst [V.ref d0])) [d0] [fun _ => ("keep" : Str)] [] := ⟨rfl, fun i d g x y => by
      match i, x, y with
      | 0, x, y => cases x; cases y; exact (Same.new hf0) _ _ upd_same
      | n + 1, x, y => simp at x⟩
    have nf0 : H f0 = none := by
      rcases q : H f0 with _ | o
      · rfl
      · rw [(Same.new hd0) _ _ q] at hf0; cases hf0
    generalize upd (upd H d0 (.dK [])) f0 (.lst [V.ref d0]) = H2 at s2 e2 c2
    -- the pairs
    obtain ⟨ras, hp, hrows⟩ := id hL.ex
    refine ⟨(by show 2 ≤ sizeLine; decide), fun t0 ht0 => ⟨(by show 1 ≤ sizeLine; decide), fun l1 hl1 => ?_⟩⟩
    have s3 : Same H2 (upd (upd H2 t0 (.tup [V.str ("top" : Str), V.non])) l1 (.lst [V.ref t0])) := (Same.new ht0).trans (Same.new hl1)
    have e3 : (upd (upd H2 t0 (.tup [V.str ("top" : Str), V.non])) l1 (.lst [V.ref t0])) l1 = some (.lst (([t0] : List Addr).map V.ref)) := upd_same
    have p3 : PrAt (upd (upd H2 t0 (.tup [V.str ("top" : Str), V.non])) l1 (.lst [V.ref t0])) [t0] [topR] := ⟨rfl, fun i a r x y => by
      match i, x, y with
      | 0, x, y => cases x; cases y; exact (Same.new hl1) _ _ upd_same
      | n + 1, x, y => simp at x⟩
    generalize upd (upd H2 t0 (.tup [V.str ("top" : Str), V.non])) l1 (.lst [V.ref t0]) = H3 at s3 e3 p3
    have s03 := s2.trans s3
    refine ⟨_, rfl, p, rfl, ⟨_, SqL.of (s03 _ _ hp)⟩, fun D2 hD2 => ?_⟩
    refine lc_list (K := K) (a := p) (xs := ras.map V.ref) (fun i H' => Same H3 H' ∧ ∃ as : List Addr, H' D2 = some (.lst (as.map V.ref)) ∧ PrAt H' as (rs.take i)) ⟨Same.new hD2, [], upd_same, rfl, fun i a r x _ => by simp at x⟩ (fun i H' _ m => m.1.seq (SqL.of (s03 _ _ hp))) ?_ ?_
    · rintro i x H4 hx ⟨s4, as, e4, p4⟩
      obtain ⟨ra, r, rfl, hra, hr', e0⟩ := rows_at hrows hx
      have e0' := (s03.trans s4) _ _ e0
      refine ⟨rfl, tYes_if ⟨_, rfl, ra, _, _, _, rfl, rfl, sqT e0', atI0 _ _ _ _, _, rfl, ra, _, _, _, rfl, rfl, sqT e0', atI1 _ _ _ _, (by show 2 ≤ sizeLine; decide), fun t ht => ?_⟩⟩
      have nDt : D2 ≠ t := ne_of_none e4 ht
      have la : as.length ≤ 8 := by rw [p4.len, List.length_take]; omega
      refine ⟨as.map V.ref, by rw [upd_ne nDt]; exact e4, small1000 (by rw [List.length_map]; omega), fun b o eb => ?_, as ++ [t], by rw [upd_same, List.map_append]; rfl, ?_⟩
      · rw [upd_ne (fun y => by rw [y, hD2] at eb; cases eb), upd_ne (ne_of_none (s4 _ _ eb) ht)]
        exact s4 _ _ eb
      · rw [take_more hr']
        have nt : r.nm ≠ ("top" : Str) := fun y => top_not hv (by rw [← y]; exact List.mem_map.mpr ⟨r, List.mem_of_getElem? hr', rfl⟩)
        have kp : ∀ {b : Addr} {xs : List V}, H4 b = some (.tup xs) → (upd (upd H4 t (.tup [V.str r.nm, V.str r.fo])) D2 (.lst (as.map V.ref ++ [V.ref t]))) b = some (.tup xs) := fun {b xs} e => by
          rw [upd_ne (fun y => by rw [y, e4] at e; cases e), upd_ne (ne_of_none e ht)]; exact e
        refine PrAt.snoc ⟨p4.len, fun i2 b d x y => kp (p4.at_ i2 b d x y)⟩ ?_
        rw [upd_ne nDt.symm, upd_same]
        unfold foV
        rw [if_neg nt]
    rintro H4 ⟨s4, as, e4, p4⟩
    rw [List.length_map, hrows.len, List.take_length] at p4
    have la : as.length ≤ 8 := by rw [p4.len]; exact hl
    refine ⟨l1, D2, _, _, rfl, rfl, s4 _ _ e3, e4, szl (by rw [List.length_map, List.length_map]; show 1 + _ ≤ 1000; omega), fun l5 hl5 => ?_⟩
    have s5 : Same H4 (upd H4 l5 (.lst (([t0] : List Addr).map V.ref ++ as.map V.ref))) := Same.new hl5
    have e5 : (upd H4 l5 (.lst (([t0] : List Addr).map V.ref ++ as.map V.ref))) l5 = some (.lst ((t0 :: as).map V.ref)) := upd_same
    have p5 : PrAt (upd H4 l5 (.lst (([t0] : List Addr).map V.ref ++ as.map V.ref))) (t0 :: as) (topR :: rs) := ⟨by rw [List.length_cons, List.length_cons, p4.len], fun i a r x y => by
      match i, x, y with
      | 0, x, y => exact s5 _ _ (s4 _ _ (p3.at_ 0 a r x y))
      | n + 1, x, y => exact s5 _ _ (p4.at_ n a r (by simpa using x) (by simpa using y))⟩
    generalize upd H4 l5 (.lst (([t0] : List Addr).map V.ref ++ as.map V.ref)) = H5 at s5 e5 p5
    have s25 : Same H2 H5 := (s3.trans s4).trans s5
    have s05 : Same H H5 := s2.trans s25
    refine ⟨l5, rfl, ⟨_, SqL.of e5⟩, ?_⟩
    refine for_list (K := K) (a := l5) (xs := (t0 :: as).map V.ref) (fun i σ H' => ∃ (F : Addr) (ds : List Addr) (v4 v5 v6 v7 v8 v9 v10 v11 : Option V), σ = [some (.ref p), some (.ref a), some (.ref b), some (.ref F), v4, v5, v6, v7, v8, v9, v10, v11, none] ∧ H F = none ∧ Same H5 H' ∧ H' F = some (.lst (ds.map V.ref)) ∧ DcAt H' ds (chList l h ((topR :: rs).take i) [fun _ => "keep"]) ((plc rs).take i)) ⟨f0, [d0], _, _, _, _, _, _, _, _, rfl, nf0, Same.refl _, s25 _ _ e2, c2.same s25⟩ (fun i σ H' _ ⟨_, _, _, _, _, _, _, _, _, _, _, _, s, _⟩ => SqL.of (s _ _ e5)) ?_ ?_
    · rintro i x σ H6 hx ⟨F, ds, v4, v5, v6, v7, v8, v9, v10, v11, rfl, nF, s6, eF, cF⟩
      obtain ⟨ar, r, rfl, hS, et⟩ := (p5.same s6).get hx
      obtain ⟨gs, egs⟩ : ∃ gs, gs = chList l h ((topR :: rs).take i) [fun _ => "keep"] := ⟨_, rfl⟩
      have hi : i < 9 := by
        have := (List.getElem?_eq_some_iff.mp hS).1
        rw [List.length_cons] at this
        omega
      have lgs : gs.length ≤ 256 := by
        rw [egs, chList_from]
        show (chFrom l h ((topR :: rs).take i) (fun _ => "keep") ++ []).length ≤ 256
        rw [List.append_nil]
        refine Nat.le_trans (chFrom_len _ _) ?_
        rw [List.length_take]
        exact Nat.le_trans (Nat.pow_le_pow_right (by decide) (show min i (topR :: rs).length ≤ 8 by omega)) (by decide)
      have gw : ∀ g ∈ gs, ∀ z, g z ∈ words4 := fun g hg z => by
        rw [egs, chList_from] at hg
        have hg' : g ∈ chFrom l h ((topR :: rs).take i) (fun _ => "keep") ++ [] := hg
        rw [List.append_nil] at hg'
        exact chFrom_w (by rw [el]; exact soft_in4) (by rw [eh]; exact hard_in4) _ _ (fun _ => w_keep) g hg' z
      have hpl : (plc rs)[i]? = some r.nm := by
        have : ((topR :: rs).map Row.nm)[i]? = some r.nm := by rw [List.getElem?_map, hS]; rfl
        exact this
      have hnm := List.mem_of_getElem? hpl
      have hnot : r.nm ∉ (plc rs).take i := fun hm => by
        obtain ⟨j2, hj2, e⟩ := List.mem_take_iff_getElem.mp hm
        obtain ⟨hi2, e5⟩ := List.getElem?_eq_some_iff.mp hpl
        have := (List.getElem_inj nd).mp (e.trans e5.symm)
        omega
      have top0 : r.nm = ("top" : Str) → ∀ g ∈ gs, g r.fo = ("keep" : Str) := fun q g hg => by
        match i, hS, egs with
        | 0, hS, egs =>
          rw [egs] at hg
          have hg' : g ∈ [fun _ : Str => ("keep" : Str)] := hg
          rw [List.mem_singleton.mp hg']
        | i + 1, hS, _ =>
          have hS : rs[i]? = some r := by simpa using hS
          exact absurd (List.mem_map.mpr ⟨r, List.mem_of_getElem? hS, q⟩) (top_not hv)
      have foIn : r.nm ≠ ("top" : Str) → r.fo ∈ (plc rs).take i := fun q => by
        match i, hS with
        | 0, hS => cases hS; exact absurd rfl q
        | i + 1, hS =>
          have hS : rs[i]? = some r := by simpa using hS
          show r.fo ∈ (("top" : Str) :: names rs).take (i + 1)
          rw [List.take_succ_cons]
          rcases hv.fo hS with e | e
          · rw [e]; exact List.mem_cons_self ..
          · refine List.mem_cons_of_mem _ ?_
            unfold names at e ⊢
            rw [← List.map_take]
            exact e
      have ha6 : H6 a = some (.dK (kvG rs v)) := s6 _ _ (s05 _ _ ha)
      have hb6 : H6 b = some (.dK (kvG rs w')) := s6 _ _ (s05 _ _ hb)
      rw [← egs] at cF
      refine ⟨ar, _, rfl, sqT et, rfl, _, _, rfl, _, _, rfl, rfl, ?_⟩
      -- soft
      refine ⟨fun x H' => x = .str (l r.nm) ∧ H' = H6, ?_, ?_⟩
      · refine ⟨_, rfl, _, rfl, a, _, rfl, kvG_get hnm ha6, _, rfl, _, rfl, b, _, rfl, kvG_get hnm hb6, rfl, _, rfl, ?_⟩
        refine ite2 (fun c => ?_) (fun c => ?_)
        · have c' : v r.nm = w' r.nm := V.bl.inj (of_decide_eq_true c)
          refine ⟨?_, rfl⟩
          rw [el]; unfold softF
          rw [if_neg fun q => q.2 c']
        · have c' : v r.nm ≠ w' r.nm := fun q => c (decide_eq_true (congrArg V.bl q))
          refine ⟨?_, rfl⟩
          rw [el]; unfold softF
          rw [if_pos ⟨hnm, c'⟩]
      rintro x H6' ⟨rfl, rfl⟩
      -- hard and the new list
      refine ⟨fun x H' => x = .str (h r.nm) ∧ H' = H6', ?_, ?_⟩
      · refine ⟨_, rfl, _, rfl, b, _, rfl, kvG_get hnm hb6, _, rfl, ?_⟩
        refine ite2 (fun c => ?_) (fun c => ?_)
        · refine ⟨?_, rfl⟩
          rw [eh]; unfold hardF
          rw [if_pos c]
        · refine ⟨?_, rfl⟩
          rw [eh]; unfold hardF
          rw [if_neg c]
      rintro x H6 ⟨rfl, rfl⟩
      refine ⟨(by show 0 ≤ sizeLine; decide), fun lg hlg => ⟨_, _, rfl, ?_⟩⟩
      have s7 : Same H6 (upd H6 lg (.lst [])) := Same.new hlg
      have e7 : (upd H6 lg (.lst [])) lg = some (.lst (([] : List Addr).map V.ref)) := upd_same
      generalize upd H6 lg (.lst []) = H7 at s7 e7
      have eF7 := s7 _ _ eF
      refine ⟨_, rfl, F, _, rfl, .inl (SqL.of eF7), fun kl hkl => ?_⟩
      have s8 : Same H7 (upd H7 kl (.lst (ds.map V.ref))) := Same.new hkl
      have e8 : (upd H7 kl (.lst (ds.map V.ref))) kl = some (.lst (ds.map V.ref)) := upd_same
      have e78 := s8 _ _ e7
      have nkl : kl ≠ lg := fun e => by rw [e, e7] at hkl; cases hkl
      generalize upd H7 kl (.lst (ds.map V.ref)) = H8 at s8 e8 e78
      have s68 := s7.trans s8
      have cF8 := cF.same s68
      refine ⟨kl, rfl, ⟨_, SqL.of e8⟩, ?_⟩
      refine for_list (K := K) (a := kl) (xs := ds.map V.ref) (fun j σ H' => ∃ (es : List Addr) (v9 v10 v11 : Option V), σ = [some (.ref p), some (.ref a), some (.ref b), some (.ref F), some (.str r.nm), some (foV r), some (.str (l r.nm)), some (.str (h r.nm)), some (.ref lg), v9, v10, v11, none] ∧ SB lg H8 H' ∧ H' lg = some (.lst (es.map V.ref)) ∧ DcAt H' es ((gs.take j).flatMap (stepCh l h r)) ((plc rs).take (i + 1))) ⟨[], _, _, _, rfl, SB.refl _ _, e78, DcAt.nil⟩ (fun j σ H' _ ⟨_, _, _, _, _, sb, _⟩ => SqL.of (sb _ _ nkl e8)) ?_ ?_
      · rintro j x σ H9 hx ⟨es, v9, v10, v11, rfl, sb, e9, d9⟩
        obtain ⟨d, g, rfl, hd, hg, ed⟩ := cF8.get hx
        have ndl : d ≠ lg := ne_of_none (cF.at_ j d g hd hg) hlg
        have ed9 := sb _ _ ndl ed
        have ggs := List.mem_of_getElem? hg
        have lj : ((gs.take j).flatMap (stepCh l h r)).length ≤ 512 := by
          refine Nat.le_trans (flat_len _) ?_
          rw [List.length_take]
          omega
        refine ⟨_, rfl, _, rfl, (by show 2 ≤ sizeLine; decide), fun tv htv => ?_⟩
        have s10 : Same H9 (upd H9 tv (.tup [V.str (l r.nm), V.str (h r.nm)])) := Same.new htv
        have e10 : (upd H9 tv (.tup [V.str (l r.nm), V.str (h r.nm)])) tv = some (.tup ([l r.nm, h r.nm].map V.str)) := upd_same
        have e910 := s10 _ _ e9
        have ntl : tv ≠ lg := fun e => by rw [e, e9] at htv; cases htv
        generalize upd H9 tv (.tup [V.str (l r.nm), V.str (h r.nm)]) = H10 at s10 e10 e910
        refine ⟨tv, rfl, ⟨_, sqT e10⟩, ?_⟩
        refine for_tup (K := K) (a := tv) (xs := [l r.nm, h r.nm].map V.str) (fun m σ H' => ∃ (es : List Addr) (v10 v11 : Option V), σ = [some (.ref p), some (.ref a), some (.ref b), some (.ref F), some (.str r.nm), some (foV r), some (.str (l r.nm)), some (.str (h r.nm)), some (.ref lg), some (.ref d), v10, v11, none] ∧ SB lg H10 H' ∧ H' lg = some (.lst (es.map V.ref)) ∧ DcAt H' es ((gs.take j).flatMap (stepCh l h r) ++ partCh l h r g m) ((plc rs).take (i + 1))) ⟨es, _, _, rfl, SB.refl _ _, e910, by rw [show partCh l h r g 0 = [] from rfl, List.append_nil]; exact d9.same s10⟩ (fun m σ H' _ ⟨_, _, _, _, sb, _⟩ => sqT (sb _ _ ntl e10)) ?_ ?_
        · rintro m x σ H11 hx ⟨es, v10, v11, rfl, sb11, e11, d11⟩
          rw [List.getElem?_map] at hx
          obtain ⟨one, ho, rfl⟩ := Option.map_eq_some_iff.mp hx
          have hm : m < 2 := (List.getElem?_eq_some_iff.mp ho).1
          have ed11 : H11 d = some (.dK (kvS g ((plc rs).take i))) := sb11 _ _ ndl (s10 _ _ ed9)
          have lne : l r.nm ≠ h r.nm := fun q => by
            have x1 : firm (l r.nm) = false := by rw [el]; exact (lh_of rs v w').soft _
            have x2 : firm (h r.nm) = true := by rw [eh]; exact (lh_of rs v w').hard _
            rw [q, x2] at x1; cases x1
          have one1 : one = h r.nm ↔ m = 1 := by
            match m, hm, ho with
            | 0, _, ho =>
              cases ho
              exact ⟨fun q => absurd q lne, fun q => by cases q⟩
            | 1, _, ho =>
              cases ho
              exact ⟨fun _ => rfl, fun _ => rfl⟩
          refine ⟨fun b H' => b = decide (m = 1 ∨ ¬ firm (g r.fo) = true) ∧ Same H11 H', ?_, ?_⟩
          · refine ⟨_, rfl, _, rfl, rfl, _, rfl, ?_⟩
            rw [eqS]
            refine ite2 (fun c1 => ?_) (fun c1 => ?_)
            · exact ⟨(decide_eq_true (.inl (one1.mp (of_decide_eq_true c1)))).symm, Same.refl _⟩
            have m0 : ¬ m = 1 := fun q => c1 (decide_eq_true (one1.mpr q))
            refine ⟨_, rfl, rfl, _, rfl, ?_⟩
            refine ite2 (fun c2 => ?_) (fun c2 => ?_)
            · have tp : r.nm = ("top" : Str) := Classical.byContradiction fun q => by
                have c3 : foV r = V.non := of_decide_eq_true c2
                unfold foV at c3
                rw [if_neg q] at c3
                cases c3
              refine ⟨(decide_eq_true (.inr ?_)).symm, Same.refl _⟩
              rw [top0 tp g ggs]
              decide +kernel
            have ntp : r.nm ≠ ("top" : Str) := fun q => c2 (decide_eq_true (by unfold foV; rw [if_pos q]))
            have ef : foV r = .str r.fo := by unfold foV; rw [if_neg ntp]
            rw [ef]
            refine ⟨_, rfl, _, rfl, d, .str (g r.fo), rfl, .inl ⟨_, .inr r.fo, .inl ed11, rfl, (valV_kvX (fun z => V.str (g z)) (foIn ntp)).symm⟩, (by show 2 ≤ sizeLine; decide), fun tq htq => ⟨tq, _, rfl, .inr (sqT upd_same), rfl, rfl, _, rfl, ?_, Same.new htq⟩⟩
            rw [if_neg Bool.false_ne_true, soft_in _ (gw g ggs _)]
            cases q : firm (g r.fo) with
            | true => exact (decide_eq_false fun y => y.elim m0 fun y => y rfl).symm
            | false => exact (decide_eq_true (.inr Bool.false_ne_true)).symm
          rintro bb H12 ⟨rfl, s12⟩
          have e12 := s12 _ _ e11
          have d12 := d11.same s12
          have sb12 : SB lg H10 H12 := fun b o nb e => s12 _ _ (sb11 _ _ nb e)
          have les : es.length ≤ 513 := by
            rw [d11.len, List.length_append]
            have := partCh_len (l := l) (h := h) (r := r) (e := g) m hm
            omega
          refine ite2 (fun c => ?_) (fun c => ?_)
          · have c' := of_decide_eq_true c
            refine ⟨_, rfl, d, _, rfl, .inl (s12 _ _ ed11), fun dn hdn => ?_⟩
            have s13 : Same H12 (upd H12 dn (.dK (kvS g ((plc rs).take i)))) := Same.new hdn
            have e13 : (upd H12 dn (.dK (kvS g ((plc rs).take i)))) dn = some (.dK (kvS g ((plc rs).take i))) := upd_same
            have ndn : dn ≠ lg := fun e => by rw [e, e12] at hdn; cases hdn
            have sz : (kvS g ((plc rs).take i)).length < sizeLine := small1000 (by unfold kvS; rw [kvX_len, List.length_take]; omega)
            refine ⟨_, rfl, _, rfl, _, rfl, dn, _, rfl, DPut.k (k := Sum.inr r.nm) e13 sz, ?_⟩
            have ek : (plc rs).take (i + 1) = (plc rs).take i ++ [r.nm] := take_more hpl
            rw [kvS_set hnot, ← ek]
            have s14 : Same H12 (upd (upd H12 dn (.dK (kvS g ((plc rs).take i)))) dn (.dK (kvS (setF g r.nm one) ((plc rs).take (i + 1))))) := fun b o e => by
              rw [upd_ne (ne_of_none e hdn)]; exact s13 _ _ e
            have e14 : (upd (upd H12 dn (.dK (kvS g ((plc rs).take i)))) dn (.dK (kvS (setF g r.nm one) ((plc rs).take (i + 1))))) dn = some (.dK (kvS (setF g r.nm one) ((plc rs).take (i + 1)))) := upd_same
            generalize upd (upd H12 dn (.dK (kvS g ((plc rs).take i)))) dn (.dK (kvS (setF g r.nm one) ((plc rs).take (i + 1)))) = H14 at s14 e14
            have e1214 := s14 _ _ e12
            have kp : ∀ {b : Addr} {kvs : List (Key × V)}, H14 b = some (.dK kvs) → (upd H14 lg (.lst (es.map V.ref ++ [V.ref dn]))) b = some (.dK kvs) := fun {b kvs} e => by
              rw [upd_ne (fun y => by rw [y, e1214] at e; cases e)]; exact e
            refine ⟨_, rfl, .inl ⟨rfl, _, SqL.of e1214⟩, _, rfl, lg, _, _, rfl, rfl, e1214, small1000 (by rw [List.length_map]; omega), es ++ [dn], _, _, rfl, fun b o nb e => by rw [upd_ne nb]; exact s14 _ _ (sb12 _ _ nb e), by rw [upd_same, List.map_append]; rfl, ?_⟩
            have ep : partCh l h r g (m + 1) = partCh l h r g m ++ [setF g r.nm one] := by
              match m, hm, ho, c' with
              | 0, _, ho, c' =>
                cases ho
                show (if firm (g r.fo) = true then [] else [setF g r.nm (l r.nm)]) = [] ++ _
                rw [if_neg (c'.resolve_left (by decide))]
                rfl
              | 1, _, ho, _ =>
                cases ho
                rfl
            rw [ep, ← List.append_assoc]
            have d14 := d12.same s14
            exact DcAt.snoc ⟨d14.len, fun i2 b d x y => kp (d14.at_ i2 b d x y)⟩ (kp e14)
          · have c' : ¬ (m = 1 ∨ ¬ firm (g r.fo) = true) := fun q => c (decide_eq_true q)
            refine ⟨es, _, _, rfl, sb12, e12, ?_⟩
            have ep : partCh l h r g (m + 1) = partCh l h r g m := by
              match m, hm, c' with
              | 0, _, c' =>
                show (if firm (g r.fo) = true then [] else [setF g r.nm (l r.nm)]) = []
                rw [if_pos (Classical.byContradiction fun q => c' (.inr q))]
              | 1, _, c' => exact absurd (.inl rfl) c'
            rw [ep]
            exact d12
        · rintro σ H11 ⟨es, v10, v11, rfl, sb11, e11, d11⟩
          refine ⟨es, _, _, _, rfl, fun b o nb e => sb11 _ _ nb (s10 _ _ (sb _ _ nb e)), e11, ?_⟩
          rw [take_more hg, List.flatMap_append]
          have e3 : ([g] : List (Str → Str)).flatMap (stepCh l h r) = partCh l h r g ([l r.nm, h r.nm].map V.str).length := by
            show stepCh l h r g ++ [] = stepCh l h r g
            rw [List.append_nil]
          rw [e3]
          exact d11
      · rintro σ H9 ⟨es, v9, v10, v11, rfl, sb, e9, d9⟩
        rw [List.length_map, cF.len, List.take_length] at d9
        refine ⟨_, rfl, lg, es, _, _, _, _, _, _, _, _, rfl, ?_, fun b o e => sb _ _ (ne_of_none (s6 _ _ e) hlg) (s68 _ _ (s6 _ _ e)), e9, ?_⟩
        · rcases q : H lg with _ | o
          · rfl
          · rw [s6 _ _ (s05 _ _ q)] at hlg; cases hlg
        · rw [chList_more hS, ← egs]
          exact d9
    · rintro σ H6 ⟨F, ds, v4, v5, v6, v7, v8, v9, v10, v11, rfl, nF, s6, eF, cF⟩
      have e1 : ((t0 :: as).map V.ref).length = (topR :: rs).length := by rw [List.length_map, List.length_cons, List.length_cons, p4.len]
      rw [e1, List.take_length, chList_from] at cF
      have e2 : (plc rs).take (topR :: rs).length = plc rs := List.take_of_length_le (by rw [plc_len', List.length_cons]; omega)
      rw [e2] at cF
      refine ⟨_, rfl, hq F ds H6 nF (s05.trans s6) eF ?_⟩
      have e3 : [fun _ => ("keep" : Str)].flatMap (chFrom l h (topR :: rs)) = chAll rs v w' := by
        show chFrom l h (topR :: rs) (fun _ => "keep") ++ [] = _
        rw [List.append_nil, el, eh]
        rfl
      rw [e3] at cF
      exact cF
end
end Ts

set_option maxRecDepth 100000
set_option maxHeartbeats 4000000
namespace Ts
open PySem L2
/-! ### the least number of entries from the innermost boxes on -/
theorem pot_none {l h : Str → Str} : ∀ (S : List Row) {z : Str}, (∀ r ∈ S, r.fo ≠ z) → (pot l h S).1 z = 0 ∧ (pot l h S).2 z = 0
  | [], z, _ => ⟨rfl, rfl⟩
  | r :: S, z, hz => by
    have ne : z ≠ r.fo := fun q => hz r (List.mem_cons_self ..) q.symm
    have p := pot_ne (l := l) (h := h) (q := r) (S := S) ne
    have ih := pot_none (l := l) (h := h) S fun r hr => hz r (List.mem_cons_of_mem _ hr)
    exact ⟨p.1.trans ih.1, p.2.trans ih.2⟩
theorem few_pot {rs : List Row} (hv : Valid rs) (v w : Str → Bool) : (entL rs (fewG rs v w)).length = min ((pot (softF rs v w) (hardF w) rs).1 "top" + un (softF rs v w "top") "keep") ((pot (softF rs v w) (hardF w) rs).2 "top" + 1) := by
  rw [ent_cost hv (fewF_empty hv)]
  have lh := lh_of rs v w
  have pre := few_pre hv v w
  have e := greedy_cost lh (topR :: rs) [""] (fun _ => "keep") (suf_top hv) pre
  refine Eq.trans e ?_
  have e2 : sumP (softF rs v w) (hardF w) (topR :: rs) (fun _ => "keep") [""] = (pot (softF rs v w) (hardF w) (topR :: rs)).1 "" := by
    unfold sumP valP
    rw [List.map_singleton, List.sum_singleton]
    exact if_neg (by decide +kernel)
  rw [e2]
  show addAt (pot (softF rs v w) (hardF w) rs).1 topR.fo (min ((pot (softF rs v w) (hardF w) rs).1 topR.nm + un (softF rs v w topR.nm) (softF rs v w topR.fo)) ((pot (softF rs v w) (hardF w) rs).2 topR.nm + 1)) "" = _
  unfold addAt
  rw [show topR.nm = ("top" : Str) from rfl, show topR.fo = ("" : Str) from rfl, if_pos rfl, softF_empty hv]
  rw [(pot_none rs fun r hr q => suf_empty hv (by rw [← q]; exact mem_plc.mpr (hv.foAll hr))).1, Nat.zero_add]
theorem rd_dictK {K : PySem.W.Frag} {σ : St} {H : Hp} {Q : VK} {tv : TE} {ja jo : Nat} {a : Addr} {rs : List Row} {v : Str → Bool} {f : Str → V} (hj : σ[ja]? = some (some (.ref a))) (ho : jo < σ.length) (ha : H a = some (.dK (kvG rs v))) (nd : (plc rs).Nodup) (ll : (plc rs).length ≤ 200)
    (htv : ∀ z ∈ plc rs, ∀ H1, (∀ b o, b ≠ a → H b = some o → H1 b = some o) → (∃ od, H1 a = some (.frz od (.dK (kvG rs v)))) → ∀ Q' : VK, (∀ H2, Same H1 H2 → Q' (f z) H2) → tv ((wipe σ [jo]).set jo (some (.str z))) H1 Q')
    (k : ∀ D H', H D = none → Same H H' → H' D = some (.dK (kvX f (plc rs))) → Q (.ref D) H') : tCB (rDictP K) (tCons (tLockE (tLc (iKeys (tVar ja)) (gName jo) tYes (tTup (tCons (tVar jo) (tCons tv tNil))) [jo])) tNil) σ H Q := by
  have so : jo < (wipe σ [jo]).length := by rw [wipe_length]; exact ho
  refine ⟨a, _, ha, trivial, fun od => ?_⟩
  have lk : (upd H a (.frz od (.dK (kvG rs v)))) a = some (.frz od (.dK (kvG rs v))) := upd_same
  obtain ⟨Hl, El⟩ : ∃ Hx, Hx = upd H a (.frz od (.dK (kvG rs v))) := ⟨_, rfl⟩
  rw [← El]
  rw [← El] at lk
  have oth : ∀ b o, b ≠ a → H b = some o → Hl b = some o := fun b o nb e => by rw [El, upd_ne nb]; exact e
  refine ⟨_, hj, a, od, rfl, .inl ⟨_, lk, fun D7 hD7 => ?_⟩⟩
  have nDa : D7 ≠ a := (ne_of_none lk hD7).symm
  refine lc_it (walk_keys (d := a) (o := od) (kvs := kvG rs v)) (fun j H' => Same Hl H' ∧ ∃ ps : List Addr, H' D7 = some (.lst (ps.map V.ref)) ∧ Paired (fun q (kv : Key × V) => H' q = some (.tup [kV kv.1, kv.2])) ps (kvX f ((plc rs).take j))) ⟨Same.new hD7, [], upd_same, .nil⟩ (fun j H' _ m => m.1 _ _ lk) ?_ ?_
  · rintro j y H5x H8 hj ⟨s8, ps, e8, pr⟩ ⟨rfl, k', v', hk, rfl⟩
    obtain ⟨z, rfl, hz, rfl⟩ := kvG_atF hk
    have plen := pr.length
    rw [kvX_len, List.length_take] at plen
    refine ⟨wipe_set1 _ _ _, tYes_if ⟨_, List.getElem?_set_self so, htv z (List.mem_of_getElem? hz) H8 (fun b o nb e => s8 _ _ (oth b o nb e)) ⟨od, s8 _ _ lk⟩ _ fun H9 s9 => ⟨(by show 2 ≤ sizeLine; decide), fun t ht => ?_⟩⟩⟩
    have e9 := s9 _ _ e8
    have nDt : D7 ≠ t := ne_of_none e9 ht
    refine ⟨ps.map V.ref, by rw [upd_ne nDt]; exact e9, small1000 (by rw [List.length_map, plen]; omega), fun b o eb => ?_, ps ++ [t], by rw [upd_same, List.map_append]; rfl, ?_⟩
    · rw [upd_ne (fun y => by rw [y, hD7] at eb; cases eb), upd_ne (ne_of_none (s9 _ _ (s8 _ _ eb)) ht)]
      exact s9 _ _ (s8 _ _ eb)
    · have ek : kvX f ((plc rs).take (j + 1)) = kvX f ((plc rs).take j) ++ [(.inr z, f z)] := by
        rw [take_more hz]; unfold kvX; rw [List.map_append]; rfl
      rw [ek]
      have keep : ∀ {b : Addr} {xs : List V}, H8 b = some (.tup xs) → (upd (upd H9 t (.tup [V.str z, f z])) D7 (.lst (ps.map V.ref ++ [V.ref t]))) b = some (.tup xs) := fun {b xs} h => by
        rw [upd_ne (fun y => by rw [y, e8] at h; cases h), upd_ne (ne_of_none (s9 _ _ h) ht)]; exact s9 _ _ h
      exact (pr.mono fun _ _ h => keep h).snoc (by rw [upd_ne nDt.symm]; exact upd_same)
  rintro H8 ⟨s8, ps, e8, pr⟩
  have el : (kvG rs v).length = (plc rs).length := kvG_len rs v
  rw [el, List.take_length] at pr
  refine ⟨s8 _ _ lk, ?_⟩
  have a8 := s8 _ _ lk
  rw [El] at s8
  have sB := lock_back ha s8
  have e9 : (upd H8 a (.dK (kvG rs v))) D7 = some (.lst (ps.map V.ref)) := by rw [upd_ne nDa]; exact e8
  have pr9 : Paired (fun q (kv : Key × V) => (upd H8 a (.dK (kvG rs v))) q = some (.tup [kV kv.1, kv.2])) ps (kvX f (plc rs)) := pr.mono fun q kv h => by
    rw [upd_ne (fun y => by rw [y, a8] at h; cases h)]; exact h
  generalize upd H8 a (.dK (kvG rs v)) = H9 at sB e9 pr9
  refine ⟨D7, ps, _, rfl, SqL.of e9, pr9.mono fun _ _ h => sqT h, fun vd hvd => ?_⟩
  rw [merge_allX _ nd]
  exact k vd _ (sB.free hvd) (sB.trans (Same.new hvd)) upd_same
theorem ts_nx {D : Ends} {σ : St} {H : Hp} (h : D.nx σ H) : tNext D σ H := h
theorem ts_sq {t u : TS} {D : Ends} {σ : St} {H : Hp} (h : t { nx := u D, rt := D.rt, bk := D.bk, ct := D.ct } σ H) : tSeq t u D σ H := h
theorem ts_as {te : TE} {g : TG} {D : Ends} {σ : St} {H : Hp} (h : te σ H fun x H1 => g x σ H1 D.nx) : tAsg te g D σ H := h
theorem ts_pr {i j : Nat} {ta : TA} {D : Ends} {σ : St} {H : Hp} (h : ta σ H fun vs H1 => ∃ v w, vs = [v, w] ∧ D.nx ((σ.set i (some v)).set j (some w)) H1) : tPar i j ta D σ H := h
theorem ta_cons {t : TE} {u : TA} {σ : St} {H : Hp} {Q : List V → Hp → Prop} (h : t σ H fun x H1 => u σ H1 fun xs H2 => Q (x :: xs) H2) : tCons t u σ H Q := h
def spLLeast : Sp := fun vs H Q _ => ∃ (p a b : Addr) (rs : List Row) (v w : Str → Bool), vs = [.ref p, .ref a, .ref b] ∧ RowsL H p rs ∧ Valid rs ∧ rs.length ≤ 90 ∧ H a = some (.dK (kvG rs v)) ∧ H b = some (.dK (kvG rs w)) ∧ a ≠ b ∧
  ∀ H', Same H H' → Q (.int (entL rs (fewG rs v w)).length) H'
theorem dgX {f : Str → V} {l : List Str} {z : Str} (hz : z ∈ l) {H : Hp} {d : Addr} (e : H d = some (.dK (kvX f l))) : DGet H d (.str z) (some (f z)) := .inl ⟨_, .inr z, .inl e, rfl, (valV_kvX f hz).symm⟩
theorem un_int {a b : Bool} {x y : Str} (h : (a = b) ↔ (x = y)) : (if (!decide (V.bl a = V.bl b)) = true then (1 : Int) else 0) = ((un x y : Nat) : Int) := by
  unfold un
  by_cases c : a = b
  · rw [if_pos (h.mp c), c, if_neg (by simp)]; rfl
  · rw [if_neg fun q => c (h.mpr q), if_pos (by simp [c])]; rfl
theorem soft_eq {rs : List Row} {v w : Str → Bool} {x y : Str} (hx : x ∈ plc rs) (hy : y ∈ plc rs) : ((v x != w x) = (v y != w y)) ↔ (softF rs v w x = softF rs v w y) := by
  have e : ∀ {z : Str}, z ∈ plc rs → softF rs v w z = if (v z != w z) = true then ("flip" : Str) else "keep" := fun {z} hz => by
    unfold softF
    by_cases c : v z = w z
    · rw [if_neg fun q => q.2 c, if_neg (by simp [c])]
    · rw [if_pos ⟨hz, c⟩, if_pos (by simp [c])]
  rw [e hx, e hy]
  cases (v x != w x) <;> cases (v y != w y) <;> decide +kernel
theorem hard_eq {w : Str → Bool} {x y : Str} : (w x = w y) ↔ (hardF w x = hardF w y) := by
  unfold hardF
  cases w x <;> cases w y <;> decide +kernel
section
variable {P : Program} {w : World} {K : PySem.W.Frag} {mg : Str → Option Value} {base : Heap} {C : Addr}
abbrev nLLe : List Str := ["_law_rows_here", "_law_mine", "_law_theirs", "_law_box", "_law_soft", "_law_free", "_law_fixed", "_law_row", "_law_folder", "_law_softly", "_law_hardly"]
abbrev pLLe : List Str := ["_law_rows_here", "_law_mine", "_law_theirs"]
theorem sc_LLe : FnScope nLLe pLLe (defScope s_L_least_entries) := ⟨rfl, rfl, rfl, by decide +kernel, rfl, by decide +kernel, by decide +kernel⟩
theorem ok_LLe (D : DefAt K mg "_law_least_entries" s_L_least_entries pLLe) (B : TxB mg) (hMin : mg "min" = none) : FnOk P w K mg base CX0 2 D.f D.fd pLLe spLLeast := by
  refine D.F.ok sc_LLe (fun vs H Q E h => ?_) (fun cdv A outer s H vs Q E hr h => ?_)
  · obtain ⟨p, a, b, rs, v, w', rfl, _⟩ := h
    rfl
  · obtain ⟨p, a, b, rs, v, w', rfl, hL, hv, hl, ha, hb, nab, hq⟩ := h
    have hu := hu_of hr
    refine ⟨_, pss_cons (ps_set (i := 4) sc_LLe.nd rfl (.inl rfl) (pe_callTy (T := "dict") (call_dictP rfl) (by rfl) B.dict (by decide +kernel) (pa_cons (pe_lock (pe_lc (own := [("_law_box", 3)]) (g := gName 3) (tt := tYes) (te := tTup (tCons (tVar 3) (tCons (tOp rNe (tDGet (tVar 1) (tVar 3)) (tDGet (tVar 2) (tVar 3))) tNil))) rfl sc_LLe.nd (pi_keys (pv 1)) (blkOk_by (N := nLLe) (sc := defScope s_L_least_entries) (by decide +kernel))
              (fun _ _ _ _ _ => pg_name (i := 3) sc_LLe.nd rfl (Or.inl rfl)) (fun _ _ _ _ _ => pts_nil) (fun _ _ _ _ _ => by exact pe_tup (pa_cons (pv 3) (pa_cons (pe_cmpR op_ne (pe_dget hu (pv 1) (pv 3) (fun _ _ => rfl)) (pe_dget hu (pv 2) (pv 3) (fun _ _ => rfl)) (nomark _)) pa_nil))))) pa_nil)))
      (pss_cons (ps_par (i := 5) (j := 6) rfl sc_LLe.nd rfl rfl (by decide) rfl rfl
          (pa_cons (pe_callTy (T := "dict") (call_dictP rfl) (by rfl) B.dict (by decide +kernel) (pa_cons (pe_lock (pe_lc (own := [("_law_box", 3)]) (g := gName 3) (tt := tYes) (te := tTup (tCons (tVar 3) (tCons (tC (.int 0)) tNil))) rfl sc_LLe.nd (pi_keys (pv 1)) (blkOk_by (N := nLLe) (sc := defScope s_L_least_entries) (by decide +kernel))
              (fun _ _ _ _ _ => pg_name (i := 3) sc_LLe.nd rfl (Or.inl rfl)) (fun _ _ _ _ _ => pts_nil) (fun _ _ _ _ _ => by exact pe_tup (pa_cons (pv 3) (pa_cons pe_int pa_nil))))) pa_nil))
          (pa_cons (pe_callTy (T := "dict") (call_dictP rfl) (by rfl) B.dict (by decide +kernel) (pa_cons (pe_lock (pe_lc (own := [("_law_box", 3)]) (g := gName 3) (tt := tYes) (te := tTup (tCons (tVar 3) (tCons (tC (.int 0)) tNil))) rfl sc_LLe.nd (pi_keys (pv 1)) (blkOk_by (N := nLLe) (sc := defScope s_L_least_entries) (by decide +kernel))
              (fun _ _ _ _ _ => pg_name (i := 3) sc_LLe.nd rfl (Or.inl rfl)) (fun _ _ _ _ _ => pts_nil) (fun _ _ _ _ _ => by exact pe_tup (pa_cons (pv 3) (pa_cons pe_int pa_nil))))) pa_nil)) pa_nil)) (by rfl))
      (pss_cons (ps_for PassesOwn.never rfl (pi_list (pe_revL (pv 0))) (pg_name (i := 7) sc_LLe.nd rfl (.inl rfl))
        (pss_cons (ps_par (i := 3) (j := 8) rfl sc_LLe.nd rfl rfl (by decide) rfl rfl (pa_cons (pe_ix ix_tup (pv 7) pe_int (fun _ _ => rfl)) (pa_cons (pe_ix ix_tup (pv 7) pe_int (fun _ _ => rfl)) pa_nil)) (by rfl))
        (pss_cons (ps_set (i := 9) sc_LLe.nd rfl (.inl rfl) (pe_op op_add (pe_callTy (T := "int") call_int1 (by rfl) B.int (by decide +kernel) (pa_cons (pe_cmpR op_ne (pe_dget hu (pv 4) (pv 3) (fun _ _ => rfl)) (pe_dget hu (pv 4) (pv 8) (fun _ _ => rfl)) (nomark _)) pa_nil)) (pe_dget hu (pv 5) (pv 3) (fun _ _ => rfl))))
        (pss_cons (ps_dput hu (pv 5) (pv 8) (pe_op op_add (pe_dget hu (pv 5) (pv 8) (fun _ _ => rfl)) (pe_callB (call_min2 rfl) (by rfl) hMin (by decide +kernel) (pa_cons (pv 9) (pa_cons (pe_op op_add pe_int (pe_dget hu (pv 6) (pv 3) (fun _ _ => rfl))) pa_nil)))) rfl)
        (pss_cons (ps_set (i := 10) sc_LLe.nd rfl (.inl rfl) (pe_op op_add (pe_callTy (T := "int") call_int1 (by rfl) B.int (by decide +kernel) (pa_cons (pe_cmpR op_ne (pe_dget hu (pv 2) (pv 3) (fun _ _ => rfl)) (pe_dget hu (pv 2) (pv 8) (fun _ _ => rfl)) (nomark _)) pa_nil)) (pe_dget hu (pv 6) (pv 3) (fun _ _ => rfl))))
        (pss_one (ps_dput hu (pv 6) (pv 8) (pe_op op_add (pe_dget hu (pv 6) (pv 8) (fun _ _ => rfl)) (pv 10)) rfl)))))))
      (pss_one (ps_ret (pe_callB (call_min2 rfl) (by rfl) hMin (by decide +kernel) (pa_cons (pe_op op_add (pe_callTy (T := "int") call_int1 (by rfl) B.int (by decide +kernel) (pa_cons (pe_dget hu (pv 4) pe_str (fun _ _ => rfl)) pa_nil)) (pe_dget hu (pv 5) pe_str (fun _ _ => rfl))) (pa_cons (pe_op op_add pe_int (pe_dget hu (pv 6) pe_str (fun _ _ => rfl))) pa_nil))))))), ?_⟩
    obtain ⟨ras, hp, hrows⟩ := id hL.ex
    have nd := plc_nd hv
    have lpl : (plc rs).length ≤ 91 := by rw [plc_len']; omega
    obtain ⟨l, el⟩ : ∃ l, l = softF rs v w' := ⟨_, rfl⟩
    obtain ⟨h, eh⟩ : ∃ h, h = hardF w' := ⟨_, rfl⟩
    refine ts_sq (ts_as (rd_dictK (ja := 1) (jo := 3) (f := fun z => V.bl (v z != w' z)) rfl (by show 3 < 11; decide) ha nd (by omega) ?_ ?_))
    · rintro z hz H1 oth ⟨od, lk⟩ Q' q
      refine ⟨_, rfl, _, rfl, a, _, rfl, .inl ⟨_, .inr z, .inr ⟨od, lk⟩, rfl, (valV_kvG v hz).symm⟩, _, rfl, _, rfl, b, _, rfl, .inl ⟨_, .inr z, .inl (oth _ _ nab.symm hb), rfl, (valV_kvG w' hz).symm⟩, rfl, ?_⟩
      have e : (!decide (V.bl (v z) = V.bl (w' z))) = (v z != w' z) := by cases v z <;> cases w' z <;> rfl
      rw [e]
      exact q H1 (Same.refl _)
    intro dS H1 nS s1 eS
    refine ts_sq (ts_pr (ta_cons (rd_dictK (ja := 1) (jo := 3) (f := fun _ => V.int 0) rfl (by show 3 < 11; decide) (s1 _ _ ha) nd (by omega) (fun z hz H1 oth lk Q' q => q H1 (Same.refl _)) fun dA H2 nA s2 eA => ?_)))
    refine ta_cons (rd_dictK (ja := 1) (jo := 3) (f := fun _ => V.int 0) rfl (by show 3 < 11; decide) (s2 _ _ (s1 _ _ ha)) nd (by omega) (fun z hz H1 oth lk Q' q => q H1 (Same.refl _)) fun dB H3 nB s3 eB => ⟨_, _, rfl, ?_⟩)
    have s03 : Same H H3 := (s1.trans s2).trans s3
    have eS3 := s3 _ _ (s2 _ _ eS)
    have eA3 : H3 dA = some (.dK (kvN (fun _ => 0) (plc rs))) := s3 _ _ eA
    have eB3 : H3 dB = some (.dK (kvN (fun _ => 0) (plc rs))) := eB
    have nAB : dA ≠ dB := ne_of_none eA nB
    have nSA : dS ≠ dA := ne_of_none eS nA
    have nSB : dS ≠ dB := ne_of_none (s2 _ _ eS) nB
    have fA : H dA = none := s1.free nA
    have fB : H dB = none := (s1.trans s2).free nB
    clear eA eB s3 s2 s1 eS
    refine ⟨_, rfl, p, _, rfl, SqL.of (s03 _ _ hp), fun rl hrl => ⟨rl, rfl, ⟨_, SqL.of upd_same⟩, ?_⟩⟩
    have s4 : Same H3 (upd H3 rl (.lst (ras.map V.ref).reverse)) := Same.new hrl
    have e4 : (upd H3 rl (.lst (ras.map V.ref).reverse)) rl = some (.lst (ras.map V.ref).reverse) := upd_same
    generalize upd H3 rl (.lst (ras.map V.ref).reverse) = H4 at s4 e4
    have nr1 : rl ≠ dA := fun e => by rw [e, s4 _ _ eA3] at e4; cases e4
    have nr2 : rl ≠ dB := fun e => by rw [e, s4 _ _ eB3] at e4; cases e4
    have len : ((ras.map V.ref).reverse).length = rs.length := by rw [List.length_reverse, List.length_map, hrows.len]
    refine for_list (K := K) (a := rl) (xs := (ras.map V.ref).reverse) (fun i σ H' => ∃ v3 v7 v8 v9 v10 : Option V, σ = [some (.ref p), some (.ref a), some (.ref b), v3, some (.ref dS), some (.ref dA), some (.ref dB), v7, v8, v9, v10] ∧ (∀ c o, c ≠ dA → c ≠ dB → H4 c = some o → H' c = some o) ∧ H' dA = some (.dK (kvN (pot l h (rs.drop (rs.length - i))).1 (plc rs))) ∧ H' dB = some (.dK (kvN (pot l h (rs.drop (rs.length - i))).2 (plc rs)))) ⟨_, _, _, _, _, rfl, fun c o _ _ e => e, by rw [Nat.sub_zero, List.drop_length]; exact s4 _ _ eA3, by rw [Nat.sub_zero, List.drop_length]; exact s4 _ _ eB3⟩ (fun i σ H' _ ⟨_, _, _, _, _, _, kp, _⟩ => SqL.of (kp _ _ nr1 nr2 e4)) ?_ ?_
    · rintro i x σ H5 hx ⟨v3, v7, v8, v9, v10, rfl, kp, eA, eB⟩
      have hi : i < rs.length := by rw [← len]; exact (List.getElem?_eq_some_iff.mp hx).1
      obtain ⟨R, hR, hdr⟩ := drop_at hi
      rw [List.getElem?_reverse (by rw [← List.length_reverse, len]; exact hi), List.length_map, hrows.len] at hx
      obtain ⟨ra, r, rfl, hra, hr', e0⟩ := rows_at hrows hx
      rw [hR] at hr'
      cases hr'
      have hRm := List.mem_of_getElem? hR
      have ho : ∀ {c : Addr} {o : HO}, H c = some o → H5 c = some o := fun {c o} e => kp _ _ (ne_of_none e fA) (ne_of_none e fB) (s4 _ _ (s03 _ _ e))
      have hfo : R.fo ∈ plc rs := mem_plc.mpr (hv.foAll hRm)
      have hnm : R.nm ∈ plc rs := mem_plc.mpr (.inr (List.mem_map.mpr ⟨R, hRm, rfl⟩))
      have e0' := ho e0
      have eS5 := kp _ _ nSA nSB (s4 _ _ eS3)
      refine ⟨_, rfl, ra, _, _, _, rfl, rfl, sqT e0', atI0 _ _ _ _, _, rfl, ra, _, _, _, rfl, rfl, sqT e0', atI1 _ _ _ _, _, _, rfl, ?_⟩
      refine ⟨_, rfl, _, rfl, dS, _, rfl, dgX hnm eS5, _, rfl, _, rfl, dS, _, rfl, dgX hfo eS5, rfl, .inr ⟨_, rfl, _, rfl, _, rfl, dA, _, rfl, kvN_get hnm eA, _, _, rfl, rfl, ?_⟩⟩
      rw [un_int (soft_eq (v := v) (w := w') hnm hfo), ← el]
      refine ⟨_, rfl, _, rfl, dA, _, rfl, kvN_get hfo eA, _, rfl, _, rfl, _, rfl, dB, _, rfl, kvN_get hnm eB, _, _, rfl, rfl, _, _, rfl, _, _, rfl, rfl, _, rfl, _, rfl, dA, _, rfl, DPut.k (k := Sum.inr R.fo) eA ?_, ?_⟩
      · unfold kvN; exact small1000 (by rw [kvX_len]; omega)
      rw [kvN_put (n := min ((pot l h (rs.drop (rs.length - i))).1 R.nm + un (l R.nm) (l R.fo)) ((pot l h (rs.drop (rs.length - i))).2 R.nm + 1)) hfo (by split <;> omega)]
      generalize hS : rs.drop (rs.length - i) = S at eA eB hdr
      obtain ⟨H6, E6⟩ : ∃ Hx, Hx = upd H5 dA (.dK (kvN (addAt (pot l h S).1 R.fo (min ((pot l h S).1 R.nm + un (l R.nm) (l R.fo)) ((pot l h S).2 R.nm + 1))) (plc rs))) := ⟨_, rfl⟩
      rw [← E6]
      have eA6 : H6 dA = some (.dK (kvN (pot l h (R :: S)).1 (plc rs))) := by rw [E6, upd_same]; rfl
      have eB6 : H6 dB = some (.dK (kvN (pot l h S).2 (plc rs))) := by rw [E6, upd_ne nAB.symm]; exact eB
      have kp6 : ∀ c o, c ≠ dA → c ≠ dB → H4 c = some o → H6 c = some o := fun c o h1 h2 e => by rw [E6, upd_ne h1]; exact kp c o h1 h2 e
      clear E6 eA eB kp ho e0' eS5
      have ho : ∀ {c : Addr} {o : HO}, H c = some o → H6 c = some o := fun {c o} e => kp6 _ _ (ne_of_none e fA) (ne_of_none e fB) (s4 _ _ (s03 _ _ e))
      have dgw : ∀ {z : Str}, z ∈ plc rs → DGet H6 b (.str z) (some (.bl (w' z))) := fun {z} hz => .inl ⟨_, .inr z, .inl (ho hb), rfl, (valV_kvG w' hz).symm⟩
      refine ⟨_, rfl, _, rfl, b, _, rfl, dgw hnm, _, rfl, _, rfl, b, _, rfl, dgw hfo, rfl, .inr ⟨_, rfl, _, rfl, _, rfl, dB, _, rfl, kvN_get hnm eB6, _, _, rfl, rfl, ?_⟩⟩
      rw [un_int (hard_eq (w := w') (x := R.nm) (y := R.fo)), ← eh]
      refine ⟨_, rfl, _, rfl, dB, _, rfl, kvN_get hfo eB6, _, rfl, _, _, rfl, rfl, _, rfl, _, rfl, dB, _, rfl, DPut.k (k := Sum.inr R.fo) eB6 ?_, ?_⟩
      · unfold kvN; exact small1000 (by rw [kvX_len]; omega)
      rw [kvN_put (n := (pot l h S).2 R.nm + un (h R.nm) (h R.fo)) hfo (by omega)]
      refine ⟨_, _, _, _, _, rfl, fun c o h1 h2 e => ?_, ?_, ?_⟩
      · rw [upd_ne h2]; exact kp6 c o h1 h2 e
      · rw [hdr, upd_ne nAB]; exact eA6
      · rw [hdr, upd_same]; rfl
    · rintro σ H5 ⟨v3, v7, v8, v9, v10, rfl, kp, eA, eB⟩
      rw [len, Nat.sub_self, List.drop_zero] at eA eB
      have htop : ("top" : Str) ∈ plc rs := mem_plc.mpr (.inl rfl)
      have eS5 := kp _ _ nSA nSB (s4 _ _ eS3)
      refine ⟨_, rfl, dS, _, rfl, dgX htop eS5, .inr ⟨_, rfl, _, rfl, dA, _, rfl, kvN_get htop eA, _, _, rfl, rfl, ?_⟩⟩
      refine ⟨_, rfl, dB, _, rfl, kvN_get htop eB, _, _, rfl, rfl, _, _, rfl, ?_⟩
      have fin := hq H5 fun c o e => kp _ _ (ne_of_none e fA) (ne_of_none e fB) (s4 _ _ (s03 _ _ e))
      rw [few_pot hv, ← el, ← eh] at fin
      have eu : (if (v "top" != w' "top") = true then (1 : Int) else 0) = ((un (l "top") "keep" : Nat) : Int) := by
        have e2 : softF rs v w' "top" = if v "top" = w' "top" then ("keep" : Str) else "flip" := by
          unfold softF
          by_cases c : v "top" = w' "top"
          · rw [if_pos c]; exact if_neg fun q => q.2 c
          · rw [if_neg c]; exact if_pos ⟨htop, c⟩
        rw [el, e2]
        cases v "top" <;> cases w' "top" <;> decide +kernel
      rw [eu]
      have em : (if 1 + ((pot l h rs).2 "top" : Int) < ((un (l "top") "keep" : Nat) : Int) + ((pot l h rs).1 "top" : Int) then 1 + ((pot l h rs).2 "top" : Int) else ((un (l "top") "keep" : Nat) : Int) + ((pot l h rs).1 "top" : Int)) = ((min ((pot l h rs).1 "top" + un (l "top") "keep") ((pot l h rs).2 "top" + 1) : Nat) : Int) := by split <;> omega
      rw [← em] at fin
      exact fin
end
end Ts

set_option maxRecDepth 100000
set_option maxHeartbeats 1000000
namespace Ts
open PySem L2
/-! ### an object of an own class is called -/
theorem ld_var {X : Cx} (i : Nat) {x : Str} {pos : Pos} (hN : X.N[i]? = some x) (hv : Vis X.env.scope x) (hd : (x == ("__debug__" : Str)) = false) (hcd : (x == ("__classdict__" : Str)) = false) {pins : List (Addr × Obj)} {s : Shared} {σ : St} {H : Hp} {v : V} {E : Value → Shared → Prop} (I : Inv X pins σ H s) (e : σ[i]? = some (some v)) {Q : Value → Shared → Prop} (fin : ∀ u, RelV v u → Q u s) :
    wpAny (model X.prog X.w) X.A (eval (.Name x pos) X.env) Q E s := by
  obtain ⟨m, hn, hl⟩ := I.loc
  obtain ⟨u, r, l⟩ := hl i x v hN e hv
  have fin := fin u r
  rcases l with ⟨hk, hm⟩ | ⟨hk, c, hc, hcell⟩
  · exact wpAny_Name (wpAny_loadName_local I.ok.kind hk hn hm fin) hd
  · rcases hk with hk | hk
    · exact wpAny_Name (wpAny_loadName_cell I.ok.kind hk hc hcell fin) hd
    · exact wpAny_Name (wpAny_loadName_free I.ok.kind hk hc hcell fin hcd) hd
theorem pe_callOwn {X : Cx} {CX : CXT} {k : Nat} {C f : Addr} {fd : FuncData} {ps : List Str} {sp : Sp} {E : XK} (i j : Nat) {x y : Str} {p p2 pos : Pos} (F : FnOk X.prog X.w X.K X.mg X.base CX k f fd ps sp) (m : Meth X.K C "__call__" f) (hf : PySem.W.fnIn X.K f = true) (hr : Room k X.A) (hb : Binds X.K fd ps []) (hx : Passes CX X E)
    (hN : X.N[i]? = some x := by rfl) (hv : Vis X.env.scope x := by first | exact .inl rfl | exact .inr (.inl rfl) | exact .inr (.inr rfl)) (hN2 : X.N[j]? = some y := by rfl) (hv2 : Vis X.env.scope y := by first | exact .inl rfl | exact .inr (.inl rfl) | exact .inr (.inr rfl))
    (hd : (x == ("__debug__" : Str)) = false := by decide) (hcd : (x == ("__classdict__" : Str)) = false := by decide) (hd2 : (y == ("__debug__" : Str)) = false := by decide) (hcd2 : (y == ("__classdict__" : Str)) = false := by decide)
    (hst : starEach [.Name y p2] X.env = [(false, eval (.Name y p2) X.env)] := by rfl) :
    PE X (.Call (.Name x p) [.Name y p2] [] pos) (fun σ H Q => ∃ (a dx : Addr) (fs : List (Str × V)) (v : V), σ[i]? = some (some (.ref a)) ∧ H a = some (.ins C dx fs) ∧ σ[j]? = some (some v) ∧ sp [.ref a, v] H Q E) := ⟨fun pins s σ H Q I h => by
  obtain ⟨a, dx, fs, v, e1, ha, e2, hsp⟩ := h
  obtain ⟨mA, JJ, _⟩ := ins_get I.hok ha
  obtain ⟨od, J, _⟩ := JJ.look
  refine wpAny_Call_Name_kw (ld_var i hN hv hd hcd I e1 fun u r => ?_)
  cases r
  rw [hst]
  refine PySem.W.kco_callWith_of (K := X.K) (C := C) (ox := PySem.W.instObj C dx) (od := od) rfl rfl ?_
  refine Calls.evalArgs_plain (Calls.spliced_cons ?_)
  refine ld_var j hN2 hv2 hd2 hcd2 I e2 fun u r => ?_
  refine Calls.spliced_nil ⟨⟨Inv.kIn I, J⟩, ?_⟩
  refine wpAny_call (PySem.W.kco_code (Inv.kIn I) J rfl m.at_ m.fn hf ?_)
  have r2 : Vals ([.ref a, v] : List V) [.ref a, u] := .cons rfl (.cons r .nil)
  have hl : [Value.ref a, u].length = ps.length := by rw [← F.len _ H Q E hsp]; rfl
  have hb' := hb s [Value.ref a, u] (Inv.kIn I) (by simpa using hl)
  refine codeAny_mono (F.run X.A X.stack s H { pos := [Value.ref a, u] } _ [.ref a, v] Q E hr (Inv.env0 I) hb' (by simpa using r2) hsp) fun r s' hq => ?_
  rcases r with e | fl
  · exact hx pins σ H s e s' I hq
  · cases fl with
    | ret u => exact Inv.after I hq
    | _ => exact hq.elim⟩
end Ts

set_option maxRecDepth 100000
set_option maxHeartbeats 1000000
namespace PySem.W
open PySem PyProof.Rows
section
variable {M : Model} {A : Around} {E : Value → Shared → Prop} {s : Shared} {K : Frag} {x C : Addr} {ox : Obj} {pos : Pos} {first : List Value} {Q : Value → Shared → Prop}
theorem kco_callWith_ex {args : List (Bool × Sem Value)} {keywords : List (Option Str × Sem Value)} (hplain : (args.any (·.1) || keywords.any (·.1.isNone)) = false) (hd : ox.data = .plain)
    (h : wpAny M A (evalArgs (.ref x) true args keywords) (fun a s₁ => (∃ od, kco_P K x C ox od s₁.heap) ∧ wpAny M A (call (.ref x) (first ++ a.pos) a.kw) Q E s₁) E s) : wpAny M A (callWith pos (.ref x) first args keywords) Q E s := by
  unfold callWith
  refine wpAny_bind (wpAny_holding (wpAny_mono h (fun a s₁ h₁ => wpAny_bind (wpAny_standAt ?_)) fun _ _ y => y))
  obtain ⟨⟨od, hP⟩, h₂⟩ := h₁
  have L := kco_keeper (M := M) hP.2 hd
  simp only [hplain]
  refine wpAny_bind (L.here ?_)
  have tail : ∀ {t : Sem Value}, wpAny M A t Q E s₁ → wpAny M A (t >>= fun r => holding [r] point >>= fun _ => pure r) Q E s₁ :=
    fun ht => wpAny_bind (wpAny_mono ht (fun r s₂ hr => wpAny_bind (wpAny_holding (wpAny_point (wpAny_pure hr)))) fun _ _ y => y)
  exact tail (wpAny_operateT h₂)
end
end PySem.W
namespace Ts
open PySem L2
/-- what a call tells is called -/
theorem pe_callOwnE {X : Cx} {CX : CXT} {k : Nat} {C f : Addr} {fd : FuncData} {ps : List Str} {sp : Sp} {E : XK} {f0 e : Expr} {as0 : List Expr} {k0 : List Keyword} {p0 pos : Pos} {to te : TE} (F : FnOk X.prog X.w X.K X.mg X.base CX k f fd ps sp) (m : Meth X.K C "__call__" f) (hf : PySem.W.fnIn X.K f = true) (hr : Room k X.A) (hb : Binds X.K fd ps []) (hx : Passes CX X E)
    (ho : PE X (.Call f0 as0 k0 p0) to) (ha : PE X e te) (hst : starEach [e] X.env = [(false, eval e X.env)] := by rfl) :
    PE X (.Call (.Call f0 as0 k0 p0) [e] [] pos) (fun σ H Q => to σ H fun x H1 => ∃ (a dx : Addr) (fs : List (Str × V)), x = .ref a ∧ H1 a = some (.ins C dx fs) ∧ te σ H1 fun v H2 => H2 a = some (.ins C dx fs) ∧ sp [.ref a, v] H2 Q E) := ⟨fun pins s σ H Q I h => by
  show wpAny (model X.prog X.w) X.A (do callWith pos (← eval (.Call f0 as0 k0 p0) X.env) [] (backTo pos (starEach [e] X.env)) (backToKw pos (keywordEach [] X.env))) _ _ s
  refine wpAny_bind (thn (ho.run pins s σ H _ I h) fun u s1 ⟨x, H1, I1, rx, a, dx, fs, ex, ha1, q⟩ => ?_)
  subst ex
  obtain rfl : u = Value.ref a := rx
  rw [hst]
  refine PySem.W.kco_callWith_ex (K := X.K) (C := C) (ox := PySem.W.instObj C dx) rfl rfl ?_
  refine Calls.evalArgs_plain (Calls.spliced_cons ?_)
  refine thn (ha.run pins s1 σ H1 _ I1 q) fun u s2 ⟨v, H2, I2, rv, ha2, hsp⟩ => ?_
  refine Calls.spliced_nil ?_
  obtain ⟨mA, JJ, _⟩ := ins_get I2.hok ha2
  obtain ⟨od, J, _⟩ := JJ.look
  refine ⟨⟨od, Inv.kIn I2, J⟩, ?_⟩
  refine wpAny_call (PySem.W.kco_code (Inv.kIn I2) J rfl m.at_ m.fn hf ?_)
  have r2 : Vals ([.ref a, v] : List V) [.ref a, u] := .cons rfl (.cons rv .nil)
  have hl : [Value.ref a, u].length = ps.length := by rw [← F.len _ H2 Q E hsp]; rfl
  have hb' := hb s2 [Value.ref a, u] (Inv.kIn I2) (by simpa using hl)
  refine codeAny_mono (F.run X.A X.stack s2 H2 { pos := [Value.ref a, u] } _ [.ref a, v] Q E hr (Inv.env0 I2) hb' (by simpa using r2) hsp) fun r s' hq => ?_
  rcases r with e | fl
  · exact hx pins σ H2 s2 e s' I2 hq
  · cases fl with
    | ret u => exact Inv.after I2 hq
    | _ => exact hq.elim⟩
end Ts

set_option maxRecDepth 100000
set_option maxHeartbeats 4000000
namespace L2
open PySem PyProof.Rows
/-! ### min of a list of tuples of whole numbers -/
theorem best_min {bt : Nat → Nat → Bool} (irr : ∀ i, bt i i = false) (tr : ∀ i j k, bt i j = true → bt k j = false → bt k i = false) (asy : ∀ i j, bt i j = true → bt j i = false) : ∀ k, argBest bt k ≤ k ∧ ∀ j, j ≤ k → bt j (argBest bt k) = false
  | 0 => ⟨Nat.le_refl _, fun j hj => by
    have : j = 0 := Nat.le_zero.mp hj
    rw [this]; exact irr 0⟩
  | k + 1 => by
    obtain ⟨h1, h2⟩ := best_min irr tr asy k
    unfold argBest
    cases e : bt (k + 1) (argBest bt k) with
    | true =>
      rw [if_pos rfl]
      refine ⟨Nat.le_refl _, fun j hj => ?_⟩
      rcases Nat.lt_or_ge j (k + 1) with q | q
      · exact tr _ _ _ e (h2 j (Nat.lt_succ_iff.mp q))
      · rw [Nat.le_antisymm hj q]; exact irr _
    | false =>
      rw [if_neg Bool.false_ne_true]
      refine ⟨Nat.le_succ_of_le h1, fun j hj => ?_⟩
      rcases Nat.lt_or_ge j (k + 1) with q | q
      · exact h2 j (Nat.lt_succ_iff.mp q)
      · rw [Nat.le_antisymm hj q]; exact e
/-- what stood still stands -/
def OldIn (o h : Heap) : Prop := ∀ b x, o.get? b = some x → h.get? b = some x
def LtAt (prog : Program) (w : World) (A : Around) (old : Heap) (P : Nat → Value → Prop) (bt : Nat → Nat → Bool) : Prop :=
  ∀ (i j : Nat) (x y : Value) (s : Shared) (Q E : Value → Shared → Prop), OldIn old s.heap → P i x → P j y → Q (.bool (bt i j)) s → wpAny (model prog w) A (richCompare .Lt x y) Q E s
theorem min_name : (toString "min" ++ toString ".loop" : String) = "min.loop" := by decide
section
variable {prog : Program} {w : World} {A : Around} {R : Result → Shared → Prop} {I : Addr} {fp wr : List Addr} {n : Nat} {P : Nat → Value → Prop} {St : Nat → Heap → Prop} {old : Heap}
theorem minP_go (W : Walks prog w A.in1 I fp wr n P St) {bt : Nat → Nat → Bool} (lt : LtAt prog w A.in1 old P bt) {L : Addr} (lf : L ∉ fp) (lo : old.get? L = none) (ow : ∀ b ∈ wr, old.get? b = none) :
    ∀ (m k : Nat) (s : Shared) (x : Value) (c : Nat), k + 1 + m = n → OldIn old s.heap → St (k + 1) s.heap → P (argBest bt k) x →
    s.heap.get? L = some { cls := .type "list", dict := none, data := .seq #[x, x] c, slots := #[] } →
    (∀ v h' tk, P (argBest bt (n - 1)) v → OldIn old h' → R (.ok (.ret v)) { s with heap := h', toks := tk }) →
    codeAny (model prog w) A (.builtin "min.loop" ⟨[.ref I, .none, .ref L], []⟩) R s := by
  have lw : L ∉ wr := fun h => lf (W.sub _ h)
  have up : ∀ {h h' : Heap}, OldIn old h → (∀ b o, b ∉ wr → h.get? b = some o → h'.get? b = some o) → OldIn old h' := fun {h h'} a k b o e => k b o (fun q => by rw [ow b q] at e; cases e) (a b o e)
  have upL : ∀ {h : Heap} {f : Array Value → Array Value}, OldIn old h → ∀ {h' : Heap}, (∀ b o, b ≠ L → h.get? b = some o → h'.get? b = some o) → OldIn old h' := fun {h f} a {h'} k b o e => k b o (fun q => by rw [q, lo] at e; cases e) (a b o e)
  intro m
  induction m with
  | zero =>
    intro k s x c hk hO hst hx hL hR
    have hin : k + 1 = n := by omega
    refine codeAny_builtin F.entry_min_loop ?_
    rw [Around.under_plainId F.plain_min_loop _]
    refine wpAny_bind (wpAny_seqItems hL rfl ?_)
    refine wpAny_bind (wpAny_tryCatch (W.done s _ _ (by rw [← hin]; exact hst) fun h' tk hk' => ?_))
    refine wpAny_bind (wpAny_updateSeq (hk' L _ lw hL) rfl (wpAny_bind (wpAny_letGo (wpAny_pure ?_))))
    refine hR x _ tk (by rw [← hin]; exact hx) (upL (f := id) (up hO hk') fun b o nb e => ?_)
    exact (Heap.get?_update_other _ _ (Ne.symm nb)).trans e
  | succ m ih =>
    intro k s x c hk hO hst hx hL hR
    have hlt : k + 1 < n := by omega
    refine codeAny_builtin F.entry_min_loop ?_
    rw [Around.under_plainId F.plain_min_loop _]
    refine wpAny_bind (wpAny_seqItems hL rfl ?_)
    refine wpAny_bind (wpAny_tryCatch (W.item (k + 1) s _ _ hlt hst fun v h' tk hv hst' hk' => ?_))
    have hL' := hk' L _ lw hL
    have hO' := up hO hk'
    show wpAny _ A.in1 (tryCatch (holding [v, v] (richCompare .Lt v x >>= _)) _ >>= _) _ _ _
    refine wpAny_bind (wpAny_tryCatch (wpAny_holding (wpAny_bind (lt (k + 1) (argBest bt k) v x _ _ _ hO' hv hx ?_))))
    refine wpAny_bind (wpAny_holding (wpAny_truthy_bool ?_))
    refine wpAny_bind (wpAny_letGo (wpAny_pure ?_))
    have eb : argBest bt (k + 1) = if bt (k + 1) (argBest bt k) then k + 1 else argBest bt k := rfl
    cases e : bt (k + 1) (argBest bt k) with
    | true =>
      rw [if_pos rfl]
      rw [e, if_pos rfl] at eb
      refine wpAny_bind (wpAny_updateSeq hL' rfl (wpAny_bind (wpAny_letGo ?_)))
      rw [min_name]
      refine wpAny_pure ⟨plainId_quiet F.plain_min_loop _, ih (k + 1) _ v _ (by omega) (upL (f := id) hO' fun b o nb e => (Heap.get?_update_other _ _ (Ne.symm nb)).trans e) (W.frame _ _ _ hst' fun b hb o e => ?_) (by rw [eb]; exact hv) (Heap.get?_update_self _ hL' rfl) fun v' h2 tk2 q1 q2 => hR v' h2 tk2 q1 q2⟩
      exact (Heap.get?_update_other _ _ (fun q : L = b => lf (by rw [q]; exact hb))).trans e
    | false =>
      rw [if_neg Bool.false_ne_true]
      rw [e, if_neg Bool.false_ne_true] at eb
      refine wpAny_bind (wpAny_letGo ?_)
      rw [min_name]
      exact wpAny_pure ⟨plainId_quiet F.plain_min_loop _, ih (k + 1) _ x c (by omega) hO' hst' (by rw [eb]; exact hx) hL' fun v' h2 tk2 q1 q2 => hR v' h2 tk2 q1 q2⟩
theorem minP_first (W : Walks prog w A.in1 I fp wr n P St) {bt : Nat → Nat → Bool} (lt : LtAt prog w A.in1 old P bt) {L : Addr} (lf : L ∉ fp) (lo : old.get? L = none) (ow : ∀ b ∈ wr, old.get? b = none) (hn : 0 < n) {s : Shared} {c : Nat} (hO : OldIn old s.heap) (hst : St 0 s.heap)
    (hL : s.heap.get? L = some { cls := .type "list", dict := none, data := .seq #[] c, slots := #[] })
    (hR : ∀ v h' tk, P (argBest bt (n - 1)) v → OldIn old h' → R (.ok (.ret v)) { s with heap := h', toks := tk }) :
    codeAny (model prog w) A (.builtin "min.loop" ⟨[.ref I, .none, .ref L], []⟩) R s := by
  have lw : L ∉ wr := fun h => lf (W.sub _ h)
  refine codeAny_builtin F.entry_min_loop ?_
  rw [Around.under_plainId F.plain_min_loop _]
  refine wpAny_bind (wpAny_seqItems hL rfl ?_)
  refine wpAny_bind (wpAny_tryCatch (W.item 0 s _ _ hn hst fun v h' tk hv hst' hk' => ?_))
  have hL' := hk' L _ lw hL
  show wpAny _ A.in1 (updateSeq L (fun _ => #[v, v]) >>= _) _ _ _
  refine wpAny_bind ?_
  refine wpAny_updateSeq hL' rfl ?_
  rw [min_name]
  refine wpAny_pure ⟨plainId_quiet F.plain_min_loop _, minP_go W lt lf lo ow (n - 1) 0 _ v _ (by omega) (fun b o e => ?_) (W.frame _ _ _ hst' fun b hb o e => ?_) hv (Heap.get?_update_self _ hL' rfl) fun v' h2 tk2 q1 q2 => hR v' h2 tk2 q1 q2⟩
  · have nb : L ≠ b := fun q => by rw [← q, lo] at e; cases e
    exact (Heap.get?_update_other _ _ nb).trans (hk' b o (fun q => by rw [ow b q] at e; cases e) (hO b o e))
  · exact (Heap.get?_update_other _ _ (fun q : L = b => lf (by rw [q]; exact hb))).trans e
end
section
variable {prog : Program} {w : World} {A : Around} {E : Value → Shared → Prop} {s : Shared}
theorem call_minP {l : Addr} {its : Array Value} {bt : Nat → Nat → Bool} {Q : Value → Shared → Prop} (hh : A.handled = none) (hl : s.heap.IsList l its) (hn : 0 < its.size) (lt : LtAt prog w A.in1 s.heap (fun i v => its[i]? = some v) bt)
    (h : ∀ v h' tk, its[argBest bt (its.size - 1)]? = some v → OldIn s.heap h' → Q v { s with heap := h', toks := tk }) :
    wpAny (model prog w) A (call (.builtin "min") [.ref l]) Q E s := by
  refine call_function_tree F.kind_min F.plain_min F.entry_min (F.args_min1 _) ?_
  refine wpAny_bind (wpAny_of_eq (show Builtin.Builtins.bindParams "min" ["key", "default"] 0 ⟨[], []⟩ = pure [none, none] from rfl) ?_)
  refine wpAny_bind (wpAny_pure ?_)
  have hlt : l < s.heap.objs.size := by obtain ⟨_, e, _⟩ := hl; exact Heap.lt_size e
  refine wpAny_bind (wpAny_pyIter_list hl ?_)
  refine wpAny_bind (wpAny_newObj_type ?_)
  rw [min_name]
  have z : (s.heap.push { cls := .type "list_iterator", data := .fields #[.ref l, .int 0 0] }).objs.size = s.heap.objs.size + 1 := Heap.size_push ..
  have none_ge : ∀ {b : Addr}, s.heap.objs.size ≤ b → s.heap.get? b = none := fun {b} hb => by
    rcases e : s.heap.get? b with _ | o
    · rfl
    · exact absurd (Heap.lt_size e) (Nat.not_lt.mpr hb)
  refine wpAny_pure ⟨plainId_quiet F.plain_min_loop _, minP_first (old := s.heap) (Walks.list (prog := prog) (w := w) (A := A.in1) hh s.heap.objs.size l (Nat.ne_of_lt hlt) its) lt ?_ ?_ ?_ hn ?_ ?_ (Heap.get?_push_size _ rfl) fun v h' tk q1 q2 => h v h' tk q1 q2⟩
  · rw [z]
    intro q
    rcases List.mem_cons.mp q with q | q
    · exact absurd q (Nat.succ_ne_self _)
    · rw [← List.mem_singleton.mp q] at hlt
      exact absurd hlt (Nat.not_lt.mpr (Nat.le_succ _))
  · rw [z]; exact none_ge (Nat.le_succ _)
  · intro b hb
    rw [List.mem_singleton.mp hb]
    exact none_ge (Nat.le_refl _)
  · exact fun b o e => Heap.get?_push_of_some _ (Heap.get?_push_of_some _ e)
  · exact ⟨⟨_, Heap.get?_push_of_some _ (Heap.get?_push_size _ rfl), rfl, rfl⟩, (hl.push _).push _⟩
end
section
variable {X : Cx}
theorem tupAt {K : PySem.W.Frag} {h h' : Heap} {a : Addr} {its : Array Value} (x : IsTup h a its) (k : OldIn h h') : IsTup h' a its := by
  obtain ⟨o, ho, r⟩ := x
  exact ⟨o, k _ _ ho, r⟩
theorem intsAreP : ∀ {ns : List Int} {us : List Value}, Vals (ns.map V.int) us → IntsAre us ns
  | [], _, h => by cases h; exact .nil
  | n :: ns, _, h => by
    cases h with
    | cons r1 r2 =>
      obtain ⟨t, rfl⟩ := r1
      exact .cons n t (intsAreP r2)
/-- min of a list of tuples of whole numbers: the first of the least -/
def rMinP (K : PySem.W.Frag) : List V → Hp → VK → Prop := fun vs H Q => ∃ (a : Addr) (ts : List Addr) (ns : Nat → List Int), vs = [V.ref a] ∧ SqL K H a (ts.map V.ref) ∧ 0 < ts.length ∧ (∀ i t, ts[i]? = some t → SqT K H t ((ns i).map V.int)) ∧
  ∀ t, ts[argBest (fun i j => HT.lexLt (ns i) (ns j)) (ts.length - 1)]? = some t → Q (.ref t) H
theorem cr_minP (hc : X.calm = true) (hu : X.A.units + 1 < cLine) : CallR X (.builtin "min") (rMinP X.K) := by
  intro pins s σ H vs us Q I r h
  obtain ⟨a, ts, ns, rfl, hs, hn, ht, q⟩ := h
  obtain ⟨its, rv, hl, _⟩ := I.list hs
  rw [Vals.ref1 r]
  have len : its.length = ts.length := by
    have := rv.length
    rw [List.length_map] at this
    exact this.symm
  have at_ : ∀ (i : Nat) (v : Value), its.toArray[i]? = some v → ∃ t, ts[i]? = some t ∧ v = Value.ref t := fun i v hv => by
    have hv' : its[i]? = some v := by simpa using hv
    obtain ⟨t, ht'⟩ : ∃ t, ts[i]? = some t := ⟨ts[i]'(by rw [← len]; exact (List.getElem?_eq_some_iff.mp hv').1), List.getElem?_eq_getElem _⟩
    obtain ⟨u, hu', rx⟩ := Vals.get (x := V.ref t) rv (by rw [List.getElem?_map, ht']; rfl)
    rw [hv'] at hu'
    cases hu'
    exact ⟨t, ht', rx⟩
  have tup : ∀ i t, ts[i]? = some t → ∃ its2 : List Value, IsTup s.heap t its2.toArray ∧ IntsAre its2 (ns i) := fun i t hi => by
    obtain ⟨its2, r2, p2, _⟩ := I.tuple (ht i t hi)
    exact ⟨its2, p2, intsAreP r2⟩
  refine call_minP (bt := fun i j => HT.lexLt (ns i) (ns j)) (I.ok.hd hc) hl.isList (by simp only [List.size_toArray]; omega) ?_ ?_
  · intro i j x y s2 Q2 E2 hO hx hy hq
    obtain ⟨t, h1, rfl⟩ := at_ _ _ hx
    obtain ⟨t2, h2, rfl⟩ := at_ _ _ hy
    obtain ⟨i1, p1, n1⟩ := tup _ _ h1
    obtain ⟨i2, p2, n2⟩ := tup _ _ h2
    exact HT.lt_tupInts (tupAt (K := X.K) p1 hO) (tupAt (K := X.K) p2 hO) n1 n2 (by
      show X.A.in1.units < cLine
      exact Nat.lt_of_le_of_lt (Nat.le_refl _) hu) hq
  · intro v h' tk hv hO
    obtain ⟨t, h1, rfl⟩ := at_ _ _ hv
    refine ⟨.ref t, H, I.kept hO, rfl, q t ?_⟩
    rw [List.size_toArray, len] at h1
    exact h1
end
end L2

set_option maxRecDepth 100000
set_option maxHeartbeats 8000000
namespace Ts
open PySem L2
theorem MV.kl {C CM : Addr} {H H' : Hp} {m t : Addr} {rs : List Row} {v : Str → Bool} (h : MV C CM H m t rs v) (s : KL H H') : MV C CM H' m t rs v := by
  obtain ⟨d, ts, hm, hv⟩ := h.ex
  exact ⟨⟨d, ts, hm.kl s, hv⟩, h.lk⟩
theorem rd_neV {K : PySem.W.Frag} {C CM : Addr} {H : Hp} {m m2 t t2 : Addr} {rs : List Row} {v v' : Str → Bool} {E : XK} {Q : VK} (h1 : MV C CM H m t rs v) (h2 : MV C CM H m2 t2 rs v') (hvv : ∀ z ∈ plc rs, v z = v' z) (k : Q (.bl false) H) : rNeC K CM (spMEq K C CM) E (.ref m) (.ref m2) H Q := by
  have g1 := h1.turns
  have g2 : MeanAt C CM H m2 t2 rs (v "top") (turnsG rs v) := by
    obtain ⟨d, ts, hm, hv⟩ := h2.ex
    obtain ⟨e1, e2⟩ := turns_of hm.tree.val hm.norm (v := v) fun z hz => by rw [hv z hz, hvv z hz]
    rw [← e1, ← e2]
    exact hm
  obtain ⟨dx, u, kk, e1, _⟩ := id g1.ex
  obtain ⟨dy, u2, kk2, e2, _⟩ := id g2.ex
  refine ⟨m, dx, _, .ref CM, rfl, e1, .ins e2, nfM, m, t, _, rs, _, _, rfl, g1, .inl ⟨m2, t2, rs, _, _, rfl, g2, _, rfl, ?_⟩⟩
  simpa using k
theorem few_eff {rs : List Row} (hv : Valid rs) (v w : Str → Bool) : leastD rs (eff rs (leastD rs (fewG rs v w))) = leastD rs (fewG rs v w) :=
  least_congr hv (eff_leastF hv (fun b => fewF_mem b) (few_down hv v w))
/-- how the states of a meaning are told -/
theorem rd_states {C CM : Addr} {H : Hp} {m t : Addr} {rs : List Row} {v : Str → Bool} {Q : VK} {E : XK} (h : MV C CM H m t rs v) (k : ∀ D, H D = none → Q (.ref D) (upd H D (.dK (kvG rs v)))) : spMStates C CM [.ref m] H Q E := by
  obtain ⟨d, ts, hm, hv⟩ := h.ex
  refine ⟨m, t, rs, d, ts, rfl, hm, fun D hD => ?_⟩
  rw [kvM_kvG hm.tree.val hv]
  exact k D hD
theorem ta_nil {σ : St} {H : Hp} {Q : List V → Hp → Prop} (h : Q [] H) : tNil σ H Q := h
def spGreat : Sp := fun vs H Q _ => ∃ (a : Addr) (n : Int), vs = [.ref a] ∧ Stm H a n ∧ n ≤ 400000000 ∧ ∀ H', SB a H H' → Stm H' a (n + 2000) → Q (.bl true) H'
section
variable {P : Program} {w : World} {K : PySem.W.Frag} {mg : Str → Option Value} {base : Heap} {C CR CM : Addr}
abbrev nGr : List Str := ["_law_stream_here", "_law_rows_here", "_law_tree", "_law_one", "_law_other", "_law_found"]
theorem sc_Gr : FnScope nGr ["_law_stream_here"] (defScope s_L_great_right) := ⟨rfl, rfl, rfl, by decide +kernel, rfl, by decide +kernel, by decide +kernel⟩
theorem ok_Gr {fT : Addr} {fdT : FuncData} (D : DefAt K mg "_law_great_right" s_L_great_right ["_law_stream_here"]) (B : TxB mg) (T : TxT K mg C) (R : TxR K mg CR) (M : TxM K mg CM) (NM : TxN K CM)
    (Dd : DefAt K mg "_law_draw" s_L_draw ["_law_stream_here", "_law_many"])
    (Df : DefAt K mg "_law_free_rows" s_L_free_rows ["_law_stream_here", "_law_many"]) (Gf : FnOk P w K mg base CX0 6 Df.f Df.fd ["_law_stream_here", "_law_many"] spFree)
    (Dch : DefAt K mg "_law_chain" s_L_chain []) (Gch : FnOk P w K mg base CX0 2 Dch.f Dch.fd [] spLChain)
    (Dm : DefAt K mg "_law_meaning" s_L_meaning pMng) (Gm : FnOk P w K mg base CX0 9 Dm.f Dm.fd pMng (spLMeaning C CM))
    (Dfe : DefAt K mg "fewest_deeds" s_fewest_deeds ["one", "other"]) (Gfe : FnOk P w K mg base CX0 10 Dfe.f Dfe.fd ["one", "other"] (spFewD C CM CR))
    (Dle : DefAt K mg "_law_least_entries" s_L_least_entries pLLe) (Gle : FnOk P w K mg base CX0 2 Dle.f Dle.fd pLLe spLLeast)
    (MT : Mk K C fT) (bT : Binds K fdT ["self", "rows"] []) (GT : FnOk P w K mg base CX0 5 fT fdT ["self", "rows"] (spTreeInit C))
    (mF : MethAt K CM "__eq__" "Meaning.__eq__" s_Meaning_eq ["self", "other"]) (GF : FnOk P w K mg base CX0 3 mF.f mF.fd ["self", "other"] (spMEq K C CM))
    (mC : MethAt K CR "__call__" "Row.__call__" s_Row_call ["self", "meaning"]) (hfC : PySem.W.fnIn K mC.f = true) (GC : FnOk P w K mg base CX0 10 mC.f mC.fd ["self", "meaning"] (spRCall C CR CM))
    (mL : MethAt K CR "least" "Row.least" s_Row_least ["self"]) (GL : FnOk P w K mg base CX0 10 mL.f mL.fd ["self"] (spRLeast C CR))
    (mD : MethAt K CR "deeds" "Row.deeds" s_Row_deeds ["self"]) (GD : FnOk P w K mg base CX0 2 mD.f mD.fd ["self"] (spRDeeds C CR))
    (mN : MethAt K CR "__len__" "Row.__len__" s_Row_len ["self"]) (GN : FnOk P w K mg base CX0 2 mN.f mN.fd ["self"] (spRLen C CR))
    (mS : MethAt K CM "states" "Meaning.states" s_Meaning_states ["self"]) (GS : FnOk P w K mg base CX0 2 mS.f mS.fd ["self"] (spMStates C CM)) :
    FnOk P w K mg base CX0 11 D.f D.fd ["_law_stream_here"] spGreat := by
  have Gd : FnOk P w K mg base CX0 2 Dd.f Dd.fd ["_law_stream_here", "_law_many"] spDraw := ok_draw Dd B
  refine D.F.ok sc_Gr (fun vs H Q E h => ?_) (fun cdv A outer s H vs Q E hr h => ?_)
  · obtain ⟨a, n, rfl, _⟩ := h
    rfl
  · obtain ⟨a, n, rfl, hst, hn, hq⟩ := h
    have h64 := hr.units
    have hu := hu_of hr
    have r2 : Room 2 _ := hr.mono (by decide)
    have r3 : Room 3 _ := hr.mono (by decide)
    have r4 : Room 4 _ := hr.mono (by decide)
    have r6 : Room 6 _ := hr.mono (by decide)
    have r9 : Room 9 _ := hr.mono (by decide)
    refine ⟨_, pss_cons (ps_set (i := 1) sc_Gr.nd rfl (.inl rfl) (pe_call Gf r6 rfl Df.g Df.F.kp Df.b .nil pass0 (pa_cons (pv 0) (pa_cons (pe_op op_add pe_int (pe_call Gd r2 rfl Dd.g Dd.F.kp Dd.b .nil pass0 (pa_cons (pv 0) (pa_cons pe_int pa_nil)))) pa_nil))))
      (pss_cons (ps_set (i := 1) sc_Gr.nd rfl (.inl rfl) (pe_weak (pe_ifExp (pt_cmpR op_eq (pe_call Gd r2 rfl Dd.g Dd.F.kp Dd.b .nil pass0 (pa_cons (pv 0) (pa_cons pe_int pa_nil))) pe_int (nomark _)) (pe_call0 Gch r2 rfl Dch.g Dch.F.kp Dch.b .nil pass0) (pv 1))))
      (pss_cons (ps_set (i := 2) sc_Gr.nd rfl (.inl rfl) (pe_make MT GT r6 rfl T.g bT .nil pass0 (pa_cons (pv 1) pa_nil)))
      (pss_cons (ps_par (i := 3) (j := 4) rfl sc_Gr.nd rfl rfl (by decide) rfl rfl (pa_cons (pe_call Gm r9 rfl Dm.g Dm.F.kp Dm.b .nil pass0 (pa_cons (pv 0) (pa_cons (pv 1) (pa_cons (pv 2) pa_nil)))) (pa_cons (pe_call Gm r9 rfl Dm.g Dm.F.kp Dm.b .nil pass0 (pa_cons (pv 0) (pa_cons (pv 1) (pa_cons (pe_make MT GT r6 rfl T.g bT .nil pass0 (pa_cons (pv 1) pa_nil)) pa_nil)))) pa_nil)) (by rfl))
      (pss_cons (ps_set (i := 5) sc_Gr.nd rfl (.inl rfl) (pe_call Gfe hr rfl Dfe.g Dfe.F.kp Dfe.b .nil pass0 (pa_cons (pv 3) (pa_cons (pv 4) pa_nil))))
      (pss_cons (ps_if (PW.pt (pw_or (pt_cmpR (op_neC GF mF.m NM.ne NM.ob r4 mF.b pass0) (pe_callOwn 5 3 GC mC.m hfC hr mC.b pass0) (pv 4) (nomark _)) (pw_or1 (pt_cmpR (op_neD h64) (pe_meth0 (pe_meth0 (pv 5) R.cl mL.m GL hr mL.b .nil pass0) R.cl mD.m GD r2 mD.b .nil pass0) (pe_meth0 (pv 5) R.cl mD.m GD r2 mD.b .nil pass0) (nomark _))))) (pss_one (ps_ret pe_bl)) pss_nil)
      (pss_one (ps_ret (pe_cmpR op_eq (pe_callB (call_lenC GN mN.m r3 mN.b pass0) (by rfl) B.len PySem.boot_len (pa_cons (pv 5) pa_nil)) (pe_call Gle r2 rfl Dle.g Dle.F.kp Dle.b .nil pass0 (pa_cons (pv 1) (pa_cons (pe_meth0 (pv 3) M.cl mS.m GS r2 mS.b .nil pass0) (pa_cons (pe_meth0 (pv 4) M.cl mS.m GS r2 mS.b .nil pass0) pa_nil)))) (nomark _))))))))), ?_⟩
    -- the rows
    refine ⟨_, rfl, _, rfl, a, 24, n, rfl, hst, by omega, by decide, by decide, fun q H1 q0 q1 st1 he1 => ⟨_, _, rfl, rfl, ?_⟩⟩
    have sb1 := sb_eq (H := H) he1
    refine ⟨a, 12 + q, _, rfl, st1, by omega, by omega, by omega, fun p0 ras0 rs0 H2 hp00 np0 hp0 hrows0 hv0 hl0 hun0 sb2 st2 => ?_⟩
    have sb02 := sb1.trans sb2
    have st2' : Stm H2 a (n + 600) := st2.mono (by omega)
    refine ⟨fun x H' => ∃ (p : Addr) (rs : List Row), x = .ref p ∧ p ≠ a ∧ SB a H2 H' ∧ RowsL H' p rs ∧ Valid rs ∧ rs.length ≤ 40 ∧ Unl0 rs ∧ Stm H' a (n + 601), ?_, ?_⟩
    · refine ⟨_, rfl, a, 3, _, rfl, st2', by omega, by decide, by decide, fun q2 H3 q20 q21 st3 he3 => ⟨rfl, _, rfl, ?_⟩⟩
      have sb3 := sb_eq (H := H2) he3
      refine ite2 (fun _ => ?_) (fun _ => ?_)
      · refine ⟨rfl, fun p2 H4 hp2 s4 L4 => ⟨p2, chainR, rfl, (st3.ne hp2).symm, sb3.trans (SB.of s4), L4, chainR_valid, by rw [chainR_len]; decide, chainR_un, ?_⟩⟩
        exact (st3.same s4).mono (by omega)
      · exact ⟨_, rfl, p0, rs0, rfl, np0, sb3, (show RowsL H2 p0 rs0 from ⟨ras0, hp0, hrows0⟩).sbk np0 st2' sb3, hv0, by omega, hun0, st3.mono (by omega)⟩
    rintro x H3 ⟨p, rs, rfl, np, sb3, hL, hv, hl, hun, st3⟩
    have sb03 := sb02.trans sb3
    clear sb3 st2' st2 sb2 hun0 hl0 hv0 hrows0 hp0 np0 hp00 st1 sb1 he1
    obtain ⟨ras, hp, hrows⟩ := id hL.ex
    -- the tree, the meanings
    refine ⟨_, rfl, fun t dt nt ndt _ => ⟨t, dt, p, ras, rs, rfl, upd_same, .inr (mk_same0 (C := C) nt ndt _ _ hp), (hrows.same (mk_same0 (C := C) nt ndt)).seq, by omega, hv, fun H4 sb4 ht4 => ⟨rfl, ?_⟩⟩⟩
    have s4 := mk_same nt ndt sb4
    have st4 := st3.same s4
    refine ⟨_, rfl, _, rfl, _, rfl, a, p, t, _, rs, rfl, st4, by omega, hL.same s4, np, ht4, fun m v H5 mv5 sb5 _ st5 => ?_⟩
    have L5 := (hL.same s4).sbk np st4 sb5
    obtain ⟨ras5, hp5, hrows5⟩ := id L5.ex
    refine ⟨_, rfl, _, rfl, _, rfl, fun t2 dt2 nt2 ndt2 _ => ⟨t2, dt2, p, ras5, rs, rfl, upd_same, .inr (mk_same0 (C := C) nt2 ndt2 _ _ hp5), (hrows5.same (mk_same0 (C := C) nt2 ndt2)).seq, by omega, hv, fun H6 sb6 ht6 => ⟨rfl, ?_⟩⟩⟩
    have s6 := mk_same nt2 ndt2 sb6
    have st6 := st5.same s6
    refine ⟨a, p, t2, _, rs, rfl, st6, by omega, L5.same s6, np, ht6, fun m2 w2 H7 mw7 sb7 _ st7 => ⟨_, _, rfl, ?_⟩⟩
    have L7 := (L5.same s6).sbk np st6 sb7
    have mv7 := (mv5.same s6).kl (KL.sb st6 sb7)
    have sb07 : SB a H H7 := (((sb03.trans (SB.of s4)).trans sb5).trans (SB.of s6)).trans sb7
    have st7' : Stm H7 a (n + 2000) := st7.mono (by omega)
    clear sb7 st6 s6 L5 hp5 hrows5 st4 s4 sb5 st5 mv5 sb03 sb02 st3 hL hp hrows ht4 ht6 nt ndt nt2 ndt2 sb4 sb6 st7
    -- the fewest deeds
    refine ⟨_, rfl, _, rfl, m, m2, t, t2, rs, v, w2, rfl, mv7, mw7, hun, by omega, fun r H8 nr8 s8 hr8 => ?_⟩
    have noD : ∀ {x q e : Addr}, (rf x q e).lookup ("deeds" : Str) = none := fun {x q e} => rf_no _ _ _ (by decide +kernel) (by decide +kernel) (by decide +kernel)
    have noL : ∀ {x q e : Addr}, (rf x q e).lookup ("least" : Str) = none := fun {x q e} => rf_no _ _ _ (by decide +kernel) (by decide +kernel) (by decide +kernel)
    obtain ⟨ds, eds⟩ : ∃ ds, ds = leastD rs (fewG rs v w2) := ⟨_, rfl⟩
    have hr8' : RowAt C CR H8 r t rs ds := by rw [eds]; exact hr8
    have lead : ∀ z ∈ plc rs, doneV rs v ds z = w2 z := fun z hz => by rw [eds]; exact few_leads hv v w2 z hz
    have again : leastD rs (eff rs ds) = ds := by rw [eds]; exact few_eff hv v w2
    have wds : VDs rs ds := by rw [eds]; exact least_words fun z => fewF_mem z
    have lds : ds.length = (entL rs (fewG rs v w2)).length := by rw [eds]; unfold leastD; rw [List.length_map]
    have okD : ∀ d ∈ ds, PyData.strOk d.1 = true ∧ PyData.strOk d.2 = true := wds.ok hv
    have ld : ds.length ≤ rs.length + 1 := by rw [eds]; exact least_len
    clear hr8 eds
    obtain ⟨rdx, rq, re, ras', g8, _⟩ := id hr8'.ex
    refine ⟨r, rdx, _, _, rfl, g8, rfl, r, m, t, t, rs, ds, v, rfl, hr8', mv7.same s8, fun m3 H9 s9 mv3 => ?_⟩
    refine ⟨_, rfl, rd_neV mv3 ((mw7.same s8).same s9) lead ⟨_, rfl, iteF ?_⟩⟩
    have row9 := hr8'.same s9
    refine ⟨_, rfl, r, rdx, _, rfl, s9 _ _ g8, noL, r, t, rs, ds, rfl, row9, by omega, fun r5 H10 nr5 s10 hr5 => ?_⟩
    obtain ⟨mdx, mq, me, mas, m1', m2', m3', m4'⟩ := id hr5.ex
    refine ⟨r5, mdx, _, rfl, m1', noD, r5, t, rs, _, rfl, hr5, fun l6 a6 hl6 d6 => ?_⟩
    rw [again] at d6
    have s11 : Same H10 (upd H10 l6 (.lst (a6.map V.ref))) := Same.new hl6
    have e11 : (upd H10 l6 (.lst (a6.map V.ref))) l6 = some (.lst (a6.map V.ref)) := upd_same
    have d11 := d6.same s11
    generalize upd H10 l6 (.lst (a6.map V.ref)) = H11 at s11 e11 d11
    have s911 := s10.trans s11
    refine ⟨_, rfl, r, rdx, _, rfl, s911 _ _ (s9 _ _ g8), noD, r, t, rs, ds, rfl, row9.same s911, fun l7 a7 hl7 d7 => ?_⟩
    have s12 : Same H11 (upd H11 l7 (.lst (a7.map V.ref))) := Same.new hl7
    refine rd_neDs (s12 _ _ e11) (d11.same s12) upd_same (d7.same s12) okD ⟨_, rfl, iteF ?_⟩
    generalize upd H11 l7 (.lst (a7.map V.ref)) = H12 at s12
    have s912 := s911.trans s12
    have s712 : Same H7 H12 := s8.trans (s9.trans s912)
    have row12 := row9.same s912
    -- as few as can be
    have noS : ∀ {t q e : Addr} {b : Bool}, (mf t q e b).lookup ("states" : Str) = none := fun {t q e b} => mf_no _ _ _ _ (by decide +kernel) (by decide +kernel) (by decide +kernel) (by decide +kernel)
    refine ⟨_, rfl, r, rdx, _, rfl, s912 _ _ (s9 _ _ g8), r, t, rs, ds, rfl, row12, _, rfl, ⟨by omega, by omega⟩, ?_⟩
    obtain ⟨d1, ts1, hm1, hv1⟩ := (mv7.same s712).ex
    obtain ⟨ax, au, ak, a1, a2, _⟩ := id hm1.ex
    refine ⟨_, rfl, _, rfl, m, ax, _, rfl, a1, noS, ta_nil (rd_states (mv7.same s712) fun D1 hD1 => ?_)⟩
    have s13 : Same H12 (upd H12 D1 (.dK (kvG rs v))) := Same.new hD1
    have e13 : (upd H12 D1 (.dK (kvG rs v))) D1 = some (.dK (kvG rs v)) := upd_same
    generalize upd H12 D1 (.dK (kvG rs v)) = H13 at s13 e13
    have mw13 := (mw7.same s712).same s13
    obtain ⟨d2, ts2, hm2, hv2⟩ := mw13.ex
    obtain ⟨bx, bu, bk, b1, b2, _⟩ := id hm2.ex
    refine ⟨_, rfl, m2, bx, _, rfl, b1, noS, ta_nil (rd_states mw13 fun D2 hD2 => ?_)⟩
    have s14 : Same H13 (upd H13 D2 (.dK (kvG rs w2))) := Same.new hD2
    have e14 : (upd H13 D2 (.dK (kvG rs w2))) D2 = some (.dK (kvG rs w2)) := upd_same
    have n12 : D1 ≠ D2 := ne_of_none e13 hD2
    generalize upd H13 D2 (.dK (kvG rs w2)) = H14 at s14 e14
    have s714 := s712.trans (s13.trans s14)
    refine ⟨p, D1, D2, rs, v, w2, rfl, L7.same s714, hv, by omega, s14 _ _ e13, e14, n12, fun H15 s15 => ⟨rfl, ?_⟩⟩
    rw [lds, decide_eq_true (show V.int _ = V.int _ from rfl)]
    exact hq H15 (sb07.trans (SB.of (s714.trans s15))) (st7'.same (s714.trans s15))
end
end Ts

set_option maxRecDepth 100000
set_option maxHeartbeats 8000000
namespace Ts
open PySem L2
theorem lex2 (a b c d : Int) : HT.lexLt [a, b] [c, d] = decide (a < c ∨ (a = c ∧ b < d)) := by
  rw [HT.lexLt_cons, HT.lexLt_cons, HT.lexLt_nil_nil]
  by_cases h1 : a = c
  · rw [if_pos h1]
    by_cases h2 : b = d
    · rw [if_pos h2]; exact (decide_eq_false (by omega)).symm
    · rw [if_neg h2]; exact decide_eq_decide.mpr (by omega)
  · rw [if_neg h1]; exact decide_eq_decide.mpr (by omega)
/-- the costs and places of the maps -/
def chNs (rs : List Row) (gs : List (Str → Str)) (i : Nat) : List Int := [((entL rs (gs.getD i fun _ => "keep")).length : Int), (i : Int)]
theorem chNs_at {rs : List Row} {gs : List (Str → Str)} {i : Nat} {g : Str → Str} (h : gs[i]? = some g) : chNs rs gs i = [((entL rs g).length : Int), (i : Int)] := by
  unfold chNs
  rw [List.getD_eq_getElem?_getD, h]; rfl
theorem ch_pos (rs : List Row) (v w : Str → Bool) : 0 < (chAll rs v w).length := List.length_pos_of_mem (greedy_in (l := softF rs v w) (h := hardF w) (topR :: rs) fun _ => "keep")
theorem ch_le {rs : List Row} (v w : Str → Bool) (hl : rs.length ≤ 8) : (chAll rs v w).length ≤ 512 := by
  refine Nat.le_trans (chFrom_len _ _) ?_
  exact Nat.le_trans (Nat.pow_le_pow_right (by decide) (show (topR :: rs).length ≤ 9 by rw [List.length_cons]; omega)) (by decide)
/-- min's choice -/
def chK (rs : List Row) (v w : Str → Bool) : Nat := argBest (fun i j => HT.lexLt (chNs rs (chAll rs v w) i) (chNs rs (chAll rs v w) j)) ((chAll rs v w).length - 1)
theorem chK_at {rs : List Row} (hv : Valid rs) (v w : Str → Bool) : (chAll rs v w)[chK rs v w]? = some (fewG rs v w) := by
  have bm := best_min (bt := fun i j => HT.lexLt (chNs rs (chAll rs v w) i) (chNs rs (chAll rs v w) j)) (fun i => by
      unfold chNs
      rw [lex2]
      exact decide_eq_false (by omega)) (fun i j k h1 h2 => by
      unfold chNs at h1 h2 ⊢
      rw [lex2] at h1 h2 ⊢
      have h1 := of_decide_eq_true h1
      have h2 := of_decide_eq_false h2
      exact decide_eq_false (by omega)) (fun i j h1 => by
      unfold chNs at h1 ⊢
      rw [lex2] at h1 ⊢
      have h1 := of_decide_eq_true h1
      exact decide_eq_false (by omega)) ((chAll rs v w).length - 1)
  have pos := ch_pos rs v w
  obtain ⟨k1, k2⟩ := bm
  obtain ⟨k, ek⟩ : ∃ k, k = chK rs v w := ⟨_, rfl⟩
  have k1 : k ≤ (chAll rs v w).length - 1 := by rw [ek]; exact k1
  have k2 : ∀ j, j ≤ (chAll rs v w).length - 1 → HT.lexLt (chNs rs (chAll rs v w) j) (chNs rs (chAll rs v w) k) = false := by rw [ek]; exact k2
  rw [← ek]
  obtain ⟨g, hg⟩ : ∃ g, (chAll rs v w)[k]? = some g := ⟨(chAll rs v w)[k]'(by omega), List.getElem?_eq_getElem _⟩
  rw [hg]
  refine congrArg _ (ch_first hv hg fun j f hj => ?_)
  have hjl := (List.getElem?_eq_some_iff.mp hj).1
  have h := k2 j (by omega)
  rw [chNs_at hj, chNs_at hg, lex2] at h
  have h := of_decide_eq_false h
  omega
/-- pairs of a cost and a place -/
structure CtAt (H : Hp) (ts : List Addr) (rs : List Row) (gs : List (Str → Str)) (n : Nat) : Prop where
  len : ts.length = n
  at_ : ∀ (i : Nat) (t : Addr), ts[i]? = some t → H t = some (.tup ((chNs rs gs i).map V.int))
theorem CtAt.same {H H' : Hp} {ts : List Addr} {rs : List Row} {gs : List (Str → Str)} {n : Nat} (h : CtAt H ts rs gs n) (s : Same H H') : CtAt H' ts rs gs n := ⟨h.len, fun i t x => s _ _ (h.at_ i t x)⟩
theorem CtAt.snoc {H : Hp} {ts : List Addr} {rs : List Row} {gs : List (Str → Str)} {n : Nat} {t : Addr} (h : CtAt H ts rs gs n) (e : H t = some (.tup ((chNs rs gs n).map V.int))) : CtAt H (ts ++ [t]) rs gs (n + 1) := by
  refine ⟨by rw [List.length_append, h.len]; rfl, fun i x hx => ?_⟩
  rcases Nat.lt_or_ge i ts.length with c | c
  · rw [List.getElem?_append_left c] at hx
    exact h.at_ i x hx
  · rw [List.getElem?_append_right c] at hx
    match q : i - ts.length with
    | 0 =>
      rw [q] at hx
      cases hx
      have : i = n := by rw [← h.len]; omega
      rw [this]; exact e
    | k + 1 => rw [q] at hx; simp at hx
theorem eqV_refl_str (x : Str) : L2.eqV (V.str x) (V.str x) = true := decide_eq_true rfl
section
variable {P : Program} {w : World} {K : PySem.W.Frag} {mg : Str → Option Value} {base : Heap} {C CR CM : Addr}
abbrev nLaw : List Str := ["_law_script", "_law_turn", "_law_stream_here", "_law_rows_here", "_law_tree", "_law_one", "_law_other", "_law_mine", "_law_theirs", "_law_found", "_law_counts", "_law_due", "_law_many", "_law_at", "_law_maps"]
theorem sc_law : FnScope nLaw ["_law_script"] (defScope s_law) := ⟨rfl, rfl, rfl, by decide +kernel, rfl, by decide +kernel, by decide +kernel⟩
theorem ok_law {fT : Addr} {fdT : FuncData} (D : DefAt K mg "law" s_law ["_law_script"]) (B : TxB mg) (hMin : mg "min" = none) (T : TxT K mg C) (R : TxR K mg CR) (M : TxM K mg CM) (NM : TxN K CM)
    (Ds : DefAt K mg "_law_stream" s_L_stream ["_law_script", "_law_k"]) (Dd : DefAt K mg "_law_draw" s_L_draw ["_law_stream_here", "_law_many"])
    (Df : DefAt K mg "_law_free_rows" s_L_free_rows ["_law_stream_here", "_law_many"]) (Gf : FnOk P w K mg base CX0 6 Df.f Df.fd ["_law_stream_here", "_law_many"] spFree)
    (Dm : DefAt K mg "_law_meaning" s_L_meaning pMng) (Gm : FnOk P w K mg base CX0 9 Dm.f Dm.fd pMng (spLMeaning C CM))
    (Dfe : DefAt K mg "fewest_deeds" s_fewest_deeds ["one", "other"]) (Gfe : FnOk P w K mg base CX0 10 Dfe.f Dfe.fd ["one", "other"] (spFewD C CM CR))
    (Dch : DefAt K mg "_law_choices" s_L_choices pLCh) (Gch : FnOk P w K mg base CX0 2 Dch.f Dch.fd pLCh spLChoi)
    (Den : DefAt K mg "_law_entries" s_L_entries ["_law_rows_here", "_law_maps"]) (Gen : FnOk P w K mg base CX0 2 Den.f Den.fd ["_law_rows_here", "_law_maps"] spLEnt)
    (Dsh : DefAt K mg "_law_shorter" s_L_shorter pLSh) (Gsh : FnOk P w K mg base CX0 4 Dsh.f Dsh.fd pLSh spLShort)
    (Dgr : DefAt K mg "_law_great_right" s_L_great_right ["_law_stream_here"]) (Ggr : FnOk P w K mg base CX0 11 Dgr.f Dgr.fd ["_law_stream_here"] spGreat)
    (MT : Mk K C fT) (bT : Binds K fdT ["self", "rows"] []) (GT : FnOk P w K mg base CX0 5 fT fdT ["self", "rows"] (spTreeInit C))
    (mF : MethAt K CM "__eq__" "Meaning.__eq__" s_Meaning_eq ["self", "other"]) (GF : FnOk P w K mg base CX0 3 mF.f mF.fd ["self", "other"] (spMEq K C CM))
    (mC : MethAt K CR "__call__" "Row.__call__" s_Row_call ["self", "meaning"]) (hfC : PySem.W.fnIn K mC.f = true) (GC : FnOk P w K mg base CX0 10 mC.f mC.fd ["self", "meaning"] (spRCall C CR CM))
    (mL : MethAt K CR "least" "Row.least" s_Row_least ["self"]) (GL : FnOk P w K mg base CX0 10 mL.f mL.fd ["self"] (spRLeast C CR))
    (mD : MethAt K CR "deeds" "Row.deeds" s_Row_deeds ["self"]) (GD : FnOk P w K mg base CX0 2 mD.f mD.fd ["self"] (spRDeeds C CR))
    (mN : MethAt K CR "__len__" "Row.__len__" s_Row_len ["self"]) (GN : FnOk P w K mg base CX0 2 mN.f mN.fd ["self"] (spRLen C CR))
    (mP : MethAt K CR "maps" "Row.maps" s_Row_maps ["self"]) (GP : FnOk P w K mg base CX0 2 mP.f mP.fd ["self"] (spRMaps C CR))
    (mS : MethAt K CM "states" "Meaning.states" s_Meaning_states ["self"]) (GS : FnOk P w K mg base CX0 2 mS.f mS.fd ["self"] (spMStates C CM)) :
    FnOk P w K mg base CX0 12 D.f D.fd ["_law_script"] (spLaw K) := by
  have Gs : FnOk P w K mg base CX0 2 Ds.f Ds.fd ["_law_script", "_law_k"] (spStream K) := ok_stream Ds B
  have Gd : FnOk P w K mg base CX0 2 Dd.f Dd.fd ["_law_stream_here", "_law_many"] spDraw := ok_draw Dd B
  refine D.F.ok sc_law (fun vs H Q E h => ?_) (fun cdv A outer s H vs Q E hr h => ?_)
  · obtain ⟨a, ns, rfl, _⟩ := h
    rfl
  · obtain ⟨a0, ns, rfl, hS, hlen, hq⟩ := h
    have h64 := hr.units
    have hu := hu_of hr
    have hu0 := Nat.lt_of_le_of_lt (Nat.le_add_right _ _) h64
    have r2 : Room 2 _ := hr.mono (by decide)
    have r3 : Room 3 _ := hr.mono (by decide)
    have r4 : Room 4 _ := hr.mono (by decide)
    have r6 : Room 6 _ := hr.mono (by decide)
    have r9 : Room 9 _ := hr.mono (by decide)
    have r10 : Room 10 _ := hr.mono (by decide)
    refine ⟨_, pss_cons (ps_for PassesOwn.never rfl (pi_range1 (by rfl) B.range (pa_cons pe_int pa_nil)) (pg_name (i := 1) sc_law.nd rfl (.inl rfl))
        (pss_cons (ps_set (i := 2) sc_law.nd rfl (.inl rfl) (pe_call Gs r2 rfl Ds.g Ds.F.kp Ds.b .nil pass0 (pa_cons (pv 0) (pa_cons (pv 1) pa_nil))))
        (pss_cons (ps_set (i := 3) sc_law.nd rfl (.inr rfl) (pe_call Gf r6 rfl Df.g Df.F.kp Df.b .nil pass0 (pa_cons (pv 2) (pa_cons (pe_op op_add (pe_call Gd r2 rfl Dd.g Dd.F.kp Dd.b .nil pass0 (pa_cons (pv 2) (pa_cons pe_int pa_nil))) (pe_op op_mul pe_int (pe_callTy (T := "int") call_int1 (by rfl) B.int (by decide +kernel) (pa_cons (pe_cmpR op_eq (pv 1) pe_int (nomark _)) pa_nil)))) pa_nil))))
        (pss_cons (ps_set (i := 4) sc_law.nd rfl (.inl rfl) (pe_make MT GT r6 rfl T.g bT .nil pass0 (pa_cons (pv 3) pa_nil)))
        (pss_cons (ps_par (i := 5) (j := 6) rfl sc_law.nd rfl rfl (by decide) rfl rfl (pa_cons (pe_call Gm r9 rfl Dm.g Dm.F.kp Dm.b .nil pass0 (pa_cons (pv 2) (pa_cons (pv 3) (pa_cons (pv 4) pa_nil)))) (pa_cons (pe_call Gm r9 rfl Dm.g Dm.F.kp Dm.b .nil pass0 (pa_cons (pv 2) (pa_cons (pv 3) (pa_cons (pv 4) pa_nil)))) pa_nil)) (by rfl))
        (pss_cons (ps_par (i := 7) (j := 8) rfl sc_law.nd rfl rfl (by decide) rfl rfl (pa_cons (pe_meth0 (pv 5) M.cl mS.m GS r2 mS.b .nil pass0) (pa_cons (pe_meth0 (pv 6) M.cl mS.m GS r2 mS.b .nil pass0) pa_nil)) (by rfl))
        (pss_cons (ps_set (i := 9) sc_law.nd rfl (.inl rfl) (pe_call Gfe r10 rfl Dfe.g Dfe.F.kp Dfe.b .nil pass0 (pa_cons (pv 5) (pa_cons (pv 6) pa_nil))))
        (pss_cons (ps_if (PW.pt (pw_or (pt_cmpR (op_neC GF mF.m NM.ne NM.ob r4 mF.b pass0) (pe_callOwn 9 5 GC mC.m hfC r10 mC.b pass0) (pv 6) (nomark _)) (pw_or1 (pt_cmpR (op_neD h64) (pe_meth0 (pe_meth0 (pv 9) R.cl mL.m GL r10 mL.b .nil pass0) R.cl mD.m GD r2 mD.b .nil pass0) (pe_meth0 (pv 9) R.cl mD.m GD r2 mD.b .nil pass0) (nomark _))))) (pss_one (ps_ret pe_bl)) pss_nil)
        (pss_cons (ps_setLc (i := 10) (own := [("_law_at", 13), ("_law_maps", 14)]) (g := gTup K 2 (gCons (gName 13) (gCons (gName 14) gNil))) (tt := tYes) (te := tTup (tCons (tCall spLEnt [] E0 (tCons (tVar 3) (tCons (tVar 14) tNil))) (tCons (tVar 13) tNil))) rfl sc_law.nd rfl rfl (sw_true rfl rfl rfl (by decide +kernel)) (pi_enum (by rfl) B.enumerate (pa_cons (pe_call Gch r2 rfl Dch.g Dch.F.kp Dch.b .nil pass0 (pa_cons (pv 3) (pa_cons (pv 7) (pa_cons (pv 8) pa_nil)))) pa_nil)) (blkOk_by (N := nLaw) (sc := defScope s_law) (by decide +kernel))
            (fun _ _ _ _ _ => by exact pg_tup rfl (pgs_cons (pg_name (i := 13) sc_law.nd rfl (Or.inl rfl)) (pgs_cons (pg_name (i := 14) sc_law.nd rfl (Or.inl rfl)) pgs_nil))) (fun _ _ _ _ _ => pts_nil) (fun _ _ _ _ _ => by exact pe_tup (pa_cons (pe_call Gen r2 rfl Den.g Den.F.kp Den.b .nil pass0 (pa_cons (pv 3) (pa_cons (pv 14) pa_nil))) (pa_cons (pv 13) pa_nil))))
        (pss_cons (ps_set (i := 11) sc_law.nd rfl (.inl rfl) (pe_ix ix_list (pe_call Gch r2 rfl Dch.g Dch.F.kp Dch.b .nil pass0 (pa_cons (pv 3) (pa_cons (pv 7) (pa_cons (pv 8) pa_nil)))) (pe_ix ix_tup (pe_callB (cr_minP rfl hu) (by rfl) hMin (by decide +kernel) (pa_cons (pv 10) pa_nil)) pe_int (fun _ _ => rfl)) (fun _ _ => rfl)))
        (pss_cons (ps_if (PW.pt (pw_or (pt_cmpR (op_neX hu0) (pe_meth0 (pv 9) R.cl mP.m GP r2 mP.b .nil pass0) (pv 11) (nomark _)) (pw_or1 (pt_cmpR op_ne (pe_callB (call_lenC GN mN.m r3 mN.b pass0) (by rfl) B.len PySem.boot_len (pa_cons (pv 9) pa_nil)) (pe_ix ix_tup (pe_callB (cr_minP rfl hu) (by rfl) hMin (by decide +kernel) (pa_cons (pv 10) pa_nil)) pe_int (fun _ _ => rfl)) (nomark _))))) (pss_one (ps_ret pe_bl)) pss_nil)
        (pss_cons (ps_for PassesOwn.never rfl (pi_range1 (by rfl) B.range (pa_cons (pe_callB (call_min2 rfl) (by rfl) hMin (by decide +kernel) (pa_cons (pe_callB (call_lenC GN mN.m r3 mN.b pass0) (by rfl) B.len PySem.boot_len (pa_cons (pv 9) pa_nil)) (pa_cons pe_int pa_nil))) pa_nil)) (pg_name (i := 12) sc_law.nd rfl (.inl rfl))
            (pss_one (ps_if (pt_val (pe_call Gsh r4 rfl Dsh.g Dsh.F.kp Dsh.b .nil pass0 (pa_cons (pv 3) (pa_cons (pv 7) (pa_cons (pv 8) (pa_cons (pv 12) pa_nil)))))) (pss_one (ps_ret pe_bl)) pss_nil)))
        (pss_one (ps_if (PW.pt (pw_or (pt_cmpR (op_neD h64) (pe_meth0 (pe_call Gfe r10 rfl Dfe.g Dfe.F.kp Dfe.b .nil pass0 (pa_cons (pv 5) (pa_cons (pv 5) pa_nil))) R.cl mD.m GD r2 mD.b .nil pass0) (pe_lst pa_nil) (nomark _)) (pw_or1 (pt_not (pt_val (pe_call Ggr hr rfl Dgr.g Dgr.F.kp Dgr.b .nil pass0 (pa_cons (pv 2) pa_nil))))))) (pss_one (ps_ret pe_bl)) pss_nil))))))))))))))
      (pss_one (ps_ret pe_bl)), ?_⟩
    refine ⟨4, rfl, by decide, by decide, ?_⟩
    refine for_range (lo := 0) (n := (4 : Int).toNat) (fun i σ H' => ∃ v1 v2 v3 v4 v5 v6 v7 v8 v9 v10 v11 v12 : Option V, σ = [some (.ref a0), v1, v2, v3, v4, v5, v6, v7, v8, v9, v10, v11, v12, none, none] ∧ SqL K H' a0 (ns.map V.int)) ⟨_, _, _, _, _, _, _, _, _, _, _, _, rfl, hS⟩ ?_ ?_
    · rintro i_ σ H1 hi ⟨v1, v2, v3, v4, v5, v6, v7, v8, v9, v10, v11, v12, rfl, hS1⟩
      have hi4 : i_ < 4 := hi
      refine ⟨_, rfl, _, rfl, a0, ns, _, rfl, hS1, by omega, by omega, fun a x y ha hx hy hy1 => ?_⟩
      have st0 : Stm (upd H1 a (.lst [.int x, .int y, .int 0])) a 0 := ⟨x, y, 0, upd_same, hx, hy, hy1, by decide, by decide⟩
      have S2 : Same H1 (upd H1 a (.lst [.int x, .int y, .int 0])) := Same.new ha
      generalize upd H1 a (.lst [.int x, .int y, .int 0]) = H2 at st0 S2
      refine ⟨_, rfl, _, rfl, a, 5, 0, rfl, st0, by decide, by decide, by decide, fun q H3 q0 q1 st3 he3 => ?_⟩
      have S3 := smb S2 ha (sb_eq he3)
      obtain ⟨e, ee, e0, e1⟩ : ∃ e : Int, e = (if decide (V.int (0 + (i_ : Int)) = V.int 3) = true then 1 else 0) ∧ 0 ≤ e ∧ e ≤ 1 := ⟨_, rfl, by split <;> omega, by split <;> omega⟩
      refine ⟨_, rfl, rfl, .inr ⟨_, rfl, _, _, rfl, rfl, .inl ⟨by decide, by decide⟩, _, _, rfl, rfl, ?_⟩⟩
      rw [← ee]
      refine ⟨a, q + 4 * e, _, rfl, st3, by omega, by omega, by omega, fun p ras rs H5 hp0 np hp hrows hv hl hun sb5 st5 => ?_⟩
      have S5 := smb S3 ha sb5
      have hL : RowsL H5 p rs := ⟨ras, hp, hrows⟩
      have hl8 : rs.length ≤ 8 := by omega
      have st6 : Stm H5 a 200 := st5.mono (by omega)
      clear he3 st5 S3 S2 sb5 st3 st0 hp0 ee
      -- the tree, the meanings
      refine ⟨_, rfl, fun t dt nt ndt _ => ⟨t, dt, p, ras, rs, rfl, upd_same, .inr (mk_same0 (C := C) nt ndt _ _ hp), (hrows.same (mk_same0 (C := C) nt ndt)).seq, by omega, hv, fun H6 sb6 ht6 => ⟨rfl, ?_⟩⟩⟩
      have s6 := mk_same nt ndt sb6
      have st6' := st6.same s6
      refine ⟨_, rfl, _, rfl, _, rfl, a, p, t, _, rs, rfl, st6', by decide, hL.same s6, np, ht6, fun m v H7 mv7 sb7 _ st7 => ?_⟩
      have L7 := (hL.same s6).sbk np st6' sb7
      have ht7 := ht6.kl (KL.sb st6' sb7)
      refine ⟨_, rfl, _, rfl, _, rfl, a, p, t, _, rs, rfl, st7, by decide, L7, np, ht7, fun m2 w2 H8 mw8 sb8 _ st8 => ⟨_, _, rfl, ?_⟩⟩
      have L8 := L7.sbk np st7 sb8
      have mv8 := mv7.kl (KL.sb st7 sb8)
      have S8 : Same H1 H8 := smb (smb (S5.trans s6) ha sb7) ha sb8
      have st8' : Stm H8 a 600 := st8.mono (by omega)
      clear sb8 st7 L7 ht7 mv7 sb7 st6' s6 hL st6 S5 hp hrows ht6 nt ndt sb6 st8
      -- the states
      have noS : ∀ {t q e : Addr} {b : Bool}, (mf t q e b).lookup ("states" : Str) = none := fun {t q e b} => mf_no _ _ _ _ (by decide +kernel) (by decide +kernel) (by decide +kernel) (by decide +kernel)
      have noD : ∀ {x q e : Addr}, (rf x q e).lookup ("deeds" : Str) = none := fun {x q e} => rf_no _ _ _ (by decide +kernel) (by decide +kernel) (by decide +kernel)
      have noL : ∀ {x q e : Addr}, (rf x q e).lookup ("least" : Str) = none := fun {x q e} => rf_no _ _ _ (by decide +kernel) (by decide +kernel) (by decide +kernel)
      have noM : ∀ {x q e : Addr}, (rf x q e).lookup ("maps" : Str) = none := fun {x q e} => rf_no _ _ _ (by decide +kernel) (by decide +kernel) (by decide +kernel)
      obtain ⟨d1, ts1, hm1, hv1⟩ := mv8.ex
      obtain ⟨ax, au, ak, a1, a2, _⟩ := id hm1.ex
      refine ⟨_, rfl, m, ax, _, rfl, a1, noS, ta_nil (rd_states mv8 fun D1 hD1 => ?_)⟩
      have s9 : Same H8 (upd H8 D1 (.dK (kvG rs v))) := Same.new hD1
      have e9 : (upd H8 D1 (.dK (kvG rs v))) D1 = some (.dK (kvG rs v)) := upd_same
      generalize upd H8 D1 (.dK (kvG rs v)) = H9 at s9 e9
      have mw9 := mw8.same s9
      obtain ⟨d2, ts2, hm2, hv2⟩ := mw9.ex
      obtain ⟨bx, bu, bk, b1, b2, _⟩ := id hm2.ex
      refine ⟨_, rfl, m2, bx, _, rfl, b1, noS, ta_nil (rd_states mw9 fun D2 hD2 => ⟨_, _, rfl, ?_⟩)⟩
      have s10 : Same H9 (upd H9 D2 (.dK (kvG rs w2))) := Same.new hD2
      have e10 : (upd H9 D2 (.dK (kvG rs w2))) D2 = some (.dK (kvG rs w2)) := upd_same
      have f10 := s10 _ _ e9
      generalize upd H9 D2 (.dK (kvG rs w2)) = H10 at s10 e10 f10
      have s810 := s9.trans s10
      have mv10 := mv8.same s810
      have mw10 := mw9.same s10
      have L10 := L8.same s810
      have st10 := st8'.same s810
      have S10 := S8.trans s810
      clear e9 hm1 hv1 hm2 hv2 a1 a2 b1 b2 mw9 mv8 mw8 L8 st8' S8 s9 s10 hD1 hD2 s810
      -- the fewest deeds
      refine ⟨_, rfl, _, rfl, m, m2, t, t, rs, v, w2, rfl, mv10, mw10, hun, by omega, fun r H11 nr11 s11 hr11 => ?_⟩
      obtain ⟨ds, eds⟩ : ∃ ds, ds = leastD rs (fewG rs v w2) := ⟨_, rfl⟩
      have row11 : RowAt C CR H11 r t rs ds := by rw [eds]; exact hr11
      have lead : ∀ z ∈ plc rs, doneV rs v ds z = w2 z := fun z hz => by rw [eds]; exact few_leads hv v w2 z hz
      have again : leastD rs (eff rs ds) = ds := by rw [eds]; exact few_eff hv v w2
      have effs : ∀ z ∈ plc rs, eff rs ds z = fewG rs v w2 z := fun z hz => by rw [eds]; exact eff_leastF hv (fun b => fewF_mem b) (few_down hv v w2) z hz
      have wds : VDs rs ds := by rw [eds]; exact least_words fun z => fewF_mem z
      have lds : ds.length = (entL rs (fewG rs v w2)).length := by rw [eds]; unfold leastD; rw [List.length_map]
      have okD : ∀ d ∈ ds, PyData.strOk d.1 = true ∧ PyData.strOk d.2 = true := wds.ok hv
      have ld : ds.length ≤ rs.length + 1 := by rw [eds]; exact least_len
      clear hr11 eds
      have mv11 := mv10.same s11
      have mw11 := mw10.same s11
      have L11 := L10.same s11
      have st11 := st10.same s11
      have S11 := S10.trans s11
      have e11 := s11 _ _ e10
      have f11 := s11 _ _ f10
      clear mv10 mw10 L10 st10 S10 e10 f10 s11
      obtain ⟨rdx, rq, re, ras', g11, _⟩ := id row11.ex
      refine ⟨r, rdx, _, _, rfl, g11, rfl, r, m, t, t, rs, ds, v, rfl, row11, mv11, fun m3 H12 s12 mv3 => ?_⟩
      refine ⟨_, rfl, rd_neV mv3 (mw11.same s12) lead ⟨_, rfl, iteF ?_⟩⟩
      have row12 := row11.same s12
      refine ⟨_, rfl, r, rdx, _, rfl, s12 _ _ g11, noL, r, t, rs, ds, rfl, row12, by omega, fun r5 H13 nr5 s13 hr5 => ?_⟩
      obtain ⟨mdx, mq, me, mas, m1', m2', m3', m4'⟩ := id hr5.ex
      refine ⟨r5, mdx, _, rfl, m1', noD, r5, t, rs, _, rfl, hr5, fun l6 a6 hl6 d6 => ?_⟩
      rw [again] at d6
      have s14 : Same H13 (upd H13 l6 (.lst (a6.map V.ref))) := Same.new hl6
      have e14 : (upd H13 l6 (.lst (a6.map V.ref))) l6 = some (.lst (a6.map V.ref)) := upd_same
      have d14 := d6.same s14
      generalize upd H13 l6 (.lst (a6.map V.ref)) = H14 at s14 e14 d14
      have s1214 := s13.trans s14
      refine ⟨_, rfl, r, rdx, _, rfl, s1214 _ _ (s12 _ _ g11), noD, r, t, rs, ds, rfl, row12.same s1214, fun l7 a7 hl7 d7 => ?_⟩
      have s15 : Same H14 (upd H14 l7 (.lst (a7.map V.ref))) := Same.new hl7
      refine rd_neDs (s15 _ _ e14) (d14.same s15) upd_same (d7.same s15) okD ⟨_, rfl, iteF ?_⟩
      generalize upd H14 l7 (.lst (a7.map V.ref)) = H15 at s15
      have s1115 : Same H11 H15 := s12.trans (s1214.trans s15)
      have row15 := row11.same s1115
      have mv15 := mv11.same s1115
      have L15 := L11.same s1115
      have st15 := st11.same s1115
      have S15 := S11.trans s1115
      have e15 := s1115 _ _ e11
      have f15 := s1115 _ _ f11
      have g15 := s1115 _ _ g11
      clear row11 mv11 mw11 L11 st11 S11 e11 f11 g11 s1115 s15 hl7 d7 s1214 d14 e14 s14 d6 hl6 row12 s12 s13 mv3 hr5 m1' m2' m3' m4'
      -- the counts
      obtain ⟨gs, egs⟩ : ∃ gs, gs = chAll rs v w2 := ⟨_, rfl⟩
      have lgs : gs.length ≤ 512 := by rw [egs]; exact ch_le v w2 hl8
      have pgs : 0 < gs.length := by rw [egs]; exact ch_pos rs v w2
      refine ⟨_, rfl, _, rfl, _, rfl, p, D1, D2, rs, v, w2, rfl, L15, hv, hl8, f15, e15, fun cl cs H16 hcl s16 ecl dc => ?_⟩
      rw [← egs] at dc
      refine ⟨cl, _, rfl, SqL.of ecl, fun D hD => ?_⟩
      refine lc_it (walk_enum (K := K) (a := cl) (xs := cs.map V.ref)) (fun i H' => Same H16 H' ∧ ∃ ts : List Addr, H' D = some (.lst (ts.map V.ref)) ∧ CtAt H' ts rs gs i) ⟨Same.new hD, [], upd_same, rfl, fun i t x => by simp at x⟩ (fun i H' _ m => m.1.seq (SqL.of ecl)) ?_ ?_
      · rintro i x H17 H18 hi ⟨s17, ts, e17, c17⟩ ⟨T, xi, xr, rfl, hT, rfl, exi, exr⟩
        cases exi
        obtain ⟨d, g, rfl, hd, hg, ed⟩ := dc.get exr
        have s18 : Same H17 (upd H17 T (.tup [V.int (i : Nat), V.ref d])) := Same.new hT
        have e18 := s18 _ _ e17
        have t18 : (upd H17 T (.tup [V.int (i : Nat), V.ref d])) T = some (.tup [V.int (i : Nat), V.ref d]) := upd_same
        generalize upd H17 T (.tup [V.int (i : Nat), V.ref d]) = H18 at s18 e18 t18
        have s1618 := s17.trans s18
        refine ⟨T, _, rfl, sqT t18, rfl, _, _, rfl, _, _, rfl, rfl, rfl, tYes_if ⟨_, rfl, _, rfl, p, d, rs, g, rfl, L15.same (s16.trans s1618), hv, by omega, s1618 _ _ ed, fun H19 s19 => ⟨_, rfl, (by show 2 ≤ sizeLine; decide), fun tq htq => ?_⟩⟩⟩
        have e19 := s19 _ _ e18
        have nDt : D ≠ tq := ne_of_none e19 htq
        have c19 := (c17.same s18).same s19
        refine ⟨ts.map V.ref, by rw [upd_ne nDt]; exact e19, small1000 (by rw [List.length_map, c17.len]; have := (List.getElem?_eq_some_iff.mp hg).1; omega), fun b o eb => ?_, ts ++ [tq], by rw [upd_same, List.map_append]; rfl, ?_⟩
        · rw [upd_ne (fun y => by rw [y, hD] at eb; cases eb), upd_ne (ne_of_none (s19 _ _ (s1618 _ _ eb)) htq)]
          exact s19 _ _ (s1618 _ _ eb)
        · have kp : ∀ {b : Addr} {xs : List V}, H19 b = some (.tup xs) → (upd (upd H19 tq (.tup [V.int ((entL rs g).length : Int), V.int (i : Nat)])) D (.lst (ts.map V.ref ++ [V.ref tq]))) b = some (.tup xs) := fun {b xs} e => by
            rw [upd_ne (fun y => by rw [y, e19] at e; cases e), upd_ne (ne_of_none e htq)]; exact e
          refine CtAt.snoc ⟨c19.len, fun j x y => kp (c19.at_ j x y)⟩ ?_
          rw [upd_ne nDt.symm, chNs_at hg]
          exact upd_same
      rintro H17 ⟨s17, ts, e17, c17⟩
      rw [List.length_map, dc.len] at c17
      have s1517 := s16.trans s17
      have L17 := L15.same s1517
      have f17 := s1517 _ _ f15
      have e17' := s1517 _ _ e15
      clear s16 ecl dc hcl hD
      -- what is due
      have minAt : ∀ {H' : Hp}, Same H17 H' → ∀ {Q' : VK}, (∀ tk, SqT K H' tk [V.int ((entL rs (fewG rs v w2)).length : Int), V.int ((chK rs v w2 : Nat) : Int)] → Q' (.ref tk) H') → rMinP K [V.ref D] H' Q' := fun {H'} s' {Q'} k => by
        refine ⟨D, ts, chNs rs gs, rfl, SqL.of (s' _ _ e17), by rw [c17.len]; exact pgs, fun i t hi => sqT (s' _ _ (c17.at_ i t hi)), fun tk htk => k tk ?_⟩
        rw [c17.len, egs] at htk
        have hk := c17.at_ _ tk htk
        have ek : argBest (fun i j => HT.lexLt (chNs rs (chAll rs v w2) i) (chNs rs (chAll rs v w2) j)) ((chAll rs v w2).length - 1) = chK rs v w2 := rfl
        rw [egs, ek, chNs_at (chK_at hv v w2)] at hk
        exact sqT (s' _ _ hk)
      refine ⟨_, rfl, _, rfl, _, rfl, p, D1, D2, rs, v, w2, rfl, L17, hv, hl8, f17, e17', fun cl2 cs2 H18 hcl2 s18 ecl2 dc2 => ?_⟩
      refine ⟨_, rfl, ta_nil (minAt s18 fun tk htk => ⟨tk, _, _, _, rfl, rfl, htk, rfl, ?_⟩)⟩
      obtain ⟨dd, hdd⟩ : ∃ dd, cs2[chK rs v w2]? = some dd := ⟨cs2[chK rs v w2]'(by rw [dc2.len]; exact (List.getElem?_eq_some_iff.mp (chK_at hv v w2)).1), List.getElem?_eq_getElem _⟩
      have edd := dc2.at_ _ dd _ hdd (chK_at hv v w2)
      refine ⟨cl2, _, _, V.ref dd, rfl, rfl, SqL.of ecl2, atI_nat (by rw [List.getElem?_map, hdd]; rfl), ?_⟩
      -- the maps and the number
      have s1518 := s1517.trans s18
      have row18 := row15.same s1518
      have g18 := s1518 _ _ g15
      refine ⟨_, rfl, r, rdx, _, rfl, g18, noM, r, t, rs, ds, rfl, row18, fun M hM => ?_⟩
      have s19 : Same H18 (upd H18 M (.dK (kvS (eff rs ds) (plc rs)))) := Same.new hM
      have e19 : (upd H18 M (.dK (kvS (eff rs ds) (plc rs)))) M = some (.dK (kvS (eff rs ds) (plc rs))) := upd_same
      generalize upd H18 M (.dK (kvS (eff rs ds) (plc rs))) = H19 at s19 e19
      refine ⟨_, rfl, M, dd, fun z => V.str (eff rs ds z), fun z => V.str (fewG rs v w2 z), plc rs, rfl, rfl, e19, s19 _ _ edd, fun z _ => ⟨rfl, rfl⟩, ?_⟩
      have al : allE (fun z => V.str (eff rs ds z)) (fun z => V.str (fewG rs v w2 z)) (plc rs) = true := by
        unfold allE
        refine List.all_eq_true.mpr fun z hz => ?_
        show L2.eqV (V.str (eff rs ds z)) (V.str (fewG rs v w2 z)) = true
        rw [effs z hz]
        exact eqV_refl_str _
      rw [al]
      refine ⟨_, rfl, iteF ?_⟩
      refine ⟨_, rfl, r, rdx, _, rfl, s19 _ _ g18, r, t, rs, ds, rfl, row18.same s19, _, rfl, ⟨by omega, by omega⟩, ?_⟩
      refine ⟨_, rfl, ta_nil (minAt (s18.trans s19) fun tk2 htk2 => ⟨tk2, _, _, _, rfl, rfl, htk2, rfl, ?_⟩)⟩
      rw [lds]
      refine ⟨rfl, _, rfl, iteF' (by simp) ?_⟩
      have s1519 := s1518.trans s19
      have row19 := row15.same s1519
      have mv19 := mv15.same s1519
      have L19 := L15.same s1519
      have st19 := st15.same s1519
      have S19 := S15.trans s1519
      have e19' := s1519 _ _ e15
      have f19 := s1519 _ _ f15
      have g19 := s1519 _ _ g15
      clear minAt s18 ecl2 dc2 hdd edd row18 g18 hM e19 s19 s1518 s1517 s17 c17 e17 e17' f17 L17 row15 mv15 L15 st15 S15 e15 f15 g15 s1519
      -- no shorter row leads there
      obtain ⟨mm, emm, mm0, mm3, mml⟩ : ∃ mm : Int, mm = (if (3 : Int) < ((ds.length : Nat) : Int) then 3 else ((ds.length : Nat) : Int)) ∧ 0 ≤ mm ∧ mm ≤ 3 ∧ mm ≤ ds.length := ⟨_, rfl, by split <;> omega, by split <;> omega, by split <;> omega⟩
      refine ⟨_, rfl, r, rdx, _, rfl, g19, r, t, rs, ds, rfl, row19, _, rfl, ⟨by omega, by omega⟩, _, _, rfl, ?_⟩
      rw [← emm]
      refine ⟨mm, rfl, by omega, by omega, ?_⟩
      refine for_range (lo := 0) (n := mm.toNat) (fun j σ H' => ∃ w12 : Option V, σ = [some (.ref a0), some (.int (0 + i_)), some (.ref a), some (.ref p), some (.ref t), some (.ref m), some (.ref m2), some (.ref D1), some (.ref D2), some (.ref r), some (.ref D), some (.ref dd), w12, none, none] ∧ Same H19 H') ⟨_, rfl, Same.refl _⟩ ?_ ?_
      · rintro j σ H20 hj ⟨w12, rfl, s20⟩
        have hjm : (j : Int) < mm := by omega
        refine ⟨_, rfl, _, rfl, _, rfl, _, rfl, p, D1, D2, _, rs, v, w2, rfl, L19.same s20, hv, by omega, s20 _ _ f19, s20 _ _ e19', by omega, by omega, ?_, fun H21 s21 => ⟨_, rfl, iteF ⟨_, rfl, s20.trans s21⟩⟩⟩
        have : ds.length = (entL rs (fewF (softF rs v w2) (hardF w2) rs)).length := lds
        omega
      rintro σ H20 ⟨w12, rfl, s20⟩
      -- none for a meaning and itself
      have mv20 := mv19.same s20
      refine ⟨_, rfl, _, rfl, m, m, t, t, rs, v, v, rfl, mv20, mv20, hun, by omega, fun r6 H21 nr6 s21 hr6 => ?_⟩
      have nil : leastD rs (fewF (softF rs v v) (hardF v) rs) = [] := by
        have h := few_least hv (v := v) (w := v) (ds := []) (fun d hd => by cases hd) (fun z _ => rfl)
        have h2 : (entL rs (fewF (softF rs v v) (hardF v) rs)).length = 0 := Nat.le_zero.mp h
        unfold leastD
        rw [List.length_eq_zero_iff.mp h2]
        rfl
      rw [nil] at hr6
      obtain ⟨qdx, qq, qe, qas, q1', q2', q3', q4'⟩ := id hr6.ex
      refine ⟨r6, qdx, _, rfl, q1', noD, r6, t, rs, _, rfl, hr6, fun l8 a8 hl8' d8 => ⟨(by show 0 ≤ sizeLine; decide), fun l9 hl9 => ?_⟩⟩
      have s22 : Same H21 (upd (upd H21 l8 (.lst (a8.map V.ref))) l9 (.lst [])) := (Same.new hl8').trans (Same.new hl9)
      refine rd_neDs (as := a8) (bs := []) ((Same.new hl9) _ _ upd_same) (d8.same s22) upd_same ⟨rfl, fun i b d x _ => by simp at x⟩ (fun d hd => by cases hd) ⟨_, rfl, iteF ?_⟩
      generalize upd (upd H21 l8 (.lst (a8.map V.ref))) l9 (.lst []) = H22 at s22
      have s1922 := s20.trans (s21.trans s22)
      refine ⟨_, rfl, a, _, rfl, st19.same s1922, by decide, fun H23 sb23 st23 => ⟨_, rfl, iteF ⟨_, _, _, _, _, _, _, _, _, _, _, _, rfl, ?_⟩⟩⟩
      exact (smb (S19.trans s1922) ha sb23).seq hS1
    · rintro σ H' ⟨_, _, _, _, _, _, _, _, _, _, _, _, rfl, _⟩
      exact hq _
end
end Ts

set_option maxRecDepth 100000
set_option maxHeartbeats 8000000
namespace Ts
open PySem L2
theorem defAt {K : PySem.W.Frag} {h : Heap} {mg : Str → Option Value} (X : K.In h) (G : h.Ns mainGlobals mg) {x : Str} {st : Stmt} {ps : List Str} {f : Addr} {oc : Value} {od an : Option Addr} {sl : Array (Option Value)} {kV dc pm cd ct : Value}
    (a : PySem.W.nsIn K mainGlobals x = some (some (.ref f))) (l : K.lookup f = some ⟨oc, od, .func (PySem.W.fnOf x x (defArgs st) (defBody st) (defScope st) .none kV dc pm an cd ct), sl⟩) (c : PySem.W.codeIn K cd x = true) (k : PySem.W.keepIn K (.ref f) = true)
    (hb : ∀ (kV doc pm : Value) (an : Option Addr) (cdv ct : Value) (us : List Value), us.length = ps.length → bindArgs (PySem.W.fnOf x x (defArgs st) (defBody st) (defScope st) .none kV doc pm an cdv ct) ⟨us, []⟩ = pure (ps.zip us)) :
    ∃ D : DefAt K mg x st ps, ∀ (s : Shared) (us : List Value), us.length = ps.length → BindsTo s D.fd ⟨us, []⟩ (ps.zip us) :=
  ⟨⟨f, _, fun_mk l c k, (fun_mk l c k).binds hb, PySem.W.mg_of X G a⟩, fun _ us hu => .of_eq (hb _ _ _ _ _ _ us hu)⟩
theorem methAt {K : PySem.W.Frag} {C : Addr} {x q : Str} {st : Stmt} {ps : List Str} {f : Addr} {oc : Value} {od an : Option Addr} {sl : Array (Option Value)} {kV dc pm cd ct : Value}
    (a : PySem.W.findIn K (.ref C) x = some (some (.ref f))) (i : PySem.W.isFn K (.ref f) = true) (l : K.lookup f = some ⟨oc, od, .func (PySem.W.fnOf x q (defArgs st) (defBody st) (defScope st) .none kV dc pm an cd ct), sl⟩) (c : PySem.W.codeIn K cd q = true) (k : PySem.W.keepIn K (.ref f) = true)
    (hb : ∀ (kV doc pm : Value) (an : Option Addr) (cdv ct : Value) (us : List Value), us.length = ps.length → bindArgs (PySem.W.fnOf x q (defArgs st) (defBody st) (defScope st) .none kV doc pm an cdv ct) ⟨us, []⟩ = pure (ps.zip us)) :
    Nonempty (MethAt K C x q st ps) :=
  ⟨⟨f, _, fun_mk l c k, (fun_mk l c k).binds hb, ⟨a, i, k⟩⟩⟩
theorem kit_no {K : PySem.W.Frag} {C : Addr} {T : String} (iC : PySem.W.isClsIn K C = true) (tC : PySem.W.typeIn K (.ref C) = some (.type "type")) (sb : PySem.W.subIn K (.type T) (.ref C) = some false) : PySem.W.kitOne K (.type T) (.ref C) = some false := by
  unfold PySem.W.kitOne
  rw [if_neg (by simp)]
  have e : ((PySem.W.clsIn K C).isSome && PySem.W.typeIn K (.ref C) == some (.type "type")) = true := by
    rw [show (PySem.W.clsIn K C).isSome = true from iC, tC]
    simp
  show (if ((PySem.W.clsIn K C).isSome && PySem.W.typeIn K (.ref C) == some (.type "type")) = true then PySem.W.subIn K (.type T) (.ref C) else none) = some false
  rw [if_pos e]
  exact sb
theorem kit_noR {K : PySem.W.Frag} {C D : Addr} (ne : ¬ D = C) (iC : PySem.W.isClsIn K C = true) (tC : PySem.W.typeIn K (.ref C) = some (.type "type")) (sb : PySem.W.subIn K (.ref D) (.ref C) = some false) : PySem.W.kitOne K (.ref D) (.ref C) = some false := by
  unfold PySem.W.kitOne
  rw [if_neg (by simpa using ne)]
  have e : ((PySem.W.clsIn K C).isSome && PySem.W.typeIn K (.ref C) == some (.type "type")) = true := by
    rw [show (PySem.W.clsIn K C).isSome = true from iC, tC]
    simp
  show (if ((PySem.W.clsIn K C).isSome && PySem.W.typeIn K (.ref C) == some (.type "type")) = true then PySem.W.subIn K (.ref D) (.ref C) else none) = some false
  rw [if_pos e]
  exact sb
theorem kit_me {K : PySem.W.Frag} {C : Addr} : PySem.W.kitOne K (.ref C) (.ref C) = some true := by
  unfold PySem.W.kitOne
  rw [if_pos (by simp)]
theorem bothAll {K : PySem.W.Frag} {h : Heap} {mg : Str → Option Value} (X : K.In h) (G : h.Ns mainGlobals mg) {C : Addr} {CM : Addr} {CR : Addr} {f0 : Addr} {oc0 kV0 dc0 pm0 cd0 ct0 : Value} {od0 an0 : Option Addr} {sl0 : Array (Option Value)} {f1 : Addr} {oc1 kV1 dc1 pm1 cd1 ct1 : Value} {od1 an1 : Option Addr} {sl1 : Array (Option Value)} {f2 : Addr} {oc2 kV2 dc2 pm2 cd2 ct2 : Value} {od2 an2 : Option Addr} {sl2 : Array (Option Value)} {f3 : Addr} {oc3 kV3 dc3 pm3 cd3 ct3 : Value} {od3 an3 : Option Addr} {sl3 : Array (Option Value)} {f4 : Addr} {oc4 kV4 dc4 pm4 cd4 ct4 : Value} {od4 an4 : Option Addr} {sl4 : Array (Option Value)} {f5 : Addr} {oc5 kV5 dc5 pm5 cd5 ct5 : Value} {od5 an5 : Option Addr} {sl5 : Array (Option Value)} {mf0 : Addr} {moc0 mkV0 mdc0 mpm0 mcd0 mct0 : Value} {mod0 man0 : Option Addr} {msl0 : Array (Option Value)} {Td Te : Addr} {odT odE : Option Addr} {itT itE : Array Value} {nT nE : Nat} {slT slE : Array (Option Value)} {mf1 : Addr} {moc1 mkV1 mdc1 mpm1 mcd1 mct1 : Value} {mod1 man1 : Option Addr} {msl1 : Array (Option Value)} {mf2 : Addr} {moc2 mkV2 mdc2 mpm2 mcd2 mct2 : Value} {mod2 man2 : Option Addr} {msl2 : Array (Option Value)} {rf0 : Addr} {roc0 rkV0 rdc0 rpm0 rcd0 rct0 : Value} {rod0 ran0 : Option Addr} {rsl0 : Array (Option Value)} {rf1 : Addr} {roc1 rkV1 rdc1 rpm1 rcd1 rct1 : Value} {rod1 ran1 : Option Addr} {rsl1 : Array (Option Value)} {rf2 : Addr} {roc2 rkV2 rdc2 rpm2 rcd2 rct2 : Value} {rod2 ran2 : Option Addr} {rsl2 : Array (Option Value)} {rf3 : Addr} {roc3 rkV3 rdc3 rpm3 rcd3 rct3 : Value} {rod3 ran3 : Option Addr} {rsl3 : Array (Option Value)} {rf4 : Addr} {roc4 rkV4 rdc4 rpm4 rcd4 rct4 : Value} {rod4 ran4 : Option Addr} {rsl4 : Array (Option Value)} {rf5 : Addr} {roc5 rkV5 rdc5 rpm5 rcd5 rct5 : Value} {rod5 ran5 : Option Addr} {rsl5 : Array (Option Value)}
    (aC : PySem.W.nsIn K mainGlobals "Tree" = some (some (.ref C)))
    (pg : PySem.W.plainGet K C Str.empty = true)
    (hd : PySem.W.hasDictIn K C = true)
    (po : PySem.W.plainOver K C = true)
    (sa : PySem.W.findIn K (.ref C) "__setattr__" = some (some (.builtin "object.__setattr__")))
    (mk : PySem.W.makesIn K C = true)
    (kc : PySem.W.keepIn K (.ref C) = true)
    (nq : PySem.W.findIn K (.ref C) "quads" = some none)
    (nf : PySem.W.findIn K (.ref C) "folders" = some none)
    (nk : PySem.W.findIn K (.ref C) "kinds" = some none)
    (np : PySem.W.findIn K (.ref C) "prices" = some none)
    (ne : PySem.W.findIn K (.ref C) "__ne__" = some (some (.builtin "object.__ne__")))
    (ob : PySem.W.subIn K (.ref C) (.type "object") = some true)
    (iC : PySem.W.isClsIn K C = true)
    (tC : PySem.W.typeIn K (.ref C) = some (.type "type"))
    (ha : PySem.W.findIn K (.ref C) "__class__" = some (some (.builtin "object.__class__")))
    (hn : PySem.W.specialIn K (.builtin "object.__class__") "__get__" = some (some (.builtin "getset_descriptor.__get__")))
    (htk : PySem.W.takesIn K (.builtin "object.__class__") = some true)
    (hm : PySem.W.mroIn K C (.type "object") = some true)
    (a0 : PySem.W.findIn K (.ref C) "__init__" = some (some (.ref f0))) (i0 : PySem.W.isFn K (.ref f0) = true) (l0 : K.lookup f0 = some ⟨oc0, od0, .func (PySem.W.fnOf "__init__" "Tree.__init__" (defArgs s_Tree_init) (defBody s_Tree_init) (defScope s_Tree_init) .none kV0 dc0 pm0 an0 cd0 ct0), sl0⟩) (c0 : PySem.W.codeIn K cd0 "Tree.__init__" = true) (k0 : PySem.W.keepIn K (.ref f0) = true)
    (a1 : PySem.W.findIn K (.ref C) "__eq__" = some (some (.ref f1))) (i1 : PySem.W.isFn K (.ref f1) = true) (l1 : K.lookup f1 = some ⟨oc1, od1, .func (PySem.W.fnOf "__eq__" "Tree.__eq__" (defArgs s_Tree_eq) (defBody s_Tree_eq) (defScope s_Tree_eq) .none kV1 dc1 pm1 an1 cd1 ct1), sl1⟩) (c1 : PySem.W.codeIn K cd1 "Tree.__eq__" = true) (k1 : PySem.W.keepIn K (.ref f1) = true)
    (a2 : PySem.W.findIn K (.ref C) "__contains__" = some (some (.ref f2))) (i2 : PySem.W.isFn K (.ref f2) = true) (l2 : K.lookup f2 = some ⟨oc2, od2, .func (PySem.W.fnOf "__contains__" "Tree.__contains__" (defArgs s_Tree_contains) (defBody s_Tree_contains) (defScope s_Tree_contains) .none kV2 dc2 pm2 an2 cd2 ct2), sl2⟩) (c2 : PySem.W.codeIn K cd2 "Tree.__contains__" = true) (k2 : PySem.W.keepIn K (.ref f2) = true)
    (a3 : PySem.W.findIn K (.ref C) "folder" = some (some (.ref f3))) (i3 : PySem.W.isFn K (.ref f3) = true) (l3 : K.lookup f3 = some ⟨oc3, od3, .func (PySem.W.fnOf "folder" "Tree.folder" (defArgs s_Tree_folder) (defBody s_Tree_folder) (defScope s_Tree_folder) .none kV3 dc3 pm3 an3 cd3 ct3), sl3⟩) (c3 : PySem.W.codeIn K cd3 "Tree.folder" = true) (k3 : PySem.W.keepIn K (.ref f3) = true)
    (a4 : PySem.W.findIn K (.ref C) "price" = some (some (.ref f4))) (i4 : PySem.W.isFn K (.ref f4) = true) (l4 : K.lookup f4 = some ⟨oc4, od4, .func (PySem.W.fnOf "price" "Tree.price" (defArgs s_Tree_price) (defBody s_Tree_price) (defScope s_Tree_price) .none kV4 dc4 pm4 an4 cd4 ct4), sl4⟩) (c4 : PySem.W.codeIn K cd4 "Tree.price" = true) (k4 : PySem.W.keepIn K (.ref f4) = true)
    (a5 : PySem.W.findIn K (.ref C) "below" = some (some (.ref f5))) (i5 : PySem.W.isFn K (.ref f5) = true) (l5 : K.lookup f5 = some ⟨oc5, od5, .func (PySem.W.fnOf "below" "Tree.below" (defArgs s_Tree_below) (defBody s_Tree_below) (defScope s_Tree_below) .none kV5 dc5 pm5 an5 cd5 ct5), sl5⟩) (c5 : PySem.W.codeIn K cd5 "Tree.below" = true) (k5 : PySem.W.keepIn K (.ref f5) = true)
    (maC : PySem.W.nsIn K mainGlobals "Meaning" = some (some (.ref CM)))
    (mpg : PySem.W.plainGet K CM Str.empty = true)
    (mhd : PySem.W.hasDictIn K CM = true)
    (mpo : PySem.W.plainOver K CM = true)
    (msa : PySem.W.findIn K (.ref CM) "__setattr__" = some (some (.builtin "object.__setattr__")))
    (mmk : PySem.W.makesIn K CM = true)
    (mkc : PySem.W.keepIn K (.ref CM) = true)
    (mnt : PySem.W.findIn K (.ref CM) "tree" = some none)
    (mnd : PySem.W.findIn K (.ref CM) "default" = some none)
    (mnu : PySem.W.findIn K (.ref CM) "turns" = some none)
    (mnk : PySem.W.findIn K (.ref CM) "known" = some none)
    (mne : PySem.W.findIn K (.ref CM) "__ne__" = some (some (.builtin "object.__ne__")))
    (mob : PySem.W.subIn K (.ref CM) (.type "object") = some true)
    (miC : PySem.W.isClsIn K CM = true)
    (mtC : PySem.W.typeIn K (.ref CM) = some (.type "type"))
    (mha : PySem.W.findIn K (.ref CM) "__class__" = some (some (.builtin "object.__class__")))
    (mhn : PySem.W.specialIn K (.builtin "object.__class__") "__get__" = some (some (.builtin "getset_descriptor.__get__")))
    (mhtk : PySem.W.takesIn K (.builtin "object.__class__") = some true)
    (mhm : PySem.W.mroIn K CM (.type "object") = some true)
    (ma0 : PySem.W.findIn K (.ref CM) "__init__" = some (some (.ref mf0))) (mi0 : PySem.W.isFn K (.ref mf0) = true) (ml0 : K.lookup mf0 = some ⟨moc0, mod0, .func (PySem.W.fnOf "__init__" "Meaning.__init__" (defArgs s_Meaning_init) (defBody s_Meaning_init) (defScope s_Meaning_init) (.ref Td) mkV0 mdc0 mpm0 man0 mcd0 mct0), msl0⟩) (mc0 : PySem.W.codeIn K mcd0 "Meaning.__init__" = true) (mk0 : PySem.W.keepIn K (.ref mf0) = true)
    (mlT : K.lookup Td = some ⟨.type "tuple", odT, .seq itT nT, slT⟩) (mvT : itT.toList = [.ref Te]) (mlE : K.lookup Te = some ⟨.type "tuple", odE, .seq itE nE, slE⟩) (mvE : itE.toList = [])
    (ma1 : PySem.W.findIn K (.ref CM) "__eq__" = some (some (.ref mf1))) (mi1 : PySem.W.isFn K (.ref mf1) = true) (ml1 : K.lookup mf1 = some ⟨moc1, mod1, .func (PySem.W.fnOf "__eq__" "Meaning.__eq__" (defArgs s_Meaning_eq) (defBody s_Meaning_eq) (defScope s_Meaning_eq) .none mkV1 mdc1 mpm1 man1 mcd1 mct1), msl1⟩) (mc1 : PySem.W.codeIn K mcd1 "Meaning.__eq__" = true) (mk1 : PySem.W.keepIn K (.ref mf1) = true)
    (ma2 : PySem.W.findIn K (.ref CM) "states" = some (some (.ref mf2))) (mi2 : PySem.W.isFn K (.ref mf2) = true) (ml2 : K.lookup mf2 = some ⟨moc2, mod2, .func (PySem.W.fnOf "states" "Meaning.states" (defArgs s_Meaning_states) (defBody s_Meaning_states) (defScope s_Meaning_states) .none mkV2 mdc2 mpm2 man2 mcd2 mct2), msl2⟩) (mc2 : PySem.W.codeIn K mcd2 "Meaning.states" = true) (mk2 : PySem.W.keepIn K (.ref mf2) = true)
    (raC : PySem.W.nsIn K mainGlobals "Row" = some (some (.ref CR)))
    (rpg : PySem.W.plainGet K CR Str.empty = true)
    (rhd : PySem.W.hasDictIn K CR = true)
    (rpo : PySem.W.plainOver K CR = true)
    (rsa : PySem.W.findIn K (.ref CR) "__setattr__" = some (some (.builtin "object.__setattr__")))
    (rmk : PySem.W.makesIn K CR = true)
    (rkc : PySem.W.keepIn K (.ref CR) = true)
    (rnt : PySem.W.findIn K (.ref CR) "tree" = some none)
    (rnp : PySem.W.findIn K (.ref CR) "pairs" = some none)
    (rne_ : PySem.W.findIn K (.ref CR) "effects" = some none)
    (rne : PySem.W.findIn K (.ref CR) "__ne__" = some (some (.builtin "object.__ne__")))
    (rob : PySem.W.subIn K (.ref CR) (.type "object") = some true)
    (riC : PySem.W.isClsIn K CR = true)
    (rtC : PySem.W.typeIn K (.ref CR) = some (.type "type"))
    (rha : PySem.W.findIn K (.ref CR) "__class__" = some (some (.builtin "object.__class__")))
    (rhn : PySem.W.specialIn K (.builtin "object.__class__") "__get__" = some (some (.builtin "getset_descriptor.__get__")))
    (rhtk : PySem.W.takesIn K (.builtin "object.__class__") = some true)
    (rhm : PySem.W.mroIn K CR (.type "object") = some true)
    (ra0 : PySem.W.findIn K (.ref CR) "__init__" = some (some (.ref rf0))) (ri0 : PySem.W.isFn K (.ref rf0) = true) (rl0 : K.lookup rf0 = some ⟨roc0, rod0, .func (PySem.W.fnOf "__init__" "Row.__init__" (defArgs s_Row_init) (defBody s_Row_init) (defScope s_Row_init) .none rkV0 rdc0 rpm0 ran0 rcd0 rct0), rsl0⟩) (rc0 : PySem.W.codeIn K rcd0 "Row.__init__" = true) (rk0 : PySem.W.keepIn K (.ref rf0) = true)
    (ra1 : PySem.W.findIn K (.ref CR) "__len__" = some (some (.ref rf1))) (ri1 : PySem.W.isFn K (.ref rf1) = true) (rl1 : K.lookup rf1 = some ⟨roc1, rod1, .func (PySem.W.fnOf "__len__" "Row.__len__" (defArgs s_Row_len) (defBody s_Row_len) (defScope s_Row_len) .none rkV1 rdc1 rpm1 ran1 rcd1 rct1), rsl1⟩) (rc1 : PySem.W.codeIn K rcd1 "Row.__len__" = true) (rk1 : PySem.W.keepIn K (.ref rf1) = true)
    (ra2 : PySem.W.findIn K (.ref CR) "__call__" = some (some (.ref rf2))) (ri2 : PySem.W.isFn K (.ref rf2) = true) (rl2 : K.lookup rf2 = some ⟨roc2, rod2, .func (PySem.W.fnOf "__call__" "Row.__call__" (defArgs s_Row_call) (defBody s_Row_call) (defScope s_Row_call) .none rkV2 rdc2 rpm2 ran2 rcd2 rct2), rsl2⟩) (rc2 : PySem.W.codeIn K rcd2 "Row.__call__" = true) (rk2 : PySem.W.keepIn K (.ref rf2) = true)
    (ra3 : PySem.W.findIn K (.ref CR) "deeds" = some (some (.ref rf3))) (ri3 : PySem.W.isFn K (.ref rf3) = true) (rl3 : K.lookup rf3 = some ⟨roc3, rod3, .func (PySem.W.fnOf "deeds" "Row.deeds" (defArgs s_Row_deeds) (defBody s_Row_deeds) (defScope s_Row_deeds) .none rkV3 rdc3 rpm3 ran3 rcd3 rct3), rsl3⟩) (rc3 : PySem.W.codeIn K rcd3 "Row.deeds" = true) (rk3 : PySem.W.keepIn K (.ref rf3) = true)
    (ra4 : PySem.W.findIn K (.ref CR) "maps" = some (some (.ref rf4))) (ri4 : PySem.W.isFn K (.ref rf4) = true) (rl4 : K.lookup rf4 = some ⟨roc4, rod4, .func (PySem.W.fnOf "maps" "Row.maps" (defArgs s_Row_maps) (defBody s_Row_maps) (defScope s_Row_maps) .none rkV4 rdc4 rpm4 ran4 rcd4 rct4), rsl4⟩) (rc4 : PySem.W.codeIn K rcd4 "Row.maps" = true) (rk4 : PySem.W.keepIn K (.ref rf4) = true)
    (ra5 : PySem.W.findIn K (.ref CR) "least" = some (some (.ref rf5))) (ri5 : PySem.W.isFn K (.ref rf5) = true) (rl5 : K.lookup rf5 = some ⟨roc5, rod5, .func (PySem.W.fnOf "least" "Row.least" (defArgs s_Row_least) (defBody s_Row_least) (defScope s_Row_least) .none rkV5 rdc5 rpm5 ran5 rcd5 rct5), rsl5⟩) (rc5 : PySem.W.codeIn K rcd5 "Row.least" = true) (rk5 : PySem.W.keepIn K (.ref rf5) = true) :
    ∃ C : Addr, TxT K mg C ∧ TxN K C ∧ C8.InsC K C ∧ (∃ (f : Addr) (fd : FuncData), Fun K "__init__" "Tree.__init__" s_Tree_init f fd ∧ Mk K C f ∧ Binds K fd ["self", "rows"] []) ∧ Nonempty (MethAt K C "__eq__" "Tree.__eq__" s_Tree_eq ["self", "other"]) ∧ Nonempty (MethAt K C "__contains__" "Tree.__contains__" s_Tree_contains ["self", "x"]) ∧ Nonempty (MethAt K C "folder" "Tree.folder" s_Tree_folder ["self", "box"]) ∧ Nonempty (MethAt K C "price" "Tree.price" s_Tree_price ["self", "box"]) ∧ Nonempty (MethAt K C "below" "Tree.below" s_Tree_below ["self", "box"]) ∧ ∃ CM : Addr, TxM K mg CM ∧ TxN K CM ∧ C8.InsC K CM ∧ (∃ (f : Addr) (fd : FuncData) (Te : Addr) (ds : List Value), FunD K "__init__" "Meaning.__init__" (defArgs s_Meaning_init) (defBody s_Meaning_init) (defScope s_Meaning_init) [V.ref Te] [] f fd ∧ Mk K CM f ∧ Binds K fd ["self", "tree", "default", "turns"] [] ∧ Binds K fd ["self", "tree", "default", "turns"] ds ∧ Vals [V.ref Te] ds ∧ ∀ H, SqT K H Te []) ∧ Nonempty (MethAt K CM "__eq__" "Meaning.__eq__" s_Meaning_eq ["self", "other"]) ∧ Nonempty (MethAt K CM "states" "Meaning.states" s_Meaning_states ["self"]) ∧ ∃ CR : Addr, TxR K mg CR ∧ TxN K CR ∧ C8.InsC K CR ∧ (∃ (f : Addr) (fd : FuncData), Fun K "__init__" "Row.__init__" s_Row_init f fd ∧ Mk K CR f ∧ Binds K fd ["self", "tree", "deeds"] []) ∧ Nonempty (MethAt K CR "__len__" "Row.__len__" s_Row_len ["self"]) ∧ Nonempty (MethAt K CR "__call__" "Row.__call__" s_Row_call ["self", "meaning"]) ∧ Nonempty (MethAt K CR "deeds" "Row.deeds" s_Row_deeds ["self"]) ∧ Nonempty (MethAt K CR "maps" "Row.maps" s_Row_maps ["self"]) ∧ Nonempty (MethAt K CR "least" "Row.least" s_Row_least ["self"]) :=
  by
  have FD : FunD K "__init__" "Meaning.__init__" (defArgs s_Meaning_init) (defBody s_Meaning_init) (defScope s_Meaning_init) [V.ref Te] [] mf0 _ := ⟨⟨_, _, _, _, _, _, _, _, _, _, rfl, ml0, mc0, .inr ⟨by simp, Td, _, [.ref Te], nT, rfl, mlT, by rw [← mvT], .cons rfl .nil⟩, .inl rfl⟩, mk0⟩
  obtain ⟨ds1, v1, b1⟩ := FD.binds1 (ps := ["self", "tree", "default", "turns"]) 3 0 (by simp) rfl (fun T kV doc pm an cdv ct us its hu hi => match us, hu, its, hi with | [_, _, _], _, [_], _ => ⟨_, rfl, rfl⟩)
  obtain ⟨ds2, v2, b2⟩ := FD.binds1 (ps := ["self", "tree", "default", "turns"]) 4 1 (by simp) rfl (fun T kV doc pm an cdv ct us its hu hi => match us, hu, its, hi with | [_, _, _, _], _, [_], _ => ⟨_, rfl, rfl⟩)
  cases v2
  exact ⟨C, ⟨⟨pg, hd, po, sa⟩, nq, nf, nk, np, PySem.W.mg_of X G aC⟩, ⟨ne, ob⟩, ⟨⟨pg, hd, po, sa⟩, ha, hn, htk, hm, kit_me⟩, ⟨f0, _, fun_mk l0 c0 k0, ⟨mk, a0, i0, kc⟩, (fun_mk l0 c0 k0).binds (fun _ _ _ _ _ _ us hl => match us, hl with | [_, _], _ => rfl)⟩, methAt a1 i1 l1 c1 k1 (fun _ _ _ _ _ _ us hl => match us, hl with | [_, _], _ => rfl), methAt a2 i2 l2 c2 k2 (fun _ _ _ _ _ _ us hl => match us, hl with | [_, _], _ => rfl), methAt a3 i3 l3 c3 k3 (fun _ _ _ _ _ _ us hl => match us, hl with | [_, _], _ => rfl), methAt a4 i4 l4 c4 k4 (fun _ _ _ _ _ _ us hl => match us, hl with | [_, _], _ => rfl), methAt a5 i5 l5 c5 k5 (fun _ _ _ _ _ _ us hl => match us, hl with | [_, _], _ => rfl), CM, ⟨⟨mpg, mhd, mpo, msa⟩, mnt, mnd, mnu, mnk, PySem.W.mg_of X G maC⟩, ⟨mne, mob⟩, ⟨⟨mpg, mhd, mpo, msa⟩, mha, mhn, mhtk, mhm, kit_me⟩, ⟨mf0, _, Te, ds1, FD, ⟨mmk, ma0, mi0, mkc⟩, b2, b1, v1, fun H => .inr ⟨_, _, _, mlE, rfl, rfl, by rw [← Array.length_toList, mvE]; exact Nat.zero_le _, by rw [mvE]; exact .nil⟩⟩, methAt ma1 mi1 ml1 mc1 mk1 (fun _ _ _ _ _ _ us hl => match us, hl with | [_, _], _ => rfl), methAt ma2 mi2 ml2 mc2 mk2 (fun _ _ _ _ _ _ us hl => match us, hl with | [_], _ => rfl), CR, ⟨⟨rpg, rhd, rpo, rsa⟩, rnt, rnp, rne_, PySem.W.mg_of X G raC⟩, ⟨rne, rob⟩, ⟨⟨rpg, rhd, rpo, rsa⟩, rha, rhn, rhtk, rhm, kit_me⟩, ⟨rf0, _, fun_mk rl0 rc0 rk0, ⟨rmk, ra0, ri0, rkc⟩, (fun_mk rl0 rc0 rk0).binds (fun _ _ _ _ _ _ us hl => match us, hl with | [_, _, _], _ => rfl)⟩, methAt ra1 ri1 rl1 rc1 rk1 (fun _ _ _ _ _ _ us hl => match us, hl with | [_], _ => rfl), methAt ra2 ri2 rl2 rc2 rk2 (fun _ _ _ _ _ _ us hl => match us, hl with | [_, _], _ => rfl), methAt ra3 ri3 rl3 rc3 rk3 (fun _ _ _ _ _ _ us hl => match us, hl with | [_], _ => rfl), methAt ra4 ri4 rl4 rc4 rk4 (fun _ _ _ _ _ _ us hl => match us, hl with | [_], _ => rfl), methAt ra5 ri5 rl5 rc5 rk5 (fun _ _ _ _ _ _ us hl => match us, hl with | [_], _ => rfl)⟩
theorem freeAll {K : PySem.W.Frag} {h : Heap} {mg : Str → Option Value} (X : K.In h) (G : h.Ns mainGlobals mg)
    (z0 : PySem.W.nsIn K mainGlobals "len" = some none) (z1 : PySem.W.nsIn K mainGlobals "abs" = some none) (z2 : PySem.W.nsIn K mainGlobals "int" = some none) (z3 : PySem.W.nsIn K mainGlobals "str" = some none) (z4 : PySem.W.nsIn K mainGlobals "bool" = some none) (z5 : PySem.W.nsIn K mainGlobals "list" = some none) (z6 : PySem.W.nsIn K mainGlobals "tuple" = some none) (z7 : PySem.W.nsIn K mainGlobals "dict" = some none) (z8 : PySem.W.nsIn K mainGlobals "range" = some none) (z9 : PySem.W.nsIn K mainGlobals "enumerate" = some none) (z10 : PySem.W.nsIn K mainGlobals "isinstance" = some none) (z11 : PySem.W.nsIn K mainGlobals "all" = some none) (z12 : PySem.W.nsIn K mainGlobals "any" = some none) (z13 : PySem.W.nsIn K mainGlobals "min" = some none) : TxB mg ∧ mg "any" = none ∧ mg "min" = none :=
  ⟨⟨PySem.W.mg_none_of X G z0, PySem.W.mg_none_of X G z1, PySem.W.mg_none_of X G z2, PySem.W.mg_none_of X G z3, PySem.W.mg_none_of X G z4, PySem.W.mg_none_of X G z5, PySem.W.mg_none_of X G z6, PySem.W.mg_none_of X G z7, PySem.W.mg_none_of X G z8, PySem.W.mg_none_of X G z9, PySem.W.mg_none_of X G z10, PySem.W.mg_none_of X G z11⟩, PySem.W.mg_none_of X G z12, PySem.W.mg_none_of X G z13⟩
theorem constAll {K : PySem.W.Frag} {h : Heap} {mg : Str → Option Value} (X : K.In h) (G : h.Ns mainGlobals mg) (num : DefAt K mg "is_number" s_is_number ["thing", "least"]) {t1 t2 t3 : Tok} {kt : Addr} {od : Option Addr} {its : Array Value} {n : Nat} {sl : Array (Option Value)}
    (b1 : PySem.W.nsIn K mainGlobals "TOP" = some (some (.str "top" t1))) (b2 : PySem.W.nsIn K mainGlobals "FOLDER" = some (some (.str "folder" t2))) (b3 : PySem.W.nsIn K mainGlobals "LONGEST_NAME" = some (some (.int 8 t3))) (b4 : PySem.W.nsIn K mainGlobals "KINDS" = some (some (.ref kt)))
    (b5 : K.lookup kt = some ⟨.type "tuple", od, .seq its n, sl⟩) (b6 : its.size ≤ sizeLine) (b7 : Vals (kinds3.map V.str) its.toList) : Nonempty (TxC K mg) :=
  ⟨⟨⟨t1, PySem.W.mg_of X G b1⟩, ⟨t2, PySem.W.mg_of X G b2⟩, ⟨t3, PySem.W.mg_of X G b3⟩, kt, PySem.W.mg_of X G b4, num, ⟨_, its, n, b5, rfl, rfl, b6, b7⟩⟩⟩
theorem constD {K : PySem.W.Frag} {h : Heap} {mg : Str → Option Value} {w : World} (X : K.In h) (G : h.Ns mainGlobals mg) {t1 t2 k1 k2 k3 k4 : Tok} {wt fd : Addr} {od : Option Addr} {its : Array Value} {n m : Nat} {sl : Array (Option Value)} {es : Array DictEntry}
    (d0 : PySem.W.nsIn K mainGlobals "FLIP" = some (some (.str "flip" t1))) (d1 : PySem.W.nsIn K mainGlobals "KEEP" = some (some (.str "keep" t2))) (d2 : PySem.W.nsIn K mainGlobals "WORDS" = some (some (.ref wt))) (d3 : K.lookup wt = some ⟨.type "tuple", od, .seq its n, sl⟩) (d4 : its.size ≤ sizeLine) (d5 : Vals (words3.map V.str) its.toList)
    (d6 : PySem.W.nsIn K mainGlobals "FLIPPED" = some (some (.ref fd))) (d7 : K.lookup fd = some ⟨.type "dict", none, .dict es m, #[]⟩) (d8 : PySem.W.KeysLit w.params es.toList)
    (d9 : PySem.W.nsIn K fd "keep" = some (some (.str "flip" k1))) (d10 : PySem.W.nsIn K fd "on" = some (some (.str "off" k2))) (d11 : PySem.W.nsIn K fd "off" = some (some (.str "on" k3))) (d12 : PySem.W.nsIn K fd "flip" = some (some (.str "keep" k4))) : Nonempty (TxD K mg w) :=
  ⟨⟨⟨t1, PySem.W.mg_of X G d0⟩, ⟨t2, PySem.W.mg_of X G d1⟩, wt, PySem.W.mg_of X G d2, ⟨_, its, n, d3, rfl, rfl, d4, d5⟩, fd, PySem.W.mg_of X G d6, fun z hz => by
    simp only [words4, List.mem_cons, List.not_mem_nil, or_false] at hz
    rcases hz with rfl | rfl | rfl | rfl
    · exact ⟨es, m, _, d7, d8, d9, ⟨k1, by rw [show flp "keep" = ("flip" : Str) from by decide +kernel]⟩⟩
    · exact ⟨es, m, _, d7, d8, d10, ⟨k2, by rw [show flp "on" = ("off" : Str) from by decide +kernel]⟩⟩
    · exact ⟨es, m, _, d7, d8, d11, ⟨k3, by rw [show flp "off" = ("on" : Str) from by decide +kernel]⟩⟩
    · exact ⟨es, m, _, d7, d8, d12, ⟨k4, by rw [show flp "flip" = ("keep" : Str) from by decide +kernel]⟩⟩⟩⟩
theorem constF {K : PySem.W.Frag} {h : Heap} {mg : Str → Option Value} (X : K.In h) (G : h.Ns mainGlobals mg) {t1 : Tok} {wt : Addr} {od : Option Addr} {its : Array Value} {n : Nat} {sl : Array (Option Value)}
    (f0 : PySem.W.nsIn K mainGlobals "ON" = some (some (.str "on" t1))) (f2 : PySem.W.nsIn K mainGlobals "FIRM" = some (some (.ref wt))) (f3 : K.lookup wt = some ⟨.type "tuple", od, .seq its n, sl⟩) (f4 : its.size ≤ sizeLine) (f5 : Vals ((["on", "off"] : List Str).map V.str) its.toList) : Nonempty (TxF K mg) :=
  ⟨⟨⟨t1, PySem.W.mg_of X G f0⟩, wt, PySem.W.mg_of X G f2, ⟨_, its, n, f3, rfl, rfl, f4, f5⟩⟩⟩
theorem fun_fnIn {K : PySem.W.Frag} {x q : Str} {st : Stmt} {f : Addr} {fd : FuncData} (F : Fun K x q st f fd) : PySem.W.fnIn K f = true := by
  obtain ⟨oc, od, kV, doc, pm, an, cdv, ct, osl, _, l, _⟩ := F.ex
  unfold PySem.W.fnIn
  rw [l]
theorem constO {K : PySem.W.Frag} {h : Heap} {mg : Str → Option Value} (X : K.In h) (G : h.Ns mainGlobals mg) {t1 : Tok} (f0 : PySem.W.nsIn K mainGlobals "OFF" = some (some (.str "off" t1))) : ∃ t, mg "OFF" = some (.str "off" t) := ⟨t1, PySem.W.mg_of X G f0⟩
theorem walk {l : PySem.W.OpenLaw} {q : Program} {loose : List Str} {XP : (Str → Option Value) → Heap → Prop} {YP : World → Heap → Prop} {d : DefRec} {K : Params → PySem.W.Frag} (hn : l.most = some 63) (hdf : d.params.defaults = [])
    (hY : ∀ (w : World) (h : Heap), YP w h → (K w.params).In h)
    (F : ∀ (w : World) (mg : Str → Option Value) (fa : Addr) (h : Heap), (K w.params).In h → h.Ns mainGlobals mg → mg d.name = some (.ref fa) →
      ∃ fd : FuncData, (∀ (s : Shared) (u : Value), BindsTo s fd ⟨[u], []⟩ [("_law_script", u)]) ∧ ∀ base : Heap, (K w.params).In base → base.Ns mainGlobals mg → FnOk l.prog w (K w.params) mg base CX0 12 fa fd ["_law_script"] (spLaw (K w.params))) :
    PySem.W.WalkO q loose XP YP l.row.toRowW d [] (fun f vs => PySem.call f vs) :=
  L2.walk_of (n := 63) (k := 12) (x := "_law_script") (CX := fun _ => CX0) (sp := fun w => spLaw (K w.params)) hn (by decide) hdf ⟨rfl, by decide, by decide⟩ hY F (fun _ _ a ns hl _ hS => ⟨a, ns, rfl, hS, hl, fun _ => rfl⟩) fun _ _ _ _ _ z => z
end Ts

set_option maxRecDepth 100000
open PySem PySem.W PyProof.Rows in
set_option maxRecDepth 100000 in
set_option maxHeartbeats 0 in
theorem PySem.Challenge.cw_turnsets_k16_whole_fewest_deeds_holds : PySem.Challenge.rw_turnsets_k16_whole_fewest_deeds.Holds := by
  w_on; o_law; k_head; (case hw => w_witness2)
  k_fill
  refine Ts.walk (l := PySem.Challenge.rw_turnsets_k16_whole_fewest_deeds) rfl rfl (fun w h Y => PySem.W.kIn_of Y) ?F
  case F =>
    intro w mg fa h KX G hmg
    obtain ⟨Disname, _⟩ : ∃ D : Ts.DefAt _ mg "is_name" Ts.s_is_name ["thing"], ∀ (s : Shared) (us : List Value), us.length = (["thing"] : List Str).length → BindsTo s D.fd ⟨us, []⟩ ((["thing"] : List Str).zip us) := by
      refine' Ts.defAt KX G ?a ?l ?c ?k ?b
      (case a => k_is)
      (case l => k_is)
      (case c => k_is)
      (case k => k_is)
      (case b => exact fun _ _ _ _ _ _ us hl => match us, hl with | [_], _ => rfl)
    obtain ⟨Disnumber, _⟩ : ∃ D : Ts.DefAt _ mg "is_number" Ts.s_is_number ["thing", "least"], ∀ (s : Shared) (us : List Value), us.length = (["thing", "least"] : List Str).length → BindsTo s D.fd ⟨us, []⟩ ((["thing", "least"] : List Str).zip us) := by
      refine' Ts.defAt KX G ?a ?l ?c ?k ?b
      (case a => k_is)
      (case l => k_is)
      (case c => k_is)
      (case k => k_is)
      (case b => exact fun _ _ _ _ _ _ us hl => match us, hl with | [_, _], _ => rfl)
    obtain ⟨Disprice, _⟩ : ∃ D : Ts.DefAt _ mg "is_price" Ts.s_is_price ["thing"], ∀ (s : Shared) (us : List Value), us.length = (["thing"] : List Str).length → BindsTo s D.fd ⟨us, []⟩ ((["thing"] : List Str).zip us) := by
      refine' Ts.defAt KX G ?a ?l ?c ?k ?b
      (case a => k_is)
      (case l => k_is)
      (case c => k_is)
      (case k => k_is)
      (case b => exact fun _ _ _ _ _ _ us hl => match us, hl with | [_], _ => rfl)
    obtain ⟨Disrow, _⟩ : ∃ D : Ts.DefAt _ mg "is_row" Ts.s_is_row ["thing", "taken", "homes"], ∀ (s : Shared) (us : List Value), us.length = (["thing", "taken", "homes"] : List Str).length → BindsTo s D.fd ⟨us, []⟩ ((["thing", "taken", "homes"] : List Str).zip us) := by
      refine' Ts.defAt KX G ?a ?l ?c ?k ?b
      (case a => k_is)
      (case l => k_is)
      (case c => k_is)
      (case k => k_is)
      (case b => exact fun _ _ _ _ _ _ us hl => match us, hl with | [_, _, _], _ => rfl)
    obtain ⟨Dcheckrows, _⟩ : ∃ D : Ts.DefAt _ mg "check_rows" Ts.s_check_rows ["rows", "names", "folders"], ∀ (s : Shared) (us : List Value), us.length = (["rows", "names", "folders"] : List Str).length → BindsTo s D.fd ⟨us, []⟩ ((["rows", "names", "folders"] : List Str).zip us) := by
      refine' Ts.defAt KX G ?a ?l ?c ?k ?b
      (case a => k_is)
      (case l => k_is)
      (case c => k_is)
      (case k => k_is)
      (case b => exact fun _ _ _ _ _ _ us hl => match us, hl with | [_, _, _], _ => rfl)
    obtain ⟨Dcheckbox, _⟩ : ∃ D : Ts.DefAt _ mg "check_box" Ts.s_check_box ["tree", "thing"], ∀ (s : Shared) (us : List Value), us.length = (["tree", "thing"] : List Str).length → BindsTo s D.fd ⟨us, []⟩ ((["tree", "thing"] : List Str).zip us) := by
      refine' Ts.defAt KX G ?a ?l ?c ?k ?b
      (case a => k_is)
      (case l => k_is)
      (case c => k_is)
      (case k => k_is)
      (case b => exact fun _ _ _ _ _ _ us hl => match us, hl with | [_, _], _ => rfl)
    obtain ⟨Displace, _⟩ : ∃ D : Ts.DefAt _ mg "is_place" Ts.s_is_place ["tree", "thing"], ∀ (s : Shared) (us : List Value), us.length = (["tree", "thing"] : List Str).length → BindsTo s D.fd ⟨us, []⟩ ((["tree", "thing"] : List Str).zip us) := by
      refine' Ts.defAt KX G ?a ?l ?c ?k ?b
      (case a => k_is)
      (case l => k_is)
      (case c => k_is)
      (case k => k_is)
      (case b => exact fun _ _ _ _ _ _ us hl => match us, hl with | [_, _], _ => rfl)
    obtain ⟨Dcheckplace, _⟩ : ∃ D : Ts.DefAt _ mg "check_place" Ts.s_check_place ["tree", "thing"], ∀ (s : Shared) (us : List Value), us.length = (["tree", "thing"] : List Str).length → BindsTo s D.fd ⟨us, []⟩ ((["tree", "thing"] : List Str).zip us) := by
      refine' Ts.defAt KX G ?a ?l ?c ?k ?b
      (case a => k_is)
      (case l => k_is)
      (case c => k_is)
      (case k => k_is)
      (case b => exact fun _ _ _ _ _ _ us hl => match us, hl with | [_, _], _ => rfl)
    obtain ⟨Dcheckturns, _⟩ : ∃ D : Ts.DefAt _ mg "check_turns" Ts.s_check_turns ["tree", "turns"], ∀ (s : Shared) (us : List Value), us.length = (["tree", "turns"] : List Str).length → BindsTo s D.fd ⟨us, []⟩ ((["tree", "turns"] : List Str).zip us) := by
      refine' Ts.defAt KX G ?a ?l ?c ?k ?b
      (case a => k_is)
      (case l => k_is)
      (case c => k_is)
      (case k => k_is)
      (case b => exact fun _ _ _ _ _ _ us hl => match us, hl with | [_, _], _ => rfl)
    obtain ⟨Dchecktrees, _⟩ : ∃ D : Ts.DefAt _ mg "check_trees" Ts.s_check_trees ["one", "other"], ∀ (s : Shared) (us : List Value), us.length = (["one", "other"] : List Str).length → BindsTo s D.fd ⟨us, []⟩ ((["one", "other"] : List Str).zip us) := by
      refine' Ts.defAt KX G ?a ?l ?c ?k ?b
      (case a => k_is)
      (case l => k_is)
      (case c => k_is)
      (case k => k_is)
      (case b => exact fun _ _ _ _ _ _ us hl => match us, hl with | [_, _], _ => rfl)
    obtain ⟨Dvaluesof, _⟩ : ∃ D : Ts.DefAt _ mg "values_of" Ts.s_values_of ["tree", "default", "turns"], ∀ (s : Shared) (us : List Value), us.length = (["tree", "default", "turns"] : List Str).length → BindsTo s D.fd ⟨us, []⟩ ((["tree", "default", "turns"] : List Str).zip us) := by
      refine' Ts.defAt KX G ?a ?l ?c ?k ?b
      (case a => k_is)
      (case l => k_is)
      (case c => k_is)
      (case k => k_is)
      (case b => exact fun _ _ _ _ _ _ us hl => match us, hl with | [_, _, _], _ => rfl)
    obtain ⟨Dwithvalues, _⟩ : ∃ D : Ts.DefAt _ mg "with_values" Ts.s_with_values ["tree", "values"], ∀ (s : Shared) (us : List Value), us.length = (["tree", "values"] : List Str).length → BindsTo s D.fd ⟨us, []⟩ ((["tree", "values"] : List Str).zip us) := by
      refine' Ts.defAt KX G ?a ?l ?c ?k ?b
      (case a => k_is)
      (case l => k_is)
      (case c => k_is)
      (case k => k_is)
      (case b => exact fun _ _ _ _ _ _ us hl => match us, hl with | [_, _], _ => rfl)
    obtain ⟨Dcheckunlocked, _⟩ : ∃ D : Ts.DefAt _ mg "check_unlocked" Ts.s_check_unlocked ["tree"], ∀ (s : Shared) (us : List Value), us.length = (["tree"] : List Str).length → BindsTo s D.fd ⟨us, []⟩ ((["tree"] : List Str).zip us) := by
      refine' Ts.defAt KX G ?a ?l ?c ?k ?b
      (case a => k_is)
      (case l => k_is)
      (case c => k_is)
      (case k => k_is)
      (case b => exact fun _ _ _ _ _ _ us hl => match us, hl with | [_], _ => rfl)
    obtain ⟨Disdeed, _⟩ : ∃ D : Ts.DefAt _ mg "is_deed" Ts.s_is_deed ["tree", "thing"], ∀ (s : Shared) (us : List Value), us.length = (["tree", "thing"] : List Str).length → BindsTo s D.fd ⟨us, []⟩ ((["tree", "thing"] : List Str).zip us) := by
      refine' Ts.defAt KX G ?a ?l ?c ?k ?b
      (case a => k_is)
      (case l => k_is)
      (case c => k_is)
      (case k => k_is)
      (case b => exact fun _ _ _ _ _ _ us hl => match us, hl with | [_, _], _ => rfl)
    obtain ⟨Dcheckdeeds, _⟩ : ∃ D : Ts.DefAt _ mg "check_deeds" Ts.s_check_deeds ["tree", "deeds"], ∀ (s : Shared) (us : List Value), us.length = (["tree", "deeds"] : List Str).length → BindsTo s D.fd ⟨us, []⟩ ((["tree", "deeds"] : List Str).zip us) := by
      refine' Ts.defAt KX G ?a ?l ?c ?k ?b
      (case a => k_is)
      (case l => k_is)
      (case c => k_is)
      (case k => k_is)
      (case b => exact fun _ _ _ _ _ _ us hl => match us, hl with | [_, _], _ => rfl)
    obtain ⟨Deffectsof, _⟩ : ∃ D : Ts.DefAt _ mg "effects_of" Ts.s_effects_of ["tree", "deeds"], ∀ (s : Shared) (us : List Value), us.length = (["tree", "deeds"] : List Str).length → BindsTo s D.fd ⟨us, []⟩ ((["tree", "deeds"] : List Str).zip us) := by
      refine' Ts.defAt KX G ?a ?l ?c ?k ?b
      (case a => k_is)
      (case l => k_is)
      (case c => k_is)
      (case k => k_is)
      (case b => exact fun _ _ _ _ _ _ us hl => match us, hl with | [_, _], _ => rfl)
    obtain ⟨Deffectaround, _⟩ : ∃ D : Ts.DefAt _ mg "effect_around" Ts.s_effect_around ["tree", "effects", "place"], ∀ (s : Shared) (us : List Value), us.length = (["tree", "effects", "place"] : List Str).length → BindsTo s D.fd ⟨us, []⟩ ((["tree", "effects", "place"] : List Str).zip us) := by
      refine' Ts.defAt KX G ?a ?l ?c ?k ?b
      (case a => k_is)
      (case l => k_is)
      (case c => k_is)
      (case k => k_is)
      (case b => exact fun _ _ _ _ _ _ us hl => match us, hl with | [_, _, _], _ => rfl)
    obtain ⟨Dentriesof, _⟩ : ∃ D : Ts.DefAt _ mg "entries_of" Ts.s_entries_of ["tree", "effects"], ∀ (s : Shared) (us : List Value), us.length = (["tree", "effects"] : List Str).length → BindsTo s D.fd ⟨us, []⟩ ((["tree", "effects"] : List Str).zip us) := by
      refine' Ts.defAt KX G ?a ?l ?c ?k ?b
      (case a => k_is)
      (case l => k_is)
      (case c => k_is)
      (case k => k_is)
      (case b => exact fun _ _ _ _ _ _ us hl => match us, hl with | [_, _], _ => rfl)
    obtain ⟨Drowof, _⟩ : ∃ D : Ts.DefAt _ mg "row_of" Ts.s_row_of ["tree", "effects"], ∀ (s : Shared) (us : List Value), us.length = (["tree", "effects"] : List Str).length → BindsTo s D.fd ⟨us, []⟩ ((["tree", "effects"] : List Str).zip us) := by
      refine' Ts.defAt KX G ?a ?l ?c ?k ?b
      (case a => k_is)
      (case l => k_is)
      (case c => k_is)
      (case k => k_is)
      (case b => exact fun _ _ _ _ _ _ us hl => match us, hl with | [_, _], _ => rfl)
    obtain ⟨Dunlike, _⟩ : ∃ D : Ts.DefAt _ mg "unlike" Ts.s_unlike ["one", "other"], ∀ (s : Shared) (us : List Value), us.length = (["one", "other"] : List Str).length → BindsTo s D.fd ⟨us, []⟩ ((["one", "other"] : List Str).zip us) := by
      refine' Ts.defAt KX G ?a ?l ?c ?k ?b
      (case a => k_is)
      (case l => k_is)
      (case c => k_is)
      (case k => k_is)
      (case b => exact fun _ _ _ _ _ _ us hl => match us, hl with | [_, _], _ => rfl)
    obtain ⟨Dentrycounts, _⟩ : ∃ D : Ts.DefAt _ mg "entry_counts" Ts.s_entry_counts ["tree", "loose", "firm"], ∀ (s : Shared) (us : List Value), us.length = (["tree", "loose", "firm"] : List Str).length → BindsTo s D.fd ⟨us, []⟩ ((["tree", "loose", "firm"] : List Str).zip us) := by
      refine' Ts.defAt KX G ?a ?l ?c ?k ?b
      (case a => k_is)
      (case l => k_is)
      (case c => k_is)
      (case k => k_is)
      (case b => exact fun _ _ _ _ _ _ us hl => match us, hl with | [_, _, _], _ => rfl)
    obtain ⟨Dfewesteffects, _⟩ : ∃ D : Ts.DefAt _ mg "fewest_effects" Ts.s_fewest_effects ["tree", "loose", "firm"], ∀ (s : Shared) (us : List Value), us.length = (["tree", "loose", "firm"] : List Str).length → BindsTo s D.fd ⟨us, []⟩ ((["tree", "loose", "firm"] : List Str).zip us) := by
      refine' Ts.defAt KX G ?a ?l ?c ?k ?b
      (case a => k_is)
      (case l => k_is)
      (case c => k_is)
      (case k => k_is)
      (case b => exact fun _ _ _ _ _ _ us hl => match us, hl with | [_, _, _], _ => rfl)
    obtain ⟨Dfewestdeeds, _⟩ : ∃ D : Ts.DefAt _ mg "fewest_deeds" Ts.s_fewest_deeds ["one", "other"], ∀ (s : Shared) (us : List Value), us.length = (["one", "other"] : List Str).length → BindsTo s D.fd ⟨us, []⟩ ((["one", "other"] : List Str).zip us) := by
      refine' Ts.defAt KX G ?a ?l ?c ?k ?b
      (case a => k_is)
      (case l => k_is)
      (case c => k_is)
      (case k => k_is)
      (case b => exact fun _ _ _ _ _ _ us hl => match us, hl with | [_, _], _ => rfl)
    obtain ⟨Dvaluebehind, _⟩ : ∃ D : Ts.DefAt _ mg "value_behind" Ts.s_value_behind ["effect", "value"], ∀ (s : Shared) (us : List Value), us.length = (["effect", "value"] : List Str).length → BindsTo s D.fd ⟨us, []⟩ ((["effect", "value"] : List Str).zip us) := by
      refine' Ts.defAt KX G ?a ?l ?c ?k ?b
      (case a => k_is)
      (case l => k_is)
      (case c => k_is)
      (case k => k_is)
      (case b => exact fun _ _ _ _ _ _ us hl => match us, hl with | [_, _], _ => rfl)
    obtain ⟨DLstream, _⟩ : ∃ D : Ts.DefAt _ mg "_law_stream" Ts.s_L_stream ["_law_script", "_law_k"], ∀ (s : Shared) (us : List Value), us.length = (["_law_script", "_law_k"] : List Str).length → BindsTo s D.fd ⟨us, []⟩ ((["_law_script", "_law_k"] : List Str).zip us) := by
      refine' Ts.defAt KX G ?a ?l ?c ?k ?b
      (case a => k_is)
      (case l => k_is)
      (case c => k_is)
      (case k => k_is)
      (case b => exact fun _ _ _ _ _ _ us hl => match us, hl with | [_, _], _ => rfl)
    obtain ⟨DLdraw, _⟩ : ∃ D : Ts.DefAt _ mg "_law_draw" Ts.s_L_draw ["_law_stream_here", "_law_many"], ∀ (s : Shared) (us : List Value), us.length = (["_law_stream_here", "_law_many"] : List Str).length → BindsTo s D.fd ⟨us, []⟩ ((["_law_stream_here", "_law_many"] : List Str).zip us) := by
      refine' Ts.defAt KX G ?a ?l ?c ?k ?b
      (case a => k_is)
      (case l => k_is)
      (case c => k_is)
      (case k => k_is)
      (case b => exact fun _ _ _ _ _ _ us hl => match us, hl with | [_, _], _ => rfl)
    obtain ⟨DLpick, _⟩ : ∃ D : Ts.DefAt _ mg "_law_pick" Ts.s_L_pick ["_law_stream_here", "_law_things"], ∀ (s : Shared) (us : List Value), us.length = (["_law_stream_here", "_law_things"] : List Str).length → BindsTo s D.fd ⟨us, []⟩ ((["_law_stream_here", "_law_things"] : List Str).zip us) := by
      refine' Ts.defAt KX G ?a ?l ?c ?k ?b
      (case a => k_is)
      (case l => k_is)
      (case c => k_is)
      (case k => k_is)
      (case b => exact fun _ _ _ _ _ _ us hl => match us, hl with | [_, _], _ => rfl)
    obtain ⟨DLname, _⟩ : ∃ D : Ts.DefAt _ mg "_law_name" Ts.s_L_name ["_law_stream_here"], ∀ (s : Shared) (us : List Value), us.length = (["_law_stream_here"] : List Str).length → BindsTo s D.fd ⟨us, []⟩ ((["_law_stream_here"] : List Str).zip us) := by
      refine' Ts.defAt KX G ?a ?l ?c ?k ?b
      (case a => k_is)
      (case l => k_is)
      (case c => k_is)
      (case k => k_is)
      (case b => exact fun _ _ _ _ _ _ us hl => match us, hl with | [_], _ => rfl)
    obtain ⟨DLkinds, _⟩ : ∃ D : Ts.DefAt _ mg "_law_kinds" Ts.s_L_kinds [], ∀ (s : Shared) (us : List Value), us.length = ([] : List Str).length → BindsTo s D.fd ⟨us, []⟩ (([] : List Str).zip us) := by
      refine' Ts.defAt KX G ?a ?l ?c ?k ?b
      (case a => k_is)
      (case l => k_is)
      (case c => k_is)
      (case k => k_is)
      (case b => exact fun _ _ _ _ _ _ us hl => match us, hl with | [], _ => rfl)
    obtain ⟨DLrows, _⟩ : ∃ D : Ts.DefAt _ mg "_law_rows" Ts.s_L_rows ["_law_stream_here", "_law_many", "_law_kinds_here", "_law_prices"], ∀ (s : Shared) (us : List Value), us.length = (["_law_stream_here", "_law_many", "_law_kinds_here", "_law_prices"] : List Str).length → BindsTo s D.fd ⟨us, []⟩ ((["_law_stream_here", "_law_many", "_law_kinds_here", "_law_prices"] : List Str).zip us) := by
      refine' Ts.defAt KX G ?a ?l ?c ?k ?b
      (case a => k_is)
      (case l => k_is)
      (case c => k_is)
      (case k => k_is)
      (case b => exact fun _ _ _ _ _ _ us hl => match us, hl with | [_, _, _, _], _ => rfl)
    obtain ⟨DLfreerows, _⟩ : ∃ D : Ts.DefAt _ mg "_law_free_rows" Ts.s_L_free_rows ["_law_stream_here", "_law_many"], ∀ (s : Shared) (us : List Value), us.length = (["_law_stream_here", "_law_many"] : List Str).length → BindsTo s D.fd ⟨us, []⟩ ((["_law_stream_here", "_law_many"] : List Str).zip us) := by
      refine' Ts.defAt KX G ?a ?l ?c ?k ?b
      (case a => k_is)
      (case l => k_is)
      (case c => k_is)
      (case k => k_is)
      (case b => exact fun _ _ _ _ _ _ us hl => match us, hl with | [_, _], _ => rfl)
    obtain ⟨DLway, _⟩ : ∃ D : Ts.DefAt _ mg "_law_way" Ts.s_L_way ["_law_rows_here", "_law_box"], ∀ (s : Shared) (us : List Value), us.length = (["_law_rows_here", "_law_box"] : List Str).length → BindsTo s D.fd ⟨us, []⟩ ((["_law_rows_here", "_law_box"] : List Str).zip us) := by
      refine' Ts.defAt KX G ?a ?l ?c ?k ?b
      (case a => k_is)
      (case l => k_is)
      (case c => k_is)
      (case k => k_is)
      (case b => exact fun _ _ _ _ _ _ us hl => match us, hl with | [_, _], _ => rfl)
    obtain ⟨DLdone, _⟩ : ∃ D : Ts.DefAt _ mg "_law_done" Ts.s_L_done ["_law_rows_here", "_law_values", "_law_deeds"], ∀ (s : Shared) (us : List Value), us.length = (["_law_rows_here", "_law_values", "_law_deeds"] : List Str).length → BindsTo s D.fd ⟨us, []⟩ ((["_law_rows_here", "_law_values", "_law_deeds"] : List Str).zip us) := by
      refine' Ts.defAt KX G ?a ?l ?c ?k ?b
      (case a => k_is)
      (case l => k_is)
      (case c => k_is)
      (case k => k_is)
      (case b => exact fun _ _ _ _ _ _ us hl => match us, hl with | [_, _, _], _ => rfl)
    obtain ⟨DLsome, _⟩ : ∃ D : Ts.DefAt _ mg "_law_some" Ts.s_L_some ["_law_stream_here", "_law_things"], ∀ (s : Shared) (us : List Value), us.length = (["_law_stream_here", "_law_things"] : List Str).length → BindsTo s D.fd ⟨us, []⟩ ((["_law_stream_here", "_law_things"] : List Str).zip us) := by
      refine' Ts.defAt KX G ?a ?l ?c ?k ?b
      (case a => k_is)
      (case l => k_is)
      (case c => k_is)
      (case k => k_is)
      (case b => exact fun _ _ _ _ _ _ us hl => match us, hl with | [_, _], _ => rfl)
    obtain ⟨DLopen, _⟩ : ∃ D : Ts.DefAt _ mg "_law_open" Ts.s_L_open ["_law_rows_here"], ∀ (s : Shared) (us : List Value), us.length = (["_law_rows_here"] : List Str).length → BindsTo s D.fd ⟨us, []⟩ ((["_law_rows_here"] : List Str).zip us) := by
      refine' Ts.defAt KX G ?a ?l ?c ?k ?b
      (case a => k_is)
      (case l => k_is)
      (case c => k_is)
      (case k => k_is)
      (case b => exact fun _ _ _ _ _ _ us hl => match us, hl with | [_], _ => rfl)
    obtain ⟨DLmeaning, _⟩ : ∃ D : Ts.DefAt _ mg "_law_meaning" Ts.s_L_meaning ["_law_stream_here", "_law_rows_here", "_law_tree"], ∀ (s : Shared) (us : List Value), us.length = (["_law_stream_here", "_law_rows_here", "_law_tree"] : List Str).length → BindsTo s D.fd ⟨us, []⟩ ((["_law_stream_here", "_law_rows_here", "_law_tree"] : List Str).zip us) := by
      refine' Ts.defAt KX G ?a ?l ?c ?k ?b
      (case a => k_is)
      (case l => k_is)
      (case c => k_is)
      (case k => k_is)
      (case b => exact fun _ _ _ _ _ _ us hl => match us, hl with | [_, _, _], _ => rfl)
    obtain ⟨DLchoices, _⟩ : ∃ D : Ts.DefAt _ mg "_law_choices" Ts.s_L_choices ["_law_rows_here", "_law_mine", "_law_theirs"], ∀ (s : Shared) (us : List Value), us.length = (["_law_rows_here", "_law_mine", "_law_theirs"] : List Str).length → BindsTo s D.fd ⟨us, []⟩ ((["_law_rows_here", "_law_mine", "_law_theirs"] : List Str).zip us) := by
      refine' Ts.defAt KX G ?a ?l ?c ?k ?b
      (case a => k_is)
      (case l => k_is)
      (case c => k_is)
      (case k => k_is)
      (case b => exact fun _ _ _ _ _ _ us hl => match us, hl with | [_, _, _], _ => rfl)
    obtain ⟨DLentries, _⟩ : ∃ D : Ts.DefAt _ mg "_law_entries" Ts.s_L_entries ["_law_rows_here", "_law_maps"], ∀ (s : Shared) (us : List Value), us.length = (["_law_rows_here", "_law_maps"] : List Str).length → BindsTo s D.fd ⟨us, []⟩ ((["_law_rows_here", "_law_maps"] : List Str).zip us) := by
      refine' Ts.defAt KX G ?a ?l ?c ?k ?b
      (case a => k_is)
      (case l => k_is)
      (case c => k_is)
      (case k => k_is)
      (case b => exact fun _ _ _ _ _ _ us hl => match us, hl with | [_, _], _ => rfl)
    obtain ⟨DLshorter, _⟩ : ∃ D : Ts.DefAt _ mg "_law_shorter" Ts.s_L_shorter ["_law_rows_here", "_law_mine", "_law_theirs", "_law_many"], ∀ (s : Shared) (us : List Value), us.length = (["_law_rows_here", "_law_mine", "_law_theirs", "_law_many"] : List Str).length → BindsTo s D.fd ⟨us, []⟩ ((["_law_rows_here", "_law_mine", "_law_theirs", "_law_many"] : List Str).zip us) := by
      refine' Ts.defAt KX G ?a ?l ?c ?k ?b
      (case a => k_is)
      (case l => k_is)
      (case c => k_is)
      (case k => k_is)
      (case b => exact fun _ _ _ _ _ _ us hl => match us, hl with | [_, _, _, _], _ => rfl)
    obtain ⟨DLleastentries, _⟩ : ∃ D : Ts.DefAt _ mg "_law_least_entries" Ts.s_L_least_entries ["_law_rows_here", "_law_mine", "_law_theirs"], ∀ (s : Shared) (us : List Value), us.length = (["_law_rows_here", "_law_mine", "_law_theirs"] : List Str).length → BindsTo s D.fd ⟨us, []⟩ ((["_law_rows_here", "_law_mine", "_law_theirs"] : List Str).zip us) := by
      refine' Ts.defAt KX G ?a ?l ?c ?k ?b
      (case a => k_is)
      (case l => k_is)
      (case c => k_is)
      (case k => k_is)
      (case b => exact fun _ _ _ _ _ _ us hl => match us, hl with | [_, _, _], _ => rfl)
    obtain ⟨DLchain, _⟩ : ∃ D : Ts.DefAt _ mg "_law_chain" Ts.s_L_chain [], ∀ (s : Shared) (us : List Value), us.length = ([] : List Str).length → BindsTo s D.fd ⟨us, []⟩ (([] : List Str).zip us) := by
      refine' Ts.defAt KX G ?a ?l ?c ?k ?b
      (case a => k_is)
      (case l => k_is)
      (case c => k_is)
      (case k => k_is)
      (case b => exact fun _ _ _ _ _ _ us hl => match us, hl with | [], _ => rfl)
    obtain ⟨DLgreatright, _⟩ : ∃ D : Ts.DefAt _ mg "_law_great_right" Ts.s_L_great_right ["_law_stream_here"], ∀ (s : Shared) (us : List Value), us.length = (["_law_stream_here"] : List Str).length → BindsTo s D.fd ⟨us, []⟩ ((["_law_stream_here"] : List Str).zip us) := by
      refine' Ts.defAt KX G ?a ?l ?c ?k ?b
      (case a => k_is)
      (case l => k_is)
      (case c => k_is)
      (case k => k_is)
      (case b => exact fun _ _ _ _ _ _ us hl => match us, hl with | [_], _ => rfl)
    obtain ⟨Dlaw, bL⟩ : ∃ D : Ts.DefAt _ mg "law" Ts.s_law ["_law_script"], ∀ (s : Shared) (us : List Value), us.length = (["_law_script"] : List Str).length → BindsTo s D.fd ⟨us, []⟩ ((["_law_script"] : List Str).zip us) := by
      refine' Ts.defAt KX G ?a ?l ?c ?k ?b
      (case a => k_is)
      (case l => k_is)
      (case c => k_is)
      (case k => k_is)
      (case b => exact fun _ _ _ _ _ _ us hl => match us, hl with | [_], _ => rfl)
    obtain ⟨B, hAny, hMin⟩ : Ts.TxB mg ∧ mg "any" = none ∧ mg "min" = none := by
      refine' Ts.freeAll KX G ?z0 ?z1 ?z2 ?z3 ?z4 ?z5 ?z6 ?z7 ?z8 ?z9 ?z10 ?z11 ?z12 ?z13
      (case z0 => k_is)
      (case z1 => k_is)
      (case z2 => k_is)
      (case z3 => k_is)
      (case z4 => k_is)
      (case z5 => k_is)
      (case z6 => k_is)
      (case z7 => k_is)
      (case z8 => k_is)
      (case z9 => k_is)
      (case z10 => k_is)
      (case z11 => k_is)
      (case z12 => k_is)
      (case z13 => k_is)
    obtain ⟨TC⟩ := by
      refine' Ts.constAll KX G Disnumber ?b1 ?b2 ?b3 ?b4 ?b5 ?b6 ?b7
      (case b1 => k_is)
      (case b2 => k_is)
      (case b3 => k_is)
      (case b4 => k_is)
      (case b5 => k_is)
      (case b6 => decide)
      (case b7 => exact .cons ⟨_, rfl⟩ (.cons ⟨_, rfl⟩ (.cons ⟨_, rfl⟩ .nil)))
    obtain ⟨TD⟩ : Nonempty (Ts.TxD _ mg w) := by
      refine' Ts.constD KX G ?d0 ?d1 ?d2 ?d3 ?d4 ?d5 ?d6 ?d7 ?d8 ?d9 ?d10 ?d11 ?d12
      (case d0 => k_is)
      (case d1 => k_is)
      (case d2 => k_is)
      (case d3 => k_is)
      (case d4 => decide)
      (case d5 => exact .cons ⟨_, rfl⟩ (.cons ⟨_, rfl⟩ (.cons ⟨_, rfl⟩ .nil)))
      (case d6 => k_is)
      (case d7 => k_is)
      (case d8 => exact ⟨⟨_, _, rfl, rfl⟩, ⟨_, _, rfl, rfl⟩, ⟨_, _, rfl, rfl⟩, ⟨_, _, rfl, rfl⟩, trivial⟩)
      (case d9 => k_is)
      (case d10 => k_is)
      (case d11 => k_is)
      (case d12 => k_is)
    obtain ⟨TF⟩ : Nonempty (Ts.TxF _ mg) := by
      refine' Ts.constF KX G ?f0 ?f2 ?f3 ?f4 ?f5
      (case f0 => k_is)
      (case f2 => k_is)
      (case f3 => k_is)
      (case f4 => decide)
      (case f5 => exact .cons ⟨_, rfl⟩ (.cons ⟨_, rfl⟩ .nil))
    have hOff : ∃ t, mg "OFF" = some (.str "off" t) := by
      refine' Ts.constO KX G ?f0
      (case f0 => k_is)
    obtain ⟨C, T, N, I, ⟨fI, fdI, FI, MT, bI⟩, ⟨M_eq⟩, ⟨M_contains⟩, ⟨M_folder⟩, ⟨M_price⟩, ⟨M_below⟩, CM, M, NM, IM, ⟨fM, fdM, Te, dsM, FM, MM, bM, bM1, rM1, hTe⟩, ⟨L_eq⟩, ⟨L_states⟩, CR, R, NR, IR, ⟨fR, fdR, FR, MR, bR⟩, ⟨R_len⟩, ⟨R_call⟩, ⟨R_deeds⟩, ⟨R_maps⟩, ⟨R_least⟩⟩ := by
      refine' Ts.bothAll KX G ?aC ?pg ?hd ?po ?sa ?mk ?kc ?nq ?nf ?nk ?np ?ne ?ob ?iC ?tC ?ha ?hn ?htk ?hm ?a0 ?i0 ?l0 ?c0 ?k0 ?a1 ?i1 ?l1 ?c1 ?k1 ?a2 ?i2 ?l2 ?c2 ?k2 ?a3 ?i3 ?l3 ?c3 ?k3 ?a4 ?i4 ?l4 ?c4 ?k4 ?a5 ?i5 ?l5 ?c5 ?k5 ?maC ?mpg ?mhd ?mpo ?msa ?mmk ?mkc ?mnt ?mnd ?mnu ?mnk ?mne ?mob ?miC ?mtC ?mha ?mhn ?mhtk ?mhm ?ma0 ?mi0 ?ml0 ?mc0 ?mk0 ?mlT ?mvT ?mlE ?mvE ?ma1 ?mi1 ?ml1 ?mc1 ?mk1 ?ma2 ?mi2 ?ml2 ?mc2 ?mk2 ?raC ?rpg ?rhd ?rpo ?rsa ?rmk ?rkc ?rnt ?rnp ?rne_ ?rne ?rob ?riC ?rtC ?rha ?rhn ?rhtk ?rhm ?ra0 ?ri0 ?rl0 ?rc0 ?rk0 ?ra1 ?ri1 ?rl1 ?rc1 ?rk1 ?ra2 ?ri2 ?rl2 ?rc2 ?rk2 ?ra3 ?ri3 ?rl3 ?rc3 ?rk3 ?ra4 ?ri4 ?rl4 ?rc4 ?rk4 ?ra5 ?ri5 ?rl5 ?rc5 ?rk5
      (case aC => k_is)
      (case pg => k_is)
      (case hd => k_is)
      (case po => k_is)
      (case sa => k_is)
      (case mk => k_is)
      (case kc => k_is)
      (case nq => k_is)
      (case nf => k_is)
      (case nk => k_is)
      (case np => k_is)
      (case ne => k_is)
      (case ob => k_is)
      (case iC => k_is)
      (case tC => k_is)
      (case ha => k_is)
      (case hn => k_is)
      (case htk => k_is)
      (case hm => k_is)
      (case a0 => k_is)
      (case i0 => k_is)
      (case l0 => k_is)
      (case c0 => k_is)
      (case k0 => k_is)
      (case a1 => k_is)
      (case i1 => k_is)
      (case l1 => k_is)
      (case c1 => k_is)
      (case k1 => k_is)
      (case a2 => k_is)
      (case i2 => k_is)
      (case l2 => k_is)
      (case c2 => k_is)
      (case k2 => k_is)
      (case a3 => k_is)
      (case i3 => k_is)
      (case l3 => k_is)
      (case c3 => k_is)
      (case k3 => k_is)
      (case a4 => k_is)
      (case i4 => k_is)
      (case l4 => k_is)
      (case c4 => k_is)
      (case k4 => k_is)
      (case a5 => k_is)
      (case i5 => k_is)
      (case l5 => k_is)
      (case c5 => k_is)
      (case k5 => k_is)
      (case maC => k_is)
      (case mpg => k_is)
      (case mhd => k_is)
      (case mpo => k_is)
      (case msa => k_is)
      (case mmk => k_is)
      (case mkc => k_is)
      (case mnt => k_is)
      (case mnd => k_is)
      (case mnu => k_is)
      (case mnk => k_is)
      (case mne => k_is)
      (case mob => k_is)
      (case miC => k_is)
      (case mtC => k_is)
      (case mha => k_is)
      (case mhn => k_is)
      (case mhtk => k_is)
      (case mhm => k_is)
      (case ma0 => k_is)
      (case mi0 => k_is)
      (case ml0 => k_is)
      (case mc0 => k_is)
      (case mk0 => k_is)
      (case mlT => k_is)
      (case mvT => rfl)
      (case mlE => k_is)
      (case mvE => rfl)
      (case ma1 => k_is)
      (case mi1 => k_is)
      (case ml1 => k_is)
      (case mc1 => k_is)
      (case mk1 => k_is)
      (case ma2 => k_is)
      (case mi2 => k_is)
      (case ml2 => k_is)
      (case mc2 => k_is)
      (case mk2 => k_is)
      (case raC => k_is)
      (case rpg => k_is)
      (case rhd => k_is)
      (case rpo => k_is)
      (case rsa => k_is)
      (case rmk => k_is)
      (case rkc => k_is)
      (case rnt => k_is)
      (case rnp => k_is)
      (case rne_ => k_is)
      (case rne => k_is)
      (case rob => k_is)
      (case riC => k_is)
      (case rtC => k_is)
      (case rha => k_is)
      (case rhn => k_is)
      (case rhtk => k_is)
      (case rhm => k_is)
      (case ra0 => k_is)
      (case ri0 => k_is)
      (case rl0 => k_is)
      (case rc0 => k_is)
      (case rk0 => k_is)
      (case ra1 => k_is)
      (case ri1 => k_is)
      (case rl1 => k_is)
      (case rc1 => k_is)
      (case rk1 => k_is)
      (case ra2 => k_is)
      (case ri2 => k_is)
      (case rl2 => k_is)
      (case rc2 => k_is)
      (case rk2 => k_is)
      (case ra3 => k_is)
      (case ri3 => k_is)
      (case rl3 => k_is)
      (case rc3 => k_is)
      (case rk3 => k_is)
      (case ra4 => k_is)
      (case ri4 => k_is)
      (case rl4 => k_is)
      (case rc4 => k_is)
      (case rk4 => k_is)
      (case ra5 => k_is)
      (case ri5 => k_is)
      (case rl5 => k_is)
      (case rc5 => k_is)
      (case rk5 => k_is)
    have e := hmg.symm.trans Dlaw.g
    cases e
    refine ⟨Dlaw.fd, fun s v => bL s [v] rfl, fun base _ _ => ?_⟩
    have Gc := Ts.ok_check_rows (P := PySem.Challenge.rw_turnsets_k16_whole_fewest_deeds.prog) (w := w) (base := base) Dcheckrows Disrow Disname Disprice B TC
    have GT := Ts.ok_Tree_init FI Dcheckrows Gc B TC T
    have Gb := Ts.ok_check_box (P := PySem.Challenge.rw_turnsets_k16_whole_fewest_deeds.prog) (w := w) (base := base) Dcheckbox M_contains B T
    have Gip := Ts.ok_is_place (P := PySem.Challenge.rw_turnsets_k16_whole_fewest_deeds.prog) (w := w) (base := base) Displace M_contains B TC T
    have Gpl := Ts.ok_check_place Dcheckplace Displace Gip
    have GF := Ts.ok_Tree_folder M_folder.F Dcheckbox Gb T
    have GP := Ts.ok_Tree_price M_price.F Dcheckbox Gb T
    have GB := Ts.ok_Tree_below M_below.F Dcheckplace Gpl B T
    have GE := Ts.ok_Tree_eq (P := PySem.Challenge.rw_turnsets_k16_whole_fewest_deeds.prog) (w := w) (base := base) M_eq.F B T I
    have Gcu := Ts.ok_check_turns Dcheckturns Dcheckbox Gb T M_price GP
    have Gvo := Ts.ok_values_of Dvaluesof TC T M_below GB M_folder GF
    have GM := Ts.ok_M_init FM B TC T M Dcheckturns Gcu Dvaluesof Gvo M_below GB
    have HE := Ts.ok_M_eq L_eq.F B M IM M_eq GE
    have HS := Ts.ok_M_states (P := PySem.Challenge.rw_turnsets_k16_whole_fewest_deeds.prog) (w := w) (base := base) (C := C) L_states.F B M
    have Gwv := Ts.ok_with Dwithvalues TC T M MM bM GM M_below GB M_folder GF
    have Gu := Ts.ok_unlocked Dcheckunlocked TC T M_below GB M_price GP
    have Gid := Ts.ok_is_deed Disdeed B TD Displace Gip
    have Gcd := Ts.ok_check_deeds Dcheckdeeds B Disdeed Gid
    have Gef := Ts.ok_effects Deffectsof TC TD T M_below GB
    have GR := Ts.ok_R_init FR B R Dcheckunlocked Gu Dcheckdeeds Gcd Deffectsof Gef
    have GctM := Ts.ok_check_treesM Dchecktrees R M N M_eq GE
    have GRM := Ts.ok_R_maps (P := PySem.Challenge.rw_turnsets_k16_whole_fewest_deeds.prog) (w := w) (base := base) (C := C) R_maps.F B R
    have GRD := Ts.ok_R_deeds (P := PySem.Challenge.rw_turnsets_k16_whole_fewest_deeds.prog) (w := w) (base := base) (C := C) R_deeds.F B R
    have GRL := Ts.ok_R_len (P := PySem.Challenge.rw_turnsets_k16_whole_fewest_deeds.prog) (w := w) (base := base) (C := C) R_len.F B R
    have Gar := Ts.ok_around Deffectaround TC TD T M_folder GF
    have Gen := Ts.ok_entries Dentriesof Deffectaround Gar
    have Gro := Ts.ok_row_of Drowof TD TF R Dentriesof Gen MR bR GR
    have GRl := Ts.ok_R_least R_least.F R Drowof Gro
    have Gbe := Ts.ok_behind (P := PySem.Challenge.rw_turnsets_k16_whole_fewest_deeds.prog) (w := w) (base := base) Dvaluebehind TD TF
    have GRC := Ts.ok_R_call R_call.F R M Dchecktrees GctM Dvaluebehind Gbe L_states HS Dwithvalues Gwv
    have Gct := Ts.ok_check_trees (P := PySem.Challenge.rw_turnsets_k16_whole_fewest_deeds.prog) (w := w) (base := base) Dchecktrees M N M_eq GE
    have Gco := Ts.ok_counts Dentrycounts hMin TC T Dunlike M_below GB M_folder GF
    have GaP := Ts.ok_aroundP Deffectaround TC TD T M_folder GF
    have Gfw := Ts.ok_few Dfewesteffects TF Dentrycounts Gco Dunlike Deffectaround GaP
    have Gfe := Ts.ok_fewD Dfewestdeeds TD TF hOff M Dchecktrees Gct Dcheckunlocked Gu L_states HS Dfewesteffects Gfw Drowof Gro
    have Gr := Ts.ok_rows (P := PySem.Challenge.rw_turnsets_k16_whole_fewest_deeds.prog) (w := w) (base := base) DLway DLrows DLname DLpick DLdraw B
    have Gd := Ts.ok_draw (P := PySem.Challenge.rw_turnsets_k16_whole_fewest_deeds.prog) (w := w) (base := base) DLdraw B
    have Gf := Ts.ok_free DLfreerows DLkinds DLrows Gr
    have Gdo := Ts.ok_done (P := PySem.Challenge.rw_turnsets_k16_whole_fewest_deeds.prog) (w := w) (base := base) DLdone B DLway
    have Gso := Ts.ok_Lsome DLsome DLdraw Gd
    have Go := Ts.ok_Lopen (P := PySem.Challenge.rw_turnsets_k16_whole_fewest_deeds.prog) (w := w) (base := base) DLopen
    have Gmn := Ts.ok_mng DLmeaning M DLdraw Gd DLopen Go DLsome Gso MM bM GM
    have Gch := Ts.ok_LCh (P := PySem.Challenge.rw_turnsets_k16_whole_fewest_deeds.prog) (w := w) (base := base) DLchoices B
    have Gent := Ts.ok_LEnt (P := PySem.Challenge.rw_turnsets_k16_whole_fewest_deeds.prog) (w := w) (base := base) DLentries B
    have Gsh := Ts.ok_LSh DLshorter hAny DLdone Gdo
    have Gle := Ts.ok_LLe (P := PySem.Challenge.rw_turnsets_k16_whole_fewest_deeds.prog) (w := w) (base := base) DLleastentries B hMin
    have Gcn := Ts.ok_Ch (P := PySem.Challenge.rw_turnsets_k16_whole_fewest_deeds.prog) (w := w) (base := base) DLchain
    have Ggr := Ts.ok_Gr DLgreatright B T R M NM DLdraw DLfreerows Gf DLchain Gcn DLmeaning Gmn Dfewestdeeds Gfe DLleastentries Gle MT bI GT L_eq HE R_call (Ts.fun_fnIn R_call.F) GRC R_least GRl R_deeds GRD R_len GRL L_states HS
    exact Ts.ok_law Dlaw B hMin T R M NM DLstream DLdraw DLfreerows Gf DLmeaning Gmn Dfewestdeeds Gfe DLchoices Gch DLentries Gent DLshorter Gsh DLgreatright Ggr MT bI GT L_eq HE R_call (Ts.fun_fnIn R_call.F) GRC R_least GRl R_deeds GRD R_len GRL R_maps GRM L_states HS
