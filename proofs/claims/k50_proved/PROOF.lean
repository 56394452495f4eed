import PyProof.Rows.All
import Wide.All
import OpenK.AllK
import Wide.FinOn
import HandS.ForMost
import HandS.IsInst
import HandS.Conv
import HandS.DictComp
import HandS.Deep
import HandS.NoneIn
import HandS.Style
import HandS.TupAny
import HandS.OwnEq
import HandS.More
import HandS.Flow
import HandS.Codes
import HandS.Walk
import HandS.StrMore
import KE.GoesMore
import KE.GoesEnum
import HandS.DeepEq
import HandS.Defaults
import HandS.IterNext
import HandS.IterVal
import KE.KOwnIter
import KE.KOpsOwn
import HandS.List
import HandS.SetFor
import PyProof.EqKinds
import PyProof.NeKinds
import HandS.ExcInit
import HandS.ExcField
import HandS.WordsExc
import HandS.Lambda
import HandS.Dict
import KE.KDictCopyH
import HandS.ExcOwn
import HandS.Small
import PyProof.ExcBaseAll.ValueError
import HandS.DictTup
import KE.KDictKeyed
import KE.KeyNested
import KE.KDictPairs
import HandS.Iter
import KE.KDictWalk
import HandS.Exc
import HandS.TryMany
import HandS.EndTab
import PyProof.ReprRoads
import PyProof.Rows.RegFStrParts
import PyProof.CallFns
import HandS.ListEq
import HandS.ListItems
import KE.KNestM
import PySem.Challenge.RW_turnsets_k50_counts_refused
set_option Elab.async false
set_option linter.all false

set_option maxRecDepth 100000
set_option maxHeartbeats 4000000
namespace Ts
open PySem L2
section
variable {X : Cx} {CX : CXT} {k : Nat} {f C : Addr} {fd : FuncData} {ps : List Str} {sp : Sp} {E : XK}
/-- a def of the text run below a builtin of this body -/
theorem run_at {A : Around} {pins : List (Addr × Obj)} {σ : St} {H : Hp} {s : Shared} {Q : VK} {us : List Value} {vs : List V} (F : FnOk X.prog X.w X.K X.mg X.base CX k f fd ps sp) (hr : Room k A) (hfr : A.frames = X.A.frames) (hb : Binds X.K fd ps []) (hx : Passes CX X E)
    (I : Inv X pins σ H s) (r : Vals vs us) (h : sp vs H Q E) : wpAny (model X.prog X.w) A (call (.ref f) us) (EP X pins σ Q) X.xe s := by
  have hl : us.length = ps.length := by rw [← r.length]; exact F.len _ _ _ _ h
  have e0 : Env0 X.prog X.w X.K X.mg X.base A X.stack s H := by
    have e := I.env0
    exact ⟨by rw [hfr]; exact e.frames, e.mod, e.bs, e.bsz, e.funs, e.frf, e.hok, e.bare⟩
  refine wpAny_call (codeAny_mono (F.run A X.stack s H ⟨us, []⟩ us vs Q E hr e0 (by
    have := hb s us I.kIn (by simpa using hl)
    simpa using this) r h) fun r s' hq => ?_)
  cases r with
  | error e => exact hx pins σ H s e s' I hq
  | ok fl =>
    cases fl with
    | ret u => exact I.after hq
    | next => exact False.elim hq
    | brk => exact False.elim hq
    | cont => exact False.elim hq
/-- x in o, o of an own class with its own look -/
def rInC (C : Addr) (sp : Sp) (E : XK) : R2 := fun x y H Q => ∃ a dx fs, y = .ref a ∧ H a = some (.ins C dx fs) ∧ sp [.ref a, x] H (fun v H' => ∃ b, v = .bl b ∧ Q (.bl b) H') E
def rNotInC (C : Addr) (sp : Sp) (E : XK) : R2 := fun x y H Q => ∃ a dx fs, y = .ref a ∧ H a = some (.ins C dx fs) ∧ sp [.ref a, x] H (fun v H' => ∃ b, v = .bl b ∧ Q (.bl (!b)) H') E
theorem op_inC (F : FnOk X.prog X.w X.K X.mg X.base CX k f fd ps sp) (m : Meth X.K C "__contains__" f) (hr : Room k X.A) (hb : Binds X.K fd ps []) (hx : Passes CX X E) : OpR X (compareOp .In) (rInC C sp E) := by
  intro pins s σ H x y v u Q I rx ry hq
  obtain ⟨a, dx, fs, rfl, ha, hsp⟩ := hq
  cases ry
  obtain ⟨mA, J, _⟩ := ins_get I.hok ha
  obtain ⟨od, J, _⟩ := J.look
  obtain ⟨mm, hF⟩ := I.fr
  refine PySem.W.in_K hF I.ok.mod.kin J m.at_ m.fn ?_
  refine wpAny_mono (run_at F hr rfl hb hx I (us := [.ref a, v]) (.cons (show RelV (.ref a) (.ref a) from rfl) (.cons rx .nil)) hsp) (fun r s' hq => ?_) fun _ _ x => x
  obtain ⟨z, H', I', rz, b, rfl, q⟩ := hq
  cases rz
  exact wpAny_truthy_bool ⟨.bl b, H', I', rfl, q⟩
theorem op_notinC (F : FnOk X.prog X.w X.K X.mg X.base CX k f fd ps sp) (m : Meth X.K C "__contains__" f) (hr : Room k X.A) (hb : Binds X.K fd ps []) (hx : Passes CX X E) : OpR X (compareOp .NotIn) (rNotInC C sp E) := by
  intro pins s σ H x y v u Q I rx ry hq
  obtain ⟨a, dx, fs, rfl, ha, hsp⟩ := hq
  cases ry
  obtain ⟨mA, J, _⟩ := ins_get I.hok ha
  obtain ⟨od, J, _⟩ := J.look
  obtain ⟨mm, hF⟩ := I.fr
  refine PySem.W.notIn_K hF I.ok.mod.kin J m.at_ m.fn ?_
  refine wpAny_mono (run_at F hr rfl hb hx I (us := [.ref a, v]) (.cons (show RelV (.ref a) (.ref a) from rfl) (.cons rx .nil)) hsp) (fun r s' hq => ?_) fun _ _ x => x
  obtain ⟨z, H', I', rz, b, rfl, q⟩ := hq
  cases rz
  exact wpAny_truthy_bool ⟨.bl (!b), H', I', rfl, q⟩
/-- len(o) -/
def rLenC (C : Addr) (sp : Sp) (E : XK) : List V → Hp → VK → Prop := fun xs H Q => ∃ a dx fs, xs = [.ref a] ∧ H a = some (.ins C dx fs) ∧ sp [.ref a] H (fun v H' => ∃ n : Int, v = .int n ∧ (0 ≤ n ∧ n < 2 ^ 63) ∧ Q (.int n) H') E
theorem call_lenC (F : FnOk X.prog X.w X.K X.mg X.base CX k f fd ps sp) (m : Meth X.K C "__len__" f) (hr : Room (k + 1) X.A) (hb : Binds X.K fd ps []) (hx : Passes CX X E) : CallR X (.builtin "len") (rLenC C sp E) := by
  intro pins s σ H xs us Q I r hq
  obtain ⟨a, dx, fs, rfl, ha, hsp⟩ := hq
  obtain ⟨u, rfl, ru⟩ := vals1 r
  cases ru
  obtain ⟨mA, J, _⟩ := ins_get I.hok ha
  obtain ⟨od, J, _⟩ := J.look
  obtain ⟨mm, hF⟩ := I.fr
  refine PySem.W.len_K hF I.ok.mod.kin J m.at_ m.fn ?_
  refine wpAny_mono (run_at F hr.in1 rfl hb hx I (us := [.ref a]) (.cons (show RelV (.ref a) (.ref a) from rfl) .nil) hsp) (fun r s' hq => ?_) fun _ _ x => x
  obtain ⟨z, H', I', rz, n, rfl, hn, q⟩ := hq
  obtain ⟨t, rfl⟩ := rz
  exact ⟨hn, .int n, H', I'.tok _, ⟨_, rfl⟩, q⟩
/-- the sort of a value, as == wants to know it -/
inductive TyE (H : Hp) : V → Value → Prop where
  | non : TyE H .non (.type "NoneType")
  | bl (x : Bool) : TyE H (.bl x) (.type "bool")
  | int (i : Int) : TyE H (.int i) (.type "int")
  | str (x : Str) : TyE H (.str x) (.type "str")
  | lst {a : Addr} {xs : List V} (e : H a = some (.lst xs)) : TyE H (.ref a) (.type "list")
  | tup {a : Addr} {xs : List V} (e : H a = some (.tup xs)) : TyE H (.ref a) (.type "tuple")
  | dK {a : Addr} {kvs : List (Key × V)} (e : H a = some (.dK kvs)) : TyE H (.ref a) (.type "dict")
  | ins {a C dx : Addr} {fs : List (Str × V)} (e : H a = some (.ins C dx fs)) : TyE H (.ref a) (.ref C)
theorem ty_looks {pins : List (Addr × Obj)} {σ : St} {H : Hp} {s : Shared} {y : V} {u tb : Value} (I : Inv X pins σ H s) (r : RelV y u) (ty : TyE H y tb) : PySem.W.Looks (model X.prog X.w) s.heap (typeOf u) tb := by
  have lk : ∀ {a : Addr} {o : Obj} {c : Value}, s.heap.get? a = some o → o.cls = c → PySem.W.Looks (model X.prog X.w) s.heap (typeOf (.ref a)) c := fun {a o c} e h => h ▸ (PySem.W.Looks.ld e).andThen .now
  cases ty with
  | non => cases (show u = Value.none from r); exact PySem.W.Looks.of_pure rfl
  | bl y => cases (show u = Value.bool y from r); exact PySem.W.Looks.of_pure rfl
  | int i => obtain ⟨t, q⟩ := (show ∃ t, u = Value.int i t from r); cases q; exact PySem.W.Looks.of_pure rfl
  | str y => obtain ⟨t, q⟩ := (show ∃ t, u = Value.str y t from r); cases q; exact PySem.W.Looks.of_pure rfl
  | @lst a xs ea =>
    cases (show u = Value.ref a from r)
    obtain ⟨_, _, n, _, h1⟩ := (show ObjOk X.prog X.w H s.heap a (.lst xs) from I.hok a _ ea)
    exact lk h1 rfl
  | @tup a xs ea =>
    cases (show u = Value.ref a from r)
    obtain ⟨_, _, _, o, h1, h2, _⟩ := (show ObjOk X.prog X.w H s.heap a (.tup xs) from I.hok a _ ea)
    exact lk h1 h2
  | @dK a kvs ea =>
    cases (show u = Value.ref a from r)
    obtain ⟨_, _, vs, _, o, es, ep, h1, h2, _⟩ := (show ObjOk X.prog X.w H s.heap a (.dK kvs) from I.hok a _ ea)
    exact lk h1 h2.1
  | @ins a C dx fs ea =>
    cases (show u = Value.ref a from r)
    obtain ⟨mA, J, _⟩ := ins_get I.hok ea
    obtain ⟨od, J, _⟩ := J.look
    exact J.type
/-- o == y -/
def rEqC (K : PySem.W.Frag) (C : Addr) (sp : Sp) (E : XK) : R2 := fun x y H Q => ∃ a dx fs tb, x = .ref a ∧ H a = some (.ins C dx fs) ∧ TyE H y tb ∧ PySem.W.notFirst K C tb = true ∧ sp [.ref a, y] H (fun v H' => ∃ b, v = .bl b ∧ Q (.bl b) H') E
def rNeC (K : PySem.W.Frag) (C : Addr) (sp : Sp) (E : XK) : R2 := fun x y H Q => ∃ a dx fs tb, x = .ref a ∧ H a = some (.ins C dx fs) ∧ TyE H y tb ∧ PySem.W.notFirst K C tb = true ∧ sp [.ref a, y] H (fun v H' => ∃ b, v = .bl b ∧ Q (.bl (!b)) H') E
theorem op_eqC (F : FnOk X.prog X.w X.K X.mg X.base CX k f fd ps sp) (m : Meth X.K C "__eq__" f) (hr : Room k X.A) (hb : Binds X.K fd ps []) (hx : Passes CX X E) : OpR X (compareOp .Eq) (rEqC X.K C sp E) := by
  intro pins s σ H x y v u Q I rx ry hq
  obtain ⟨a, dx, fs, tb, rfl, ha, ty, hn, hsp⟩ := hq
  cases rx
  obtain ⟨mA, J, _⟩ := ins_get I.hok ha
  obtain ⟨od, J, _⟩ := J.look
  obtain ⟨mm, hF⟩ := I.fr
  show wpAny (model X.prog X.w) X.A (richCompare .Eq _ u) (EP X pins σ Q) X.xe s
  refine PySem.W.cmp_K (op := .Eq) (tb := tb) hr.units0 hF I.ok.mod.kin J (ty_looks I ry ty) hn m.at_ m.fn ?_
  refine wpAny_mono (run_at F hr rfl hb hx I (us := [.ref a, u]) (.cons (show RelV (.ref a) (.ref a) from rfl) (.cons ry .nil)) hsp) (fun r s' hq => ?_) fun _ _ x => x
  obtain ⟨z, H', I', rz, b, rfl, q⟩ := hq
  cases rz
  exact ⟨.bl b, H', I', rfl, q⟩
section
open PySem.W
open PyProof.Rows (Fr)
variable {prog : Program} {w : World} {A : Around} {E : Value → Shared → Prop} {s : Shared} {K : Frag} {h₀ : Heap} {L : Addr} {m : Str → Option Value} {x f C : Addr} {ox : Obj} {od : Option Obj} {b tb : Value}
theorem ne_own_K {Q : Value → Shared → Prop} (hu : A.units + 1 < cLine) (F : Fr h₀ L s.heap m) (X₀ : K.In h₀) (I : InstAt s.heap x ox C od) (hb : Looks (model prog w) s.heap (typeOf b) tb) (hn : notFirst K C tb = true)
    (hne : findIn K (.ref C) "__ne__" = some (some (.builtin "object.__ne__"))) (hs : findIn K (.ref C) "__eq__" = some (some (.ref f))) (hf : isFn K (.ref f) = true) (ho : subIn K (.ref C) (.type "object") = some true)
    (h : wpAny (model prog w) A.in1 (call (.ref f) [.ref x, b]) (fun v s' => ∃ r, v = .bool r ∧ Q (.bool (!r)) s') E s) : wpAny (model prog w) A (richCompare .NotEq (.ref x) b) Q E s := by
  have X := X₀.keeps F.keep
  have body : wpAny (model prog w) A.in1 (Builtin.«object.__ne__» ⟨[.ref x, b], []⟩) (GQ.FinOf prog w A (wants (fun v s' => ∃ r, v = .bool r ∧ Q v s') E)) (fun e s' => wants (fun v s' => ∃ r, v = .bool r ∧ Q v s') E (.error e) s') s := by
    unfold Builtin.«object.__ne__»
    repeat (first
      | with_reducible refine wpAny_cRoomFor hu ?_
      | (refine wpAny_bind (m := callSpecialIfBound? (.ref x) (Str.ofString "__eq__") [b]) (ifBound_K X I hs hf (wpAny_mono h (fun r s' hr => by
          obtain ⟨r, rfl, hq⟩ := hr
          repeat (first | exact ⟨_, rfl, hq⟩ | exact wpAny_pure ⟨_, rfl, hq⟩ | (refine wpAny_bind (m := truthy (.bool _)) (wpAny_truthy_bool ?_)) | wp_step)) fun _ _ e => e)))
      | wp_step)
  have bind : bindSpecial (.builtin "object.__ne__") (.ref x) = pure (.builtin "object.__ne__", [.ref x]) := PySem.F.cmp_object.ne.bind (.ref x)
  have one : wpAny (model prog w) A (tryCompare (.ref x) "__ne__" b) (fun r s' => ∃ v, r = some v ∧ Q v s') E s := by
    unfold tryCompare
    refine wpAny_bind ?_
    simp only [callSpecialIfBound?, bindSpecialIfBound?]
    refine wpAny_holding (wpAny_bind (wpAny_bind (wpAny_bind (I.type.here ((looks_findIn X hne).here ?_)))))
    have fin : wpAny (model prog w) A (call (.builtin "object.__ne__") ([.ref x] ++ [b])) (fun v s' => ∃ r, v = .bool r ∧ Q v s') E s :=
      wpAny_call (codeAny_call_builtin PySem.F.cmp_object.ne.plain PySem.F.cmpEntry_ne (check_slot PySem.F.cmpKind_ne PySem.F.cmpSplit_ne (I.type.andThen (looks_subIn X ho)) (PySem.F.cmpArgs_ne _ _) body))
    simp only [bind]
    refine wpAny_bind (wpAny_askSetting (wpAny_ite ?_))
    split
    · refine wpAny_bind (wpAny_pure (wpAny_pure ?_))
      refine wpAny_bind (wpAny_mono fin (fun v s' z => ?_) fun _ _ e => e)
      obtain ⟨r, rfl, q⟩ := z
      refine wpAny_pure ?_
      exact wpAny_pure ⟨_, rfl, q⟩
    · refine wpAny_tryCatch (wpAny_bind (wpAny_pure (wpAny_pure ?_)))
      refine wpAny_bind (wpAny_mono fin (fun v s' z => ?_) fun _ _ e => e)
      obtain ⟨r, rfl, q⟩ := z
      refine wpAny_pure ?_
      exact wpAny_pure ⟨_, rfl, q⟩
  unfold richCompare
  simp only [oneThing_ref]
  refine wpAny_holding (wpAny_bind (wpAny_cRoomFor (Nat.lt_of_succ_lt hu) ?_))
  refine wpAny_bind (I.type.here (wpAny_bind (hb.here ?_)))
  split
  · rename_i q
    have e : subIn K tb (.ref C) = some false := by
      rcases Bool.or_eq_true_iff.mp hn with e | e
      · rw [beq_iff_eq.mp e] at q; simp at q
      · exact beq_iff_eq.mp e
    refine wpAny_bind ((looks_subIn X e).here ?_)
    simp only [Bool.false_eq_true, if_false]
    refine wpAny_bind (wpAny_mono one (fun r s' z => ?_) fun _ _ e => e)
    obtain ⟨v, rfl, hq⟩ := z
    exact wpAny_pure hq
  · refine wpAny_bind (wpAny_pure ?_)
    simp only [Bool.false_eq_true, if_false]
    refine wpAny_bind (wpAny_mono one (fun r s' z => ?_) fun _ _ e => e)
    obtain ⟨v, rfl, hq⟩ := z
    exact wpAny_pure hq
end
section
variable {X : Cx} {CX : CXT} {k : Nat} {f C : Addr} {fd : FuncData} {ps : List Str} {sp : Sp} {E : XK}
theorem op_neC (F : FnOk X.prog X.w X.K X.mg X.base CX k f fd ps sp) (m : Meth X.K C "__eq__" f) (hne : PySem.W.findIn X.K (.ref C) "__ne__" = some (some (.builtin "object.__ne__"))) (ho : PySem.W.subIn X.K (.ref C) (.type "object") = some true) (hr : Room (k + 1) X.A) (hb : Binds X.K fd ps []) (hx : Passes CX X E) : OpR X (compareOp .NotEq) (rNeC X.K C sp E) := by
  intro pins s σ H x y v u Q I rx ry hq
  obtain ⟨a, dx, fs, tb, rfl, ha, ty, hn, hsp⟩ := hq
  cases rx
  obtain ⟨mA, J, _⟩ := ins_get I.hok ha
  obtain ⟨od, J, _⟩ := J.look
  obtain ⟨mm, hF⟩ := I.fr
  show wpAny (model X.prog X.w) X.A (richCompare .NotEq _ u) (EP X pins σ Q) X.xe s
  refine ne_own_K (tb := tb) (by have := hr.un; omega) hF I.ok.mod.kin J (ty_looks I ry ty) hn hne m.at_ m.fn ho ?_
  refine wpAny_mono (run_at F hr.in1 rfl hb hx I (us := [.ref a, u]) (.cons (show RelV (.ref a) (.ref a) from rfl) (.cons ry .nil)) hsp) (fun r s' hq => ?_) fun _ _ x => x
  obtain ⟨z, H', I', rz, b, rfl, q⟩ := hq
  cases rz
  exact ⟨b, rfl, .bl (!b), H', I', rfl, q⟩
end
end
end Ts

set_option maxRecDepth 100000
set_option maxHeartbeats 4000000
namespace Ts
open PySem L2
/-! ### enumerate(tuple) -/
set_option maxHeartbeats 4000000 in
theorem meets_enum_T (t : Addr) (its : Array Value) :
    Meets (Builtin.«enumerate.__new__» ⟨[.type "enumerate", .ref t], []⟩) (fun _ R s => s.heap.IsTuple t its ∧
      R (.ok (.ret (.ref (s.heap.push { cls := .type "tuple_iterator", data := .fields #[.ref t, .int 0 0] }).objs.size)))
        { s with heap := (s.heap.push { cls := .type "tuple_iterator", data := .fields #[.ref t, .int 0 0] }).push { cls := .type "enumerate", data := .fields #[.none, .bool false, .ref s.heap.objs.size, rawInt 0, .none, .none] } }) :=
  .of_wp fun prog w A R s h => by
    obtain ⟨hp, g, d, tk, os⟩ := s
    obtain ⟨hT, h⟩ := h
    have hsub := sub_enumerate
    wp_walk
    refine wpAny_stack_any fun st => wpAny_pure ?_
    split
    · rename_i c _ _ _ _ _
      cases (c == Value.type "enumerate")
      · wp_walk using wpAny_pyIter_tuple hT
        exact ⟨_, rfl, h⟩
      · wp_walk using wpAny_pyIter_tuple hT
        exact ⟨_, rfl, h⟩
    · wp_walk using wpAny_pyIter_tuple hT
      exact ⟨_, rfl, h⟩

section
variable {prog : Program} {w : World} {A : Around} {E : Value → Shared → Prop} {s : Shared}
theorem call_enum_T {t : Addr} {its : Array Value} {Q : Value → Shared → Prop} (hT : s.heap.IsTuple t its)
    (k : ∀ g, IsEnum g (s.heap.objs.size + 1) s.heap.objs.size 0 .none → g.IsTupleIter s.heap.objs.size t 0 → (∀ b o, s.heap.get? b = some o → g.get? b = some o) → Q (.ref (s.heap.objs.size + 1)) { s with heap := g }) :
    wpAny (model prog w) A (call (.type "enumerate") [.ref t]) Q E s := by
  refine callType_new F.called_enumerate (by decide) (F.typeCall_enumerate_1 _) (F.newCall_enumerate_1 _) (fun o => F.args_object_init_2 o _) F.entry_enumerate_new (meets_enum_T t its) ⟨hT, ?_⟩
  have z : (s.heap.push { cls := .type "tuple_iterator", data := .fields #[.ref t, .int 0 0] }).objs.size = s.heap.objs.size + 1 := Heap.size_push ..
  show _ ∧ _
  rw [z]
  have en : IsEnum ((s.heap.push { cls := .type "tuple_iterator", data := .fields #[.ref t, .int 0 0] }).push { cls := .type "enumerate", data := .fields #[.none, .bool false, .ref s.heap.objs.size, rawInt 0, .none, .none] }) (s.heap.objs.size + 1) s.heap.objs.size 0 .none := by
    have q := Heap.get?_push_size (s.heap.push { cls := .type "tuple_iterator", data := .fields #[.ref t, .int 0 0] }) (o := { cls := .type "enumerate", data := .fields #[.none, .bool false, .ref s.heap.objs.size, rawInt 0, .none, .none] }) rfl
    rw [z] at q
    exact q
  exact ⟨⟨_, en, rfl⟩, k _ en ⟨_, Heap.get?_push_of_some _ (Heap.get?_push_size _ rfl), rfl, rfl⟩ fun b o y => Heap.get?_push_of_some _ (Heap.get?_push_of_some _ y)⟩
end
/-- the tuple at a as it stands at each turn, each item in a new pair -/
def IteT (K : PySem.W.Frag) (a : Addr) : It :=
  ⟨fun i H => ∃ (xs : List V) (x : V), SqT K H a xs ∧ xs[i]? = some x, fun i H v H' => ∃ T x, v = .ref T ∧ H T = none ∧ H' = upd H T (.tup [.int (i : Nat), x]) ∧ ∀ xs, SqT K H a xs → xs[i]? = some x, fun i H => ∃ xs : List V, SqT K H a xs ∧ xs.length = i⟩
theorem turn_enumT {P : Program} {w : World} {K : PySem.W.Frag} {elts : List Expr} {kk : Nat} {tpos : Pos} (a e it : Addr) :
    Turn P w K (.Tuple elts kk tpos) (IteT K a) [e, it] e (fun i h => (∃ old, IsEnum h e it ((i : Nat) : Int) old) ∧ h.IsTupleIter it a i ∧ e ≠ it ∧ a ≠ it ∧ e ≠ a) where
  mem := by simp
  obj := fun i h st b hb => by
    obtain ⟨⟨old, en⟩, ⟨o, ho, hc, hd⟩, _⟩ := st
    rcases (show b = e ∨ b = it by simpa using hb) with z | z
    · rw [z]; exact ⟨_, en, fun v q => nomatch q⟩
    · rw [z]; exact ⟨o, ho, fun v q => by rw [hd] at q; cases q⟩
  keep := fun i h h' st k => let ⟨⟨old, en⟩, hi, r⟩ := st; ⟨⟨old, k e (by simp) _ en⟩, hi.at fun o y => k it (by simp) o y, r⟩
  item := by
    intro X hP hw hK hc i pins s σ H E I hf st hg
    subst hP hw hK
    obtain ⟨⟨old, en⟩, hit, hne, hai, hea⟩ := st
    obtain ⟨xs, x, hq, hx⟩ := hg
    obtain ⟨its, rv, p, hz⟩ := I.tuple hq
    obtain ⟨u, hu, ru⟩ := rv.get hx
    have pT : s.heap.IsTuple a its.toArray := p
    have hil : i < its.toArray.size := by
      have q := (List.getElem?_eq_some_iff.mp hu).1
      simpa using q
    have l1 : e < s.heap.objs.size := Heap.lt_size en
    have l2 : it < s.heap.objs.size := by obtain ⟨_, q, _⟩ := hit; exact Heap.lt_size q
    have hh1 : X.A.in1.handled = none := I.ok.hd hc
    refine wpAny_pyNext_enum_itemD (Draws.tuple hh1 it a hai its.toArray) en ⟨hit, pT⟩ hil hne (by simp [hne, hea]) fun x' g tk hx' ho st' hT hsz hk => ?_
    have ex : x' = u := by
      have q : its.toArray[i]? = some u := by simpa using hu
      rw [q] at hx'
      exact (Option.some.inj hx').symm
    subst ex
    refine ⟨_, rfl, wpAny_letOwnedTupleGo_enum (s := { s with heap := g, toks := tk + 1 }) ho fun g2 he' sb => ?_⟩
    have hT2 : g2.get? s.heap.objs.size = some { cls := .type "tuple", data := .seq #[.int i tk, x'] } := (sb.2 _ (Nat.ne_of_gt l1)).trans hT
    have new : ObjOk X.prog X.w (upd H s.heap.objs.size (.tup [.int (i : Nat), x])) g2 s.heap.objs.size (.tup [.int (i : Nat), x]) :=
      ⟨by show 2 ≤ sizeLine; decide, [.int i tk, x'], .cons ⟨_, rfl⟩ (.cons ru .nil), ⟨_, hT2, rfl, _, rfl⟩⟩
    have I1 : Inv X pins σ (upd H s.heap.objs.size (.tup [.int (i : Nat), x])) { s with heap := g2, toks := tk + 1 } :=
      I.turnedNew (ch := [e, it]) (fun b o hb y => (sb.2 b (fun z => hb (by simp [z]))).trans (hk b o (fun z => hb (by simp [z])) (fun z => hb (by simp [z])) y)) hf (Nat.le_refl _) new
    refine ⟨.ref s.heap.objs.size, _, I1, rfl, ⟨_, x, rfl, I.hok.fresh (Nat.le_refl _), rfl, fun ys hy => by rw [I.tuple_inj hy hq]; exact hx⟩, ⟨⟨x', ?_⟩, st'.1.at fun o y => (sb.2 it (Ne.symm hne)).trans y, hne, hai, hea⟩, fun b hb => ?_⟩
    · rw [show ((i + 1 : Nat) : Int) = (i : Int) + 1 by omega]
      exact he'
    · have lb : b < s.heap.objs.size := by
        rcases (show b = e ∨ b = it by simpa using hb) with z | z
        · rw [z]; exact l1
        · rw [z]; exact l2
      rw [upd_ne (Nat.ne_of_lt lb)]
      exact (hf b hb).1
  done := by
    intro X hP hw hK hc i pins s σ H E I hf st hg
    subst hP hw hK
    obtain ⟨⟨old, en⟩, hit, hne, hai, hea⟩ := st
    obtain ⟨xs, hq, hx⟩ := hg
    obtain ⟨its, rv, p, hz⟩ := I.tuple hq
    have pT : s.heap.IsTuple a its.toArray := p
    have hh1 : X.A.in1.handled = none := I.ok.hd hc
    have ei : its.toArray.size = i := by rw [← hx, rv.length]; simp
    obtain ⟨f0, f1, f2, f3, f4, f5⟩ := hf it (by simp)
    refine wpAny_pyNext_enum_endD (Draws.tuple hh1 it a hai its.toArray) en (by rw [ei]; exact ⟨hit, pT⟩) fun g eb => ⟨rfl, I.turned (t' := s.toks) (fun b o hb y => eb b o hb y) f0 f1 f3 f4 f5⟩
  self := fun A i s Q E st h => let ⟨⟨_, en⟩, _⟩ := st; wpAny_pyIter_enum en h
def iEnumT (K : PySem.W.Frag) (ta : TA) : TI := fun σ H R => ta σ H fun vs H1 => ∃ a xs, vs = [.ref a] ∧ SqT K H1 a xs ∧ R (IteT K a) H1
theorem pi_enumT {X : Cx} {e : Expr} {ta : TA} {p pos tpos : Pos} {elts : List Expr} {kk : Nat} (hg : Gl X "enumerate") (hm : X.mg "enumerate" = none) (ha : PA X [e] ta) (hs : starEach [e] X.env = [(false, eval e X.env)] := by rfl) :
    PI X (.Tuple elts kk tpos) (.Call (.Name "enumerate" p) [e] [] pos) (iEnumT X.K ta) := by
  refine ⟨fun pins s σ H R I h => ?_⟩
  refine wpAny_Call_Name_kw (ld_blt I hg hm PyProof.Rows.boot_enumerate (PyProof.Rows.callWith_type1 (thn (ha.run pos pins s σ H _ I h) fun us s1 z => ?_) hs rfl))
  obtain ⟨vs, H1, I1, r1, a, xs, ex, hq, q⟩ := z
  subst ex
  obtain ⟨u, rfl, ru⟩ := vals1 r1
  cases ru
  obtain ⟨its, rv, p', hz⟩ := I1.tuple hq
  have pT : s1.heap.IsTuple a its.toArray := p'
  obtain ⟨oa, hoa, _⟩ := id pT
  have la : a < s1.heap.objs.size := Heap.lt_size hoa
  refine call_enum_T pT fun g en hit hk => wpAny_pyIter_enum en ?_
  have I2 : Inv X pins σ H1 { s1 with heap := g } := I1.kept (t' := s1.toks) hk
  refine ⟨s1.heap.objs.size + 1, [s1.heap.objs.size + 1, s1.heap.objs.size], _, _, H1, rfl, I2, turn_enumT a (s1.heap.objs.size + 1) s1.heap.objs.size, ⟨⟨.none, en⟩, hit, Nat.succ_ne_self _, Nat.ne_of_lt la, Nat.ne_of_gt (Nat.lt_succ_of_lt la)⟩, fun b hb => ?_, q⟩
  have ge : s1.heap.objs.size ≤ b := by
    rcases (show b = s1.heap.objs.size + 1 ∨ b = s1.heap.objs.size by simpa using hb) with z | z
    · rw [z]; exact Nat.le_add_right _ _
    · rw [z]; exact Nat.le_refl _
  exact I1.fpOk ge (I1.hok.fresh ge)
theorem walk_enumT {K : PySem.W.Frag} {a : Addr} {xs : List V} : Walk (IteT K a) xs.length (fun H => SqT K H a xs) (YPair (fun i => some (.int (i : Nat))) (fun i => xs[i]?)) := by
  refine ⟨fun i _ hi q => ⟨xs, xs[i], q, by simp [hi]⟩, fun _ q => ⟨xs, q, rfl⟩, fun i H v H' _ q y => ?_⟩
  obtain ⟨T, x, y1, y2, y3, y4⟩ := y
  exact ⟨T, .int (i : Nat), x, y1, y2, y3, rfl, y4 xs q⟩
/-! ### one rule or another -/
section
variable {X : Cx} {e : Expr}
theorem pe_or' {t u : TE} (a : PE X e t) (b : PE X e u) : PE X e (fun σ H Q => t σ H Q ∨ u σ H Q) := ⟨fun pins s σ H Q I h => h.elim (a.run pins s σ H Q I) (b.run pins s σ H Q I)⟩
theorem pg_or {t u : TG} (a : PG X e t) (b : PG X e u) : PG X e (fun v σ H Q => t v σ H Q ∨ u v σ H Q) := ⟨fun pins s σ H v w Q I r h => h.elim (a.run pins s σ H v w Q I r) (b.run pins s σ H v w Q I r)⟩
theorem pi_or {tg : Expr} {t u : TI} (a : PI X tg e t) (b : PI X tg e u) : PI X tg e (fun σ H R => t σ H R ∨ u σ H R) := ⟨fun pins s σ H R I h => h.elim (a.run pins s σ H R I) (b.run pins s σ H R I)⟩
theorem op_or' {f : Value → Value → Sem Value} {r q : R2} (a : OpR X f r) (b : OpR X f q) : OpR X f (fun x y H Q => r x y H Q ∨ q x y H Q) := fun pins s σ H x y v u Q I rx ry h => h.elim (a pins s σ H x y v u Q I rx ry) (b pins s σ H x y v u Q I rx ry)
theorem ps_or {st : Stmt} {t u : TS} (a : PS X st t) (b : PS X st u) : PS X st (fun D σ H => t D σ H ∨ u D σ H) := ⟨fun pins s σ H D I h => h.elim (a.run pins s σ H D I) (b.run pins s σ H D I)⟩
theorem call_or {f : Value} {r q : List V → Hp → VK → Prop} (a : CallR X f r) (b : CallR X f q) : CallR X f (fun xs H Q => r xs H Q ∨ q xs H Q) := fun pins s σ H xs us Q I rv h => h.elim (a pins s σ H xs us Q I rv) (b pins s σ H xs us Q I rv)
end
end Ts

set_option maxRecDepth 100000
set_option maxHeartbeats 4000000
namespace Ts
open PySem L2
section
variable {X : Cx}
/-- a local takes a dict comprehension on one line -/
theorem ps_setDc {i : Nat} {y : Str} {py : Pos} {kx vx tg iter : Expr} {ifs : List Expr} {scope : Scope} {own : List (Str × Nat)} {pos spos : Pos} {wi : TI} {g : TG} {tt : TT} {tk tv : TE} (hc : X.calm = true) (hN : X.N.Nodup) (hy : X.N[i]? = some y) (hyl : X.env.scope.names.lookup y = some .local)
    (hsw : swapsWith (.DictComp kx vx [⟨tg, iter, ifs, 0⟩] scope pos) (some (.Name y py)) spos.line X.env = pure true) (hi : PI X tg iter wi) (ok : BlkOk X.N X.env.scope scope own)
    (hg : ∀ (s : Shared) (H : Hp) (C : Addr) (cl : List (Str × Addr)) (fp : List Addr), PG (X.blk s H scope (compEnvC scope cl C X.env) fp) tg g) (ht : ∀ (s : Shared) (H : Hp) (C : Addr) (cl : List (Str × Addr)) (fp : List Addr), PTs (X.blk s H scope (compEnvC scope cl C X.env) fp) ifs tt)
    (hk : ∀ (s : Shared) (H : Hp) (C : Addr) (cl : List (Str × Addr)) (fp : List Addr), PE (X.blk s H scope (compEnvC scope cl C X.env) fp) kx tk)
    (he : ∀ (s : Shared) (H : Hp) (C : Addr) (cl : List (Str × Addr)) (fp : List Addr), PE (X.blk s H scope (compEnvC scope cl C X.env) fp) vx tv) (hs : ∀ x, foldedSetIterable iter X.env x = pure x := by intro _; rfl) :
    PS X (.Assign [.Name y py] (.DictComp kx vx [⟨tg, iter, ifs, 0⟩] scope pos) spos) (tAsg (tDc wi g tt tk tv (own.map (·.2))) (gName i)) := by
  refine ⟨fun pins s σ H D I h => ?_⟩
  rw [exec_Assign_Name_used _ _ _ _ hsw]
  refine wpAny_bind (wpAny_standAt (wpAny_bind ?_))
  show wpAny _ X.A (do let _ ← comprehension (.DictComp kx vx [⟨tg, iter, ifs, 0⟩] scope pos) scope X.env (firstIterPos [⟨tg, iter, ifs, 0⟩] pos) newDict false (eval iter X.env) (some (assign (.Name y py) X.env))) _ _ s
  have h' : tDc wi g tt tk tv (own.map (·.2)) σ H (fun x H1 => gName i x σ H1 D.nx) := h
  refine wpAny_bind (thn (dc_core (Qf := fun _ s' => SP X pins D .next s') hc hN I hi ok hg ht hk he hs h' fun L C s' m H' I' q hn f => ?_) fun _ s' z => wpAny_pure (wpAny_pure z))
  show wpAny _ _ (assign (.Name y py) X.env (.ref L)) _ _ _
  refine wpAny_assign_Name (store_ok2 (v := V.ref L) I' hN hy (.inl hyl) rfl (fun s2 I2 ⟨a, sb, za⟩ => ?_) (.inr hyl))
  obtain ⟨f0, f1, f2, f3, f4, f5⟩ := f
  have ca : C ≠ a := by
    rcases za with z | z
    · rw [z]; exact f1
    · exact fun e => f4 y a z e.symm
  refine ⟨m, hn.sameBut sb ca, fun h3 sb3 => ?_⟩
  exact ⟨_, H', I2.turned (t' := s2.toks) (fun b o hb e => (sb3.2 b hb).trans e) f0 f1 f3 f4 f5, q⟩
theorem swd_true {kx vx : Expr} {gs : List Comprehension} {scope : Scope} {pos py : Pos} {y : Str} {l : Nat} {env : Env} (hk : env.scope.kind = .function) (hy : env.scope.names.lookup y = some .local) (hl : (py.line == pos.line) = true)
    (ha : (scope.names.any fun (n, k) => n == y && (k == .local || k == .cell)) = false) : swapsWith (.DictComp kx vx gs scope pos) (some (.Name y py)) l env = pure true := by
  have k1 : env.kindOf y = some .local := hy
  have k2 : env.blockKind = .function := by unfold Env.blockKind; rw [hk]; rfl
  unfold swapsWith
  simp only [k1, k2, ha, Expr.pos, hl]
  rfl
/-- a dict comprehension over what walks -/
theorem dc_it {J : It} {n : Nat} {G : Hp → Prop} {Y : Nat → Hp → V → Hp → Prop} (w : Walk J n G Y) {g : TG} {tt : TT} {tk tv : TE} {vs : List Nat} {σ : St} {H1 : Hp} {D : Addr} {Qd : Hp → Prop} (Pv : Nat → Hp → Prop) (h0 : Pv 0 (upd H1 D (.dK []))) (hG : ∀ i H, i ≤ n → Pv i H → G H)
    (hs : ∀ i x H H', i < n → Pv i H → Y i H x H' → g x (wipe σ vs) H' fun σ2 H2 => wipe σ2 vs = wipe σ vs ∧ tt σ2 H2 fun b H3 =>
      if b = true then tk σ2 H3 fun y H4 => tv σ2 H4 fun z H5 => ∃ kvs k, y = kV k ∧ H5 D = some (.dK kvs) ∧ kvs.length < sizeLine ∧ Pv (i + 1) (upd H5 D (.dK (putK kvs k z))) else Pv (i + 1) H3) (hd : ∀ H, Pv n H → Qd H) :
    ∃ W : Nat → Nat → Hp → Prop, (∃ m, W 0 m (upd H1 D (.dK []))) ∧ ∀ i m H, W i m H →
      (J.stop i H ∧ Qd H) ∨ (J.go i H ∧ ∃ Nx : Hp → Prop, (∀ H', Nx H' → ∃ m', m' < m ∧ W (i + 1) m' H') ∧ ∀ x H', J.yld i H x H' → g x (wipe σ vs) H' fun σ2 H2 => wipe σ2 vs = wipe σ vs ∧ tt σ2 H2 fun b H3 =>
        if b = true then tk σ2 H3 fun y H4 => tv σ2 H4 fun z H5 => ∃ kvs k, y = kV k ∧ H5 D = some (.dK kvs) ∧ kvs.length < sizeLine ∧ Nx (upd H5 D (.dK (putK kvs k z))) else Nx H3) := by
  refine ⟨fun i m H => m = n - i ∧ i ≤ n ∧ Pv i H, ⟨n, by simp, Nat.zero_le _, h0⟩, ?_⟩
  rintro i m H ⟨rfl, le, p⟩
  have q := hG i H le p
  by_cases lt : i < n
  · exact .inr ⟨w.goes i H lt q, Pv (i + 1), fun H' p' => ⟨n - (i + 1), by omega, rfl, lt, p'⟩, fun x H' y => hs i x H H' lt p (w.yields i H x H' lt q y)⟩
  · obtain rfl : i = n := by omega
    exact .inl ⟨w.stops H q, hd H p⟩
end
end Ts

set_option maxRecDepth 100000
set_option maxHeartbeats 4000000
namespace Ts
open PySem L2
/-! ### == and != of dicts of one and the same keys, with flat values -/
def kvX (f : Str → V) (l : List Str) : List (Key × V) := l.map fun z => ((.inr z : Key), f z)
theorem valV_kvX (f : Str → V) {z : Str} : ∀ {l : List Str}, z ∈ l → valV (kvX f l) (.inr z : Key) = some (f z)
  | x :: l, hz => by
    show ((((((.inr x : Key), f x) :: kvX f l).find? fun kv => decide (kv.1 = (.inr z : Key))).map (·.2)) : Option V) = some (f z)
    by_cases e : x = z
    · subst e
      rw [List.find?_cons_of_pos (by simp)]; rfl
    · rw [List.find?_cons_of_neg (by simpa using e)]
      exact valV_kvX f ((List.mem_cons.mp hz).resolve_left fun q => e q.symm)
def allE (f g : Str → V) (l : List Str) : Bool := l.all fun z => eqV (f z) (g z)
theorem hitsX {A : Around} {s : Shared} {f g : Str → V} {L : List Str} {vb : List (Key × Value)} (rb : KV (kvX g L) vb) : ∀ {l : List Str} {va : List (Key × Value)}, KV (kvX f l) va → (∀ z ∈ l, z ∈ L ∧ flatV (f z) = true ∧ flatV (g z) = true) → PySem.W.KeqHits A s vb va (allE f g l)
  | [], va, ra, _ => by
    unfold KV kvX at ra
    cases ra
    exact .nil
  | z :: l, va, ra, h => by
    have ra' : Paired _ (((.inr z : Key), f z) :: kvX f l) va := ra
    cases ra' with
    | cons h1 t =>
      rename_i q qs
      obtain ⟨e1, e2⟩ := h1
      obtain ⟨hz, f1, f2⟩ := h z (List.mem_cons_self ..)
      have rr : RelO (some (g z)) (valueAt vb (.inr z : Key)) := by rw [← valV_kvX g hz]; exact rb.val _
      obtain ⟨y, hy, ry⟩ := rr.some_of
      obtain ⟨key, v⟩ := q
      have e1' : (Sum.inr z : Key) = key := e1
      rw [e1'] at hy
      exact .hit hy (eqAt_V e2 ry f1 f2) (hitsX rb t fun x hx => h x (List.mem_cons_of_mem _ hx))
section
variable {X : Cx}
def rEqX : R2 := fun x y H Q => ∃ (a b : Addr) (f g : Str → V) (l : List Str), x = .ref a ∧ y = .ref b ∧ H a = some (.dK (kvX f l)) ∧ H b = some (.dK (kvX g l)) ∧ (∀ z ∈ l, flatV (f z) = true ∧ flatV (g z) = true) ∧ Q (.bl (allE f g l)) H
def rNeX : R2 := fun x y H Q => ∃ (a b : Addr) (f g : Str → V) (l : List Str), x = .ref a ∧ y = .ref b ∧ H a = some (.dK (kvX f l)) ∧ H b = some (.dK (kvX g l)) ∧ (∀ z ∈ l, flatV (f z) = true ∧ flatV (g z) = true) ∧ Q (.bl (!allE f g l)) H
theorem op_eqX (hu : X.A.units < cLine) : OpR X (compareOp .Eq) rEqX := by
  intro pins s σ H x y v u Q I rx ry h
  obtain ⟨a, b, f, g, l, rfl, rfl, ea, eb, hf, q⟩ := h
  obtain rfl : v = Value.ref a := rx
  obtain rfl : u = Value.ref b := ry
  obtain ⟨_, ya, va, ra, da⟩ := (show ObjOk X.prog X.w H s.heap a (.dK (kvX f l)) from I.hok a _ ea)
  obtain ⟨_, yb, vb, rb, db⟩ := (show ObjOk X.prog X.w H s.heap b (.dK (kvX g l)) from I.hok b _ eb)
  have hl : va.length = vb.length := by rw [← ra.length, ← rb.length]; unfold kvX; rw [List.length_map, List.length_map]
  refine PySem.W.keq_eq (knd := mixKind X.prog X.w) (r := allE f g l) ya yb da db hu (fun _ => hitsX rb ra fun z hz => ⟨hz, hf z hz⟩) ?_
  rw [show (va.length == vb.length && allE f g l) = allE f g l from by rw [hl]; simp]
  exact ⟨.bl _, H, I, rfl, q⟩
theorem op_neX (hu : X.A.units < cLine) : OpR X (compareOp .NotEq) rNeX := by
  intro pins s σ H x y v u Q I rx ry h
  obtain ⟨a, b, f, g, l, rfl, rfl, ea, eb, hf, q⟩ := h
  obtain rfl : v = Value.ref a := rx
  obtain rfl : u = Value.ref b := ry
  obtain ⟨_, ya, va, ra, da⟩ := (show ObjOk X.prog X.w H s.heap a (.dK (kvX f l)) from I.hok a _ ea)
  obtain ⟨_, yb, vb, rb, db⟩ := (show ObjOk X.prog X.w H s.heap b (.dK (kvX g l)) from I.hok b _ eb)
  have hl : va.length = vb.length := by rw [← ra.length, ← rb.length]; unfold kvX; rw [List.length_map, List.length_map]
  refine PySem.W.keq_ne (knd := mixKind X.prog X.w) (r := allE f g l) ya yb da db hu (fun _ => hitsX rb ra fun z hz => ⟨hz, hf z hz⟩) ?_
  rw [show (va.length == vb.length && allE f g l) = allE f g l from by rw [hl]; simp]
  exact ⟨.bl _, H, I, rfl, q⟩
theorem hitsP {P : Program} {w : World} {A : Around} {s : Shared} {vb : List (Key × Value)} : ∀ {va : List (Key × Value)} {r : Bool}, PySem.W.KeqHits A s vb va r → PySem.W.KeqHitsP P w A s vb va r := fun h => by
  induction h with
  | nil => exact .nil
  | miss h => exact .miss h
  | hit h e _ k => exact .hit h e.eqP k
theorem eqP_dicts {pins : List (Addr × Obj)} {σ : St} {H : Hp} {s : Shared} (I : Inv X pins σ H s) {A : Around} (hu : A.units < cLine) {a b : Addr} {f g : Str → V} {l : List Str} (ea : H a = some (.dK (kvX f l))) (eb : H b = some (.dK (kvX g l))) (hf : ∀ z ∈ l, flatV (f z) = true ∧ flatV (g z) = true)
    (same : a = b → allE f g l = true) : SeqAt.EqP X.prog X.w A s (.ref a) (.ref b) (allE f g l) := by
  by_cases e : a = b
  · rw [same e]
    subst e
    exact (SeqAt.EqAt.same _).eqP
  · refine SeqAt.eqP_refs e fun E Q q => ?_
    obtain ⟨_, ya, va, ra, da⟩ := (show ObjOk X.prog X.w H s.heap a (.dK (kvX f l)) from I.hok a _ ea)
    obtain ⟨_, yb, vb, rb, db⟩ := (show ObjOk X.prog X.w H s.heap b (.dK (kvX g l)) from I.hok b _ eb)
    have hl : va.length = vb.length := by rw [← ra.length, ← rb.length]; unfold kvX; rw [List.length_map, List.length_map]
    refine PySem.W.rcP_dicts (knd := mixKind X.prog X.w) (r := allE f g l) ya yb da db hu (fun _ => hitsP (hitsX rb ra fun z hz => ⟨hz, hf z hz⟩)) E Q ?_
    rw [show (va.length == vb.length && allE f g l) = allE f g l from by rw [hl]; simp]
    exact q
/-- two lists of two such dicts each -/
def rEq2X : R2 := fun x y H Q => ∃ (a b d1 d2 e1 e2 : Addr) (f1 f2 g1 g2 : Str → V) (l : List Str), x = .ref a ∧ y = .ref b ∧ H a = some (.lst [.ref d1, .ref d2]) ∧ H b = some (.lst [.ref e1, .ref e2]) ∧ H d1 = some (.dK (kvX f1 l)) ∧ H d2 = some (.dK (kvX f2 l)) ∧ H e1 = some (.dK (kvX g1 l)) ∧ H e2 = some (.dK (kvX g2 l)) ∧
  (∀ z ∈ l, flatV (f1 z) = true ∧ flatV (g1 z) = true) ∧ (∀ z ∈ l, flatV (f2 z) = true ∧ flatV (g2 z) = true) ∧ d1 ≠ e1 ∧ d2 ≠ e2 ∧ Q (.bl (allE f1 g1 l && allE f2 g2 l)) H
theorem op_eq2X (hu : X.A.units + 64 < cLine) : OpR X (compareOp .Eq) rEq2X := by
  intro pins s σ H x y v u Q I rx ry h
  obtain ⟨a, b, d1, d2, e1, e2, f1, f2, g1, g2, l, rfl, rfl, ha, hb, hd1, hd2, he1, he2, hf1, hf2, n1, n2, q⟩ := h
  obtain rfl : v = Value.ref a := rx
  obtain rfl : u = Value.ref b := ry
  obtain ⟨us, r1, p1, _⟩ := I.list (show SqL X.K H a _ from SqL.of ha)
  obtain ⟨ws, r2, p2, _⟩ := I.list (show SqL X.K H b _ from SqL.of hb)
  have hin : X.A.in1.units < cLine := by show X.A.units + 1 < cLine; omega
  obtain rfl : us = [.ref d1, .ref d2] := by
    cases r1 with
    | cons x1 t => cases t with
      | cons x2 t => cases t; cases x1; cases x2; rfl
  obtain rfl : ws = [.ref e1, .ref e2] := by
    cases r2 with
    | cons x1 t => cases t with
      | cons x2 t => cases t; cases x1; cases x2; rfl
  refine SeqAt.rcP_lists (e := fun j => if j = 0 then allE f1 g1 l else allE f2 g2 l) p1.isList p2.isList rfl (by omega) (fun j h1 h2 => ?_) _ _ ?_
  · match j, h1 with
    | 0, _ => exact eqP_dicts I hin hd1 he1 hf1 fun e => absurd e n1
    | 1, _ => exact eqP_dicts I hin hd2 he2 hf2 fun e => absurd e n2
  · refine ⟨.bl _, H, I, rfl, ?_⟩
    have e : ((List.range #[Value.ref d1, Value.ref d2].size).all fun j => if j = 0 then allE f1 g1 l else allE f2 g2 l) = (allE f1 g1 l && allE f2 g2 l) := by
      show ((List.range 2).all fun j => if j = 0 then allE f1 g1 l else allE f2 g2 l) = _
      simp [List.range, List.range.loop]
    show Q (.bl ((List.range #[Value.ref d1, Value.ref d2].size).all fun j => if j = 0 then allE f1 g1 l else allE f2 g2 l)) H
    rw [e]
    exact q
theorem pt_weak {e : Expr} {t : TT} (h : PT X e t) : PT X e (fun σ H Q => ∃ R : Bool → Hp → Prop, t σ H R ∧ ∀ b H', R b H' → Q b H') := ⟨fun pins s σ H Q I ⟨R, h1, h2⟩ => thn (h.run pins s σ H R I h1) fun u s1 ⟨H1, I1, q⟩ => ⟨H1, I1, h2 _ _ q⟩⟩
theorem pe_weak {e : Expr} {te : TE} (h : PE X e te) : PE X e (fun σ H Q => ∃ R : VK, te σ H R ∧ ∀ v H', R v H' → Q v H') := ⟨fun pins s σ H Q I ⟨R, h1, h2⟩ => thn (h.run pins s σ H R I h1) fun u s1 ⟨x, H1, I1, rx, q⟩ => ⟨x, H1, I1, rx, h2 _ _ q⟩⟩
end
end Ts

set_option maxRecDepth 100000
namespace Ts
open PySem L2
def top (i : Nat) : Stmt := PySem.Challenge.pw_turnsets_k50_counts_refused.main.body.getD i (.Pass ⟨0, 0, 0, 0⟩)
abbrev s__wall : Stmt := top 0
abbrev s_BadRow_init : Stmt := inClass (top 3) 0
abbrev s_NoBox_init : Stmt := inClass (top 4) 0
abbrev s_Locked_init : Stmt := inClass (top 6) 0
abbrev s_BadRange_init : Stmt := inClass (top 8) 0
abbrev s_BadTable_init : Stmt := inClass (top 9) 0
abbrev s_NotSure_init : Stmt := inClass (top 10) 0
abbrev s_is_name : Stmt := top 18
abbrev s_is_number : Stmt := top 19
abbrev s_is_price : Stmt := top 20
abbrev s_is_row : Stmt := top 21
abbrev s_check_rows : Stmt := top 22
abbrev s_check_box : Stmt := top 23
abbrev s_is_place : Stmt := top 24
abbrev s_check_place : Stmt := top 25
abbrev s_Tree_init : Stmt := inClass (top 26) 0
abbrev s_Tree_eq : Stmt := inClass (top 26) 1
abbrev s_Tree_len : Stmt := inClass (top 26) 2
abbrev s_Tree_contains : Stmt := inClass (top 26) 3
abbrev s_Tree_rows : Stmt := inClass (top 26) 4
abbrev s_Tree_folder : Stmt := inClass (top 26) 5
abbrev s_Tree_kind : Stmt := inClass (top 26) 6
abbrev s_Tree_price : Stmt := inClass (top 26) 7
abbrev s_Tree_inside : Stmt := inClass (top 26) 8
abbrev s_Tree_below : Stmt := inClass (top 26) 9
abbrev s_Tree_way : Stmt := inClass (top 26) 10
abbrev s_Tree_steps : Stmt := inClass (top 26) 11
abbrev s_Tree_more : Stmt := inClass (top 26) 12
abbrev s_Tree_less : Stmt := inClass (top 26) 13
abbrev s_Tree_moved : Stmt := inClass (top 26) 14
abbrev s_Tree_opened : Stmt := inClass (top 26) 15
abbrev s_check_turns : Stmt := top 28
abbrev s_check_trees : Stmt := top 29
abbrev s_values_of : Stmt := top 30
abbrev s_with_values : Stmt := top 31
abbrev s_Meaning_init : Stmt := inClass (top 32) 0
abbrev s_Meaning_eq : Stmt := inClass (top 32) 1
abbrev s_Meaning_len : Stmt := inClass (top 32) 2
abbrev s_Meaning_iter : Stmt := inClass (top 32) 3
abbrev s_Meaning_contains : Stmt := inClass (top 32) 4
abbrev s_Meaning_xor : Stmt := inClass (top 32) 5
abbrev s_Meaning_and : Stmt := inClass (top 32) 6
abbrev s_Meaning_or : Stmt := inClass (top 32) 7
abbrev s_Meaning_sub : Stmt := inClass (top 32) 8
abbrev s_Meaning_invert : Stmt := inClass (top 32) 9
abbrev s_Meaning_value : Stmt := inClass (top 32) 10
abbrev s_Meaning_states : Stmt := inClass (top 32) 11
abbrev s_Meaning_price : Stmt := inClass (top 32) 12
abbrev s_value_behind : Stmt := top 38
abbrev s_is_range : Stmt := top 47
abbrev s_check_ranges : Stmt := top 48
abbrev s_ranges_of : Stmt := top 49
abbrev s_number_within : Stmt := top 50
abbrev s_shown : Stmt := top 51
abbrev s_may_have : Stmt := top 52
abbrev s_Counts_init : Stmt := inClass (top 53) 0
abbrev s_Counts_on : Stmt := inClass (top 53) 1
abbrev s_Counts_off : Stmt := inClass (top 53) 2
abbrev s_Counts_shows : Stmt := inClass (top 53) 3
abbrev s_Counts_asks : Stmt := inClass (top 53) 4
abbrev s_check_click : Stmt := top 54
abbrev s_shown_by_all : Stmt := top 55
abbrev s_shown_by : Stmt := top 56
abbrev s_behind_word : Stmt := top 57
abbrev s_click : Stmt := top 58
abbrev s_unseen : Stmt := top 59
abbrev s_L_stream : Stmt := top 61
abbrev s_L_draw : Stmt := top 62
abbrev s_L_pick : Stmt := top 63
abbrev s_L_name : Stmt := top 64
abbrev s_L_rows : Stmt := top 65
abbrev s_L_way : Stmt := top 66
abbrev s_L_some : Stmt := top 67
abbrev s_L_open : Stmt := top 68
abbrev s_L_meaning : Stmt := top 69
abbrev s_L_is_integer : Stmt := top 70
abbrev s_L_range : Stmt := top 71
abbrev s_L_counted : Stmt := top 72
abbrev s_L_clicked : Stmt := top 73
abbrev s_L_spare : Stmt := top 74
abbrev s_L_is_range : Stmt := top 75
abbrev s_L_made : Stmt := top 76
abbrev s_L_asks : Stmt := top 77
abbrev s_law : Stmt := top 78
end Ts

set_option maxRecDepth 100000
set_option maxHeartbeats 4000000
namespace Ts
open PySem L2
/-! ### how a def stands -/
structure DefAt (K : PySem.W.Frag) (mg : Str → Option Value) (x : Str) (st : Stmt) (ps : List Str) where
  f : Addr
  fd : FuncData
  F : Fun K x x st f fd
  b : Binds K fd ps []
  g : mg x = some (.ref f)
structure MethAt (K : PySem.W.Frag) (C : Addr) (x q : Str) (st : Stmt) (ps : List Str) where
  f : Addr
  fd : FuncData
  F : Fun K x q st f fd
  b : Binds K fd ps []
  m : Meth K C x f
structure TxB (mg : Str → Option Value) : Prop where
  len : mg "len" = none
  abs : mg "abs" = none
  int : mg "int" = none
  str : mg "str" = none
  bool : mg "bool" = none
  list : mg "list" = none
  tuple : mg "tuple" = none
  dict : mg "dict" = none
  range : mg "range" = none
  enumerate : mg "enumerate" = none
  isinstance : mg "isinstance" = none
  all : mg "all" = none
theorem lk {l : List (Option V)} {i : Nat} {v : V} (h : l[i]? = some (some v)) : l[i]? = some (some v) := h
/-! ### the draws -/
/-- all but a is kept -/
def SB (a : Addr) (H H' : Hp) : Prop := ∀ b o, b ≠ a → H b = some o → H' b = some o
theorem SB.refl (a : Addr) (H : Hp) : SB a H H := fun _ _ _ h => h
theorem SB.trans {a : Addr} {H H1 H2 : Hp} (x : SB a H H1) (y : SB a H1 H2) : SB a H H2 := fun b o n h => y b o n (x b o n h)
theorem SB.of {a : Addr} {H H' : Hp} (x : Same H H') : SB a H H' := fun b o _ h => x b o h
theorem Same.new {H : Hp} {p : Addr} {o : HO} (h : H p = none) : Same H (upd H p o) := fun b u e => by rw [upd_ne (ne_of_none e h)]; exact e
theorem SB.upd {a p : Addr} {H : Hp} {o : HO} (h : H p = none) : SB a H (L2.upd H p o) := SB.of (Same.new h)
theorem SB.seqL {K : PySem.W.Frag} {a l : Addr} {H H' : Hp} {xs : List V} (x : SB a H H') (n : l ≠ a) (h : SqL K H l xs) : SqL K H' l xs := by
  rcases h with (h | ⟨o, h⟩) | h
  · exact .inl (.inl (x _ _ n h))
  · exact .inl (.inr ⟨o, x _ _ n h⟩)
  · exact .inr h
theorem SB.free {a b : Addr} {H H' : Hp} (x : SB a H H') (n : b ≠ a) (h : H' b = none) : H b = none := by
  cases q : H b with
  | none => rfl
  | some o =>
    rw [x b o n q] at h
    cases h
/-- at a a stream of draws of which at most n are mixed numbers -/
def Stm (H : Hp) (a : Addr) (n : Int) : Prop := ∃ x y z : Int, H a = some (.lst [.int x, .int y, .int z]) ∧ 0 ≤ x ∧ 0 ≤ y ∧ y < 1099511627776 ∧ 0 ≤ z ∧ z ≤ n
theorem Stm.mono {H : Hp} {a : Addr} {n m : Int} (h : Stm H a n) (k : n ≤ m) : Stm H a m := by
  obtain ⟨x, y, z, e, h1, h2, h3, h4, h5⟩ := h
  exact ⟨x, y, z, e, h1, h2, h3, h4, Int.le_trans h5 k⟩
theorem Stm.ne {H : Hp} {a p : Addr} {n : Int} (h : Stm H a n) (hp : H p = none) : a ≠ p := by
  obtain ⟨x, y, z, e, _⟩ := h
  exact ne_of_none e hp
theorem Stm.same {H H' : Hp} {a : Addr} {n : Int} (h : Stm H a n) (s : Same H H') : Stm H' a n := by
  obtain ⟨x, y, z, e, r⟩ := h
  exact ⟨x, y, z, s _ _ e, r⟩
theorem Stm.upd {H : Hp} {a p : Addr} {o : HO} {n : Int} (h : Stm H a n) (hp : H p = none) : Stm (upd H p o) a n := h.same (Same.new hp)
theorem ne_lit {i : Int} (h : i ≠ 0) : i ≠ 0 := h
theorem fm_in (q : Int) {m : Int} (h : 1 ≤ m) : 0 ≤ q.fmod m ∧ q.fmod m < m := by
  rw [Int.fmod_eq_emod_of_nonneg q (by omega)]
  exact ⟨Int.emod_nonneg _ (by omega), Int.emod_lt_of_pos _ (by omega)⟩
def spStream (K : PySem.W.Frag) : Sp := fun vs H Q _ => ∃ (a : Addr) (ns : List Int) (k : Int), vs = [.ref a, .int k] ∧ SqL K H a (ns.map V.int) ∧ 0 ≤ k ∧ k ≤ 1000 ∧
  ∀ (p : Addr) (x y : Int), H p = none → 0 ≤ x → 0 ≤ y → y < 1099511627776 → Q (.ref p) (upd H p (.lst [.int x, .int y, .int 0]))
def spDraw : Sp := fun vs H Q _ => ∃ (a : Addr) (m n : Int), vs = [.ref a, .int m] ∧ Stm H a n ∧ n ≤ 1099511627776 ∧ 1 ≤ m ∧ m ≤ 1000000 ∧
  ∀ (r : Int) (H' : Hp), 0 ≤ r → r < m → Stm H' a (n + 1) → (∀ b, b ≠ a → H' b = H b) → Q (.int r) H'
section
variable {P : Program} {w : World} {K : PySem.W.Frag} {mg : Str → Option Value} {base : Heap}
theorem sc_stream : FnScope ["_law_script", "_law_k", "_law_cell"] ["_law_script", "_law_k"] (defScope s_L_stream) := ⟨rfl, rfl, rfl, by decide +kernel, rfl, by decide +kernel, by decide +kernel⟩
theorem ok_stream (D : DefAt K mg "_law_stream" s_L_stream ["_law_script", "_law_k"]) (B : TxB mg) : FnOk P w K mg base CX0 2 D.f D.fd ["_law_script", "_law_k"] (spStream K) := by
  refine D.F.ok sc_stream (fun vs H Q E h => ?_) (fun cdv A outer s H vs Q E hr h => ?_)
  · obtain ⟨a, ns, k, rfl, _⟩ := h
    rfl
  · obtain ⟨a, ns, k, rfl, hS, h0, h1, hq⟩ := h
    refine ⟨_, pss_cons (ps_set (i := 2) sc_stream.nd rfl (.inl rfl) (pe_ifExp (pt_cmpR op_lt (pv 1) (pe_callB call_len_seq (by rfl) B.len PySem.boot_len (pa_cons (pv 0) pa_nil)) (nomark _)) (pe_callB call_abs (by rfl) B.abs (by decide +kernel) (pa_cons (pe_ix ix_list (pv 0) (pv 1) (fun _ _ => rfl)) pa_nil)) pe_int))
      (pss_one (ps_ret (pe_lst (pa_cons (pe_ifExp (pt_cmpR op_ge (pv 2) (pe_op op_pow pe_int pe_int) (nomark _)) (pv 2) pe_int) (pa_cons (pe_op op_add (pe_op op_modN (pe_callTy call_int1 (by rfl) B.int (by decide +kernel) (pa_cons (pv 2) pa_nil)) pe_int) (pe_op op_mul pe_int (pv 1))) (pa_cons pe_int pa_nil)))))), ?_⟩
    refine ⟨_, rfl, _, rfl, a, _, rfl, .inl hS, _, _, rfl, rfl, _, rfl, ?_⟩
    have fin : ∀ c : Int, 0 ≤ c → 0 ≤ c.fmod 2147483647 + 31 * k ∧ c.fmod 2147483647 + 31 * k < 1099511627776 := fun c hc => by
      have e := Int.fmod_eq_emod_of_nonneg c (show (0 : Int) ≤ 2147483647 by decide)
      omega
    refine ite2 (fun h => ?_) (fun h => ?_)
    · have hlt := of_decide_eq_true h
      rw [List.length_map] at hlt
      obtain ⟨v, hv⟩ : ∃ v, ns[k.toNat]? = some v := ⟨ns[k.toNat]'(by omega), List.getElem?_eq_getElem (by omega)⟩
      refine ⟨_, rfl, _, rfl, a, _, _, .int v, rfl, rfl, hS, at_of (j := k.toNat) (by omega) (by rw [List.getElem?_map, hv]; rfl), _, rfl, ?_⟩
      have hc : (0 : Int) ≤ if v < 0 then -v else v := by split <;> omega
      generalize (if v < 0 then -v else v) = c at hc
      refine ⟨_, rfl, _, _, rfl, rfl, ⟨by decide, by decide, by decide⟩, _, _, rfl, rfl, _, rfl, ?_⟩
      refine ite2 (fun h => ?_) (fun h => ?_)
      · exact ⟨_, rfl, _, rfl, .inl ⟨_, rfl, _, _, rfl, rfl, ne_lit (by decide), _, rfl, _, _, rfl, rfl, .inl ⟨by decide, by decide⟩, _, _, rfl, rfl, (by show 3 ≤ sizeLine; decide), fun p hp => hq p _ _ hp hc (fin c hc).1 (fin c hc).2⟩⟩
      · exact ⟨_, rfl, .inl ⟨_, rfl, _, _, rfl, rfl, ne_lit (by decide), _, rfl, _, _, rfl, rfl, .inl ⟨by decide, by decide⟩, _, _, rfl, rfl, (by show 3 ≤ sizeLine; decide), fun p hp => hq p _ _ hp (by decide) (fin c hc).1 (fin c hc).2⟩⟩
    · have hc : (0 : Int) ≤ 0 := Int.le_refl 0
      refine ⟨_, rfl, _, _, rfl, rfl, ⟨by decide, by decide, by decide⟩, _, _, rfl, rfl, _, rfl, ?_⟩
      refine ite2 (fun h => ?_) (fun h => ?_)
      · exact ⟨_, rfl, _, rfl, .inl ⟨_, rfl, _, _, rfl, rfl, ne_lit (by decide), _, rfl, _, _, rfl, rfl, .inl ⟨by decide, by decide⟩, _, _, rfl, rfl, (by show 3 ≤ sizeLine; decide), fun p hp => hq p _ _ hp hc (fin 0 hc).1 (fin 0 hc).2⟩⟩
      · exact ⟨_, rfl, .inl ⟨_, rfl, _, _, rfl, rfl, ne_lit (by decide), _, rfl, _, _, rfl, rfl, .inl ⟨by decide, by decide⟩, _, _, rfl, rfl, (by show 3 ≤ sizeLine; decide), fun p hp => hq p _ _ hp (by decide) (fin 0 hc).1 (fin 0 hc).2⟩⟩
theorem sc_draw : FnScope ["_law_stream_here", "_law_many", "_law_digit", "_law_spread"] ["_law_stream_here", "_law_many"] (defScope s_L_draw) := ⟨rfl, rfl, rfl, by decide +kernel, rfl, by decide +kernel, by decide +kernel⟩
theorem ok_draw (D : DefAt K mg "_law_draw" s_L_draw ["_law_stream_here", "_law_many"]) (B : TxB mg) : FnOk P w K mg base CX0 2 D.f D.fd ["_law_stream_here", "_law_many"] spDraw := by
  refine D.F.ok sc_draw (fun vs H Q E h => ?_) (fun cdv A outer s H vs Q E hr h => ?_)
  · obtain ⟨a, m, n, rfl, _⟩ := h
    rfl
  · obtain ⟨a, m, n, rfl, ⟨x, y, z, e, hx, hy, hy1, hz, hzn⟩, hn, hm, hm1, hq⟩ := h
    have eS := SqL.of (K := K) e
    refine ⟨_, pss_cons (ps_if (pt_cmpR op_gt (pe_ix ix_list (pv 0) pe_int (fun _ _ => rfl)) pe_int (nomark _))
        (pss_cons (ps_set (i := 2) sc_draw.nd rfl (.inl rfl) (pe_op op_modN (pe_callTy call_int1 (by rfl) B.int (by decide +kernel) (pa_cons (pe_ix ix_list (pv 0) pe_int (fun _ _ => rfl)) pa_nil)) (pv 1)))
        (pss_cons (ps_asg (pe_op op_fdivN (pe_ix ix_list (pv 0) pe_int (fun _ _ => rfl)) (pv 1)) (pg_sub (pv 0) pe_int set_list))
        (pss_one (ps_ret (pv 2))))) pss_nil)
      (pss_cons (ps_asg (pe_op op_add (pe_ix ix_list (pv 0) pe_int (fun _ _ => rfl)) pe_int) (pg_sub (pv 0) pe_int set_list))
      (pss_cons (ps_set (i := 3) sc_draw.nd rfl (.inl rfl) (pe_op op_modN (pe_op op_pow (pe_callTy call_int1 (by rfl) B.int (by decide +kernel) (pa_cons (pe_op op_add (pe_op op_add (pe_ix ix_list (pv 0) pe_int (fun _ _ => rfl)) (pe_op op_mul pe_int (pe_ix ix_list (pv 0) pe_int (fun _ _ => rfl)))) pe_int) pa_nil)) pe_int) pe_int))
      (pss_one (ps_ret (pe_op op_modN (pe_op op_fdivN (pe_op op_modN (pe_callTy call_int1 (by rfl) B.int (by decide +kernel) (pa_cons (pe_op op_mul (pe_op op_add (pv 3) (pe_ix ix_list (pv 0) pe_int (fun _ _ => rfl))) pe_int) pa_nil)) pe_int) pe_int) (pv 1)))))), ?_⟩
    have g0 : ∀ x y z : Int, atI [V.int x, .int y, .int z] 0 = some (.int x) := fun _ _ _ => rfl
    have g1 : ∀ x y z : Int, atI [V.int x, .int y, .int z] 1 = some (.int y) := fun _ _ _ => rfl
    have g2 : ∀ x y z : Int, atI [V.int x, .int y, .int z] 2 = some (.int z) := fun _ _ _ => rfl
    refine ⟨_, rfl, a, _, _, _, rfl, rfl, eS, g0 _ _ _, _, _, rfl, rfl, _, rfl, ?_⟩
    refine ite2 (fun h => ?_) (fun h => ?_)
    · have hx0 := of_decide_eq_true h
      refine ⟨_, rfl, a, _, _, _, rfl, rfl, eS, g0 _ _ _, .inl ⟨_, rfl, _, rfl, _, _, rfl, rfl, (by omega), ?_⟩⟩
      refine ⟨_, rfl, a, _, _, _, rfl, rfl, eS, g0 _ _ _, _, rfl, _, _, rfl, rfl, ⟨by omega, by omega⟩, _, rfl, a, _, _, 0, rfl, rfl, e, rfl, _, rfl, ?_⟩
      have e2 := Int.fdiv_eq_ediv_of_nonneg x (show (0 : Int) ≤ m by omega)
      exact hq _ _ (fm_in _ hm).1 (fm_in _ hm).2 ⟨x.fdiv m, y, z, upd_same, by rw [e2]; exact Int.ediv_nonneg hx (by omega), hy, hy1, hz, by omega⟩ fun b hb => upd_ne hb
    · refine ⟨_, rfl, a, _, _, _, rfl, rfl, eS, g2 _ _ _, _, _, rfl, rfl, _, rfl, a, _, _, 2, rfl, rfl, e, rfl, ?_⟩
      have e' : (upd H a (.lst [V.int x, .int y, .int (z + 1)])) a = some (.lst [V.int x, .int y, .int (z + 1)]) := upd_same
      have eS' := SqL.of (K := K) e'
      refine ⟨_, rfl, a, _, _, _, rfl, rfl, eS', g1 _ _ _, _, rfl, a, _, _, _, rfl, rfl, eS', g2 _ _ _, _, _, rfl, rfl, .inl ⟨by decide, by decide⟩, _, _, rfl, rfl, _, _, rfl, rfl, .inl ⟨_, rfl, _, _, rfl, rfl, ⟨by decide, by decide, by omega⟩, _, _, rfl, rfl, ne_lit (by decide), ?_⟩⟩
      have e3 := Int.fmod_eq_emod_of_nonneg ((y + 7919 * (z + 1) + 104729) ^ (5 : Int).toNat) (show (0 : Int) ≤ 2147483647 by decide)
      generalize (y + 7919 * (z + 1) + 104729) ^ (5 : Int).toNat = g at e3
      have b1 := Int.emod_nonneg g (show (2147483647 : Int) ≠ 0 by decide)
      have b2 := Int.emod_lt_of_pos g (show (0 : Int) < 2147483647 by decide)
      rw [← e3] at b1 b2
      generalize g.fmod 2147483647 = u at b1 b2
      refine ⟨_, rfl, _, rfl, a, _, _, _, rfl, rfl, eS', g2 _ _ _, _, _, rfl, rfl, _, _, rfl, rfl, .inl ⟨by omega, by omega⟩, .inl ⟨_, rfl, _, _, rfl, rfl, ne_lit (by decide), _, _, rfl, rfl, ⟨by decide, by decide⟩, _, rfl, _, _, rfl, rfl, by omega, ?_⟩⟩
      exact hq _ _ (fm_in _ hm).1 (fm_in _ hm).2 ⟨x, y, z + 1, upd_same, hx, hy, hy1, by omega, by omega⟩ fun b hb => upd_ne hb
end
end Ts

set_option maxRecDepth 100000
set_option maxHeartbeats 4000000
namespace Ts
open PySem L2
/-- an item of a list, or a sign of a text, that is drawn -/
def spPick (K : PySem.W.Frag) : Sp := fun vs H Q _ =>
  (∃ (a l : Addr) (n : Int) (xs : List V), vs = [.ref a, .ref l] ∧ Stm H a n ∧ n ≤ 1099511627776 ∧ l ≠ a ∧ SqL K H l xs ∧ 1 ≤ xs.length ∧ xs.length ≤ 1000000 ∧
    ∀ (v : V) (H' : Hp), v ∈ xs → Stm H' a (n + 1) → SB a H H' → (∀ b, H b = none → H' b = none) → Q v H') ∨
  (∃ (a : Addr) (z : Str) (n : Int), vs = [.ref a, .str z] ∧ Stm H a n ∧ n ≤ 1099511627776 ∧ 1 ≤ z.length ∧ z.length ≤ 1000000 ∧
    ∀ (c : Nat) (H' : Hp), c ∈ z.cps.toList → Stm H' a (n + 1) → SB a H H' → (∀ b, H b = none → H' b = none) → Q (.str ⟨#[c]⟩) H')
theorem sb_eq {a : Addr} {H H' : Hp} (h : ∀ b, b ≠ a → H' b = H b) : SB a H H' := fun b o n e => by rw [h b n]; exact e
theorem free_eq {a : Addr} {n : Int} {H H' : Hp} (s : Stm H a n) (h : ∀ b, b ≠ a → H' b = H b) (b : Addr) (hb : H b = none) : H' b = none := by rw [h b (s.ne hb).symm]; exact hb
/-- a name as it is drawn: 1, 2, 3 or 8 letters -/
def Low (z : Str) : Prop := ∀ c ∈ z.cps.toList, 97 ≤ c ∧ c ≤ 122
def Drawn (z : Str) : Prop := (z.length = 1 ∨ z.length = 2 ∨ z.length = 3 ∨ z.length = 8) ∧ Low z
def NameShape (z : Str) : Prop := ((z.length = 1 ∨ z.length = 2 ∨ z.length = 3 ∨ z.length = 8) ∨ z.length = 4) ∧ Low z
theorem Drawn.shape {z : Str} (h : Drawn z) : NameShape z := ⟨.inl h.1, h.2⟩
def spName : Sp := fun vs H Q _ => ∃ (a : Addr) (n : Int), vs = [.ref a] ∧ Stm H a n ∧ n ≤ 549755813888 ∧
  ∀ (z : Str) (H' : Hp), Drawn z → Stm H' a (n + 9) → SB a H H' → Q (.str z) H'
theorem abc_low : ∀ c ∈ ("abcdefghijklmnopqrstuvwxyz" : Str).cps.toList, 97 ≤ c ∧ c ≤ 122 := by decide +kernel
theorem abc_len : ("abcdefghijklmnopqrstuvwxyz" : Str).length = 26 := by decide +kernel
theorem join_empty : ∀ (ys : List Str), (Str.join ("" : Str) ys).cps.toList = (ys.map fun y => y.cps.toList).flatten
  | [] => rfl
  | [x] => by simp [Str.join]
  | x :: y :: r => by
    have ih := join_empty (y :: r)
    have e : ("" : Str).cps.toList = [] := by decide +kernel
    show ((x.cps ++ ("" : Str).cps) ++ (Str.join "" (y :: r)).cps).toList = _
    rw [Array.toList_append, Array.toList_append, ih, e]
    simp
theorem tYes_if {σ : St} {H : Hp} {A B : Hp → Prop} (h : A H) : tYes σ H (fun b H3 => if b = true then A H3 else B H3) := by
  show if true = true then A H else B H
  rw [if_pos rfl]
  exact h
/-- signs put together -/
def signs (cs : List Nat) : List Str := cs.map fun c => ⟨#[c]⟩
theorem join_signs (cs : List Nat) : (Txt.join ("" : Str) (signs cs)).cps.toList = cs := by
  rw [TL.join_eq, join_empty]
  unfold signs
  induction cs with
  | nil => rfl
  | cons c r ih =>
    simp only [List.map_cons, List.flatten_cons] at ih ⊢
    rw [ih]
    rfl
theorem len_toList (z : Str) : z.length = z.cps.toList.length := by simp [Str.length]
section
variable {P : Program} {w : World} {K : PySem.W.Frag} {mg : Str → Option Value} {base : Heap}
theorem sc_pick : FnScope ["_law_stream_here", "_law_things"] ["_law_stream_here", "_law_things"] (defScope s_L_pick) := ⟨rfl, rfl, rfl, by decide +kernel, rfl, by decide +kernel, by decide +kernel⟩
theorem ok_pick (D : DefAt K mg "_law_pick" s_L_pick ["_law_stream_here", "_law_things"]) (Dd : DefAt K mg "_law_draw" s_L_draw ["_law_stream_here", "_law_many"]) (B : TxB mg) : FnOk P w K mg base CX0 3 D.f D.fd ["_law_stream_here", "_law_things"] (spPick K) := by
  have G : FnOk P w K mg base CX0 2 Dd.f Dd.fd ["_law_stream_here", "_law_many"] spDraw := ok_draw Dd B
  refine D.F.ok sc_pick (fun vs H Q E h => ?_) (fun cdv A outer s H vs Q E hr h => ?_)
  · rcases h with ⟨a, l, n, xs, rfl, _⟩ | ⟨a, z, n, rfl, _⟩ <;> rfl
  · rcases h with ⟨a, l, n, xs, rfl, hs, hn, la, hl, h1, h2, hq⟩ | ⟨a, z, n, rfl, hs, hn, h1, h2, hq⟩
    · refine ⟨_, pss_one (ps_ret (pe_ix ix_list (pv 1) (pe_call G hr rfl Dd.g Dd.F.kp Dd.b .nil pass0 (pa_cons (pv 0) (pa_cons (pe_callB call_len_seq (by rfl) B.len PySem.boot_len (pa_cons (pv 1) pa_nil)) pa_nil))) (fun _ _ => rfl))), ?_⟩
      refine ⟨_, rfl, _, rfl, _, rfl, l, xs, rfl, .inl hl, a, xs.length, n, rfl, hs, hn, by omega, by omega, fun r H' r0 r1 hs' he => ?_⟩
      have hk : r.toNat < xs.length := by omega
      exact ⟨l, xs, r, xs[r.toNat], rfl, rfl, (sb_eq he).seqL la hl, at_of (j := r.toNat) (by omega) (List.getElem?_eq_getElem hk), hq _ _ (List.getElem_mem hk) hs' (sb_eq he) (free_eq hs he)⟩
    · refine ⟨_, pss_one (ps_ret (pe_item_str (pv 1) (pe_call G hr rfl Dd.g Dd.F.kp Dd.b .nil pass0 (pa_cons (pv 0) (pa_cons (pe_callB call_len (by rfl) B.len PySem.boot_len (pa_cons (pv 1) pa_nil)) pa_nil))) (fun _ _ => rfl))), ?_⟩
      refine ⟨_, rfl, _, rfl, _, rfl, _, z.length, rfl, ⟨Nat.le_trans h2 (by decide), rfl⟩, a, z.length, n, rfl, hs, hn, by omega, by omega, fun r H' r0 r1 hs' he => ?_⟩
      have hk : r.toNat < z.cps.size := by
        have : z.length = z.cps.size := rfl
        omega
      exact ⟨z, r, z.cps[r.toNat], rfl, rfl, r0, by omega, r1, Array.getElem?_eq_getElem hk, hq _ _ (by simp) hs' (sb_eq he) (free_eq hs he)⟩
theorem sc_name : FnScope ["_law_stream_here", "_law_size", "_law_k"] ["_law_stream_here"] (defScope s_L_name) := ⟨rfl, rfl, rfl, by decide +kernel, rfl, by decide +kernel, by decide +kernel⟩
theorem ok_name (D : DefAt K mg "_law_name" s_L_name ["_law_stream_here"]) (Dp : DefAt K mg "_law_pick" s_L_pick ["_law_stream_here", "_law_things"]) (Dd : DefAt K mg "_law_draw" s_L_draw ["_law_stream_here", "_law_many"]) (B : TxB mg) :
    FnOk P w K mg base CX0 4 D.f D.fd ["_law_stream_here"] spName := by
  have Gd : FnOk P w K mg base CX0 2 Dd.f Dd.fd ["_law_stream_here", "_law_many"] spDraw := ok_draw Dd B
  have Gp : FnOk P w K mg base CX0 3 Dp.f Dp.fd ["_law_stream_here", "_law_things"] (spPick K) := ok_pick Dp Dd B
  refine D.F.ok sc_name (fun vs H Q E h => ?_) (fun cdv A outer s H vs Q E hr h => ?_)
  · obtain ⟨a, n, rfl, _⟩ := h
    rfl
  · obtain ⟨a, n, rfl, hs, hn, hq⟩ := h
    refine ⟨_, pss_cons (ps_set (i := 1) sc_name.nd rfl (.inl rfl) (pe_ix ix_list (pe_lst (pa_cons pe_int (pa_cons pe_int (pa_cons pe_int (pa_cons pe_int (pa_cons pe_int pa_nil)))))) (pe_call Gd (hr.mono (by decide)) rfl Dd.g Dd.F.kp Dd.b .nil pass0 (pa_cons (pv 0) (pa_cons pe_int pa_nil))) (fun _ _ => rfl)))
      (pss_one (ps_ret (pe_join pe_str (pe_lc (own := [("_law_k", 2)]) (g := gName 2) (tt := tYes) (by rfl) sc_name.nd (pi_range1 (by rfl) B.range (pa_cons (pv 1) pa_nil)) (blkOk_by (N := ["_law_stream_here", "_law_size", "_law_k"]) (sc := defScope s_L_name) (by decide +kernel))
        (fun _ _ _ _ _ => pg_name (i := 2) sc_name.nd rfl (Or.inl rfl)) (fun _ _ _ _ _ => pts_nil) (fun _ _ _ _ _ => pe_call Gp hr rfl Dp.g Dp.F.kp Dp.b .nil pass0 (pa_cons (pv 0) (pa_cons pe_str pa_nil))))))), ?_⟩
    refine ⟨(by show 5 ≤ sizeLine; decide), fun l hl => ?_⟩
    refine ⟨_, rfl, a, 5, n, rfl, hs.upd hl, by omega, by decide, by decide, fun r H1 r0 r1 hs1 he1 => ?_⟩
    have la : l ≠ a := (hs.ne hl).symm
    have e1 : H1 l = some (.lst [V.int 1, .int 1, .int 2, .int 3, .int 8]) := by rw [he1 l la]; exact upd_same
    have sb1 : SB a H H1 := (SB.upd hl).trans (sb_eq he1)
    obtain ⟨m, hm, hm4⟩ : ∃ m : Int, atI [V.int 1, .int 1, .int 2, .int 3, .int 8] r = some (.int m) ∧ (m = 1 ∨ m = 2 ∨ m = 3 ∨ m = 8) := by
      obtain rfl | rfl | rfl | rfl | rfl : r = 0 ∨ r = 1 ∨ r = 2 ∨ r = 3 ∨ r = 4 := by omega
      · exact ⟨1, rfl, by decide⟩
      · exact ⟨1, rfl, by decide⟩
      · exact ⟨2, rfl, by decide⟩
      · exact ⟨3, rfl, by decide⟩
      · exact ⟨8, rfl, by decide⟩
    refine ⟨l, _, r, .int m, rfl, rfl, SqL.of e1, hm, ⟨_, rfl⟩, ?_⟩
    refine ⟨_, rfl, m, rfl, by omega, by omega, fun Dl hD => ?_⟩
    refine lc_range (lo := 0) (n := m.toNat) (fun i H2 => ∃ cs : List Nat, cs.length = i ∧ (∀ c ∈ cs, 97 ≤ c ∧ c ≤ 122) ∧ H2 Dl = some (.lst ((signs cs).map V.str)) ∧ Stm H2 a (n + 1 + i) ∧ SB a H1 H2) ?_ ?_ ?_
    · exact ⟨[], rfl, (fun c hc => by cases hc), upd_same, (by simpa using hs1.upd (o := .lst []) hD), SB.upd hD⟩
    · rintro i H2 hi ⟨cs, hcl, hlow, hDl, hs2, sb2⟩
      refine ⟨rfl, tYes_if ?_⟩
      have Da : Dl ≠ a := (hs1.ne hD).symm
      refine ⟨_, rfl, .inr ⟨a, _, _, rfl, hs2, by omega, by rw [abc_len]; decide, by rw [abc_len]; decide, fun c H3 hc hs3 sb3 _ => ?_⟩⟩
      refine ⟨(signs cs).map V.str, sb3 _ _ Da hDl, ?_, cs ++ [c], by simp [hcl], ?_, ?_, ?_, ?_⟩
      · rw [List.length_map]
        unfold signs
        rw [List.length_map, hcl]
        exact Nat.lt_of_lt_of_le hi (Nat.le_trans (show m.toNat ≤ 8 by omega) (by decide))
      · intro d hd
        rcases List.mem_append.mp hd with h | h
        · exact hlow d h
        · rw [List.mem_singleton.mp h]; exact abc_low c hc
      · rw [upd_same]; simp [signs]
      · have q := hs3
        obtain ⟨x, y, z, e, r⟩ := q
        refine ⟨x, y, z, ?_, r.1, r.2.1, r.2.2.1, r.2.2.2.1, by have := r.2.2.2.2; push_cast; omega⟩
        rw [upd_ne Da.symm]; exact e
      · intro b o hb e
        rw [upd_ne (fun q => by rw [q, hD] at e; cases e)]
        exact sb3 b o hb (sb2 b o hb e)
    · rintro H2 ⟨cs, hcl, hlow, hDl, hs2, sb2⟩
      refine ⟨_, Dl, signs cs, rfl, rfl, .inl (SqL.of hDl), ?_, ?_⟩
      · have e0 : ("" : Str).length = 0 := by decide +kernel
        rw [e0]
        have : ((signs cs).map (·.length)).sum = cs.length := by
          unfold signs
          clear hDl hcl hlow
          induction cs with
          | nil => rfl
          | cons c r ih => simp only [List.map_cons, List.sum_cons, ih, List.length_cons]; show 1 + r.length = r.length + 1; omega
        rw [this, hcl]; omega
      · refine hq _ _ ⟨?_, ?_⟩ (hs2.mono (by omega)) (sb1.trans sb2)
        · rw [len_toList, join_signs, hcl]; omega
        · intro c hc
          rw [join_signs] at hc
          exact hlow c hc
end
end Ts

set_option maxRecDepth 100000
set_option maxHeartbeats 4000000
namespace Ts
open PySem L2
/-! ### rows of trees -/
structure Row where
  nm : Str
  fo : Str
  ki : Str
  pr : Option Int
  deriving DecidableEq
def prV : Option Int → V
  | none => .non
  | some i => .int i
def rowVs (r : Row) : List V := [.str r.nm, .str r.fo, .str r.ki, prV r.pr]
structure RowsAt (H : Hp) (as : List Addr) (rs : List Row) : Prop where
  len : as.length = rs.length
  at_ : ∀ (i : Nat) (a : Addr) (r : Row), as[i]? = some a → rs[i]? = some r → H a = some (.tup (rowVs r))
theorem RowsAt.same {H H' : Hp} {as : List Addr} {rs : List Row} (h : RowsAt H as rs) (s : Same H H') : RowsAt H' as rs := ⟨h.len, fun i a r ha hr => s _ _ (h.at_ i a r ha hr)⟩
theorem RowsAt.sb {H H' : Hp} {as : List Addr} {rs : List Row} {p : Addr} {xs : List V} (h : RowsAt H as rs) (hp : H p = some (.lst xs)) (s : SB p H H') : RowsAt H' as rs :=
  ⟨h.len, fun i a r ha hr => s _ _ (fun q => by have e := h.at_ i a r ha hr; rw [q, hp] at e; cases e) (h.at_ i a r ha hr)⟩
theorem RowsAt.nil {H : Hp} : RowsAt H [] [] := ⟨rfl, fun i a r ha => by simp at ha⟩
theorem RowsAt.snoc {H : Hp} {as : List Addr} {rs : List Row} {a : Addr} {r : Row} (h : RowsAt H as rs) (ha : H a = some (.tup (rowVs r))) : RowsAt H (as ++ [a]) (rs ++ [r]) := by
  refine ⟨by simp [h.len], fun i b q hb hq => ?_⟩
  rcases Nat.lt_or_ge i as.length with hi | hi
  · rw [List.getElem?_append_left hi] at hb
    rw [List.getElem?_append_left (h.len ▸ hi)] at hq
    exact h.at_ i b q hb hq
  · rw [List.getElem?_append_right hi] at hb
    rw [List.getElem?_append_right (h.len ▸ hi)] at hq
    have e0 : i - as.length = 0 := by
      have := (List.getElem?_eq_some_iff.mp hb).1
      simp at this
      omega
    have e1 : i - rs.length = 0 := by rw [← h.len]; exact e0
    rw [e0] at hb
    rw [e1] at hq
    simp at hb hq
    subst hb; subst hq
    exact ha
def kinds3 : List Str := ["folder", "item", "shut"]
def PriceOk : Option Int → Prop
  | none => True
  | some i => 1 ≤ i
/-- what a row must be behind others -/
structure Fits (pre : List Row) (r : Row) : Prop where
  shape : NameShape r.nm
  top : r.nm ≠ ("top" : Str)
  new : r.nm ∉ pre.map (·.nm)
  home : r.fo = ("top" : Str) ∨ ∃ q ∈ pre, q.nm = r.fo ∧ q.ki = ("folder" : Str)
  kind : r.ki ∈ kinds3
  price : PriceOk r.pr
def Valid (rs : List Row) : Prop := ∀ i r, rs[i]? = some r → Fits (rs.take i) r
theorem Valid.nil : Valid [] := fun i r h => by simp at h
theorem Valid.snoc {rs : List Row} {r : Row} (h : Valid rs) (f : Fits rs r) : Valid (rs ++ [r]) := by
  intro i q hq
  rcases Nat.lt_or_ge i rs.length with hi | hi
  · rw [List.getElem?_append_left hi] at hq
    rw [List.take_append_of_le_length (Nat.le_of_lt hi)]
    exact h i q hq
  · rw [List.getElem?_append_right hi] at hq
    have e0 : i - rs.length = 0 := by
      have := (List.getElem?_eq_some_iff.mp hq).1
      simp at this
      omega
    rw [e0] at hq
    simp at hq
    subst hq
    have e : i = rs.length := by omega
    rw [e, List.take_append_of_le_length (Nat.le_refl _), List.take_length]
    exact f
/-! ### looking for texts in lists -/
theorem eqV_str (x y : Str) : eqV (.str x) (.str y) = decide (x = y) := by
  by_cases h : x = y
  · subst h
    simp [eqV]
  · simp [eqV, h]
theorem inV_strs (z : Str) : ∀ l : List Str, inV (.str z) (l.map V.str) = decide (z ∈ l)
  | [] => by simp [inV]
  | x :: l => by
    have ih := inV_strs z l
    unfold inV at ih ⊢
    rw [List.map_cons, List.any_cons, ih, eqV_str]
    by_cases h : x = z
    · subst h; simp
    · have h' : ¬ z = x := fun e => h e.symm
      simp [h, h']
theorem flat_strs (l : List Str) : (l.map V.str).all flatV = true := by
  rw [List.all_eq_true]
  intro v hv
  obtain ⟨z, _, rfl⟩ := List.mem_map.mp hv
  rfl
theorem low_cat {x y : Str} (hx : Low x) (hy : Low y) : Low (x ++ y) := by
  intro c hc
  have e : (x ++ y).cps.toList = x.cps.toList ++ y.cps.toList := by
    show (x.cps ++ y.cps).toList = _
    simp
  rw [e] at hc
  rcases List.mem_append.mp hc with h | h
  · exact hx c h
  · exact hy c h
theorem len_cat (x y : Str) : (x ++ y).length = x.length + y.length := by
  show (x.cps ++ y.cps).size = _
  simp [Str.length]
end Ts
namespace Ts
open PySem L2
/-! ### dicts by what they have -/
structure MemD (H : Hp) (d : Addr) (l : List Str) : Prop where
  ex : ∃ kv : List (Key × V), H d = some (.dK kv) ∧ (∀ z : Str, (valV kv (.inr z : Key)).isSome = decide (z ∈ l)) ∧ kv.length ≤ l.length
theorem MemD.same {H H' : Hp} {d : Addr} {l : List Str} (m : MemD H d l) (e : H' d = H d) : MemD H' d l := by
  obtain ⟨kv, h⟩ := m.ex
  exact ⟨kv, by rw [e]; exact h⟩
theorem putK_le (kv : List (Key × V)) (k : Key) (v : V) : (putK kv k v).length ≤ kv.length + 1 := by
  unfold putK
  split
  · rw [List.length_map]; exact Nat.le_succ _
  · rw [List.length_append, List.length_singleton]; exact Nat.le_refl _
theorem mem_put {kv : List (Key × V)} {l : List Str} (h : ∀ z : Str, (valV kv (.inr z : Key)).isSome = decide (z ∈ l)) (x : Str) (v : V) (z : Str) : (valV (putK kv (.inr x) v) (.inr z : Key)).isSome = decide (z ∈ l ++ [x]) := by
  rw [valV_put]
  by_cases e : z = x
  · subst e
    simp
  · have e' : ¬ (Sum.inr z : Key) = Sum.inr x := fun q => e (Sum.inr.inj q)
    rw [if_neg e', h z]
    simp [e]
theorem MemD.put {H : Hp} {d : Addr} {l : List Str} {kv : List (Key × V)} (hk : ∀ z : Str, (valV kv (.inr z : Key)).isSome = decide (z ∈ l)) (hl : kv.length ≤ l.length) (x : Str) (v : V) : MemD (upd H d (.dK (putK kv (.inr x) v))) d (l ++ [x]) :=
  ⟨_, upd_same, mem_put hk x v, by have := putK_le kv (.inr x) v; rw [List.length_append, List.length_singleton]; omega⟩
/-- rows as tuples or lists -/
structure SeqRows (H : Hp) (as : List Addr) (rs : List Row) : Prop where
  len : as.length = rs.length
  at_ : ∀ (i : Nat) (a : Addr) (r : Row), as[i]? = some a → rs[i]? = some r → H a = some (.tup (rowVs r)) ∨ H a = some (.lst (rowVs r))
theorem SeqRows.same {H H' : Hp} {as : List Addr} {rs : List Row} (h : SeqRows H as rs) (s : Same H H') : SeqRows H' as rs := ⟨h.len, fun i a r ha hr => (h.at_ i a r ha hr).imp (s _ _) (s _ _)⟩
theorem RowsAt.seq {H : Hp} {as : List Addr} {rs : List Row} (h : RowsAt H as rs) : SeqRows H as rs := ⟨h.len, fun i a r ha hr => .inl (h.at_ i a r ha hr)⟩
/-- what a row must be behind others, names and folders that stand already -/
structure FitsB (ns hs : List Str) (pre : List Row) (r : Row) : Prop where
  shape : NameShape r.nm
  top : r.nm ≠ ("top" : Str)
  new : r.nm ∉ ns ++ pre.map (·.nm)
  home : r.fo ∈ hs ++ (pre.filter fun q => decide (q.ki = ("folder" : Str))).map (·.nm)
  kind : r.ki ∈ kinds3
  price : PriceOk r.pr
theorem Fits.b {pre : List Row} {r : Row} (f : Fits pre r) : FitsB [] [("top" : Str)] pre r :=
  ⟨f.shape, f.top, by simpa using f.new, by
    rcases f.home with h | ⟨q, hq, h1, h2⟩
    · rw [h]; simp
    · refine List.mem_append.mpr (.inr (List.mem_map.mpr ⟨q, List.mem_filter.mpr ⟨hq, decide_eq_true h2⟩, h1⟩)), f.kind, f.price⟩
end Ts

set_option maxRecDepth 100000
set_option maxHeartbeats 4000000
namespace Ts
open PySem L2
def kindsL : List Str := ["folder", "folder", "item", "item", "item", "shut"]
def pricesL : List (Option Int) := [some 1, some 1, some 1, some 2, some 3, some 7, none]
def spKinds : Sp := fun vs H Q _ => vs = [] ∧ ∀ p, H p = none → Q (.ref p) (upd H p (.lst (kindsL.map V.str)))
def spPrices : Sp := fun vs H Q _ => vs = [] ∧ ∀ p, H p = none → Q (.ref p) (upd H p (.lst (pricesL.map prV)))
/-- the rows of a drawn tree: n mixed draws before, at most 13 more a row -/
def spRows (K : PySem.W.Frag) : Sp := fun vs H Q _ => ∃ (a kl pl : Addr) (many n : Int) (ks : List Str) (ps : List (Option Int)), vs = [.ref a, .int many, .ref kl, .ref pl] ∧ Stm H a n ∧ n ≤ 549755800000 ∧ 0 ≤ many ∧ many ≤ 40 ∧ kl ≠ a ∧ pl ≠ a ∧
  SqL K H kl (ks.map V.str) ∧ SqL K H pl (ps.map prV) ∧ 1 ≤ ks.length ∧ ks.length ≤ 1000 ∧ 1 ≤ ps.length ∧ ps.length ≤ 1000 ∧ (∀ k ∈ ks, k ∈ kinds3) ∧ (∀ q ∈ ps, PriceOk q) ∧
  ∀ (p : Addr) (as : List Addr) (rs : List Row) (H' : Hp), H p = none → p ≠ a → H' p = some (.lst (as.map V.ref)) → RowsAt H' as rs → Valid rs → (rs.length : Int) ≤ many → (∀ r ∈ rs, r.ki ∈ ks ∧ r.pr ∈ ps ∧ Drawn r.nm) → SB a H H' → Stm H' a (n + 13 * many) → Q (.ref p) H'
def folderNames (rs : List Row) : List Str := (rs.filter fun r => decide (r.ki = ("folder" : Str))).map (·.nm)
theorem top_len : ("top" : Str).length = 3 := by decide +kernel
theorem mem_cutV {xs : List V} {lo hi : Option Int} {v : V} (h : v ∈ cutV xs lo hi) : v ∈ xs := List.mem_of_mem_drop (List.mem_of_mem_take h)
theorem seq_ref {K : PySem.W.Frag} {H H' : Hp} {l : Addr} {xs : List V} (e : H' l = H l) (h : SqL K H l xs) : SqL K H' l xs := by
  rcases h with (h | ⟨o, h⟩) | h
  · exact .inl (.inl (by rw [e]; exact h))
  · exact .inl (.inr ⟨o, by rw [e]; exact h⟩)
  · exact .inr h
section
variable {P : Program} {w : World} {K : PySem.W.Frag} {mg : Str → Option Value} {base : Heap}
abbrev nRows : List Str := ["_law_stream_here", "_law_many", "_law_kinds", "_law_prices", "_law_rows_here", "_law_folders", "_law_names", "_law_k", "_law_name_here", "_law_kind", "_law_folder"]
theorem sc_rows : FnScope nRows ["_law_stream_here", "_law_many", "_law_kinds", "_law_prices"] (defScope s_L_rows) := ⟨rfl, rfl, rfl, by decide +kernel, rfl, by decide +kernel, by decide +kernel⟩
/-- what stands between two turns -/
structure RowsI (a p fl nl : Addr) (H0 H : Hp) (ks : List Str) (ps : List (Option Int)) (m : Int) (i : Nat) (as : List Addr) (rs : List Row) : Prop where
  hp : H p = some (.lst (as.map V.ref))
  hf : H fl = some (.lst ((("top" : Str) :: folderNames rs).map V.str))
  hn : H nl = some (.lst ((("top" : Str) :: rs.map (·.nm)).map V.str))
  rows : RowsAt H as rs
  val : Valid rs
  len : rs.length ≤ i
  mem : ∀ r ∈ rs, r.ki ∈ ks ∧ r.pr ∈ ps ∧ Drawn r.nm
  sb : SB a H0 H
  st : Stm H a m
theorem RowsI.step {a p fl nl : Addr} {H0 H H' : Hp} {ks : List Str} {ps : List (Option Int)} {m m' : Int} {i j : Nat} {as : List Addr} {rs : List Row} (h : RowsI a p fl nl H0 H ks ps m i as rs) (np : p ≠ a) (nf : fl ≠ a) (nn : nl ≠ a) (s : SB a H H') (hs : Stm H' a m') (hj : i ≤ j) :
    RowsI a p fl nl H0 H' ks ps m' j as rs := by
  obtain ⟨x, y, z, e, _⟩ := id h.st
  exact ⟨s _ _ np h.hp, s _ _ nf h.hf, s _ _ nn h.hn, h.rows.sb e s, h.val, Nat.le_trans h.len hj, h.mem, h.sb.trans s, hs⟩
theorem sign_at {z : Str} (h : Low z) {r : Int} (h0 : 0 ≤ r) (h1 : r < (z.length : Int)) : ∃ c, z.cps[r.toNat]? = some c ∧ Low ⟨#[c]⟩ := by
  have hk : r.toNat < z.cps.size := by
    have : z.length = z.cps.size := rfl
    omega
  refine ⟨z.cps[r.toNat], Array.getElem?_eq_getElem hk, fun c hc => ?_⟩
  have e : c = z.cps[r.toNat] := by simpa using hc
  rw [e]
  exact h _ (by simp)
theorem low_q : Low ("q" : Str) := by unfold Low; decide +kernel
theorem low_aj : Low ("abcdefghij" : Str) := by unfold Low; decide +kernel
theorem low_kp : Low ("klmnop" : Str) := by unfold Low; decide +kernel
theorem len_q : ("q" : Str).length = 1 := by decide +kernel
theorem len_aj : ("abcdefghij" : Str).length = 10 := by decide +kernel
theorem len_kp : ("klmnop" : Str).length = 6 := by decide +kernel
theorem szl {n : Nat} (h : n ≤ 1000) : n ≤ sizeLine := Nat.le_of_lt (small1000 h)
theorem folders_le (rs : List Row) : (folderNames rs).length ≤ rs.length := by
  unfold folderNames
  rw [List.length_map]
  exact List.length_filter_le _ _
theorem mem_folders {rs : List Row} {z : Str} (h : z ∈ folderNames rs) : ∃ q ∈ rs, q.nm = z ∧ q.ki = ("folder" : Str) := by
  obtain ⟨q, hq, e⟩ := List.mem_map.mp h
  obtain ⟨h1, h2⟩ := List.mem_filter.mp hq
  exact ⟨q, h1, e, of_decide_eq_true h2⟩
theorem folders_snoc (rs : List Row) (r : Row) : folderNames (rs ++ [r]) = folderNames rs ++ (if r.ki = ("folder" : Str) then [r.nm] else []) := by
  unfold folderNames
  rw [List.filter_append, List.map_append]
  by_cases h : r.ki = ("folder" : Str)
  · rw [if_pos h]; simp [h]
  · rw [if_neg h]; simp [h]
end
end Ts

set_option maxRecDepth 100000
set_option maxHeartbeats 4000000
namespace Ts
open PySem L2
theorem abc_uni : ∀ c ∈ List.range' 97 26, Unicode.isAlpha c = true ∧ Unicode.isLower c = true ∧ Unicode.isUpper c = false ∧ Unicode.isTitle c = false := by decide +kernel
theorem uni {c : Nat} (h : 97 ≤ c ∧ c ≤ 122) : Unicode.isAlpha c = true ∧ Unicode.isLower c = true ∧ Unicode.isUpper c = false ∧ Unicode.isTitle c = false :=
  abc_uni c (List.mem_range'_1.mpr ⟨h.1, by omega⟩)
theorem low_ascii {z : Str} (h : Low z) : Txt.isascii z = true := by
  unfold Txt.isascii
  rw [← Array.all_toList, List.all_eq_true]
  intro c hc
  have := h c hc
  simp; omega
theorem low_alpha {z : Str} (h : Low z) (h1 : 1 ≤ z.length) : Txt.isalpha z = true := by
  unfold Txt.isalpha
  rw [← Array.all_toList, Bool.and_eq_true, List.all_eq_true]
  exact ⟨decide_eq_true (by omega), fun c hc => (uni (h c hc)).1⟩
theorem low_lower {z : Str} (h : Low z) (h1 : 1 ≤ z.length) : Txt.islower z = true := by
  unfold Txt.islower
  rw [← Array.any_toList, ← Array.any_toList, Bool.and_eq_true]
  refine ⟨?_, ?_⟩
  · rw [List.any_eq_true]
    have hl : 0 < z.cps.toList.length := by rw [← len_toList]; omega
    exact ⟨z.cps.toList[0], List.getElem_mem hl, (uni (h _ (List.getElem_mem hl))).2.1⟩
  · rw [Bool.not_eq_true', List.any_eq_false]
    intro c hc
    have := uni (h c hc)
    simp [this.2.2.1, this.2.2.2]
theorem NameShape.pos {z : Str} (h : NameShape z) : 1 ≤ z.length ∧ z.length ≤ 8 := by have := h.1; omega
structure TxC (K : PySem.W.Frag) (mg : Str → Option Value) where
  top : ∃ t, mg "TOP" = some (.str "top" t)
  folder : ∃ t, mg "FOLDER" = some (.str "folder" t)
  long : ∃ t, mg "LONGEST_NAME" = some (.int 8 t)
  kindsA : Addr
  kinds : mg "KINDS" = some (.ref kindsA)
  num : DefAt K mg "is_number" s_is_number ["thing", "least"]
  kindsT : ∃ (o : Obj) (its : Array Value) (n : Nat), K.lookup kindsA = some o ∧ o.cls = .type "tuple" ∧ o.data = .seq its n ∧ its.size ≤ sizeLine ∧ Vals (kinds3.map V.str) its.toList
def spIsName : Sp := fun vs H Q _ => ∃ z, vs = [.str z] ∧ NameShape z ∧ z ≠ ("top" : Str) ∧ Q (.bl true) H
def spIsNumber : Sp := fun vs H Q _ => ∃ i n : Int, vs = [.int i, .int n] ∧ Q (.bl (decide (n ≤ i))) H
def spIsPrice : Sp := fun vs H Q _ => ∃ o, vs = [prV o] ∧ PriceOk o ∧ Q (.bl true) H
section
variable {P : Program} {w : World} {K : PySem.W.Frag} {mg : Str → Option Value} {base : Heap}
theorem sc_is_name : FnScope ["thing"] ["thing"] (defScope s_is_name) := ⟨rfl, rfl, rfl, by decide +kernel, rfl, by decide +kernel, by decide +kernel⟩
theorem ok_is_name (D : DefAt K mg "is_name" s_is_name ["thing"]) (B : TxB mg) (C : TxC K mg) : FnOk P w K mg base CX0 2 D.f D.fd ["thing"] spIsName := by
  obtain ⟨t1, gT⟩ := C.top
  obtain ⟨t2, gL⟩ := C.long
  refine D.F.ok sc_is_name (fun vs H Q E h => ?_) (fun cdv A outer s H vs Q E hr h => ?_)
  · obtain ⟨z, rfl, _⟩ := h
    rfl
  · obtain ⟨z, rfl, hz, ht, hq⟩ := h
    refine ⟨_, pss_cons (ps_if (PW.pt (pw_or (pt_not (pt_val (pe_callB call_isi (by rfl) B.isinstance (by decide +kernel) (pa_cons (pv 0) (pa_cons (pe_bltn (by rfl) B.str (by decide +kernel) (v := .ty "str") rfl) pa_nil)))))
        (pw_or (pt_cmpR op_eq (pv 0) (pe_glob (by rfl) gT (v := .str ("top" : Str)) ⟨_, rfl⟩) (nomark _)) (pw_or1 (pt_cmpR op_gt (pe_callB call_len (by rfl) B.len PySem.boot_len (pa_cons (pv 0) pa_nil)) (pe_glob (by rfl) gL (v := .int 8) ⟨_, rfl⟩) (nomark _)))))) (pss_one (ps_ret pe_bl)) pss_nil)
      (pss_one (ps_ret (pe_and (pe_m0 PySem.F.slot_str_isascii PySem.F.type_str_isascii mt_isascii (pv 0)) (pe_and (pe_m0 PySem.F.slot_str_isalpha PySem.F.type_str_isalpha mt_isalpha (pv 0)) (pe_one (pe_m0 PySem.F.slot_str_islower PySem.F.type_str_islower mt_islower (pv 0))))))), ?_⟩
    have hp := hz.pos
    refine ⟨_, rfl, _, _, _, _, true, rfl, .ty "str", .base (.str z), kit_ty (by decide +kernel), _, rfl, iteF ?_⟩
    refine ⟨_, rfl, rfl, _, rfl, ?_⟩
    rw [decide_eq_false (fun q => ht (V.str.inj q))]
    refine iteF ?_
    refine ⟨_, rfl, _, z.length, rfl, ⟨szl (by omega), rfl⟩, _, _, rfl, rfl, _, rfl, ?_⟩
    rw [decide_eq_false (by omega)]
    refine iteF ?_
    refine ⟨_, rfl, ⟨_, rfl⟩, _, rfl, rfl, trivial, _, rfl, ?_⟩
    rw [low_ascii hz.2]
    refine iteT ⟨_, rfl, ⟨_, rfl⟩, _, rfl, rfl, trivial, _, rfl, ?_⟩
    rw [low_alpha hz.2 hp.1]
    refine iteT ⟨_, rfl, ⟨_, rfl⟩, _, rfl, rfl, trivial, ?_⟩
    rw [low_lower hz.2 hp.1]
    exact hq
theorem sc_is_number : FnScope ["thing", "least"] ["thing", "least"] (defScope s_is_number) := ⟨rfl, rfl, rfl, by decide +kernel, rfl, by decide +kernel, by decide +kernel⟩
theorem ok_is_number (D : DefAt K mg "is_number" s_is_number ["thing", "least"]) (B : TxB mg) : FnOk P w K mg base CX0 1 D.f D.fd ["thing", "least"] spIsNumber := by
  refine D.F.ok sc_is_number (fun vs H Q E h => ?_) (fun cdv A outer s H vs Q E hr h => ?_)
  · obtain ⟨z, n, rfl, _⟩ := h
    rfl
  · obtain ⟨i, n, rfl, hq⟩ := h
    refine ⟨_, (pss_one (ps_ret (pe_and (pe_callB call_isi (by rfl) B.isinstance (by decide +kernel) (pa_cons (pv 0) (pa_cons (pe_bltn (by rfl) B.int (by decide +kernel) (v := .ty "int") rfl) pa_nil)))
        (pe_and (pe_not (pe_callB call_isi (by rfl) B.isinstance (by decide +kernel) (pa_cons (pv 0) (pa_cons (pe_bltn (by rfl) B.bool (by decide +kernel) (v := .ty "bool") rfl) pa_nil)))) (pe_one (pe_cmpR op_ge (pv 0) (pv 1) (nomark _))))))), ?_⟩
    refine ⟨_, rfl, _, _, _, _, true, rfl, .ty "int", .base (.int i), kit_ty (by decide +kernel), _, rfl, iteT ?_⟩
    refine ⟨_, rfl, _, _, _, _, false, rfl, .ty "bool", .base (.int i), kit_ty (by decide +kernel), _, rfl, _, rfl, iteT ?_⟩
    exact ⟨_, rfl, _, rfl, _, _, rfl, rfl, hq⟩
theorem sc_is_price : FnScope ["thing"] ["thing"] (defScope s_is_price) := ⟨rfl, rfl, rfl, by decide +kernel, rfl, by decide +kernel, by decide +kernel⟩
theorem ok_is_price (D : DefAt K mg "is_price" s_is_price ["thing"]) (B : TxB mg) (C : TxC K mg) : FnOk P w K mg base CX0 2 D.f D.fd ["thing"] spIsPrice := by
  have Gn : FnOk P w K mg base CX0 1 C.num.f C.num.fd ["thing", "least"] spIsNumber := ok_is_number C.num B
  refine D.F.ok sc_is_price (fun vs H Q E h => ?_) (fun cdv A outer s H vs Q E hr h => ?_)
  · obtain ⟨z, rfl, _⟩ := h
    rfl
  · obtain ⟨o, rfl, ho, hq⟩ := h
    refine ⟨_, (pss_one (ps_ret (pe_or (pe_cmpR op_isN (pv 0) pe_non (nomark _)) (pe_one (pe_call Gn hr rfl C.num.g C.num.F.kp C.num.b .nil pass0 (pa_cons (pv 0) (pa_cons pe_int pa_nil))))))), ?_⟩
    cases o with
    | none =>
      refine ⟨_, rfl, rfl, _, rfl, ?_⟩
      exact iteT hq
    | some i =>
      refine ⟨_, rfl, rfl, _, rfl, ?_⟩
      refine iteF ⟨_, rfl, i, 1, rfl, ?_⟩
      have hi : 1 ≤ i := ho
      rw [decide_eq_true hi]
      exact hq
end
end Ts

set_option maxRecDepth 100000
set_option maxHeartbeats 4000000
namespace Ts
open PySem L2
theorem kit_seqL {K : PySem.W.Frag} : PySem.W.kitAny K (.type "list") [.type "list", .type "tuple"] = some true := kitAny_cons (b := true) (kit_ty (by decide +kernel)) (fun e => nomatch e) fun _ => rfl
theorem kit_seqT {K : PySem.W.Frag} : PySem.W.kitAny K (.type "tuple") [.type "list", .type "tuple"] = some true := kitAny_cons (b := false) (kit_ty (by decide +kernel)) (fun _ => kitAny_cons (b := true) (kit_ty (by decide +kernel)) (fun e => nomatch e) fun _ => rfl) fun e => nomatch e
/-- a list or a tuple, made at run time -/
def Seq (H : Hp) (a : Addr) (xs : List V) : Prop := H a = some (.tup xs) ∨ H a = some (.lst xs)
theorem Seq.same {H H' : Hp} {a : Addr} {xs : List V} (h : Seq H a xs) (s : Same H H') : Seq H' a xs := h.imp (s _ _) (s _ _)
theorem Seq.ty {K : PySem.W.Frag} {H : Hp} {a : Addr} {xs : List V} (h : Seq H a xs) : ∃ t, TyX K H (.ref a) t ∧ PySem.W.kitAny K t [.type "list", .type "tuple"] = some true := by
  rcases h with h | h
  · exact ⟨_, .base (.tup h), kit_seqT⟩
  · exact ⟨_, .base (.lst h), kit_seqL⟩
theorem Seq.or {K : PySem.W.Frag} {H : Hp} {a : Addr} {xs : List V} (h : Seq H a xs) : SqL K H a xs ∨ SqT K H a xs := by
  rcases h with h | h
  · exact .inr (.inl (.inl h))
  · exact .inl (SqL.of h)
theorem sqT {K : PySem.W.Frag} {H : Hp} {a : Addr} {xs : List V} (h : H a = some (.tup xs)) : SqT K H a xs := .inl (.inl h)
/-- enumerate(x), x a list or a tuple in slot i -/
def iEnumS (i : Nat) : TI := fun σ H R => ∃ (a : Addr) (xs : List V), σ[i]? = some (some (.ref a)) ∧ Seq H a xs ∧ ∀ J, Walk J xs.length (fun H' => H' a = H a) (YPair (fun j => some (.int (j : Nat))) (fun j => xs[j]?)) → R J H
theorem pi_enumS {X : Cx} {x : Str} {px : Pos} {i : Nat} {p pos tpos : Pos} {elts : List Expr} {kk : Nat} (hg : Gl X "enumerate") (hm : X.mg "enumerate" = none) (he : PE X (.Name x px) (tVar i)) :
    PI X (.Tuple elts kk tpos) (.Call (.Name "enumerate" p) [.Name x px] [] pos) (iEnumS i) := by
  refine ⟨fun pins s σ H R I h => ?_⟩
  obtain ⟨a, xs, e1, hq, k⟩ := h
  rcases hq with hq | hq
  · exact (pi_enumT hg hm (pa_cons he pa_nil)).run pins s σ H R I ⟨_, e1, a, xs, rfl, sqT hq, k _ (walk_enumT.mono (fun H' e => sqT (e.trans hq)) fun _ _ _ _ _ _ y => y)⟩
  · exact (pi_enum hg hm (pa_cons he pa_nil)).run pins s σ H R I ⟨_, e1, a, xs, rfl, SqL.of hq, k _ (walk_enum.mono (fun H' e => SqL.of (e.trans hq)) fun _ _ _ _ _ _ y => y)⟩
/-- x itself, a list or a tuple in slot i -/
def iSeqS (i : Nat) : TI := fun σ H R => ∃ (a : Addr) (xs : List V), σ[i]? = some (some (.ref a)) ∧ Seq H a xs ∧ ∀ J, Walk J xs.length (fun H' => H' a = H a) (YAt xs) → R J H
theorem pi_seqS {X : Cx} {e tg : Expr} {i : Nat} (he : PE X e (tVar i)) : PI X tg e (iSeqS i) := by
  refine ⟨fun pins s σ H R I h => ?_⟩
  obtain ⟨a, xs, e1, hq, k⟩ := h
  rcases hq with hq | hq
  · exact (pi_tup he).run pins s σ H R I ⟨_, e1, a, rfl, ⟨_, sqT hq⟩, k _ (walk_tup.mono (fun H' e => sqT (e.trans hq)) fun _ _ _ _ _ _ y => y)⟩
  · exact (pi_list he).run pins s σ H R I ⟨_, e1, a, rfl, ⟨_, SqL.of hq⟩, k _ (walk_list.mono (fun H' e => SqL.of (e.trans hq)) fun _ _ _ _ _ _ y => y)⟩
theorem take_more {α : Type} : ∀ {l : List α} {i : Nat} {x : α}, l[i]? = some x → l.take (i + 1) = l.take i ++ [x]
  | [], i, x, h => by simp at h
  | a :: l, 0, x, h => by
    have e : a = x := Option.some.inj h
    subst e
    rfl
  | a :: l, i + 1, x, h => by
    have ih := take_more (l := l) (i := i) (x := x) (by simpa using h)
    rw [List.take_succ_cons, ih]
    rfl
theorem fold_take {rs : List Row} {i : Nat} {r : Row} (h : rs[i]? = some r) : folderNames (rs.take (i + 1)) = folderNames (rs.take i) ++ (if r.ki = ("folder" : Str) then [r.nm] else []) := by
  rw [take_more h, folders_snoc]
def spIsRow : Sp := fun vs H Q _ => ∃ (a d1 d2 : Addr) (r : Row) (kv1 kv2 : List (Key × V)), vs = [.ref a, .ref d1, .ref d2] ∧ Seq H a (rowVs r) ∧ H d1 = some (.dK kv1) ∧ valV kv1 (.inr r.nm : Key) = none ∧ H d2 = some (.dK kv2) ∧ (valV kv2 (.inr r.fo : Key)).isSome = true ∧
  NameShape r.nm ∧ r.nm ≠ ("top" : Str) ∧ r.ki ∈ kinds3 ∧ PriceOk r.pr ∧ ∀ H', Same H H' → Q (.bl true) H'
def spCheckRows (K : PySem.W.Frag) : Sp := fun vs H Q _ => ∃ (rw nm fo : Addr) (ns hs : List Str) (as : List Addr) (rs : List Row), vs = [.ref rw, .ref nm, .ref fo] ∧ Seq H rw (as.map V.ref) ∧ SeqRows H as rs ∧ SqT K H nm (ns.map V.str) ∧ SqT K H fo (hs.map V.str) ∧ rs.length ≤ 100 ∧ ns.length ≤ 100 ∧ hs.length ≤ 100 ∧
  (∀ i r, rs[i]? = some r → FitsB ns hs (rs.take i) r) ∧ ∀ H', Same H H' → Q .non H'
section
variable {P : Program} {w : World} {K : PySem.W.Frag} {mg : Str → Option Value} {base : Heap}
abbrev nIsRow : List Str := ["thing", "taken", "homes", "name", "folder", "kind", "price"]
theorem sc_is_row : FnScope nIsRow ["thing", "taken", "homes"] (defScope s_is_row) := ⟨rfl, rfl, rfl, by decide +kernel, rfl, by decide +kernel, by decide +kernel⟩
theorem ok_is_row (D : DefAt K mg "is_row" s_is_row ["thing", "taken", "homes"]) (Dn : DefAt K mg "is_name" s_is_name ["thing"]) (Dp : DefAt K mg "is_price" s_is_price ["thing"]) (B : TxB mg) (C : TxC K mg) : FnOk P w K mg base CX0 3 D.f D.fd ["thing", "taken", "homes"] spIsRow := by
  have Gn : FnOk P w K mg base CX0 2 Dn.f Dn.fd ["thing"] spIsName := ok_is_name Dn B C
  have Gp : FnOk P w K mg base CX0 2 Dp.f Dp.fd ["thing"] spIsPrice := ok_is_price Dp B C
  refine D.F.ok sc_is_row (fun vs H Q E h => ?_) (fun cdv A outer s H vs Q E hr h => ?_)
  · obtain ⟨a, d1, d2, r, kv1, kv2, rfl, _⟩ := h
    rfl
  · obtain ⟨a, d1, d2, r, kv1, kv2, rfl, ha, h1, v1, h2, v2, hn, ht, hk, hp, hq⟩ := h
    have hu := hu_of hr
    refine ⟨_, pss_cons (ps_if (PW.pt (pw_or (pt_not (pt_val (pe_callB call_isiT (by rfl) B.isinstance (by decide +kernel) (pa_cons (pv 0) (pa_cons (pe_tup (pa_cons (pe_bltn (by rfl) B.list (by decide +kernel) (v := .ty "list") rfl) (pa_cons (pe_bltn (by rfl) B.tuple (by decide +kernel) (v := .ty "tuple") rfl) pa_nil))) pa_nil)))))
        (pw_or1 (pt_cmpR op_ne (pe_callB call_len_seq (by rfl) B.len PySem.boot_len (pa_cons (pv 0) pa_nil)) pe_int (nomark _))))) (pss_one (ps_ret pe_bl)) pss_nil)
      (C8.pss_cut (ps_asg (pv 0) (pg_or (pg_tup rfl (pgs_cons (pg_name (i := 3) sc_is_row.nd rfl (.inl rfl)) (pgs_cons (pg_name (i := 4) sc_is_row.nd rfl (.inl rfl)) (pgs_cons (pg_name (i := 5) sc_is_row.nd rfl (.inl rfl)) (pgs_cons (pg_name (i := 6) sc_is_row.nd rfl (.inl rfl)) pgs_nil)))))
          (pg_unl rfl (pgs_cons (pg_name (i := 3) sc_is_row.nd rfl (.inl rfl)) (pgs_cons (pg_name (i := 4) sc_is_row.nd rfl (.inl rfl)) (pgs_cons (pg_name (i := 5) sc_is_row.nd rfl (.inl rfl)) (pgs_cons (pg_name (i := 6) sc_is_row.nd rfl (.inl rfl)) pgs_nil)))))))
      (pss_cons (ps_if (PW.pt (pw_or (pt_not (pt_val (pe_call Gn hr rfl Dn.g Dn.F.kp Dn.b .nil pass0 (pa_cons (pv 3) pa_nil)))) (pw_or1 (pt_cmp (pc_din hu (pv 3) (pv 1)))))) (pss_one (ps_ret pe_bl)) pss_nil)
      (pss_cons (ps_if (PW.pt (pw_or (pt_not (pt_val (pe_callB call_isi (by rfl) B.isinstance (by decide +kernel) (pa_cons (pv 4) (pa_cons (pe_bltn (by rfl) B.str (by decide +kernel) (v := .ty "str") rfl) pa_nil))))) (pw_or1 (pt_cmp (pc_dnotin hu (pv 4) (pv 2)))))) (pss_one (ps_ret pe_bl)) pss_nil)
      (pss_one (ps_ret (pe_and (pe_cmpR op_in_seq (pv 5) (pe_glob (by rfl) C.kinds (v := .ref C.kindsA) rfl) (by rfl)) (pe_one (pe_call Gp hr rfl Dp.g Dp.F.kp Dp.b .nil pass0 (pa_cons (pv 6) pa_nil)))))))))
      , ?_⟩
    refine ⟨_, rfl, (by show 2 ≤ sizeLine; decide), fun tp htp => ?_⟩
    have s1 : Same H (upd H tp (.tup [.ty "list", .ty "tuple"])) := Same.new htp
    obtain ⟨t, ty, kk⟩ := (ha.same s1).ty (K := K)
    refine ⟨_, tp, _, t, _, true, rfl, upd_same, .cons (.ty "list") (.cons (.ty "tuple") .nil), ty, kk, _, rfl, iteF ?_⟩
    refine ⟨_, rfl, a, _, rfl, (ha.same s1).or, rfl, _, rfl, ?_⟩
    refine iteF ?_
    have un : SqT K (upd H tp (.tup [.ty "list", .ty "tuple"])) a (rowVs r) ∨ SqL K (upd H tp (.tup [.ty "list", .ty "tuple"])) a (rowVs r) := (ha.same s1).or.symm
    refine ⟨fun σ' H' => σ' = [some (.ref a), some (.ref d1), some (.ref d2), some (.str r.nm), some (.str r.fo), some (.str r.ki), some (prV r.pr)] ∧ H' = upd H tp (.tup [.ty "list", .ty "tuple"]), ?_, ?_⟩
    · refine ⟨_, rfl, ?_⟩
      rcases un with un | un
      · exact .inl ⟨a, _, rfl, un, rfl, _, _, rfl, _, _, rfl, _, _, rfl, _, _, rfl, rfl, rfl, rfl⟩
      · exact .inr ⟨a, _, rfl, un, rfl, _, _, rfl, _, _, rfl, _, _, rfl, _, _, rfl, rfl, rfl, rfl⟩
    rintro σ' H' ⟨rfl, rfl⟩
    refine ⟨_, rfl, r.nm, rfl, hn, ht, _, rfl, iteF ?_⟩
    refine ⟨_, rfl, _, rfl, d1, _, rfl, DGet.k (k := Sum.inr r.nm) (s1 _ _ h1), _, rfl, ?_⟩
    rw [v1]
    refine iteF ?_
    refine ⟨_, rfl, _, _, _, _, true, rfl, .ty "str", .base (.str r.fo), kit_ty (by decide +kernel), _, rfl, iteF ?_⟩
    refine ⟨_, rfl, _, rfl, d2, _, rfl, DGet.k (k := Sum.inr r.fo) (s1 _ _ h2), _, rfl, ?_⟩
    rw [v2]
    refine iteF ?_
    refine ⟨_, rfl, C.kindsA, _, rfl, .inr (.inr C.kindsT), rfl, flat_strs _, _, rfl, ?_⟩
    have e : (if false = true then !inV (.str r.ki) (kinds3.map V.str) else inV (.str r.ki) (kinds3.map V.str)) = true := by
      rw [if_neg Bool.false_ne_true, inV_strs]
      exact decide_eq_true hk
    rw [e]
    exact iteT ⟨_, rfl, r.pr, rfl, hp, hq _ s1⟩
abbrev nCheckRows : List Str := ["rows", "names", "folders", "taken", "homes", "index", "row", "name", "folder", "kind", "price"]
theorem sc_check_rows : FnScope nCheckRows ["rows", "names", "folders"] (defScope s_check_rows) := ⟨rfl, rfl, rfl, by decide +kernel, rfl, by decide +kernel, by decide +kernel⟩
theorem ok_check_rows (D : DefAt K mg "check_rows" s_check_rows ["rows", "names", "folders"]) (Dr : DefAt K mg "is_row" s_is_row ["thing", "taken", "homes"]) (Dn : DefAt K mg "is_name" s_is_name ["thing"]) (Dp : DefAt K mg "is_price" s_is_price ["thing"]) (B : TxB mg) (C : TxC K mg) :
    FnOk P w K mg base CX0 4 D.f D.fd ["rows", "names", "folders"] (spCheckRows K) := by
  have Gr : FnOk P w K mg base CX0 3 Dr.f Dr.fd ["thing", "taken", "homes"] spIsRow := ok_is_row Dr Dn Dp B C
  obtain ⟨t1, gF⟩ := C.folder
  refine D.F.ok sc_check_rows (fun vs H Q E h => ?_) (fun cdv A outer s H vs Q E hr h => ?_)
  · obtain ⟨rw, nm, fo, ns, hs, as, rs, rfl, _⟩ := h
    rfl
  · obtain ⟨rw, nm, fo, ns, hs, as, rs, rfl, hrw, hrows, hnm, hfo, hl, hln, hlh, hfit, hq⟩ := h
    have hu := hu_of hr
    refine ⟨_, pss_cons (ps_if (pt_not (pt_val (pe_callB call_isiT (by rfl) B.isinstance (by decide +kernel) (pa_cons (pv 0) (pa_cons (pe_tup (pa_cons (pe_bltn (by rfl) B.list (by decide +kernel) (v := .ty "list") rfl) (pa_cons (pe_bltn (by rfl) B.tuple (by decide +kernel) (v := .ty "tuple") rfl) pa_nil))) pa_nil))))) (pss_one ps_never) pss_nil)
      (pss_cons (ps_setDc (i := 3) (own := [("name", 7)]) (g := gName 7) (tt := tYes) rfl sc_check_rows.nd rfl rfl (swd_true rfl rfl rfl (by decide +kernel)) (pi_tup (pv 1)) (blkOk_by (N := nCheckRows) (sc := defScope s_check_rows) (by decide +kernel))
        (fun _ _ _ _ _ => pg_name (i := 7) sc_check_rows.nd rfl (Or.inl rfl)) (fun _ _ _ _ _ => pts_nil) (fun _ _ _ _ _ => pv 7) (fun _ _ _ _ _ => pe_bl))
      (pss_cons (ps_setDc (i := 4) (own := [("folder", 8)]) (g := gName 8) (tt := tYes) rfl sc_check_rows.nd rfl rfl (swd_true rfl rfl rfl (by decide +kernel)) (pi_tup (pv 2)) (blkOk_by (N := nCheckRows) (sc := defScope s_check_rows) (by decide +kernel))
        (fun _ _ _ _ _ => pg_name (i := 8) sc_check_rows.nd rfl (Or.inl rfl)) (fun _ _ _ _ _ => pts_nil) (fun _ _ _ _ _ => pv 8) (fun _ _ _ _ _ => pe_bl))
      (pss_one (ps_for PassesOwn.never rfl (pi_enumS (by rfl) B.enumerate (pv 0)) (pg_tup rfl (pgs_cons (pg_name (i := 5) sc_check_rows.nd rfl (.inl rfl)) (pgs_cons (pg_name (i := 6) sc_check_rows.nd rfl (.inl rfl)) pgs_nil)))
        (pss_cons (ps_if (pt_not (pt_val (pe_call Gr hr rfl Dr.g Dr.F.kp Dr.b .nil pass0 (pa_cons (pv 6) (pa_cons (pv 3) (pa_cons (pv 4) pa_nil)))))) (pss_one ps_never) pss_nil)
        (C8.pss_cut (ps_asg (pv 6) (pg_or (pg_tup rfl (pgs_cons (pg_name (i := 7) sc_check_rows.nd rfl (.inl rfl)) (pgs_cons (pg_name (i := 8) sc_check_rows.nd rfl (.inl rfl)) (pgs_cons (pg_name (i := 9) sc_check_rows.nd rfl (.inl rfl)) (pgs_cons (pg_name (i := 10) sc_check_rows.nd rfl (.inl rfl)) pgs_nil)))))
          (pg_unl rfl (pgs_cons (pg_name (i := 7) sc_check_rows.nd rfl (.inl rfl)) (pgs_cons (pg_name (i := 8) sc_check_rows.nd rfl (.inl rfl)) (pgs_cons (pg_name (i := 9) sc_check_rows.nd rfl (.inl rfl)) (pgs_cons (pg_name (i := 10) sc_check_rows.nd rfl (.inl rfl)) pgs_nil)))))))
        (pss_cons (ps_dput hu (pv 3) (pv 7) pe_bl rfl)
        (pss_one (ps_if (pt_cmpR op_eq (pv 9) (pe_glob (by rfl) gF (v := .str ("folder" : Str)) ⟨_, rfl⟩) (nomark _)) (pss_one (ps_dput hu (pv 4) (pv 7) pe_bl rfl)) pss_nil)))))))))
      , ?_⟩
    refine ⟨_, rfl, (by show 2 ≤ sizeLine; decide), fun tp htp => ?_⟩
    have s1 : Same H (upd H tp (.tup [.ty "list", .ty "tuple"])) := Same.new htp
    obtain ⟨t, ty, kk⟩ := (hrw.same s1).ty (K := K)
    refine ⟨_, tp, _, t, _, true, rfl, upd_same, .cons (.ty "list") (.cons (.ty "tuple") .nil), ty, kk, _, rfl, iteF ?_⟩
    generalize upd H tp (.tup [.ty "list", .ty "tuple"]) = H1 at s1 ty
    have dict : ∀ (l : List Str) (td : Addr) (H1 H' : Hp) (i : Nat) (x : V), (l.map V.str)[i]? = some x → MemD H' td (l.take i) → ∃ (z : Str) (kv : List (Key × V)), x = .str z ∧ l[i]? = some z ∧ H' td = some (.dK kv) ∧ (∀ z : Str, (valV kv (.inr z : Key)).isSome = decide (z ∈ l.take i)) ∧ kv.length ≤ (l.take i).length := by
      intro l td H1 H' i x hx m
      rw [List.getElem?_map] at hx
      obtain ⟨z, hz, rfl⟩ := Option.map_eq_some_iff.mp hx
      obtain ⟨kv, e1, e2, e3⟩ := m.ex
      exact ⟨z, kv, rfl, hz, e1, e2, e3⟩
    refine ⟨_, rfl, nm, rfl, ⟨_, hnm.ext s1⟩, fun td htd => ?_⟩
    refine dc_tup (K := K) (a := nm) (xs := ns.map V.str) (fun i H' => Same H1 H' ∧ MemD H' td (ns.take i)) ⟨Same.new htd, [], upd_same, fun z => rfl, Nat.le_refl _⟩ (fun i H' _ m => hnm.ext (s1.trans m.1)) ?_ ?_
    · rintro i x H' hx ⟨sm, m⟩
      obtain ⟨z, kv, rfl, hz, e1, e2, e3⟩ := dict ns td H1 H' i x hx m
      refine ⟨rfl, tYes_if ⟨_, rfl, kv, .inr z, rfl, e1, small1000 (by rw [List.length_take] at e3; omega), fun b o e => ?_, ?_⟩⟩
      · rw [upd_ne (fun q => by rw [q, htd] at e; cases e)]
        exact sm b o e
      · rw [take_more hz]
        exact MemD.put e2 e3 z _
    · rintro H2 ⟨sm, m⟩
      rw [List.length_map, List.take_length] at m
      have s2 := s1.trans sm
      refine ⟨_, rfl, fo, rfl, ⟨_, hfo.ext s2⟩, fun hd hhd => ?_⟩
      have nth : td ≠ hd := by obtain ⟨kv, e1, _⟩ := m.ex; exact ne_of_none e1 hhd
      refine dc_tup (K := K) (a := fo) (xs := hs.map V.str) (fun i H' => Same H2 H' ∧ MemD H' hd (hs.take i)) ⟨Same.new hhd, [], upd_same, fun z => rfl, Nat.le_refl _⟩ (fun i H' _ m => hfo.ext (s2.trans m.1)) ?_ ?_
      · rintro i x H' hx ⟨sm, m⟩
        obtain ⟨z, kv, rfl, hz, e1, e2, e3⟩ := dict hs hd H2 H' i x hx m
        refine ⟨rfl, tYes_if ⟨_, rfl, kv, .inr z, rfl, e1, small1000 (by rw [List.length_take] at e3; omega), fun b o e => ?_, ?_⟩⟩
        · rw [upd_ne (fun q => by rw [q, hhd] at e; cases e)]
          exact sm b o e
        · rw [take_more hz]
          exact MemD.put e2 e3 z _
      · rintro H3 ⟨sm3, m3⟩
        rw [List.length_map, List.take_length] at m3
        have s3 := s2.trans sm3
        have mt : MemD H3 td ns := by
          obtain ⟨kv, e1, e⟩ := m.ex
          exact ⟨kv, sm3 _ _ e1, e⟩
        have ftd : H td = none := s1.free htd
        have fhd : H hd = none := s2.free hhd
        refine ⟨rw, _, rfl, hrw.same s3, fun J W => ?_⟩
        refine for_it W (fun i σ H' => ∃ (v5 v6 v7 v8 v9 v10 : Option V), σ = [some (.ref rw), some (.ref nm), some (.ref fo), some (.ref td), some (.ref hd), v5, v6, v7, v8, v9, v10] ∧ Same H H' ∧ H' rw = H3 rw ∧ MemD H' td (ns ++ (rs.take i).map (·.nm)) ∧ MemD H' hd (hs ++ folderNames (rs.take i))) ⟨none, none, none, none, none, none, rfl, s3, rfl, by simpa using mt, by simpa [folderNames] using m3⟩ (fun i σ H' _ ⟨_, _, _, _, _, _, _, _, e, _⟩ => e) ?_ ?_
        · rintro i x σ H4 H5 hi ⟨v5, v6, v7, v8, v9, v10, rfl, s4, e4, mt, mh⟩ ⟨T, xi, xr, rfl, hT, rfl, exi, exr⟩
          rw [List.length_map] at hi
          have exr' : (as.map V.ref)[i]? = some xr := exr
          rw [List.getElem?_map] at exr'
          obtain ⟨ra, hra, rfl⟩ := Option.map_eq_some_iff.mp exr'
          obtain ⟨r, hr'⟩ : ∃ r, rs[i]? = some r := ⟨rs[i]'(by rw [← hrows.len]; exact hi), List.getElem?_eq_getElem _⟩
          have fit := hfit i r hr'
          obtain rfl := Option.some.inj exi
          have s5 : Same H (upd H4 T (.tup [.int (i : Nat), .ref ra])) := s4.trans (Same.new hT)
          have rr : Seq (upd H4 T (.tup [.int (i : Nat), .ref ra])) ra (rowVs r) := Seq.same (hrows.at_ i ra r hra hr') s5
          obtain ⟨kt, et, pt, lt⟩ := mt.ex
          obtain ⟨kh, eh, ph, lh⟩ := mh.ex
          have nt : td ≠ T := ne_of_none et hT
          have nh : hd ≠ T := ne_of_none eh hT
          have i100 : i < 100 := by rw [← hrows.len] at hl; omega
          refine ⟨T, _, rfl, sqT upd_same, rfl, _, _, rfl, _, _, rfl, rfl, ?_⟩
          refine ⟨_, rfl, _, rfl, _, rfl, ra, td, hd, r, kt, kh, rfl, rr, by rw [upd_ne nt]; exact et, ?_, by rw [upd_ne nh]; exact eh, ?_, fit.shape, fit.top, fit.kind, fit.price, fun H6 s6 => ?_⟩
          · have q := pt r.nm
            rw [decide_eq_false fit.new] at q
            simpa using q
          · rw [ph r.fo]
            exact decide_eq_true fit.home
          refine ⟨_, rfl, iteF ?_⟩
          refine ⟨fun σ' H' => σ' = [some (.ref rw), some (.ref nm), some (.ref fo), some (.ref td), some (.ref hd), some (.int (i : Nat)), some (.ref ra), some (.str r.nm), some (.str r.fo), some (.str r.ki), some (prV r.pr)] ∧ H' = H6, ?_, ?_⟩
          · refine ⟨_, rfl, ?_⟩
            rcases rr.same s6 with un | un
            · exact .inl ⟨ra, _, rfl, sqT un, rfl, _, _, rfl, _, _, rfl, _, _, rfl, _, _, rfl, rfl, rfl, rfl⟩
            · exact .inr ⟨ra, _, rfl, SqL.of un, rfl, _, _, rfl, _, _, rfl, _, _, rfl, _, _, rfl, rfl, rfl, rfl⟩
          rintro σ' H' ⟨rfl, rfl⟩
          have et6 : H' td = some (.dK kt) := s6 _ _ (by rw [upd_ne nt]; exact et)
          have eh6 : H' hd = some (.dK kh) := s6 _ _ (by rw [upd_ne nh]; exact eh)
          have lt' : kt.length ≤ 300 := by
            rw [List.length_append, List.length_map, List.length_take] at lt; omega
          have lh' : kh.length ≤ 300 := by
            have := folders_le (rs.take i)
            rw [List.length_take] at this
            rw [List.length_append] at lh; omega
          refine ⟨_, rfl, _, rfl, td, _, rfl, DPut.k (k := Sum.inr r.nm) et6 (small1000 (by omega)), ?_⟩
          have s7 : Same H (upd H' td (.dK (putK kt (.inr r.nm) (.bl true)))) := fun b o e => by
            rw [upd_ne (fun q => by rw [q, ftd] at e; cases e)]
            exact s6 _ _ (s5 b o e)
          have mt7 : ns ++ (rs.take (i + 1)).map (·.nm) = ns ++ (rs.take i).map (·.nm) ++ [r.nm] := by rw [take_more hr', List.map_append, List.append_assoc]; rfl
          have mT : MemD (upd H' td (.dK (putK kt (.inr r.nm) (.bl true)))) td (ns ++ (rs.take (i + 1)).map (·.nm)) := by rw [mt7]; exact MemD.put pt lt _ _
          have rw4 : H4 rw = some (.tup (as.map V.ref)) ∨ H4 rw = some (.lst (as.map V.ref)) := hrw.same s4
          have keep : ∀ {b : Addr} {o : HO}, H4 b = some o → b ≠ td → (upd H' td (.dK (putK kt (.inr r.nm) (.bl true)))) b = some o := fun {b o} e nb => by
            rw [upd_ne nb]
            exact s6 _ _ (by rw [upd_ne (ne_of_none e hT)]; exact e)
          have ert : rw ≠ td := fun q => by rcases rw4 with z | z <;> (rw [q, et] at z; cases z)
          have erh : rw ≠ hd := fun q => by rcases rw4 with z | z <;> (rw [q, eh] at z; cases z)
          have erw : (upd H' td (.dK (putK kt (.inr r.nm) (.bl true)))) rw = H3 rw := by
            rw [← e4]
            rcases rw4 with z | z <;> (rw [z]; exact keep z ert)
          refine ⟨_, rfl, rfl, _, rfl, ?_⟩
          refine ite2 (fun hk => ?_) (fun hk => ?_)
          · have hk' : r.ki = ("folder" : Str) := V.str.inj (of_decide_eq_true hk)
            refine ⟨_, rfl, _, rfl, hd, _, rfl, DPut.k (k := Sum.inr r.nm) (Eq.trans (upd_ne nth.symm) eh6) (small1000 (by omega)), ?_⟩
            refine ⟨_, _, _, _, _, _, rfl, fun b o e => ?_, ?_, mT.same (upd_ne nth), ?_⟩
            · rw [upd_ne (fun q => by rw [q, fhd] at e; cases e)]
              exact s7 b o e
            · rw [upd_ne erh]; exact erw
            · rw [fold_take hr', if_pos hk', ← List.append_assoc]
              exact MemD.put ph lh _ _
          · have hk' : ¬ r.ki = ("folder" : Str) := fun q => hk (decide_eq_true (by rw [q]))
            refine ⟨_, _, _, _, _, _, rfl, s7, erw, mT, ?_⟩
            rw [fold_take hr', if_neg hk', List.append_nil]
            exact ⟨kh, Eq.trans (upd_ne nth.symm) eh6, ph, lh⟩
        · rintro σ H4 ⟨v5, v6, v7, v8, v9, v10, rfl, s4, _⟩
          exact hq _ s4
end
end Ts

set_option maxRecDepth 100000
set_option maxHeartbeats 4000000
namespace Ts
open PySem L2
/-! ### a tree as it stands -/
theorem qf_ : ¬ (("quads" : Str) = "folders") := by decide +kernel
theorem qk_ : ¬ (("quads" : Str) = "kinds") := by decide +kernel
theorem qp_ : ¬ (("quads" : Str) = "prices") := by decide +kernel
theorem fk_ : ¬ (("folders" : Str) = "kinds") := by decide +kernel
theorem fp_ : ¬ (("folders" : Str) = "prices") := by decide +kernel
theorem kp_ : ¬ (("kinds" : Str) = "prices") := by decide +kernel
def tf (q f k p : Addr) : List (Str × V) := putF "prices" (.ref p) (putF "kinds" (.ref k) (putF "folders" (.ref f) (putF "quads" (.ref q) [])))
theorem tf_q (q f k p : Addr) : (tf q f k p).lookup ("quads" : Str) = some (.ref q) := by
  unfold tf
  rw [lookup_putF, if_neg qp_, lookup_putF, if_neg qk_, lookup_putF, if_neg qf_, lookup_putF, if_pos rfl]
theorem tf_f (q f k p : Addr) : (tf q f k p).lookup ("folders" : Str) = some (.ref f) := by
  unfold tf
  rw [lookup_putF, if_neg fp_, lookup_putF, if_neg fk_, lookup_putF, if_pos rfl]
theorem tf_k (q f k p : Addr) : (tf q f k p).lookup ("kinds" : Str) = some (.ref k) := by
  unfold tf
  rw [lookup_putF, if_neg kp_, lookup_putF, if_pos rfl]
theorem tf_p (q f k p : Addr) : (tf q f k p).lookup ("prices" : Str) = some (.ref p) := by
  unfold tf
  rw [lookup_putF, if_pos rfl]
theorem tf_no (q f k p : Addr) {m : Str} (h1 : ¬ m = "quads") (h2 : ¬ m = "folders") (h3 : ¬ m = "kinds") (h4 : ¬ m = "prices") : (tf q f k p).lookup m = none := by
  unfold tf
  rw [lookup_putF, if_neg h4, lookup_putF, if_neg h3, lookup_putF, if_neg h2, lookup_putF, if_neg h1]
  rfl
theorem putF_len (n : Str) (v : V) : ∀ l : List (Str × V), (putF n v l).length ≤ l.length + 1
  | [] => Nat.le_refl _
  | p :: r => by
    have ih := putF_len n v r
    show (if p.1 = n then (p.1, v) :: r else p :: putF n v r).length ≤ _
    split
    · exact Nat.le_succ _
    · rw [List.length_cons, List.length_cons]; omega
def kvF (g : Row → V) (l : List Row) : List (Key × V) := l.map fun r => (.inr r.nm, g r)
theorem valV_kvF (g : Row → V) (z : Str) : ∀ l : List Row, valV (kvF g l) (.inr z : Key) = (l.find? fun r => decide (r.nm = z)).map g
  | [] => rfl
  | r :: l => by
    have ih := valV_kvF g z l
    by_cases e : r.nm = z
    · show valV ((.inr r.nm, g r) :: kvF g l) (.inr z : Key) = _
      rw [valV_pos (by rw [e]), List.find?_cons_of_pos (by simpa using e)]
      rfl
    · show valV ((.inr r.nm, g r) :: kvF g l) (.inr z : Key) = _
      rw [valV_neg (fun q => e (Sum.inr.inj q)), List.find?_cons_of_neg (by simpa using e)]
      exact ih
theorem find_none {l : List Row} {z : Str} (h : z ∉ l.map (·.nm)) : (l.find? fun r => decide (r.nm = z)) = none := by
  rw [List.find?_eq_none]
  intro r hr
  simp only [decide_eq_true_eq]
  exact fun q => h (List.mem_map.mpr ⟨r, hr, q⟩)
theorem kvF_more {g : Row → V} {rs : List Row} {i : Nat} {r : Row} (h : rs[i]? = some r) (hn : r.nm ∉ (rs.take i).map (·.nm)) : putK (kvF g (rs.take i)) (.inr r.nm) (g r) = kvF g (rs.take (i + 1)) := by
  rw [putK_new _ (by rw [valV_kvF, find_none hn]; rfl), take_more h]
  unfold kvF
  rw [List.map_append]
  rfl
structure TreeAt (C : Addr) (H : Hp) (t : Addr) (rs : List Row) : Prop where
  ex : ∃ (dx q f k p : Addr) (qs : List Addr), H t = some (.ins C dx (tf q f k p)) ∧ H q = some (.tup (qs.map V.ref)) ∧ RowsAt H qs rs ∧ H f = some (.dK (kvF (fun r => .str r.fo) rs)) ∧ H k = some (.dK (kvF (fun r => .str r.ki) rs)) ∧ H p = some (.dK (kvF (fun r => prV r.pr) rs))
  val : Valid rs
  len : rs.length ≤ 100
theorem TreeAt.same {C : Addr} {H H' : Hp} {t : Addr} {rs : List Row} (h : TreeAt C H t rs) (s : Same H H') : TreeAt C H' t rs := by
  obtain ⟨dx, q, f, k, p, qs, h1, h2, h3, h4, h5, h6⟩ := h.ex
  exact ⟨⟨dx, q, f, k, p, qs, s _ _ h1, s _ _ h2, h3.same s, s _ _ h4, s _ _ h5, s _ _ h6⟩, h.val, h.len⟩
structure TxT (K : PySem.W.Frag) (mg : Str → Option Value) (C : Addr) : Prop where
  cl : Cls K C
  nq : NoAttr K C "quads"
  nf : NoAttr K C "folders"
  nk : NoAttr K C "kinds"
  np : NoAttr K C "prices"
  g : mg "Tree" = some (.ref C)
def rTupOf (K : PySem.W.Frag) : List V → Hp → VK → Prop := fun xs H Q => ∃ p ys, xs = [V.ref p] ∧ ((SqL K H p ys ∧ ∀ l, H l = none → Q (V.ref l) (upd H l (.tup ys))) ∨ (SqT K H p ys ∧ Q (V.ref p) H))
def spTreeInit (C : Addr) : Sp := fun vs H Q _ => ∃ (t dx rw : Addr) (as : List Addr) (rs : List Row), vs = [.ref t, .ref rw] ∧ H t = some (.ins C dx []) ∧ Seq H rw (as.map V.ref) ∧ SeqRows H as rs ∧ rs.length ≤ 100 ∧ Valid rs ∧
  ∀ H', SB t H H' → TreeAt C H' t rs → Q .non H'
section
variable {P : Program} {w : World} {K : PySem.W.Frag} {mg : Str → Option Value} {base : Heap} {C : Addr}
abbrev nTreeInit : List Str := ["self", "rows", "row", "name", "folder", "kind", "price"]
theorem sc_Tree_init : FnScope nTreeInit ["self", "rows"] (defScope s_Tree_init) := ⟨rfl, rfl, rfl, by decide +kernel, rfl, by decide +kernel, by decide +kernel⟩
theorem ok_Tree_init {f : Addr} {fd : FuncData} (F : Fun K "__init__" "Tree.__init__" s_Tree_init f fd) (Dc : DefAt K mg "check_rows" s_check_rows ["rows", "names", "folders"]) (Gc : FnOk P w K mg base CX0 4 Dc.f Dc.fd ["rows", "names", "folders"] (spCheckRows K)) (B : TxB mg) (TC : TxC K mg) (T : TxT K mg C) :
    FnOk P w K mg base CX0 5 f fd ["self", "rows"] (spTreeInit C) := by
  obtain ⟨t1, gT⟩ := TC.top
  refine F.ok sc_Tree_init (fun vs H Q E h => ?_) (fun cdv A outer s H vs Q E hr h => ?_)
  · obtain ⟨t, dx, rw, as, rs, rfl, _⟩ := h
    rfl
  · obtain ⟨t, dx, rw, as, rs, rfl, ht, hrw, hrows, hl, hv, hq⟩ := h
    refine ⟨_, pss_cons (ps_expr (pe_call Gc hr rfl Dc.g Dc.F.kp Dc.b .nil pass0 (pa_cons (pv 1) (pa_cons (pe_tup pa_nil) (pa_cons (pe_tup (pa_cons (pe_glob (by rfl) gT (v := .str ("top" : Str)) ⟨_, rfl⟩) pa_nil)) pa_nil)))))
      (pss_cons (ps_fld (pv 0) (pe_callTy call_tuple_of (by rfl) B.tuple (by decide +kernel) (pa_cons (pe_lc (own := [("row", 2)]) (g := gName 2) (tt := tYes) (te := tCB (rTupOf K) (tCons (tVar 2) tNil)) rfl sc_Tree_init.nd (pi_seqS (i := 1) (pv 1)) (blkOk_by (N := nTreeInit) (sc := defScope s_Tree_init) (by decide +kernel))
          (fun _ _ _ _ _ => pg_name (i := 2) sc_Tree_init.nd rfl (Or.inl rfl)) (fun _ _ _ _ _ => pts_nil) (fun _ _ _ _ _ => by exact pe_callTy (T := "tuple") call_tuple_of (by rfl) B.tuple (by decide +kernel) (pa_cons (pv 2) pa_nil))) pa_nil)) rfl)
      (pss_cons (ps_fld (pv 0) (pe_dc (own := [("name", 3), ("folder", 4), ("kind", 5), ("price", 6)]) (g := gTup K 4 (gCons (gName 3) (gCons (gName 4) (gCons (gName 5) (gCons (gName 6) gNil))))) (tt := tYes) rfl sc_Tree_init.nd (pi_tup (pe_fld (pv 0) rfl)) (blkOk_by (N := nTreeInit) (sc := defScope s_Tree_init) (by decide +kernel))
          (fun _ _ _ _ _ => by exact pg_tup rfl (pgs_cons (pg_name (i := 3) sc_Tree_init.nd rfl (.inl rfl)) (pgs_cons (pg_name (i := 4) sc_Tree_init.nd rfl (.inl rfl)) (pgs_cons (pg_name (i := 5) sc_Tree_init.nd rfl (.inl rfl)) (pgs_cons (pg_name (i := 6) sc_Tree_init.nd rfl (.inl rfl)) pgs_nil))))) (fun _ _ _ _ _ => pts_nil) (fun _ _ _ _ _ => pv 3) (fun _ _ _ _ _ => pv 4)) rfl)
      (pss_cons (ps_fld (pv 0) (pe_dc (own := [("name", 3), ("folder", 4), ("kind", 5), ("price", 6)]) (g := gTup K 4 (gCons (gName 3) (gCons (gName 4) (gCons (gName 5) (gCons (gName 6) gNil))))) (tt := tYes) rfl sc_Tree_init.nd (pi_tup (pe_fld (pv 0) rfl)) (blkOk_by (N := nTreeInit) (sc := defScope s_Tree_init) (by decide +kernel))
          (fun _ _ _ _ _ => by exact pg_tup rfl (pgs_cons (pg_name (i := 3) sc_Tree_init.nd rfl (.inl rfl)) (pgs_cons (pg_name (i := 4) sc_Tree_init.nd rfl (.inl rfl)) (pgs_cons (pg_name (i := 5) sc_Tree_init.nd rfl (.inl rfl)) (pgs_cons (pg_name (i := 6) sc_Tree_init.nd rfl (.inl rfl)) pgs_nil))))) (fun _ _ _ _ _ => pts_nil) (fun _ _ _ _ _ => pv 3) (fun _ _ _ _ _ => pv 5)) rfl)
      (pss_one (ps_fld (pv 0) (pe_dc (own := [("name", 3), ("folder", 4), ("kind", 5), ("price", 6)]) (g := gTup K 4 (gCons (gName 3) (gCons (gName 4) (gCons (gName 5) (gCons (gName 6) gNil))))) (tt := tYes) rfl sc_Tree_init.nd (pi_tup (pe_fld (pv 0) rfl)) (blkOk_by (N := nTreeInit) (sc := defScope s_Tree_init) (by decide +kernel))
          (fun _ _ _ _ _ => by exact pg_tup rfl (pgs_cons (pg_name (i := 3) sc_Tree_init.nd rfl (.inl rfl)) (pgs_cons (pg_name (i := 4) sc_Tree_init.nd rfl (.inl rfl)) (pgs_cons (pg_name (i := 5) sc_Tree_init.nd rfl (.inl rfl)) (pgs_cons (pg_name (i := 6) sc_Tree_init.nd rfl (.inl rfl)) pgs_nil))))) (fun _ _ _ _ _ => pts_nil) (fun _ _ _ _ _ => pv 3) (fun _ _ _ _ _ => pv 6)) rfl))))), ?_⟩
    refine ⟨_, rfl, Nat.zero_le _, fun u1 hu1 => ⟨(by show 1 ≤ sizeLine; decide), fun u2 hu2 => ?_⟩⟩
    have s0 : Same H (upd (upd H u1 (.tup [])) u2 (.tup [V.str ("top" : Str)])) := (Same.new hu1).trans (Same.new hu2)
    have n12 : u1 ≠ u2 := fun q => by rw [← q, upd_same] at hu2; cases hu2
    refine ⟨rw, u1, u2, [], [("top" : Str)], as, rs, rfl, hrw.same s0, hrows.same s0, sqT (by rw [upd_ne n12]; exact upd_same), sqT upd_same, hl, Nat.zero_le _, (by decide), fun i r h => (hv i r h).b, fun H1 s1 => ?_⟩
    have s01 := s0.trans s1
    have hq1 := hrw.same s01
    refine ⟨rw, _, rfl, hq1, fun J W => fun D hD => ?_⟩
    refine lc_it W (fun i H' => ∃ qs : List Addr, Same H1 H' ∧ RowsAt H' qs (rs.take i) ∧ H' D = some (.lst (qs.map V.ref))) ⟨[], Same.new hD, RowsAt.nil, upd_same⟩ (fun i H' _ ⟨_, sm, _, _⟩ => ?_) ?_ ?_
    · rcases hq1 with z | z <;> rw [z] <;> exact sm _ _ z
    · rintro i x H2 H2' hi ⟨qs, sm, rq, hD2⟩ ⟨rfl, hx⟩
      rw [List.length_map] at hi
      rw [List.getElem?_map] at hx
      obtain ⟨ra, hra, rfl⟩ := Option.map_eq_some_iff.mp hx
      obtain ⟨r, hr'⟩ : ∃ r, rs[i]? = some r := ⟨rs[i]'(by rw [← hrows.len]; exact hi), List.getElem?_eq_getElem _⟩
      have rr : Seq H2' ra (rowVs r) := Seq.same (hrows.at_ i ra r hra hr') (s01.trans sm)
      have sz : (qs.map V.ref).length < sizeLine := small1000 (by rw [List.length_map, rq.len, List.length_take]; omega)
      have fin : ∀ (l : Addr) (H3 : Hp), H3 l = some (.tup (rowVs r)) → Same H2' H3 → ∃ qs' : List Addr, Same H1 (upd H3 D (.lst (qs.map V.ref ++ [V.ref l]))) ∧ RowsAt (upd H3 D (.lst (qs.map V.ref ++ [V.ref l]))) qs' (rs.take (i + 1)) ∧ (upd H3 D (.lst (qs.map V.ref ++ [V.ref l]))) D = some (.lst (qs'.map V.ref)) := by
        intro l H3 hl3 s3
        have kt : ∀ {b : Addr} {xs : List V}, H3 b = some (.tup xs) → (upd H3 D (.lst (qs.map V.ref ++ [V.ref l]))) b = some (.tup xs) := fun {b xs} h => by
          rw [upd_ne (fun q => by rw [q, s3 _ _ hD2] at h; cases h)]
          exact h
        refine ⟨qs ++ [l], fun b o e => ?_, ?_, ?_⟩
        · rw [upd_ne (fun q => by rw [q, hD] at e; cases e)]
          exact s3 _ _ (sm _ _ e)
        · rw [take_more hr']
          exact RowsAt.snoc ⟨rq.len, fun j b q hb hq' => kt (s3 _ _ (rq.at_ j b q hb hq'))⟩ (kt hl3)
        · rw [upd_same, List.map_append]; rfl
      refine ⟨rfl, tYes_if ⟨_, rfl, ra, rowVs r, rfl, ?_⟩⟩
      rcases rr with z | z
      · exact .inr ⟨sqT z, qs.map V.ref, hD2, sz, fin ra _ z (Same.refl _)⟩
      · exact .inl ⟨SqL.of z, fun l hl' => ⟨qs.map V.ref, (Same.new hl') _ _ hD2, sz, fin l _ upd_same (Same.new hl')⟩⟩
    · rintro H2 ⟨qs, sm, rq, hD2⟩
      rw [List.length_map, hrows.len, List.take_length] at rq
      refine ⟨D, _, rfl, .inl ⟨SqL.of hD2, fun q hq' => ?_⟩⟩
      have fresh_t : ∀ {b : Addr} {o : HO}, H t = some o → H2 t = some o := fun {b o} e => sm _ _ (s01 _ _ e)
      have ht2 : H2 t = some (.ins C dx []) := sm _ _ (s01 _ _ ht)
      have tq : t ≠ q := ne_of_none ht2 hq'
      refine ⟨_, rfl, t, C, dx, _, rfl, Eq.trans (upd_ne tq) ht2, T.cl, T.nq, (by show 0 < 1000; decide), ?_⟩
      obtain ⟨aH, aE⟩ : ∃ Hx, Hx = upd (upd H2 q (.tup (qs.map V.ref))) t (.ins C dx (putF "quads" (.ref q) [])) := ⟨_, rfl⟩
      have at_ : aH t = some (.ins C dx (putF "quads" (.ref q) [])) := by rw [aE]; exact upd_same
      have aq : aH q = some (.tup (qs.map V.ref)) := by rw [aE, upd_ne tq.symm]; exact upd_same
      have keepA : ∀ b o, b ≠ t → H2 b = some o → aH b = some o := fun b o nb e => by rw [aE, upd_ne nb, upd_ne (ne_of_none e hq')]; exact e
      have nt : ∀ {b : Addr} {xs : List V}, H2 b = some (.tup xs) → b ≠ t := fun {b xs} e y => by rw [y, ht2] at e; cases e
      have ar : RowsAt aH qs rs := ⟨rq.len, fun j b r hb hr => keepA _ _ (nt (rq.at_ j b r hb hr)) (rq.at_ j b r hb hr)⟩
      have asb : SB t H aH := fun b o nb e => keepA b o nb (sm b o (s01 b o e))
      rw [← aE]
      clear aE keepA

      refine ⟨_, rfl, t, C, dx, _, _, rfl, at_, T.cl, T.nq, (by rw [lookup_putF, if_pos rfl]), q, rfl, ⟨_, sqT aq⟩, fun DF hDF => ?_⟩
      refine dc_tup (K := K) (a := q) (xs := qs.map V.ref) (fun i H' => Same aH H' ∧ H' DF = some (.dK (kvF (fun r => V.str r.fo) (rs.take i)))) ⟨Same.new hDF, upd_same⟩ (fun i H' _ m => sqT (m.1 _ _ aq)) ?_ ?_
      · rintro i x H' hx ⟨sm, hDi⟩
        rw [List.getElem?_map] at hx
        obtain ⟨qa, hqa, rfl⟩ := Option.map_eq_some_iff.mp hx
        obtain ⟨r, hr'⟩ : ∃ r, rs[i]? = some r := ⟨rs[i]'(by rw [← rq.len]; exact (List.getElem?_eq_some_iff.mp hqa).1), List.getElem?_eq_getElem _⟩
        have e := sm _ _ (ar.at_ i qa r hqa hr')
        refine ⟨qa, _, rfl, sqT e, rfl, _, _, rfl, _, _, rfl, _, _, rfl, _, _, rfl, rfl, rfl, tYes_if ⟨_, rfl, _, rfl, _, .inr r.nm, rfl, hDi, small1000 (by unfold kvF; rw [List.length_map, List.length_take]; omega), fun b o e => ?_, ?_⟩⟩
        · rw [upd_ne (fun y => by rw [y, hDF] at e; cases e)]
          exact sm b o e
        · rw [upd_same]
          exact congrArg (fun l => some (HO.dK l)) (kvF_more (g := (fun r => V.str r.fo)) hr' (hv i r hr').new)
      rintro H5 ⟨sm, hDD⟩
      rw [List.length_map, rq.len, List.take_length] at hDD
      refine ⟨_, rfl, t, C, dx, _, rfl, sm _ _ at_, T.cl, T.nf, ?_, ?_⟩
      · exact Nat.lt_of_le_of_lt (putF_len _ _ _) (by decide)
      obtain ⟨cH, cE⟩ : ∃ Hx, Hx = upd H5 t (.ins C dx (putF "folders" (.ref DF) (putF "quads" (.ref q) []))) := ⟨_, rfl⟩
      have ct : cH t = some (.ins C dx (putF "folders" (.ref DF) (putF "quads" (.ref q) []))) := by rw [cE]; exact upd_same
      have keepX : ∀ b o, b ≠ t → aH b = some o → cH b = some o := fun b o nb e => by rw [cE, upd_ne nb]; exact sm b o e
      have cq : cH q = some (.tup (qs.map V.ref)) := keepX _ _ tq.symm aq
      have cr : RowsAt cH qs rs := ⟨rq.len, fun j b r hb hr => keepX _ _ (nt (rq.at_ j b r hb hr)) (ar.at_ j b r hb hr)⟩
      have csb : SB t H cH := fun b o nb e => keepX b o nb (asb b o nb e)
      have nDF : DF ≠ t := fun y => by rw [y, at_] at hDF; cases hDF
      have cF : cH DF = some (.dK (kvF (fun r => V.str r.fo) rs)) := by rw [cE, upd_ne nDF]; exact hDD
      rw [← cE]
      clear cE keepX sm hDD H5

      refine ⟨_, rfl, t, C, dx, _, _, rfl, ct, T.cl, T.nq, (by rw [lookup_putF, if_neg qf_, lookup_putF, if_pos rfl]), q, rfl, ⟨_, sqT cq⟩, fun DK hDK => ?_⟩
      refine dc_tup (K := K) (a := q) (xs := qs.map V.ref) (fun i H' => Same cH H' ∧ H' DK = some (.dK (kvF (fun r => V.str r.ki) (rs.take i)))) ⟨Same.new hDK, upd_same⟩ (fun i H' _ m => sqT (m.1 _ _ cq)) ?_ ?_
      · rintro i x H' hx ⟨sm, hDi⟩
        rw [List.getElem?_map] at hx
        obtain ⟨qa, hqa, rfl⟩ := Option.map_eq_some_iff.mp hx
        obtain ⟨r, hr'⟩ : ∃ r, rs[i]? = some r := ⟨rs[i]'(by rw [← rq.len]; exact (List.getElem?_eq_some_iff.mp hqa).1), List.getElem?_eq_getElem _⟩
        have e := sm _ _ (cr.at_ i qa r hqa hr')
        refine ⟨qa, _, rfl, sqT e, rfl, _, _, rfl, _, _, rfl, _, _, rfl, _, _, rfl, rfl, rfl, tYes_if ⟨_, rfl, _, rfl, _, .inr r.nm, rfl, hDi, small1000 (by unfold kvF; rw [List.length_map, List.length_take]; omega), fun b o e => ?_, ?_⟩⟩
        · rw [upd_ne (fun y => by rw [y, hDK] at e; cases e)]
          exact sm b o e
        · rw [upd_same]
          exact congrArg (fun l => some (HO.dK l)) (kvF_more (g := (fun r => V.str r.ki)) hr' (hv i r hr').new)
      rintro H5 ⟨sm, hDD⟩
      rw [List.length_map, rq.len, List.take_length] at hDD
      refine ⟨_, rfl, t, C, dx, _, rfl, sm _ _ ct, T.cl, T.nk, ?_, ?_⟩
      · exact Nat.lt_of_le_of_lt (Nat.le_trans (putF_len _ _ _) (Nat.succ_le_succ (putF_len _ _ _))) (by decide)
      obtain ⟨dH, dE⟩ : ∃ Hx, Hx = upd H5 t (.ins C dx (putF "kinds" (.ref DK) (putF "folders" (.ref DF) (putF "quads" (.ref q) [])))) := ⟨_, rfl⟩
      have dt : dH t = some (.ins C dx (putF "kinds" (.ref DK) (putF "folders" (.ref DF) (putF "quads" (.ref q) [])))) := by rw [dE]; exact upd_same
      have keepX : ∀ b o, b ≠ t → cH b = some o → dH b = some o := fun b o nb e => by rw [dE, upd_ne nb]; exact sm b o e
      have dq : dH q = some (.tup (qs.map V.ref)) := keepX _ _ tq.symm cq
      have dr : RowsAt dH qs rs := ⟨rq.len, fun j b r hb hr => keepX _ _ (nt (rq.at_ j b r hb hr)) (cr.at_ j b r hb hr)⟩
      have dsb : SB t H dH := fun b o nb e => keepX b o nb (csb b o nb e)
      have nDK : DK ≠ t := fun y => by rw [y, ct] at hDK; cases hDK
      have dK : dH DK = some (.dK (kvF (fun r => V.str r.ki) rs)) := by rw [dE, upd_ne nDK]; exact hDD
      have dF : dH DF = some (.dK (kvF (fun r => V.str r.fo) rs)) := keepX _ _ nDF cF
      rw [← dE]
      clear dE keepX sm hDD H5

      refine ⟨_, rfl, t, C, dx, _, _, rfl, dt, T.cl, T.nq, (by rw [lookup_putF, if_neg qk_, lookup_putF, if_neg qf_, lookup_putF, if_pos rfl]), q, rfl, ⟨_, sqT dq⟩, fun DP hDP => ?_⟩
      refine dc_tup (K := K) (a := q) (xs := qs.map V.ref) (fun i H' => Same dH H' ∧ H' DP = some (.dK (kvF (fun r => prV r.pr) (rs.take i)))) ⟨Same.new hDP, upd_same⟩ (fun i H' _ m => sqT (m.1 _ _ dq)) ?_ ?_
      · rintro i x H' hx ⟨sm, hDi⟩
        rw [List.getElem?_map] at hx
        obtain ⟨qa, hqa, rfl⟩ := Option.map_eq_some_iff.mp hx
        obtain ⟨r, hr'⟩ : ∃ r, rs[i]? = some r := ⟨rs[i]'(by rw [← rq.len]; exact (List.getElem?_eq_some_iff.mp hqa).1), List.getElem?_eq_getElem _⟩
        have e := sm _ _ (dr.at_ i qa r hqa hr')
        refine ⟨qa, _, rfl, sqT e, rfl, _, _, rfl, _, _, rfl, _, _, rfl, _, _, rfl, rfl, rfl, tYes_if ⟨_, rfl, _, rfl, _, .inr r.nm, rfl, hDi, small1000 (by unfold kvF; rw [List.length_map, List.length_take]; omega), fun b o e => ?_, ?_⟩⟩
        · rw [upd_ne (fun y => by rw [y, hDP] at e; cases e)]
          exact sm b o e
        · rw [upd_same]
          exact congrArg (fun l => some (HO.dK l)) (kvF_more (g := (fun r => prV r.pr)) hr' (hv i r hr').new)
      rintro H5 ⟨sm, hDD⟩
      rw [List.length_map, rq.len, List.take_length] at hDD
      refine ⟨_, rfl, t, C, dx, _, rfl, sm _ _ dt, T.cl, T.np, ?_, ?_⟩
      · exact Nat.lt_of_le_of_lt (Nat.le_trans (putF_len _ _ _) (Nat.succ_le_succ (Nat.le_trans (putF_len _ _ _) (Nat.succ_le_succ (putF_len _ _ _))))) (by decide)
      obtain ⟨eH, eE⟩ : ∃ Hx, Hx = upd H5 t (.ins C dx (putF "prices" (.ref DP) (putF "kinds" (.ref DK) (putF "folders" (.ref DF) (putF "quads" (.ref q) []))))) := ⟨_, rfl⟩
      have et : eH t = some (.ins C dx (putF "prices" (.ref DP) (putF "kinds" (.ref DK) (putF "folders" (.ref DF) (putF "quads" (.ref q) []))))) := by rw [eE]; exact upd_same
      have keepX : ∀ b o, b ≠ t → dH b = some o → eH b = some o := fun b o nb e => by rw [eE, upd_ne nb]; exact sm b o e
      have eq : eH q = some (.tup (qs.map V.ref)) := keepX _ _ tq.symm dq
      have er : RowsAt eH qs rs := ⟨rq.len, fun j b r hb hr => keepX _ _ (nt (rq.at_ j b r hb hr)) (dr.at_ j b r hb hr)⟩
      have esb : SB t H eH := fun b o nb e => keepX b o nb (dsb b o nb e)
      have nDP : DP ≠ t := fun y => by rw [y, dt] at hDP; cases hDP
      have eP : eH DP = some (.dK (kvF (fun r => prV r.pr) rs)) := by rw [eE, upd_ne nDP]; exact hDD
      have eF : eH DF = some (.dK (kvF (fun r => V.str r.fo) rs)) := keepX _ _ nDF dF
      have eK : eH DK = some (.dK (kvF (fun r => V.str r.ki) rs)) := keepX _ _ nDK dK
      rw [← eE]
      clear eE keepX sm hDD H5
      exact hq eH esb ⟨⟨dx, q, DF, DK, DP, qs, et, eq, er, eF, eK, eP⟩, hv, hl⟩
end
end Ts

set_option maxRecDepth 100000
set_option maxHeartbeats 4000000
namespace Ts
open PySem L2
/-! ### rows as data -/
def prD : Option Int → PyData
  | none => .none
  | some i => .int i
def rowD (r : Row) : PyData := .tuple [.str r.nm, .str r.fo, .str r.ki, prD r.pr]
theorem prD_ok {K : PySem.W.Frag} {H : Hp} (o : Option Int) : Dp K H (prV o) (prD o) := by
  cases o with
  | none => exact .non
  | some i => exact .int i
theorem row_dp {K : PySem.W.Frag} {H : Hp} {a : Addr} {r : Row} (h : H a = some (.tup (rowVs r))) : Dp K H (.ref a) (rowD r) :=
  .tup (sqT h) (.cons (.str _) (.cons (.str _) (.cons (.str _) (.cons (prD_ok _) .nil))))
theorem rows_dp {K : PySem.W.Frag} {H : Hp} : ∀ {as : List Addr} {rs : List Row}, RowsAt H as rs → DpAll K H (as.map V.ref) (rs.map rowD)
  | [], [], _ => .nil
  | [], _ :: _, h => by have := h.len; simp at this
  | _ :: _, [], h => by have := h.len; simp at this
  | a :: as, r :: rs, h => .cons (row_dp (h.at_ 0 a r rfl rfl)) (rows_dp ⟨by simpa using h.len, fun i b q hb hq => h.at_ (i + 1) b q (by simpa using hb) (by simpa using hq)⟩)
theorem str_beq (x y : Str) : (x == y) = decide (x = y) := by
  by_cases h : x = y
  · subst h; simp
  · rw [decide_eq_false h]; exact beq_eq_false_iff_ne.mpr h
theorem prD_eqv (a b : Option Int) : PyData.eqv (prD a) (prD b) = decide (a = b) := by
  cases a <;> cases b <;> simp [prD, PyData.eqv]
  rename_i i j
  by_cases h : i = j <;> simp [h]
theorem row_eqv (a b : Row) : PyData.eqv (rowD a) (rowD b) = decide (a = b) := by
  obtain ⟨n1, f1, k1, p1⟩ := a
  obtain ⟨n2, f2, k2, p2⟩ := b
  unfold rowD
  simp only [PyData.eqv, PyData.eqvAll, prD_eqv, str_beq, Bool.and_true]
  by_cases h1 : n1 = n2 <;> by_cases h2 : f1 = f2 <;> by_cases h3 : k1 = k2 <;> by_cases h4 : p1 = p2 <;> simp [h1, h2, h3, h4]
theorem rows_eqv : ∀ (a b : List Row), PyData.eqvAll (a.map rowD) (b.map rowD) = decide (a = b)
  | [], [] => by simp [PyData.eqvAll]
  | [], _ :: _ => by simp [PyData.eqvAll]
  | _ :: _, [] => by simp [PyData.eqvAll]
  | x :: a, y :: b => by
    simp only [List.map_cons, PyData.eqvAll, row_eqv, rows_eqv a b]
    by_cases h1 : x = y <;> by_cases h2 : a = b <;> simp [h1, h2]
theorem low_ok {z : Str} (h : ∀ c ∈ z.cps.toList, c ≤ 122) : PyData.strOk z = true := by
  unfold PyData.strOk
  rw [← Array.all_toList, List.all_eq_true]
  intro c hc
  have := h c hc
  exact decide_eq_true (by omega)
theorem top_ok : PyData.strOk ("top" : Str) = true := by decide +kernel
theorem kinds_ok : ∀ k ∈ kinds3, PyData.strOk k = true := by decide +kernel
structure RowOk (r : Row) : Prop where
  n : PyData.strOk r.nm = true
  f : PyData.strOk r.fo = true
  k : PyData.strOk r.ki = true
theorem rowD_lay {r : Row} (h : RowOk r) : (rowD r).canLay0 = true := by
  obtain ⟨h1, h2, h3⟩ := h
  obtain ⟨n, f, k, p⟩ := r
  cases p <;> simp_all [rowD, prD, PyData.canLay0, PyData.canLayAll0]
theorem rowD_depth (r : Row) : (rowD r).depth = 1 := by
  obtain ⟨n, f, k, p⟩ := r
  cases p <;> simp [rowD, prD, PyData.depth, PyData.depthAll]
theorem rows_lay : ∀ (rs : List Row), (∀ r ∈ rs, RowOk r) → PyData.canLayAll0 (rs.map rowD) = true
  | [], _ => by simp [PyData.canLayAll0]
  | r :: rs, h => by
    simp only [List.map_cons, PyData.canLayAll0, rowD_lay (h r (List.mem_cons_self ..)), rows_lay rs (fun q hq => h q (List.mem_cons_of_mem _ hq)), Bool.and_self]
theorem rows_depth : ∀ (rs : List Row), PyData.depthAll (rs.map rowD) ≤ 1
  | [] => by simp [PyData.depthAll]
  | r :: rs => by
    have ih := rows_depth rs
    simp only [List.map_cons, PyData.depthAll, rowD_depth]
    omega
theorem shaped_tup {rs : List Row} (h : ∀ r ∈ rs, RowOk r) : SeqAt.shaped (.tuple (rs.map rowD)) = true := by
  have q := rows_depth rs
  unfold SeqAt.shaped
  rw [Bool.and_eq_true]
  refine ⟨by simp only [PyData.canLay0]; exact rows_lay rs h, decide_eq_true ?_⟩
  simp only [PyData.depth]
  omega
theorem shaped_lst {rs : List Row} (h : ∀ r ∈ rs, RowOk r) : SeqAt.shaped (.list (rs.map rowD)) = true := by
  have q := rows_depth rs
  unfold SeqAt.shaped
  rw [Bool.and_eq_true]
  refine ⟨by simp only [PyData.canLay0]; exact rows_lay rs h, decide_eq_true ?_⟩
  simp only [PyData.depth]
  omega
theorem shaped_row {r : Row} (h : RowOk r) : SeqAt.shaped (rowD r) = true := by
  simp only [SeqAt.shaped, rowD_lay h, rowD_depth, Bool.true_and]
  decide
theorem low_sok {z : Str} (h : Low z) : PyData.strOk z = true := low_ok fun c hc => (h c hc).2
theorem Valid.ok {rs : List Row} (h : Valid rs) : ∀ r ∈ rs, RowOk r := by
  intro r hr
  obtain ⟨i, hi, rfl⟩ := List.mem_iff_getElem.mp hr
  have f := h i rs[i] (List.getElem?_eq_getElem hi)
  refine ⟨low_sok f.shape.2, ?_, kinds_ok _ f.kind⟩
  rcases f.home with e | ⟨q, hq, e, _⟩
  · rw [e]; exact top_ok
  · obtain ⟨j, hj, rfl⟩ := List.mem_iff_getElem.mp (List.mem_of_mem_take hq)
    rw [← e]
    exact low_sok (h j rs[j] (List.getElem?_eq_getElem hj)).shape.2
/-! ### promises of the methods -/
def names (rs : List Row) : List Str := rs.map (·.nm)
def rowOf (rs : List Row) (z : Str) : Option Row := rs.find? fun r => decide (r.nm = z)
theorem rowOf_some {rs : List Row} {z : Str} (h : z ∈ names rs) : ∃ r, rowOf rs z = some r ∧ r ∈ rs ∧ r.nm = z := by
  unfold rowOf
  obtain ⟨q, hq, e⟩ := List.mem_map.mp h
  cases e1 : rs.find? fun r => decide (r.nm = z) with
  | none =>
    rw [List.find?_eq_none] at e1
    exact absurd (decide_eq_true e) (e1 q hq)
  | some r => exact ⟨r, rfl, List.mem_of_find?_eq_some e1, of_decide_eq_true (List.find?_some (p := fun (r : Row) => decide (r.nm = z)) e1)⟩
def spLen (C : Addr) : Sp := fun vs H Q _ => ∃ (t : Addr) (rs : List Row), vs = [.ref t] ∧ TreeAt C H t rs ∧ Q (.int rs.length) H
def Other (K : PySem.W.Frag) (H : Hp) (x : V) (c : Value) : Prop := ∃ ty, TyX K H x ty ∧ PySem.W.kitOne K ty c = some false
def spContains (K : PySem.W.Frag) (C : Addr) : Sp := fun vs H Q _ => ∃ (t : Addr) (x : V) (rs : List Row), vs = [.ref t, x] ∧ TreeAt C H t rs ∧
  ((∃ z, x = .str z ∧ Q (.bl (decide (z ∈ names rs))) H) ∨ (Other K H x (.type "str") ∧ Q (.bl false) H))
def spEqT (K : PySem.W.Frag) (C : Addr) : Sp := fun vs H Q _ => ∃ (t : Addr) (x : V) (rs : List Row), vs = [.ref t, x] ∧ TreeAt C H t rs ∧
  ((∃ (u : Addr) (qs : List Row), x = .ref u ∧ TreeAt C H u qs ∧ Q (.bl (decide (rs = qs))) H) ∨ (Other K H x (.ref C) ∧ Q (.bl false) H))
def spRowsM (C : Addr) : Sp := fun vs H Q _ => ∃ (t : Addr) (rs : List Row), vs = [.ref t] ∧ TreeAt C H t rs ∧ ∀ p (qs : List Addr), H p = none → RowsAt H qs rs → Q (.ref p) (upd H p (.lst (qs.map V.ref)))
def spBox (C : Addr) : Sp := fun vs H Q _ => ∃ (t : Addr) (z : Str) (rs : List Row), vs = [.ref t, .str z] ∧ TreeAt C H t rs ∧ z ∈ names rs ∧ Q .non H
def spIsPlace (C : Addr) : Sp := fun vs H Q _ => ∃ (t : Addr) (z : Str) (rs : List Row), vs = [.ref t, .str z] ∧ TreeAt C H t rs ∧ Q (.bl (decide (z = ("top" : Str) ∨ z ∈ names rs))) H
def spPlace (C : Addr) : Sp := fun vs H Q _ => ∃ (t : Addr) (z : Str) (rs : List Row), vs = [.ref t, .str z] ∧ TreeAt C H t rs ∧ (z = ("top" : Str) ∨ z ∈ names rs) ∧ Q .non H
def spGet (C : Addr) (g : Row → V) : Sp := fun vs H Q _ => ∃ (t : Addr) (z : Str) (rs : List Row) (r : Row), vs = [.ref t, .str z] ∧ TreeAt C H t rs ∧ rowOf rs z = some r ∧ Q (g r) H
section
variable {P : Program} {w : World} {K : PySem.W.Frag} {mg : Str → Option Value} {base : Heap} {C : Addr}
theorem sc_Tree_len : FnScope ["self"] ["self"] (defScope s_Tree_len) := ⟨rfl, rfl, rfl, by decide +kernel, rfl, by decide +kernel, by decide +kernel⟩
theorem ok_Tree_len {f : Addr} {fd : FuncData} (F : Fun K "__len__" "Tree.__len__" s_Tree_len f fd) (B : TxB mg) (T : TxT K mg C) : FnOk P w K mg base CX0 2 f fd ["self"] (spLen C) := by
  refine F.ok sc_Tree_len (fun vs H Q E h => ?_) (fun cdv A outer s H vs Q E hr h => ?_)
  · obtain ⟨t, rs, rfl, _⟩ := h
    rfl
  · obtain ⟨t, rs, rfl, ht, hq⟩ := h
    obtain ⟨dx, q, f, k, p, qs, h1, h2, h3, h4, h5, h6⟩ := ht.ex
    refine ⟨_, pss_one (ps_ret (pe_callB call_len_seq (by rfl) B.len PySem.boot_len (pa_cons (pe_fld (pv 0) rfl) pa_nil))), ?_⟩
    refine ⟨_, rfl, t, C, dx, _, _, rfl, h1, T.cl, T.nq, tf_q _ _ _ _, q, _, rfl, .inr (sqT h2), ?_⟩
    rw [List.length_map, h3.len]
    exact hq
theorem sc_Tree_contains : FnScope ["self", "x"] ["self", "x"] (defScope s_Tree_contains) := ⟨rfl, rfl, rfl, by decide +kernel, rfl, by decide +kernel, by decide +kernel⟩
theorem ok_Tree_contains {f : Addr} {fd : FuncData} (F : Fun K "__contains__" "Tree.__contains__" s_Tree_contains f fd) (B : TxB mg) (T : TxT K mg C) : FnOk P w K mg base CX0 2 f fd ["self", "x"] (spContains K C) := by
  refine F.ok sc_Tree_contains (fun vs H Q E h => ?_) (fun cdv A outer s H vs Q E hr h => ?_)
  · obtain ⟨t, x, rs, rfl, _⟩ := h
    rfl
  · obtain ⟨t, x, rs, rfl, ht, h⟩ := h
    have hu := hu_of hr
    obtain ⟨dx, q, f, k, p, qs, h1, h2, h3, h4, h5, h6⟩ := ht.ex
    refine ⟨_, pss_one (ps_ret (pe_and (pe_callB call_isi (by rfl) B.isinstance (by decide +kernel) (pa_cons (pv 1) (pa_cons (pe_bltn (by rfl) B.str (by decide +kernel) (v := .ty "str") rfl) pa_nil))) (pe_one (pe_cmp (pc_din hu (pv 1) (pe_fld (pv 0) rfl)) rfl)))), ?_⟩
    rcases h with ⟨z, rfl, hq⟩ | ⟨⟨ty, hty, hk⟩, hq⟩
    · refine ⟨_, rfl, _, _, _, _, true, rfl, .ty "str", .base (.str z), kit_ty (by decide +kernel), _, rfl, iteT ?_⟩
      refine ⟨_, rfl, _, rfl, t, C, dx, _, _, rfl, h1, T.cl, T.nk, tf_k _ _ _ _, k, _, rfl, DGet.k (k := Sum.inr z) h5, ?_⟩
      rw [valV_kvF]
      have e : ((rs.find? fun r => decide (r.nm = z)).map fun r => V.str r.ki).isSome = decide (z ∈ names rs) := by
        by_cases hz : z ∈ names rs
        · obtain ⟨r, e1, _⟩ := rowOf_some hz
          unfold rowOf at e1
          rw [e1, decide_eq_true hz]; rfl
        · rw [find_none hz, decide_eq_false hz]; rfl
      rw [e]
      exact hq
    · exact ⟨_, rfl, _, _, _, _, false, rfl, .ty "str", hty, hk, _, rfl, iteF hq⟩
theorem sc_Tree_eq : FnScope ["self", "other"] ["self", "other"] (defScope s_Tree_eq) := ⟨rfl, rfl, rfl, by decide +kernel, rfl, by decide +kernel, by decide +kernel⟩
theorem ok_Tree_eq {f : Addr} {fd : FuncData} (F : Fun K "__eq__" "Tree.__eq__" s_Tree_eq f fd) (B : TxB mg) (T : TxT K mg C) (I : C8.InsC K C) : FnOk P w K mg base CX0 2 f fd ["self", "other"] (spEqT K C) := by
  refine F.ok sc_Tree_eq (fun vs H Q E h => ?_) (fun cdv A outer s H vs Q E hr h => ?_)
  · obtain ⟨t, x, rs, rfl, _⟩ := h
    rfl
  · obtain ⟨t, x, rs, rfl, ht, h⟩ := h
    obtain ⟨dx, q, f, k, p, qs, h1, h2, h3, h4, h5, h6⟩ := ht.ex
    refine ⟨_, pss_one (ps_ret (pe_and (pe_callB call_isi (by rfl) B.isinstance (by decide +kernel) (pa_cons (pv 1) (pa_cons (pe_glob (by rfl) T.g (v := .ref C) rfl) pa_nil))) (pe_one (pe_cmpR (op_eqD (by have := hr.units; exact this)) (pe_fld (pv 0) rfl) (pe_fld (pv 1) rfl) (nomark _))))), ?_⟩
    rcases h with ⟨u, ys, rfl, hu, hq⟩ | ⟨⟨ty, hty, hk⟩, hq⟩
    · obtain ⟨dx', q', f', k', p', qs', g1, g2, g3, g4, g5, g6⟩ := hu.ex
      refine ⟨_, rfl, _, _, _, _, true, rfl, .own C, .base (.ins g1 I.cl I.ha I.hn I.htk I.hm), I.me, _, rfl, iteT ?_⟩
      refine ⟨_, rfl, t, C, dx, _, _, rfl, h1, T.cl, T.nq, tf_q _ _ _ _, _, rfl, u, C, dx', _, _, rfl, g1, T.cl, T.nq, tf_q _ _ _ _, _, _, .tup (sqT h2) (rows_dp h3), .tup (sqT g2) (rows_dp g3), shaped_tup ht.val.ok, shaped_tup hu.val.ok, ?_⟩
      have e : PyData.eqv (.tuple (rs.map rowD)) (.tuple (ys.map rowD)) = decide (rs = ys) := by
        simp only [PyData.eqv]
        exact rows_eqv rs ys
      rw [e]
      exact hq
    · exact ⟨_, rfl, _, _, _, _, false, rfl, .own C, hty, hk, _, rfl, iteF hq⟩
theorem sc_Tree_rows : FnScope ["self"] ["self"] (defScope s_Tree_rows) := ⟨rfl, rfl, rfl, by decide +kernel, rfl, by decide +kernel, by decide +kernel⟩
theorem ok_Tree_rows {f : Addr} {fd : FuncData} (F : Fun K "rows" "Tree.rows" s_Tree_rows f fd) (B : TxB mg) (T : TxT K mg C) : FnOk P w K mg base CX0 2 f fd ["self"] (spRowsM C) := by
  refine F.ok sc_Tree_rows (fun vs H Q E h => ?_) (fun cdv A outer s H vs Q E hr h => ?_)
  · obtain ⟨t, rs, rfl, _⟩ := h
    rfl
  · obtain ⟨t, rs, rfl, ht, hq⟩ := h
    obtain ⟨dx, q, f, k, p, qs, h1, h2, h3, h4, h5, h6⟩ := ht.ex
    refine ⟨_, pss_one (ps_ret (pe_callTy call_list_of (by rfl) B.list (by decide +kernel) (pa_cons (pe_fld (pv 0) rfl) pa_nil))), ?_⟩
    exact ⟨_, rfl, t, C, dx, _, _, rfl, h1, T.cl, T.nq, tf_q _ _ _ _, q, _, rfl, .inr (sqT h2), fun l hl => hq l qs hl h3⟩
theorem sc_check_box : FnScope ["tree", "thing"] ["tree", "thing"] (defScope s_check_box) := ⟨rfl, rfl, rfl, by decide +kernel, rfl, by decide +kernel, by decide +kernel⟩
theorem ok_check_box (D : DefAt K mg "check_box" s_check_box ["tree", "thing"]) (M : MethAt K C "__contains__" "Tree.__contains__" s_Tree_contains ["self", "x"]) (B : TxB mg) (T : TxT K mg C) : FnOk P w K mg base CX0 3 D.f D.fd ["tree", "thing"] (spBox C) := by
  have G : FnOk P w K mg base CX0 2 M.f M.fd ["self", "x"] (spContains K C) := ok_Tree_contains M.F B T
  refine D.F.ok sc_check_box (fun vs H Q E h => ?_) (fun cdv A outer s H vs Q E hr h => ?_)
  · obtain ⟨t, z, rs, rfl, _⟩ := h
    rfl
  · obtain ⟨t, z, rs, rfl, ht, hz, hq⟩ := h
    obtain ⟨dx, q, f, k, p, qs, h1, h2⟩ := ht.ex
    refine ⟨_, pss_one (ps_if (pt_cmpR (op_notinC G M.m hr M.b pass0) (pv 1) (pv 0) (by rfl)) (pss_one ps_never) pss_nil), ?_⟩
    refine ⟨_, rfl, _, rfl, t, dx, _, rfl, h1, t, _, rs, rfl, ht, .inl ⟨z, rfl, _, rfl, _, rfl, ?_⟩⟩
    rw [decide_eq_true hz]
    exact iteF hq
theorem sc_is_place : FnScope ["tree", "thing"] ["tree", "thing"] (defScope s_is_place) := ⟨rfl, rfl, rfl, by decide +kernel, rfl, by decide +kernel, by decide +kernel⟩
theorem ok_is_place (D : DefAt K mg "is_place" s_is_place ["tree", "thing"]) (M : MethAt K C "__contains__" "Tree.__contains__" s_Tree_contains ["self", "x"]) (B : TxB mg) (TC : TxC K mg) (T : TxT K mg C) : FnOk P w K mg base CX0 3 D.f D.fd ["tree", "thing"] (spIsPlace C) := by
  have G : FnOk P w K mg base CX0 2 M.f M.fd ["self", "x"] (spContains K C) := ok_Tree_contains M.F B T
  obtain ⟨t1, gT⟩ := TC.top
  refine D.F.ok sc_is_place (fun vs H Q E h => ?_) (fun cdv A outer s H vs Q E hr h => ?_)
  · obtain ⟨t, z, rs, rfl, _⟩ := h
    rfl
  · obtain ⟨t, z, rs, rfl, ht, hq⟩ := h
    obtain ⟨dx, q, f, k, p, qs, h1, h2⟩ := ht.ex
    refine ⟨_, pss_one (ps_ret (pe_or (pe_cmpR op_eq (pv 1) (pe_glob (by rfl) gT (v := .str ("top" : Str)) ⟨_, rfl⟩) (nomark _)) (pe_one (pe_cmpR (op_inC G M.m hr M.b pass0) (pv 1) (pv 0) (by rfl))))), ?_⟩
    refine ⟨_, rfl, rfl, _, rfl, ?_⟩
    have e0 : decide (V.str z = V.str ("top" : Str)) = decide (z = ("top" : Str)) := decide_eq_decide.mpr ⟨fun h => V.str.inj h, fun h => congrArg _ h⟩
    rw [e0]
    refine ite2 (fun hc => ?_) (fun hc => ?_)
    · have hc' : z = ("top" : Str) := of_decide_eq_true hc
      rw [decide_eq_true (Or.inl hc')] at hq
      exact hq
    · have hc' : ¬ z = ("top" : Str) := fun e => hc (decide_eq_true e)
      refine ⟨_, rfl, _, rfl, t, dx, _, rfl, h1, t, _, rs, rfl, ht, .inl ⟨z, rfl, _, rfl, ?_⟩⟩
      have e1 : decide (z = ("top" : Str) ∨ z ∈ names rs) = decide (z ∈ names rs) := decide_eq_decide.mpr ⟨fun h => h.resolve_left hc', Or.inr⟩
      rw [e1] at hq
      exact hq
theorem sc_check_place : FnScope ["tree", "thing"] ["tree", "thing"] (defScope s_check_place) := ⟨rfl, rfl, rfl, by decide +kernel, rfl, by decide +kernel, by decide +kernel⟩
theorem ok_check_place (D : DefAt K mg "check_place" s_check_place ["tree", "thing"]) (Db : DefAt K mg "is_place" s_is_place ["tree", "thing"]) (Gb : FnOk P w K mg base CX0 3 Db.f Db.fd ["tree", "thing"] (spIsPlace C)) : FnOk P w K mg base CX0 4 D.f D.fd ["tree", "thing"] (spPlace C) := by
  refine D.F.ok sc_check_place (fun vs H Q E h => ?_) (fun cdv A outer s H vs Q E hr h => ?_)
  · obtain ⟨t, z, rs, rfl, _⟩ := h
    rfl
  · obtain ⟨t, z, rs, rfl, ht, hz, hq⟩ := h
    refine ⟨_, pss_one (ps_if (pt_not (pt_val (pe_call Gb hr rfl Db.g Db.F.kp Db.b .nil pass0 (pa_cons (pv 0) (pa_cons (pv 1) pa_nil))))) (pss_one ps_never) pss_nil), ?_⟩
    refine ⟨_, rfl, _, rfl, t, z, rs, rfl, ht, _, rfl, ?_⟩
    rw [decide_eq_true hz]
    exact iteF hq
theorem sc_Tree_folder : FnScope ["self", "box"] ["self", "box"] (defScope s_Tree_folder) := ⟨rfl, rfl, rfl, by decide +kernel, rfl, by decide +kernel, by decide +kernel⟩
theorem ok_Tree_folder {f : Addr} {fd : FuncData} (F : Fun K "folder" "Tree.folder" s_Tree_folder f fd) (Db : DefAt K mg "check_box" s_check_box ["tree", "thing"]) (Gb : FnOk P w K mg base CX0 3 Db.f Db.fd ["tree", "thing"] (spBox C)) (T : TxT K mg C) : FnOk P w K mg base CX0 4 f fd ["self", "box"] (spGet C (fun r => V.str r.fo)) := by
  refine F.ok sc_Tree_folder (fun vs H Q E h => ?_) (fun cdv A outer s H vs Q E hr h => ?_)
  · obtain ⟨t, z, rs, r, rfl, _⟩ := h
    rfl
  · obtain ⟨t, z, rs, r, rfl, ht, hz, hq⟩ := h
    have hu := hu_of hr
    obtain ⟨dx, q, f, k, p, qs, h1, h2, h3, h4, h5, h6⟩ := ht.ex
    refine ⟨_, pss_cons (ps_expr (pe_call Gb hr rfl Db.g Db.F.kp Db.b .nil pass0 (pa_cons (pv 0) (pa_cons (pv 1) pa_nil)))) (pss_one (ps_ret (pe_dget hu (pe_fld (pv 0) rfl) (pv 1) (fun _ _ => rfl)))), ?_⟩
    have hin : z ∈ names rs := List.mem_map.mpr ⟨r, List.mem_of_find?_eq_some hz, of_decide_eq_true (List.find?_some (p := fun (r : Row) => decide (r.nm = z)) (show rs.find? (fun (r : Row) => decide (r.nm = z)) = some r from hz))⟩
    refine ⟨_, rfl, _, rfl, t, z, rs, rfl, ht, hin, _, rfl, t, C, dx, _, _, rfl, h1, T.cl, T.nf, tf_f _ _ _ _, _, rfl, f, _, rfl, ?_, hq⟩
    have e := DGet.k (k := Sum.inr z) h4
    rw [valV_kvF, show (rs.find? fun r => decide (r.nm = z)) = some r from hz] at e
    exact e
theorem sc_Tree_kind : FnScope ["self", "box"] ["self", "box"] (defScope s_Tree_kind) := ⟨rfl, rfl, rfl, by decide +kernel, rfl, by decide +kernel, by decide +kernel⟩
theorem ok_Tree_kind {f : Addr} {fd : FuncData} (F : Fun K "kind" "Tree.kind" s_Tree_kind f fd) (Db : DefAt K mg "check_box" s_check_box ["tree", "thing"]) (Gb : FnOk P w K mg base CX0 3 Db.f Db.fd ["tree", "thing"] (spBox C)) (T : TxT K mg C) : FnOk P w K mg base CX0 4 f fd ["self", "box"] (spGet C (fun r => V.str r.ki)) := by
  refine F.ok sc_Tree_kind (fun vs H Q E h => ?_) (fun cdv A outer s H vs Q E hr h => ?_)
  · obtain ⟨t, z, rs, r, rfl, _⟩ := h
    rfl
  · obtain ⟨t, z, rs, r, rfl, ht, hz, hq⟩ := h
    have hu := hu_of hr
    obtain ⟨dx, q, f, k, p, qs, h1, h2, h3, h4, h5, h6⟩ := ht.ex
    refine ⟨_, pss_cons (ps_expr (pe_call Gb hr rfl Db.g Db.F.kp Db.b .nil pass0 (pa_cons (pv 0) (pa_cons (pv 1) pa_nil)))) (pss_one (ps_ret (pe_dget hu (pe_fld (pv 0) rfl) (pv 1) (fun _ _ => rfl)))), ?_⟩
    have hin : z ∈ names rs := List.mem_map.mpr ⟨r, List.mem_of_find?_eq_some hz, of_decide_eq_true (List.find?_some (p := fun (r : Row) => decide (r.nm = z)) (show rs.find? (fun (r : Row) => decide (r.nm = z)) = some r from hz))⟩
    refine ⟨_, rfl, _, rfl, t, z, rs, rfl, ht, hin, _, rfl, t, C, dx, _, _, rfl, h1, T.cl, T.nk, tf_k _ _ _ _, _, rfl, k, _, rfl, ?_, hq⟩
    have e := DGet.k (k := Sum.inr z) h5
    rw [valV_kvF, show (rs.find? fun r => decide (r.nm = z)) = some r from hz] at e
    exact e
theorem sc_Tree_price : FnScope ["self", "box"] ["self", "box"] (defScope s_Tree_price) := ⟨rfl, rfl, rfl, by decide +kernel, rfl, by decide +kernel, by decide +kernel⟩
theorem ok_Tree_price {f : Addr} {fd : FuncData} (F : Fun K "price" "Tree.price" s_Tree_price f fd) (Db : DefAt K mg "check_box" s_check_box ["tree", "thing"]) (Gb : FnOk P w K mg base CX0 3 Db.f Db.fd ["tree", "thing"] (spBox C)) (T : TxT K mg C) : FnOk P w K mg base CX0 4 f fd ["self", "box"] (spGet C (fun r => prV r.pr)) := by
  refine F.ok sc_Tree_price (fun vs H Q E h => ?_) (fun cdv A outer s H vs Q E hr h => ?_)
  · obtain ⟨t, z, rs, r, rfl, _⟩ := h
    rfl
  · obtain ⟨t, z, rs, r, rfl, ht, hz, hq⟩ := h
    have hu := hu_of hr
    obtain ⟨dx, q, f, k, p, qs, h1, h2, h3, h4, h5, h6⟩ := ht.ex
    refine ⟨_, pss_cons (ps_expr (pe_call Gb hr rfl Db.g Db.F.kp Db.b .nil pass0 (pa_cons (pv 0) (pa_cons (pv 1) pa_nil)))) (pss_one (ps_ret (pe_dget hu (pe_fld (pv 0) rfl) (pv 1) (fun _ _ => rfl)))), ?_⟩
    have hin : z ∈ names rs := List.mem_map.mpr ⟨r, List.mem_of_find?_eq_some hz, of_decide_eq_true (List.find?_some (p := fun (r : Row) => decide (r.nm = z)) (show rs.find? (fun (r : Row) => decide (r.nm = z)) = some r from hz))⟩
    refine ⟨_, rfl, _, rfl, t, z, rs, rfl, ht, hin, _, rfl, t, C, dx, _, _, rfl, h1, T.cl, T.np, tf_p _ _ _ _, _, rfl, p, _, rfl, ?_, hq⟩
    have e := DGet.k (k := Sum.inr z) h6
    rw [valV_kvF, show (rs.find? fun r => decide (r.nm = z)) = some r from hz] at e
    exact e
end
end Ts

set_option maxRecDepth 100000
set_option maxHeartbeats 4000000
namespace Ts
open PySem L2
/-! ### ways -/
def wayR : List Row → Str → List Str
  | [], _ => []
  | r :: rest, z => if r.nm = z then wayR rest r.fo ++ [z] else wayR rest z
def wayOf (rs : List Row) (z : Str) : List Str := wayR rs.reverse z
structure FitR (rest : List Row) (r : Row) : Prop where
  top : r.nm ≠ ("top" : Str)
  new : r.nm ∉ rest.map (·.nm)
  home : r.fo = ("top" : Str) ∨ r.fo ∈ rest.map (·.nm)
def ValidR : List Row → Prop
  | [] => True
  | r :: rest => FitR rest r ∧ ValidR rest
theorem Valid.init {rs : List Row} {r : Row} (h : Valid (rs ++ [r])) : Valid rs := fun i q hq => by
  have hi : i < rs.length := (List.getElem?_eq_some_iff.mp hq).1
  have f := h i q (by rw [List.getElem?_append_left hi]; exact hq)
  rw [List.take_append_of_le_length (Nat.le_of_lt hi)] at f
  exact f
theorem Valid.last {rs : List Row} {r : Row} (h : Valid (rs ++ [r])) : Fits rs r := by
  have f := h rs.length r (by simp)
  rw [List.take_append_of_le_length (Nat.le_refl _), List.take_length] at f
  exact f
theorem validR : ∀ l : List Row, Valid l.reverse → ValidR l
  | [], _ => trivial
  | r :: l, h => by
    rw [List.reverse_cons] at h
    have f := h.last
    refine ⟨⟨f.top, by simpa using f.new, ?_⟩, validR l h.init⟩
    rcases f.home with e | ⟨q, hq, e, _⟩
    · exact .inl e
    · exact .inr (List.mem_map.mpr ⟨q, List.mem_reverse.mp hq, e⟩)
theorem wayR_mem : ∀ {l : List Row} {z x : Str}, x ∈ wayR l z → x ∈ l.map (·.nm)
  | [], _, _, h => by cases h
  | r :: l, z, x, h => by
    unfold wayR at h
    by_cases e : r.nm = z
    · rw [if_pos e] at h
      rcases List.mem_append.mp h with h | h
      · exact List.mem_cons_of_mem _ (wayR_mem h)
      · rw [List.mem_singleton.mp h, ← e]; exact List.mem_cons_self ..
    · rw [if_neg e] at h
      exact List.mem_cons_of_mem _ (wayR_mem h)
theorem wayR_out : ∀ {l : List Row} {z : Str}, z ∉ l.map (·.nm) → wayR l z = []
  | [], _, _ => rfl
  | r :: l, z, h => by
    unfold wayR
    rw [if_neg fun e => h (List.mem_map.mpr ⟨r, List.mem_cons_self .., e⟩)]
    exact wayR_out fun q => h (List.mem_cons_of_mem _ q)
theorem ValidR.home : ∀ {l : List Row} {r : Row}, ValidR l → r ∈ l → r.fo = ("top" : Str) ∨ r.fo ∈ l.map (·.nm)
  | q :: l, r, h, hr => by
    rcases List.mem_cons.mp hr with e | hr
    · subst e; exact h.1.home.imp id (List.mem_cons_of_mem _)
    · exact (h.2.home hr).imp id (List.mem_cons_of_mem _)
theorem ValidR.top : ∀ {l : List Row}, ValidR l → ("top" : Str) ∉ l.map (·.nm)
  | [], _, h => by cases h
  | r :: l, h, hm => by
    rcases List.mem_cons.mp hm with e | hm
    · exact h.1.top e.symm
    · exact h.2.top hm
theorem wayR_step : ∀ {l : List Row} {r : Row}, ValidR l → r ∈ l → wayR l r.nm = wayR l r.fo ++ [r.nm]
  | q :: l, r, h, hr => by
    rcases List.mem_cons.mp hr with e | hr'
    · subst e
      have ne : ¬ r.nm = r.fo := fun e => by
        rcases h.1.home with e2 | e2
        · exact h.1.top (e.trans e2)
        · exact h.1.new (e ▸ e2)
      show (if r.nm = r.nm then wayR l r.fo ++ [r.nm] else wayR l r.nm) = (if r.nm = r.fo then wayR l r.fo ++ [r.fo] else wayR l r.fo) ++ [r.nm]
      rw [if_pos rfl, if_neg ne]
    · have n1 : ¬ q.nm = r.nm := fun e => h.1.new (List.mem_map.mpr ⟨r, hr', e.symm⟩)
      have n2 : ¬ q.nm = r.fo := fun e => by
        rcases h.2.home hr' with e2 | e2
        · exact h.1.top (e.trans e2)
        · exact h.1.new (e ▸ e2)
      show (if q.nm = r.nm then wayR l q.fo ++ [r.nm] else wayR l r.nm) = (if q.nm = r.fo then wayR l q.fo ++ [r.fo] else wayR l r.fo) ++ [r.nm]
      rw [if_neg n1, if_neg n2]
      exact wayR_step h.2 hr'
theorem Valid.r {rs : List Row} (h : Valid rs) : ValidR rs.reverse := validR rs.reverse (by rw [List.reverse_reverse]; exact h)
theorem way_step {rs : List Row} (h : Valid rs) {r : Row} (hr : r ∈ rs) : wayOf rs r.nm = wayOf rs r.fo ++ [r.nm] := wayR_step h.r (List.mem_reverse.mpr hr)
theorem way_out {rs : List Row} {z : Str} (h : z ∉ names rs) : wayOf rs z = [] := wayR_out (by rw [List.map_reverse]; exact fun q => h (List.mem_reverse.mp q))
theorem top_not {rs : List Row} (h : Valid rs) : ("top" : Str) ∉ names rs := fun q => h.r.top (by rw [List.map_reverse]; exact List.mem_reverse.mpr q)
theorem way_top {rs : List Row} (h : Valid rs) : wayOf rs ("top" : Str) = [] := way_out (top_not h)
theorem way_mem {rs : List Row} {z x : Str} (h : x ∈ wayOf rs z) : x ∈ names rs := by
  have q := wayR_mem h
  rw [List.map_reverse] at q
  exact List.mem_reverse.mp q
theorem way_self {rs : List Row} (h : Valid rs) {z : Str} (hz : z ∈ names rs) : z ∈ wayOf rs z := by
  obtain ⟨r, hr, rfl⟩ := List.mem_map.mp hz
  rw [way_step h hr]
  simp
theorem Valid.fo {rs : List Row} (h : Valid rs) {i : Nat} {r : Row} (hr : rs[i]? = some r) : r.fo = ("top" : Str) ∨ r.fo ∈ names (rs.take i) := by
  rcases (h i r hr).home with e | ⟨q, hq, e, _⟩
  · exact .inl e
  · exact .inr (List.mem_map.mpr ⟨q, hq, e⟩)
theorem names_take {rs : List Row} {i : Nat} {z : Str} (h : z ∈ names (rs.take i)) : z ∈ names rs := by
  obtain ⟨r, hr, rfl⟩ := List.mem_map.mp h
  exact List.mem_map.mpr ⟨r, List.mem_of_mem_take hr, rfl⟩
theorem names_at {rs : List Row} {i : Nat} {z : Str} (h : z ∈ names (rs.take i)) : ∃ j r, j < i ∧ rs[j]? = some r ∧ r.nm = z := by
  obtain ⟨r, hr, rfl⟩ := List.mem_map.mp h
  obtain ⟨j, hj, e⟩ := List.mem_iff_getElem.mp hr
  rw [List.length_take] at hj
  refine ⟨j, r, by omega, ?_, rfl⟩
  rw [← e, List.getElem_take]
  exact List.getElem?_eq_getElem _
theorem way_pre {rs : List Row} (h : Valid rs) : ∀ (i : Nat) {z x : Str}, z ∈ names (rs.take i) → x ∈ wayOf rs z → x ∈ names (rs.take i) := by
  intro i
  induction i using Nat.strongRecOn with
  | _ i ih =>
    intro z x hz hx
    obtain ⟨j, r, hj, hr, rfl⟩ := names_at hz
    rw [way_step h (List.mem_of_getElem? hr)] at hx
    rcases List.mem_append.mp hx with hx | hx
    · rcases h.fo hr with e | e
      · rw [e, way_top h] at hx; cases hx
      · have q := ih j hj e hx
        obtain ⟨j2, r2, hj2, hr2, rfl⟩ := names_at q
        exact List.mem_map.mpr ⟨r2, List.mem_take_iff_getElem.mpr ⟨j2, by have := (List.getElem?_eq_some_iff.mp hr2).1; omega, (List.getElem?_eq_some_iff.mp hr2).2⟩, rfl⟩
    · rw [List.mem_singleton.mp hx]; exact hz
/-- what lies within z -/
def isIn (rs : List Row) (z : Str) (r : Row) : Bool := decide (r.nm ≠ z) && (decide (z = ("top" : Str)) || decide (z ∈ wayOf rs r.nm))
def belowL (rs : List Row) (z : Str) : List Str := (rs.filter (isIn rs z)).map (·.nm)
def insideL (rs : List Row) (z : Str) : List Str := (rs.filter fun r => decide (r.fo = z)).map (·.nm)
theorem below_in {rs : List Row} (h : Valid rs) {z : Str} (hz : z = ("top" : Str) ∨ z ∈ names rs) {i : Nat} {r : Row} (hr : rs[i]? = some r) :
    decide (r.fo ∈ z :: ((rs.take i).filter (isIn rs z)).map (·.nm)) = isIn rs z r := by
  have hrm := List.mem_of_getElem? hr
  have hfo := h.fo hr
  have f := h i r hr
  have mem : ∀ x : Str, x ∈ ((rs.take i).filter (isIn rs z)).map (·.nm) ↔ (x ∈ names (rs.take i) ∧ x ≠ z ∧ (z = ("top" : Str) ∨ z ∈ wayOf rs x)) := by
    intro x
    constructor
    · intro hx
      obtain ⟨q, hq, rfl⟩ := List.mem_map.mp hx
      obtain ⟨h1, h2⟩ := List.mem_filter.mp hq
      unfold isIn at h2
      simp at h2
      exact ⟨List.mem_map.mpr ⟨q, h1, rfl⟩, h2.1, h2.2⟩
    · rintro ⟨hx, h1, h2⟩
      obtain ⟨q, hq, rfl⟩ := List.mem_map.mp hx
      refine List.mem_map.mpr ⟨q, List.mem_filter.mpr ⟨hq, ?_⟩, rfl⟩
      unfold isIn
      simp
      exact ⟨h1, h2⟩
  by_cases e : r.nm = z
  · have e1 : isIn rs z r = false := by unfold isIn; simp [e]
    rw [e1]
    refine decide_eq_false fun hm => ?_
    rcases List.mem_cons.mp hm with q | q
    · rcases hfo with e2 | e2
      · exact f.top (e.trans (q.symm.trans e2))
      · rw [q, ← e] at e2; exact f.new e2
    · obtain ⟨q1, q2, q3⟩ := (mem _).mp q
      rcases q3 with q3 | q3
      · exact f.top (e.trans q3)
      · have := way_pre h i q1 q3
        rw [← e] at this
        exact f.new this
  · have e1 : isIn rs z r = (decide (z = ("top" : Str)) || decide (z ∈ wayOf rs r.nm)) := by unfold isIn; simp [e]
    rw [e1]
    have w : z ∈ wayOf rs r.nm ↔ z ∈ wayOf rs r.fo := by
      rw [way_step h hrm, List.mem_append, List.mem_singleton]
      exact ⟨fun q => q.resolve_right fun q => e q.symm, .inl⟩
    by_cases ht : z = ("top" : Str)
    · rw [decide_eq_true ht, Bool.true_or]
      refine decide_eq_true ?_
      rcases hfo with e2 | e2
      · rw [e2, ht]; exact List.mem_cons_self ..
      · refine List.mem_cons_of_mem _ ((mem _).mpr ⟨e2, fun q => ?_, .inl ht⟩)
        rw [q, ht] at e2
        exact top_not h (names_take e2)
    · rw [decide_eq_false ht, Bool.false_or]
      refine decide_eq_decide.mpr ?_
      rw [w]
      constructor
      · intro hm
        rcases List.mem_cons.mp hm with q | q
        · rw [q]; exact way_self h (hz.resolve_left ht)
        · exact ((mem _).mp q).2.2.resolve_left ht
      · intro hm
        by_cases q : r.fo = z
        · rw [q]; exact List.mem_cons_self ..
        · rcases hfo with e2 | e2
          · rw [e2, way_top h] at hm; cases hm
          · exact List.mem_cons_of_mem _ ((mem _).mpr ⟨e2, q, .inr hm⟩)
end Ts

set_option maxRecDepth 100000
set_option maxHeartbeats 4000000
namespace Ts
open PySem L2
def kvB (l : List Str) : List (Key × V) := l.map fun x => (.inr x, .bl true)
theorem valV_kvB (z : Str) : ∀ l : List Str, (valV (kvB l) (.inr z : Key)).isSome = decide (z ∈ l)
  | [] => by simp [kvB, valV]
  | x :: l => by
    have ih := valV_kvB z l
    show (valV ((.inr x, V.bl true) :: kvB l) (.inr z : Key)).isSome = _
    by_cases e : x = z
    · rw [valV_pos (by rw [e])]
      subst e
      simp
    · rw [valV_neg (fun q => e (Sum.inr.inj q)), ih]
      have e' : ¬ z = x := fun q => e q.symm
      simp [e']
theorem kvB_put {l : List Str} {x : Str} (h : x ∉ l) : putK (kvB l) (.inr x) (.bl true) = kvB (l ++ [x]) := by
  rw [putK_new]
  · unfold kvB; rw [List.map_append]; rfl
  · have q := valV_kvB x l
    rw [decide_eq_false h] at q
    simpa using q
def spListOf (C : Addr) (g : List Row → Str → List Str) : Sp := fun vs H Q _ => ∃ (t : Addr) (z : Str) (rs : List Row), vs = [.ref t, .str z] ∧ TreeAt C H t rs ∧ (z = ("top" : Str) ∨ z ∈ names rs) ∧
  ∀ D H', H D = none → Same H H' → H' D = some (.lst ((g rs z).map V.str)) → Q (.ref D) H'
theorem filter_take {rs : List Row} {i : Nat} {r : Row} (h : rs[i]? = some r) (p : Row → Bool) : ((rs.take (i + 1)).filter p).map (·.nm) = ((rs.take i).filter p).map (·.nm) ++ (if p r = true then [r.nm] else []) := by
  rw [take_more h, List.filter_append, List.map_append]
  by_cases e : p r = true
  · rw [if_pos e, List.filter_cons_of_pos e]; rfl
  · rw [if_neg e, List.filter_cons_of_neg e]; rfl
theorem kvF_at {g : Row → V} {rs : List Row} {i : Nat} {k : Key} {v : V} (h : (kvF g rs)[i]? = some (k, v)) : ∃ r, rs[i]? = some r ∧ k = .inr r.nm ∧ v = g r := by
  unfold kvF at h
  rw [List.getElem?_map] at h
  obtain ⟨r, e, q⟩ := Option.map_eq_some_iff.mp h
  injection q with q1 q2
  exact ⟨r, e, q1.symm, q2.symm⟩
theorem rowOf_at {rs : List Row} (h : Valid rs) {i : Nat} {r : Row} (hr : rs[i]? = some r) : rowOf rs r.nm = some r := by
  unfold rowOf
  rw [List.find?_eq_some_iff_getElem]
  have hi := (List.getElem?_eq_some_iff.mp hr).1
  refine ⟨decide_eq_true rfl, i, hi, (List.getElem?_eq_some_iff.mp hr).2, fun j hj => ?_⟩
  simp only [Bool.not_eq_true', decide_eq_false_iff_not]
  intro e
  exact (h i r hr).new (List.mem_map.mpr ⟨rs[j], List.mem_take_iff_getElem.mpr ⟨j, by omega, rfl⟩, e⟩)
section
variable {P : Program} {w : World} {K : PySem.W.Frag} {mg : Str → Option Value} {base : Heap} {C : Addr}
abbrev nBelow : List Str := ["self", "box", "within", "name"]
theorem sc_Tree_below : FnScope nBelow ["self", "box"] (defScope s_Tree_below) := ⟨rfl, rfl, rfl, by decide +kernel, rfl, by decide +kernel, by decide +kernel⟩
theorem cutV_tail (x : V) (xs : List V) : cutV (x :: xs) (some 1) none = xs := by
  unfold cutV
  rw [HT.sIx_none, show HT.sIx (x :: xs).length 0 (some 1) = 1 from by rw [show (some 1 : Option Int) = some ((1 : Nat) : Int) from rfl, HT.sIx_nat, List.length_cons]; omega]
  show (xs.take ((x :: xs).length - 1)) = xs
  rw [List.length_cons, Nat.add_sub_cancel, List.take_length]
theorem ok_Tree_below {f : Addr} {fd : FuncData} (F : Fun K "below" "Tree.below" s_Tree_below f fd) (Dp : DefAt K mg "check_place" s_check_place ["tree", "thing"]) (Gp : FnOk P w K mg base CX0 4 Dp.f Dp.fd ["tree", "thing"] (spPlace C)) (B : TxB mg) (T : TxT K mg C) : FnOk P w K mg base CX0 5 f fd ["self", "box"] (spListOf C belowL) := by
  refine F.ok sc_Tree_below (fun vs H Q E h => ?_) (fun cdv A outer s H vs Q E hr h => ?_)
  · obtain ⟨t, z, rs, rfl, _⟩ := h
    rfl
  · obtain ⟨t, z, rs, rfl, ht, hz, hq⟩ := h
    have hu := hu_of hr
    obtain ⟨dx, q, f, k, p, qs, h1, h2, h3, h4, h5, h6⟩ := ht.ex
    refine ⟨_, pss_cons (ps_expr (pe_call Gp hr rfl Dp.g Dp.F.kp Dp.b .nil pass0 (pa_cons (pv 0) (pa_cons (pv 1) pa_nil))))
      (pss_cons (ps_set (i := 2) sc_Tree_below.nd rfl (.inl rfl) (pe_disp (pps_cons (pv 1) pe_bl pps_nil) (by rfl) (by rfl) (fun z => by cases z) (by decide)))
      (pss_cons (ps_lock (ps_for PassesOwn.never rfl (pi_keys (pe_fld (pv 0) rfl)) (pg_name (i := 3) sc_Tree_below.nd rfl (.inl rfl))
        (pss_one (ps_if (pt_cmp (pc_din hu (pe_dget hu (pe_fld (pv 0) rfl) (pv 3) (fun _ _ => rfl)) (pv 2))) (pss_one (ps_dput hu (pv 2) (pv 3) pe_bl rfl)) pss_nil))))
      (pss_one (ps_ret (pe_slice sl_list (pe_callTy (call_list_dK rfl) (by rfl) B.list (by decide +kernel) (pa_cons (pv 2) pa_nil)) (po_some pe_int) po_none))))), ?_⟩
    refine ⟨_, rfl, _, rfl, t, z, rs, rfl, ht, hz, ?_⟩
    refine fun wd hwd => ⟨_, rfl, upd_same, [(.inr z, .bl true)], rfl, (by show 1 ≤ 15; decide), ?_⟩
    have tw : t ≠ wd := ne_of_none h1 hwd
    have fw : f ≠ wd := ne_of_none h4 hwd
    have tf_ : t ≠ f := ne_of h1 h4 (by intro x; cases x)
    have fw' : f ≠ wd := fw
    refine ⟨f, _, Eq.trans (upd_ne fw) (Eq.trans (upd_ne fw) h4), trivial, fun od => ?_⟩
    obtain ⟨Hl, El⟩ : ∃ Hx, Hx = upd (upd (upd H wd (.dK [])) wd (.dK (mergeK [] [(.inr z, .bl true)]))) f (.frz od (.dK (kvF (fun r => .str r.fo) rs))) := ⟨_, rfl⟩
    have l1 : Hl t = some (.ins C dx (tf q f k p)) := by rw [El, upd_ne tf_, upd_ne tw, upd_ne tw]; exact h1
    have l2 : Hl f = some (.frz od (.dK (kvF (fun r => .str r.fo) rs))) := by rw [El]; exact upd_same
    have l3 : Hl wd = some (.dK (kvB [z])) := by rw [El, upd_ne fw.symm]; exact upd_same
    have l4 : ∀ b o, b ≠ f → H b = some o → Hl b = some o := fun b o nb e => by rw [El, upd_ne nb, upd_ne (ne_of_none e hwd), upd_ne (ne_of_none e hwd)]; exact e
    have l5 : Same Hl Hl := Same.refl _
    rw [← El]
    clear El
    refine ⟨_, rfl, t, C, dx, _, _, rfl, l1, T.cl, T.nf, tf_f _ _ _ _, f, od, rfl, .inl ⟨_, l2, ?_⟩⟩
    refine for_it (walk_keys (d := f) (o := od) (kvs := kvF (fun r => .str r.fo) rs)) (fun i σ H' => ∃ v : Option V, σ = [some (.ref t), some (.str z), some (.ref wd), v] ∧ SB wd Hl H' ∧ H' wd = some (.dK (kvB (z :: ((rs.take i).filter (isIn rs z)).map (·.nm)))))
      ⟨none, rfl, SB.refl _ _, l3⟩ (fun i σ H' _ ⟨_, _, sb, _⟩ => sb _ _ fw l2) ?_ ?_
    · rintro i x σ H2 H2' hi ⟨v, rfl, sb, hw⟩ ⟨rfl, k', v', hk, rfl⟩
      obtain ⟨r, hr', rfl, rfl⟩ := kvF_at hk
      have e1 : H2' t = some (.ins C dx (tf q f k p)) := sb _ _ tw l1
      have e2 : H2' f = some (.frz od (.dK (kvF (fun r => .str r.fo) rs))) := sb _ _ fw l2
      have dg : DGet H2' f (.str r.nm) (some (.str r.fo)) := by
        have e := rowOf_at ht.val hr'
        refine .inl ⟨_, .inr r.nm, .inr ⟨od, e2⟩, rfl, ?_⟩
        rw [valV_kvF, show (rs.find? fun r' => decide (r'.nm = r.nm)) = some r from e]
        rfl
      refine ⟨_, rfl, t, C, dx, _, _, rfl, e1, T.cl, T.nf, tf_f _ _ _ _, _, rfl, f, _, rfl, dg, _, rfl, wd, _, rfl, DGet.k (k := Sum.inr r.fo) hw, _, rfl, ?_⟩
      rw [valV_kvB, below_in ht.val hz hr']
      have i100 : i < 100 := by
        have := (List.getElem?_eq_some_iff.mp hr').1
        have := ht.len
        omega
      refine ite2 (fun hc => ?_) (fun hc => ?_)
      · have nw : r.nm ∉ z :: ((rs.take i).filter (isIn rs z)).map (·.nm) := fun hm => by
          rcases List.mem_cons.mp hm with y | y
          · unfold isIn at hc
            simp [y] at hc
          · obtain ⟨q1, hq1, e⟩ := List.mem_map.mp y
            exact (ht.val i r hr').new (List.mem_map.mpr ⟨q1, (List.mem_filter.mp hq1).1, e⟩)
        refine ⟨_, rfl, _, rfl, wd, _, rfl, DPut.k (k := Sum.inr r.nm) hw (small1000 ?_), ?_⟩
        · unfold kvB
          rw [List.length_map, List.length_cons, List.length_map]
          have := List.length_filter_le (isIn rs z) (rs.take i)
          rw [List.length_take] at this
          omega
        · refine ⟨_, rfl, fun b o nb e => by rw [upd_ne nb]; exact sb b o nb e, ?_⟩
          rw [upd_same, kvB_put nw, filter_take hr', if_pos hc]
          rfl
      · refine ⟨_, rfl, sb, ?_⟩
        rw [filter_take hr', if_neg hc, List.append_nil]
        exact hw
    · rintro σ H2 ⟨v, rfl, sb, hw⟩
      have e : (kvF (fun r => V.str r.fo) rs).length = rs.length := by unfold kvF; rw [List.length_map]
      rw [e, List.take_length] at hw
      refine ⟨sb _ _ fw l2, ?_⟩
      have hw' : (upd H2 f (.dK (kvF (fun r => .str r.fo) rs))) wd = some (.dK (kvB (z :: belowL rs z))) := by rw [upd_ne fw.symm]; exact hw
      have sH : Same H (upd H2 f (.dK (kvF (fun r => .str r.fo) rs))) := fun b o eb => by
        by_cases hb : b = f
        · rw [hb, upd_same, ← h4, ← hb]; exact eb
        · rw [upd_ne hb]
          exact sb b o (ne_of_none eb hwd) (l4 b o hb eb)
      refine ⟨_, rfl, wd, _, rfl, hw', fun u hu' => ⟨_, rfl, u, _, rfl, SqL.of upd_same, fun D hD => ?_⟩⟩
      refine hq D _ ?_ ((sH.trans (Same.new hu')).trans (Same.new hD)) ?_
      · exact (sH.trans (Same.new hu')).free hD
      · have e3 : (kvB (z :: belowL rs z)).map (fun kv => kV kv.1) = V.str z :: (belowL rs z).map V.str := by
          unfold kvB
          rw [List.map_map]
          rfl
        rw [upd_same, e3, cutV_tail]
end
end Ts

set_option maxRecDepth 100000
set_option maxHeartbeats 4000000
namespace Ts
open PySem L2
/-- a list of rows, all tuples -/
structure RowsL (H : Hp) (p : Addr) (rs : List Row) : Prop where
  ex : ∃ as : List Addr, H p = some (.lst (as.map V.ref)) ∧ RowsAt H as rs
theorem RowsL.same {H H' : Hp} {p : Addr} {rs : List Row} (h : RowsL H p rs) (s : Same H H') : RowsL H' p rs := by
  obtain ⟨as, h1, h2⟩ := h.ex
  exact ⟨as, s _ _ h1, h2.same s⟩
def spWay : Sp := fun vs H Q _ => ∃ (p : Addr) (z : Str) (rs : List Row), vs = [.ref p, .str z] ∧ RowsL H p rs ∧ Valid rs ∧ rs.length ≤ 100 ∧ (z = ("top" : Str) ∨ z ∈ names rs) ∧
  ∀ D H', H D = none → Same H H' → H' D = some (.lst ((wayOf rs z).map V.str)) → Q (.ref D) H'
theorem atI0 (a b c d : V) : atI [a, b, c, d] 0 = some a := rfl
theorem atI1 (a b c d : V) : atI [a, b, c, d] 1 = some b := rfl
theorem atI2 (a b c d : V) : atI [a, b, c, d] 2 = some c := rfl
theorem atI3 (a b c d : V) : atI [a, b, c, d] 3 = some d := rfl
theorem merge_kvF (g : Row → V) {rs : List Row} (h : Valid rs) : ∀ n, n ≤ rs.length → mergeK [] (kvF g (rs.take n)) = kvF g (rs.take n) := by
  intro n
  induction n with
  | zero => intro _; rfl
  | succ n ih =>
    intro hn
    have hr : rs[n]? = some rs[n] := List.getElem?_eq_getElem (by omega)
    have e : kvF g (rs.take (n + 1)) = kvF g (rs.take n) ++ [(.inr rs[n].nm, g rs[n])] := by
      rw [take_more hr]; unfold kvF; rw [List.map_append]; rfl
    rw [e]
    unfold mergeK
    rw [List.foldl_append]
    have ih' := ih (by omega)
    unfold mergeK at ih'
    rw [ih']
    show putK (kvF g (rs.take n)) (.inr rs[n].nm) (g rs[n]) = _
    rw [kvF_more hr (h n _ hr).new, e]
theorem merge_all (g : Row → V) {rs : List Row} (h : Valid rs) : mergeK [] (kvF g rs) = kvF g rs := by
  have := merge_kvF g h rs.length (Nat.le_refl _)
  rw [List.take_length] at this
  exact this
def muWay (rs : List Row) : List (Option V) → Hp → Nat
  | _ :: some (.str z) :: _, _ => (wayOf rs z).length
  | _, _ => 0
theorem way_len {rs : List Row} {z : Str} : (wayOf rs z).length ≤ rs.length := by
  have : ∀ (l : List Row) (z : Str), (wayR l z).length ≤ l.length := by
    intro l
    induction l with
    | nil => intro z; exact Nat.le_refl _
    | cons r l ih =>
      intro z
      unfold wayR
      split
      · rw [List.length_append, List.length_singleton, List.length_cons]; have := ih r.fo; omega
      · rw [List.length_cons]; have := ih z; omega
  have q := this rs.reverse z
  rw [List.length_reverse] at q
  exact q
theorem Valid.foAll {rs : List Row} (h : Valid rs) {r : Row} (hr : r ∈ rs) : r.fo = ("top" : Str) ∨ r.fo ∈ names rs := by
  obtain ⟨i, hi, e⟩ := List.mem_iff_getElem.mp hr
  have := h.fo (i := i) (r := r) (by rw [← e]; exact List.getElem?_eq_getElem hi)
  exact this.imp id names_take
section
variable {P : Program} {w : World} {K : PySem.W.Frag} {mg : Str → Option Value} {base : Heap} {C : Addr}
abbrev nWay : List Str := ["_law_rows_here", "_law_box", "_law_folders", "_law_found", "_law_row"]
theorem sc_way : FnScope nWay ["_law_rows_here", "_law_box"] (defScope s_L_way) := ⟨rfl, rfl, rfl, by decide +kernel, rfl, by decide +kernel, by decide +kernel⟩
theorem ok_way (D : DefAt K mg "_law_way" s_L_way ["_law_rows_here", "_law_box"]) (B : TxB mg) : FnOk P w K mg base CX0 2 D.f D.fd ["_law_rows_here", "_law_box"] spWay := by
  refine D.F.ok sc_way (fun vs H Q E h => ?_) (fun cdv A outer s H vs Q E hr h => ?_)
  · obtain ⟨p, z, rs, rfl, _⟩ := h
    rfl
  · obtain ⟨p, z, rs, rfl, ⟨as, hp, hrows⟩, hv, hl, hz, hq⟩ := h
    have hu := hu_of hr
    refine ⟨_, pss_cons (ps_par (i := 2) (j := 3) rfl sc_way.nd rfl rfl (by decide) rfl rfl (pa_cons (pe_callTy (call_dictP rfl) (by rfl) B.dict (by decide +kernel) (pa_cons (pe_lc (own := [("_law_row", 4)]) (g := gName 4) (tt := tYes) (te := tTup (tCons (tOp (rIxT K) (tVar 4) (tC (.int 0))) (tCons (tOp (rIxT K) (tVar 4) (tC (.int 1))) tNil))) rfl sc_way.nd (pi_list (pv 0)) (blkOk_by (N := nWay) (sc := defScope s_L_way) (by decide +kernel))
        (fun _ _ _ _ _ => pg_name (i := 4) sc_way.nd rfl (Or.inl rfl)) (fun _ _ _ _ _ => pts_nil) (fun _ _ _ _ _ => by exact pe_tup (pa_cons (pe_ix ix_tup (pv 4) pe_int (fun _ _ => rfl)) (pa_cons (pe_ix ix_tup (pv 4) pe_int (fun _ _ => rfl)) pa_nil)))) pa_nil)) (pa_cons (pe_lst pa_nil) pa_nil)) (by rfl))
      (pss_cons (ps_while PassesOwn.never (pt_cmpR op_ne (pv 1) pe_str (nomark _))
        (pss_cons (ps_expr (pe_bm PySem.F.plainAttrs_list PySem.F.slot_list_insert PySem.F.type_list_insert mt_insert (pv 3) (pa_cons pe_int (pa_cons (pv 1) pa_nil))))
        (pss_one (ps_set (i := 1) sc_way.nd rfl (.inl rfl) (pe_dget hu (pv 2) (pv 1) (fun _ _ => rfl))))))
      (pss_one (ps_ret (pv 3)))), ?_⟩
    refine ⟨_, rfl, p, rfl, ⟨_, SqL.of hp⟩, fun Dl hDl => ?_⟩
    refine lc_list (K := K) (a := p) (xs := as.map V.ref) (fun i H' => ∃ ps : List Addr, Same H H' ∧ H' Dl = some (.lst (ps.map V.ref)) ∧ Paired (fun q (kv : Key × V) => SqT K H' q [kV kv.1, kv.2]) ps (kvF (fun r => .str r.fo) (rs.take i))) ⟨[], Same.new hDl, upd_same, .nil⟩ (fun i H' _ ⟨_, s, _⟩ => s.seq (SqL.of hp)) ?_ ?_
    · rintro i x H2 hx ⟨ps, sm, hD2, pr⟩
      rw [List.getElem?_map] at hx
      obtain ⟨ra, hra, rfl⟩ := Option.map_eq_some_iff.mp hx
      obtain ⟨r, hr'⟩ : ∃ r, rs[i]? = some r := ⟨rs[i]'(by rw [← hrows.len]; exact (List.getElem?_eq_some_iff.mp hra).1), List.getElem?_eq_getElem _⟩
      have e := sm _ _ (hrows.at_ i ra r hra hr')
      refine ⟨rfl, tYes_if ⟨_, rfl, ra, _, _, _, rfl, rfl, sqT e, atI0 _ _ _ _, _, rfl, ra, _, _, _, rfl, rfl, sqT e, atI1 _ _ _ _, (by show 2 ≤ sizeLine; decide), fun t ht => ?_⟩⟩
      have nDt : Dl ≠ t := ne_of_none hD2 ht
      have pl := pr.length
      refine ⟨ps.map V.ref, by rw [upd_ne nDt]; exact hD2, small1000 (by rw [List.length_map, pl]; unfold kvF; rw [List.length_map, List.length_take]; omega), ps ++ [t], fun b o eb => ?_, by rw [upd_same, List.map_append]; rfl, ?_⟩
      · rw [upd_ne (fun y => by rw [y, hDl] at eb; cases eb), upd_ne (ne_of_none (sm _ _ eb) ht)]
        exact sm _ _ eb
      · have ek : kvF (fun r => V.str r.fo) (rs.take (i + 1)) = kvF (fun r => V.str r.fo) (rs.take i) ++ [(.inr r.nm, .str r.fo)] := by
          rw [take_more hr']; unfold kvF; rw [List.map_append]; rfl
        rw [ek]
        have keep : ∀ {b : Addr} {xs : List V}, SqT K H2 b xs → SqT K (upd (upd H2 t (.tup [V.str r.nm, .str r.fo])) Dl (.lst (ps.map V.ref ++ [V.ref t]))) b xs := fun {b xs} h => by
          rcases h with (h | ⟨o, h⟩) | h
          · exact .inl (.inl (by rw [upd_ne (fun y => by rw [y, hD2] at h; cases h), upd_ne (ne_of_none h ht)]; exact h))
          · exact .inl (.inr ⟨o, by rw [upd_ne (fun y => by rw [y, hD2] at h; cases h), upd_ne (ne_of_none h ht)]; exact h⟩)
          · exact .inr h
        exact (pr.mono fun _ _ h => keep h).snoc (sqT (by rw [upd_ne nDt.symm]; exact upd_same))
    · rintro H2 ⟨ps, sm, hD2, pr⟩
      rw [List.length_map, hrows.len, List.take_length] at pr
      refine ⟨Dl, ps, kvF (fun r => .str r.fo) rs, rfl, SqL.of hD2, pr, fun fd hfd => ?_⟩
      rw [merge_all _ hv]
      refine ⟨Nat.zero_le _, fun fo hfo => ⟨_, _, rfl, ?_⟩⟩
      have n1 : fd ≠ fo := fun y => by rw [← y, upd_same] at hfo; cases hfo
      have s3 : Same H (upd (upd H2 fd (.dK (kvF (fun r => .str r.fo) rs))) fo (.lst [])) := (sm.trans (Same.new hfd)).trans (Same.new hfo)
      have fofree : H fo = none := (sm.trans (Same.new hfd)).free hfo
      refine while_by (fun σ H' => ∃ (z' : Str) (v : Option V) (fs : List Str), σ = [some (.ref p), some (.str z'), some (.ref fd), some (.ref fo), v] ∧ (z' = ("top" : Str) ∨ z' ∈ names rs) ∧ Same H H' ∧ H' fd = some (.dK (kvF (fun r => .str r.fo) rs)) ∧ H' fo = some (.lst (fs.map V.str)) ∧ wayOf rs z' ++ fs = wayOf rs z) (muWay rs)
        ⟨z, none, [], rfl, hz, s3, by rw [upd_ne n1]; exact upd_same, upd_same, by simp⟩ ?_ (fun σ H Q Q' hQ ⟨v, e, sc, k, e2, q⟩ => ⟨v, e, sc, k, e2, hQ _ _ q⟩)
      rintro σ H4 ⟨z', v, fs, rfl, hz', s4, hfd4, hfo4, ew⟩
      refine ⟨_, rfl, rfl, _, rfl, ?_⟩
      refine ite2 (fun hc => ?_) (fun hc => ?_)
      · have hn : z' ≠ ("top" : Str) := fun e => by rw [e] at hc; simp at hc
        have hin := hz'.resolve_left hn
        obtain ⟨r, e1, hrm, rfl⟩ := rowOf_some hin
        have ws := way_step hv hrm
        have lw := way_len (rs := rs) (z := z)
        have lf : fs.length ≤ 100 := by
          have := congrArg List.length ew
          rw [List.length_append] at this
          omega
        refine ⟨_, rfl, .inl ⟨rfl, _, SqL.of hfo4⟩, _, rfl, fo, _, 0, _, rfl, rfl, hfo4, small1000 (by rw [List.length_map]; omega), by decide, by decide, ?_⟩
        have n1' : fd ≠ fo := n1
        refine ⟨_, rfl, _, rfl, fd, .str r.fo, rfl, ?_, ?_⟩
        · have dg := DGet.k (k := Sum.inr r.nm) (show (upd H4 fo (.lst ((fs.map V.str).take (0 : Int).toNat ++ [V.str r.nm] ++ (fs.map V.str).drop (0 : Int).toNat))) fd = some (.dK (kvF (fun r => .str r.fo) rs)) from by rw [upd_ne n1']; exact hfd4)
          rw [valV_kvF, show (rs.find? fun q => decide (q.nm = r.nm)) = some r from e1] at dg
          exact dg
        · refine ⟨⟨r.fo, v, r.nm :: fs, rfl, hv.foAll hrm, fun b o e => ?_, by rw [upd_ne n1']; exact hfd4, upd_same, ?_⟩, ?_⟩
          · rw [upd_ne (fun y => by rw [y, fofree] at e; cases e)]
            exact s4 _ _ e
          · rw [← ew, ws]; simp
          · show (wayOf rs r.fo).length < (wayOf rs r.nm).length
            rw [ws]; simp
      · have ht : z' = ("top" : Str) := Classical.byContradiction fun e => hc (by
          show (!decide (V.str z' = V.str ("top" : Str))) = true
          rw [decide_eq_false (fun q => e (V.str.inj q))]; rfl)
        refine ⟨_, rfl, hq fo H4 fofree s4 ?_⟩
        rw [hfo4, ← ew, ht, way_top hv]; rfl
end
end Ts

set_option maxRecDepth 100000
set_option maxHeartbeats 4000000
namespace Ts
open PySem L2
/-! ### what changes a tree -/
theorem Valid.append {pre L : List Row} (h : Valid pre) (k : ∀ i r, L[i]? = some r → Fits (pre ++ L.take i) r) : Valid (pre ++ L) := by
  intro i r hr
  rcases Nat.lt_or_ge i pre.length with hi | hi
  · rw [List.getElem?_append_left hi] at hr
    rw [List.take_append_of_le_length (Nat.le_of_lt hi)]
    exact h i r hr
  · rw [List.getElem?_append_right hi] at hr
    have e : (pre ++ L).take i = pre ++ L.take (i - pre.length) := by
      rw [List.take_append, List.take_of_length_le hi]
    rw [e]
    exact k _ _ hr
/-- where a kept row stood -/
theorem filter_at {p : Row → Bool} : ∀ {rs : List Row} {i : Nat} {r : Row}, (rs.filter p)[i]? = some r → ∃ j, rs[j]? = some r ∧ p r = true ∧ (rs.filter p).take i = (rs.take j).filter p
  | [], _, _, h => by simp at h
  | q :: rs, i, r, h => by
    by_cases e : p q = true
    · rw [List.filter_cons_of_pos e] at h ⊢
      cases i with
      | zero =>
        have : q = r := by simpa using h
        subst this
        exact ⟨0, rfl, e, by simp⟩
      | succ i =>
        obtain ⟨j, h1, h2, h3⟩ := filter_at (rs := rs) (i := i) (r := r) (by simpa using h)
        refine ⟨j + 1, by simpa using h1, h2, ?_⟩
        rw [List.take_succ_cons, List.take_succ_cons, List.filter_cons_of_pos e, h3]
    · rw [List.filter_cons_of_neg e] at h ⊢
      obtain ⟨j, h1, h2, h3⟩ := filter_at (rs := rs) (i := i) (r := r) h
      refine ⟨j + 1, by simpa using h1, h2, ?_⟩
      rw [List.take_succ_cons, List.filter_cons_of_neg e, h3]
theorem Valid.filter {rs : List Row} {p : Row → Bool} (h : Valid rs) (hp : ∀ r ∈ rs, p r = true → ∀ q ∈ rs, q.nm = r.fo → p q = true) : Valid (rs.filter p) := by
  intro i r hr
  obtain ⟨j, h1, h2, h3⟩ := filter_at hr
  rw [h3]
  have f := h j r h1
  refine ⟨f.shape, f.top, fun hm => ?_, ?_, f.kind, f.price⟩
  · obtain ⟨q, hq, e⟩ := List.mem_map.mp hm
    exact f.new (List.mem_map.mpr ⟨q, (List.mem_filter.mp hq).1, e⟩)
  · rcases f.home with e | ⟨q, hq, e1, e2⟩
    · exact .inl e
    · exact .inr ⟨q, List.mem_filter.mpr ⟨hq, hp r (List.mem_of_getElem? h1) h2 q (List.mem_of_mem_take hq) e1⟩, e1, e2⟩
/-- what lies beneath z, z with it -/
def under (rs : List Row) (z : Str) (r : Row) : Bool := decide (z ∈ wayOf rs r.nm)
theorem under_self {rs : List Row} (h : Valid rs) {z : Str} {r : Row} (hr : r ∈ rs) (e : r.nm = z) : under rs z r = true := by
  unfold under
  rw [← e]
  exact decide_eq_true (way_self h (List.mem_map.mpr ⟨r, hr, rfl⟩))
theorem under_iff {rs : List Row} (h : Valid rs) {z : Str} (hz : z ≠ ("top" : Str)) {r : Row} (hr : r ∈ rs) : under rs z r = (decide (r.nm = z) || isIn rs z r) := by
  by_cases e : r.nm = z
  · rw [under_self h hr e, decide_eq_true e, Bool.true_or]
  · rw [decide_eq_false e, Bool.false_or]
    unfold isIn under
    rw [decide_eq_true e, decide_eq_false hz, Bool.true_and, Bool.false_or]
theorem gone_iff {rs : List Row} (h : Valid rs) {z : Str} (hz : z ≠ ("top" : Str)) {r : Row} (hr : r ∈ rs) : decide (r.nm ∈ z :: belowL rs z) = under rs z r := by
  rw [under_iff h hz hr]
  by_cases e : r.nm = z
  · rw [decide_eq_true e, Bool.true_or]
    exact decide_eq_true (by rw [e]; exact List.mem_cons_self ..)
  · rw [decide_eq_false e, Bool.false_or]
    by_cases i : isIn rs z r = true
    · rw [i]
      exact decide_eq_true (List.mem_cons_of_mem _ (List.mem_map.mpr ⟨r, List.mem_filter.mpr ⟨hr, i⟩, rfl⟩))
    · rw [Bool.not_eq_true] at i
      rw [i]
      refine decide_eq_false fun hm => ?_
      rcases List.mem_cons.mp hm with q | q
      · exact e q
      · obtain ⟨r2, h2, e2⟩ := List.mem_map.mp q
        obtain ⟨h3, h4⟩ := List.mem_filter.mp h2
        unfold isIn at h4 i
        rw [e2] at h4
        rw [h4] at i
        cases i
/-- a row whose folder lies beneath z does so, too -/
theorem under_up {rs : List Row} (h : Valid rs) {z : Str} {r q : Row} (hr : r ∈ rs) (hq : q ∈ rs) (e : q.nm = r.fo) (hu : under rs z q = true) : under rs z r = true := by
  unfold under at hu ⊢
  rw [way_step h hr, ← e]
  exact decide_eq_true (List.mem_append_left _ (of_decide_eq_true hu))
def lessL (rs : List Row) (z : Str) : List Row := rs.filter fun r => !under rs z r
theorem less_valid {rs : List Row} (h : Valid rs) (z : Str) : Valid (lessL rs z) :=
  h.filter fun r hr hp q hq e => by
    cases hu : under rs z q with
    | false => rfl
    | true => rw [under_up h hr hq e hu] at hp; cases hp
/-- the rows behind a move -/
def movedL (rs : List Row) (m : Row) (fo : Str) : List Row := lessL rs m.nm ++ ({ m with fo := fo } :: rs.filter (isIn rs m.nm))
theorem moved_valid {rs : List Row} (h : Valid rs) {m : Row} (hm : m ∈ rs) {fo : Str} (hf : fo = ("top" : Str) ∨ ∃ q ∈ rs, q.nm = fo ∧ q.ki = ("folder" : Str) ∧ under rs m.nm q = false) : Valid (movedL rs m fo) := by
  have mt : m.nm ≠ ("top" : Str) := fun e => top_not h (by rw [← e]; exact List.mem_map.mpr ⟨m, hm, rfl⟩)
  obtain ⟨k, hk, ek⟩ := List.mem_iff_getElem.mp hm
  have fm := h k m (by rw [← ek]; exact List.getElem?_eq_getElem hk)
  have v1 : Valid (lessL rs m.nm ++ [{ m with fo := fo }]) := by
    refine (less_valid h m.nm).snoc ⟨fm.shape, fm.top, fun hx => ?_, ?_, fm.kind, fm.price⟩
    · obtain ⟨q, hq, e⟩ := List.mem_map.mp hx
      obtain ⟨q1, q2⟩ := List.mem_filter.mp hq
      rw [under_self h q1 e] at q2
      cases q2
    · rcases hf with e | ⟨q, hq, e1, e2, e3⟩
      · exact .inl e
      · exact .inr ⟨q, List.mem_filter.mpr ⟨hq, by rw [e3]; rfl⟩, e1, e2⟩
  have e : movedL rs m fo = (lessL rs m.nm ++ [{ m with fo := fo }]) ++ rs.filter (isIn rs m.nm) := by unfold movedL; simp
  rw [e]
  refine v1.append fun i r hr => ?_
  obtain ⟨j, h1, h2, h3⟩ := filter_at hr
  have f := h j r h1
  have hrm := List.mem_of_getElem? h1
  have ur : under rs m.nm r = true := by rw [under_iff h mt hrm, h2, Bool.or_true]
  have nz : r.nm ≠ m.nm := fun e => by unfold isIn at h2; simp [e] at h2
  rw [h3]
  refine ⟨f.shape, f.top, fun hx => ?_, ?_, f.kind, f.price⟩
  · rw [List.map_append, List.map_append] at hx
    rcases List.mem_append.mp hx with hx | hx
    · rcases List.mem_append.mp hx with hx | hx
      · obtain ⟨q, hq, e⟩ := List.mem_map.mp hx
        obtain ⟨q1, q2⟩ := List.mem_filter.mp hq
        have : under rs m.nm q = true := by unfold under at ur ⊢; rw [e]; exact ur
        rw [this] at q2
        cases q2
      · simp at hx
        exact nz hx
    · obtain ⟨q, hq, e⟩ := List.mem_map.mp hx
      exact f.new (List.mem_map.mpr ⟨q, (List.mem_filter.mp hq).1, e⟩)
  · rcases f.home with e | ⟨q, hq, e1, e2⟩
    · exfalso
      unfold isIn at h2
      rw [decide_eq_true nz, decide_eq_false mt, Bool.true_and, Bool.false_or, way_step h hrm, e, way_top h] at h2
      simp at h2
      exact nz h2.symm
    · by_cases eq1 : q.nm = m.nm
      · have : q = m := by
          have a := rowOf_at h (i := k) (r := m) (by rw [← ek]; exact List.getElem?_eq_getElem hk)
          obtain ⟨k2, hk2, ek2⟩ := List.mem_iff_getElem.mp (List.mem_of_mem_take hq)
          have b := rowOf_at h (i := k2) (r := q) (by rw [← ek2]; exact List.getElem?_eq_getElem hk2)
          rw [eq1, a] at b
          exact (Option.some.inj b).symm
        subst this
        exact .inr ⟨{ q with fo := fo }, by simp, e1, e2⟩
      · refine .inr ⟨q, List.mem_append_right _ (List.mem_filter.mpr ⟨hq, ?_⟩), e1, e2⟩
        have hqm := List.mem_of_mem_take hq
        have : under rs m.nm q = true := by
          unfold under at ur ⊢
          rw [way_step h hrm, ← e1] at ur
          have := of_decide_eq_true ur
          rcases List.mem_append.mp this with x | x
          · exact decide_eq_true x
          · exact absurd (List.mem_singleton.mp x).symm nz
        rw [under_iff h mt hqm, decide_eq_false eq1, Bool.false_or] at this
        exact this
theorem names_inj {rs : List Row} (h : Valid rs) {q m : Row} (hq : q ∈ rs) (hm : m ∈ rs) (e : q.nm = m.nm) : q = m := by
  obtain ⟨k, hk, ek⟩ := List.mem_iff_getElem.mp hm
  obtain ⟨k2, hk2, ek2⟩ := List.mem_iff_getElem.mp hq
  have a := rowOf_at h (i := k) (r := m) (by rw [← ek]; exact List.getElem?_eq_getElem hk)
  have b := rowOf_at h (i := k2) (r := q) (by rw [← ek2]; exact List.getElem?_eq_getElem hk2)
  rw [e, a] at b
  exact (Option.some.inj b).symm
/-- of all beneath z, z stands first -/
theorem under_split {rs : List Row} (h : Valid rs) {m : Row} (hm : m ∈ rs) : rs.filter (under rs m.nm) = m :: rs.filter (isIn rs m.nm) := by
  have mt : m.nm ≠ ("top" : Str) := fun e => top_not h (by rw [← e]; exact List.mem_map.mpr ⟨m, hm, rfl⟩)
  obtain ⟨k, hk, ek⟩ := List.mem_iff_getElem.mp hm
  have hkm : rs[k]? = some m := by rw [← ek]; exact List.getElem?_eq_getElem hk
  have e0 : rs = rs.take k ++ m :: rs.drop (k + 1) := by
    rw [← ek, List.getElem_cons_drop, List.take_append_drop]
  have a1 : (rs.take k).filter (under rs m.nm) = [] := by
    rw [List.filter_eq_nil_iff]
    intro q hq hu
    have hqn : q.nm ∈ names (rs.take k) := List.mem_map.mpr ⟨q, hq, rfl⟩
    exact (h k m hkm).new (way_pre h k hqn (of_decide_eq_true hu))
  have a2 : (rs.take k).filter (isIn rs m.nm) = [] := by
    rw [List.filter_eq_nil_iff]
    intro q hq hu
    have hqr := List.mem_of_mem_take hq
    have : under rs m.nm q = true := by rw [under_iff h mt hqr, hu, Bool.or_true]
    exact (List.filter_eq_nil_iff.mp a1) q hq this
  have b1 : under rs m.nm m = true := under_self h hm rfl
  have b2 : isIn rs m.nm m = false := by unfold isIn; simp
  have c1 : (rs.drop (k + 1)).filter (under rs m.nm) = (rs.drop (k + 1)).filter (isIn rs m.nm) := by
    refine List.filter_congr fun q hq => ?_
    have hqr := List.mem_of_mem_drop hq
    rw [under_iff h mt hqr]
    have : ¬ q.nm = m.nm := fun e => by
      have e2 := names_inj h hqr hm e
      rw [e2] at hq
      obtain ⟨j, hj, ej⟩ := List.mem_iff_getElem.mp hq
      rw [List.getElem_drop] at ej
      rw [List.length_drop] at hj
      have f := h (k + 1 + j) m (by rw [← ej]; exact List.getElem?_eq_getElem _)
      exact f.new (List.mem_map.mpr ⟨m, List.mem_take_iff_getElem.mpr ⟨k, by omega, ek⟩, rfl⟩)
    rw [decide_eq_false this, Bool.false_or]
  have l : ∀ p : Row → Bool, rs.filter p = (rs.take k).filter p ++ (m :: rs.drop (k + 1)).filter p := fun p => by
    rw [← List.filter_append, ← e0]
  rw [l (under rs m.nm), l (isIn rs m.nm), a1, a2, List.filter_cons_of_pos b1, List.filter_cons_of_neg (by rw [b2]; simp), c1]
  rfl
end Ts

set_option maxRecDepth 100000
set_option maxHeartbeats 4000000
namespace Ts
open PySem L2
/-! ### what a meaning says of a box -/
/-- the default, turned as often as boxes on the way are turned -/
def turned (d : Bool) (ts : List Str) : List Str → Bool
  | [] => d
  | x :: l => turned (if x ∈ ts then !d else d) ts l
theorem turned_snoc (ts : List Str) (x : Str) : ∀ (l : List Str) (d : Bool), turned d ts (l ++ [x]) = if x ∈ ts then !(turned d ts l) else turned d ts l
  | [], d => rfl
  | y :: l, d => turned_snoc ts x l _
theorem turned_odd (ts : List Str) : ∀ (l : List Str) (d : Bool), turned d ts l = (d != decide ((l.filter fun x => decide (x ∈ ts)).length % 2 = 1))
  | [], d => by cases d <;> rfl
  | y :: l, d => by
    show turned (if y ∈ ts then !d else d) ts l = _
    rw [turned_odd ts l]
    by_cases h : y ∈ ts
    · rw [if_pos h, List.filter_cons_of_pos (by simpa using h), List.length_cons]
      rcases Nat.mod_two_eq_zero_or_one (l.filter fun x => decide (x ∈ ts)).length with e | e
      · rw [decide_eq_false (by omega), decide_eq_true (by omega)]; cases d <;> rfl
      · rw [decide_eq_true (by omega), decide_eq_false (by omega)]; cases d <;> rfl
    · rw [if_neg h, List.filter_cons_of_neg (by simpa using h)]
def valOf (rs : List Row) (d : Bool) (ts : List Str) (z : Str) : Bool := turned d ts (wayOf rs z)
theorem val_top {rs : List Row} (h : Valid rs) (d : Bool) (ts : List Str) : valOf rs d ts ("top" : Str) = d := by
  unfold valOf; rw [way_top h]; rfl
theorem val_step {rs : List Row} (h : Valid rs) (d : Bool) (ts : List Str) {r : Row} (hr : r ∈ rs) : valOf rs d ts r.nm = (valOf rs d ts r.fo != decide (r.nm ∈ ts)) := by
  unfold valOf
  rw [way_step h hr, turned_snoc]
  by_cases e : r.nm ∈ ts
  · rw [if_pos e, decide_eq_true e]; cases turned d ts (wayOf rs r.fo) <;> rfl
  · rw [if_neg e, decide_eq_false e]; cases turned d ts (wayOf rs r.fo) <;> rfl
theorem below_top {rs : List Row} (h : Valid rs) : belowL rs ("top" : Str) = names rs := by
  unfold belowL names
  have : rs.filter (isIn rs ("top" : Str)) = rs := by
    rw [List.filter_eq_self]
    intro r hr
    have : r.nm ≠ ("top" : Str) := fun e => top_not h (by rw [← e]; exact List.mem_map.mpr ⟨r, hr, rfl⟩)
    unfold isIn
    rw [decide_eq_true this, decide_eq_true rfl]; rfl
  rw [this]
/-- the values of all places, the top ahead -/
def kvM (rs : List Row) (d : Bool) (ts : List Str) (l : List Row) : List (Key × V) := (.inr ("top" : Str), .bl d) :: kvF (fun r => .bl (valOf rs d ts r.nm)) l
theorem valV_kvM {rs : List Row} (h : Valid rs) (d : Bool) (ts : List Str) {l : List Row} {z : Str} (hz : z = ("top" : Str) ∨ (z ≠ ("top" : Str) ∧ z ∈ names l)) : valV (kvM rs d ts l) (.inr z : Key) = some (.bl (valOf rs d ts z)) := by
  rcases hz with rfl | ⟨hn, hz⟩
  · show valV ((.inr ("top" : Str), .bl d) :: kvF (fun r => .bl (valOf rs d ts r.nm)) l) (.inr ("top" : Str) : Key) = _
    rw [valV_pos rfl, val_top h]
  · show valV ((.inr ("top" : Str), .bl d) :: kvF (fun r => .bl (valOf rs d ts r.nm)) l) (.inr z : Key) = _
    rw [valV_neg (fun q => hn (Sum.inr.inj q).symm), valV_kvF]
    obtain ⟨r, e, _, e2⟩ := rowOf_some hz
    rw [show (l.find? fun r => decide (r.nm = z)) = some r from e]
    show some (V.bl (valOf rs d ts r.nm)) = _
    rw [e2]
theorem kvM_more {rs : List Row} (h : Valid rs) (d : Bool) (ts : List Str) {i : Nat} {r : Row} (hr : rs[i]? = some r) : putK (kvM rs d ts (rs.take i)) (.inr r.nm) (.bl (valOf rs d ts r.nm)) = kvM rs d ts (rs.take (i + 1)) := by
  have f := h i r hr
  rw [putK_new _ (by
    show (valV ((.inr ("top" : Str), .bl d) :: kvF (fun r => .bl (valOf rs d ts r.nm)) (rs.take i)) (.inr r.nm : Key)) = none
    rw [valV_neg (fun q => f.top (Sum.inr.inj q).symm), valV_kvF, find_none f.new]; rfl), take_more hr]
  unfold kvM kvF
  rw [List.map_append]
  rfl
def spValues (C : Addr) : Sp := fun vs H Q _ => ∃ (t u : Addr) (d : Bool) (ts : List Str) (rs : List Row), vs = [.ref t, .bl d, .ref u] ∧ TreeAt C H t rs ∧ H u = some (.tup (ts.map V.str)) ∧
  ∀ D H', H D = none → Same H H' → H' D = some (.dK (kvM rs d ts rs)) → Q (.ref D) H'
section
variable {P : Program} {w : World} {K : PySem.W.Frag} {mg : Str → Option Value} {base : Heap} {C : Addr}
abbrev nValues : List Str := ["tree", "default", "turns", "values", "box"]
theorem sc_values_of : FnScope nValues ["tree", "default", "turns"] (defScope s_values_of) := ⟨rfl, rfl, rfl, by decide +kernel, rfl, by decide +kernel, by decide +kernel⟩
theorem ok_values_of (D : DefAt K mg "values_of" s_values_of ["tree", "default", "turns"]) (TC : TxC K mg) (T : TxT K mg C)
    (mB : MethAt K C "below" "Tree.below" s_Tree_below ["self", "box"]) (GB : FnOk P w K mg base CX0 5 mB.f mB.fd ["self", "box"] (spListOf C belowL))
    (mF : MethAt K C "folder" "Tree.folder" s_Tree_folder ["self", "box"]) (GF : FnOk P w K mg base CX0 4 mF.f mF.fd ["self", "box"] (spGet C fun r => .str r.fo)) : FnOk P w K mg base CX0 6 D.f D.fd ["tree", "default", "turns"] (spValues C) := by
  obtain ⟨t1, gT⟩ := TC.top
  refine D.F.ok sc_values_of (fun vs H Q E h => ?_) (fun cdv A outer s H vs Q E hr h => ?_)
  · obtain ⟨t, u, d, ts, rs, rfl, _⟩ := h
    rfl
  · obtain ⟨t, u, d, ts, rs, rfl, ht, hu', hq⟩ := h
    have hu := hu_of hr
    have hr3 : Room 4 _ := hr.mono (by decide)
    refine ⟨_, pss_cons (ps_set (i := 3) sc_values_of.nd rfl (.inl rfl) (pe_disp (pps_cons (pe_glob (by rfl) gT (v := .str ("top" : Str)) ⟨_, rfl⟩) (pv 1) pps_nil) (by rfl) (by rfl) (fun z => by cases z) (by decide)))
      (pss_cons (ps_for PassesOwn.never rfl (pi_list (pe_meth (pv 0) T.cl mB.m GB hr mB.b .nil pass0 (pa_cons (pe_glob (by rfl) gT (v := .str ("top" : Str)) ⟨_, rfl⟩) pa_nil))) (pg_name (i := 4) sc_values_of.nd rfl (.inl rfl))
        (pss_one (ps_dput hu (pv 3) (pv 4) (pe_cmpR op_ne (pe_dget hu (pv 3) (pe_meth (pv 0) T.cl mF.m GF hr3 mF.b .nil pass0 (pa_cons (pv 4) pa_nil)) (fun _ _ => rfl)) (pe_cmpR op_in_seq (pv 4) (pv 2) (by rfl)) (nomark _)) rfl)))
      (pss_one (ps_ret (pv 3)))), ?_⟩
    have hv := ht.val
    have l100 := ht.len
    obtain ⟨dx, q, f, k, p, qs, h1, h2, h3, h4, h5, h6⟩ := id ht.ex
    have noB : (tf q f k p).lookup ("below" : Str) = none := tf_no _ _ _ _ (by decide +kernel) (by decide +kernel) (by decide +kernel) (by decide +kernel)
    have noF : (tf q f k p).lookup ("folder" : Str) = none := tf_no _ _ _ _ (by decide +kernel) (by decide +kernel) (by decide +kernel) (by decide +kernel)
    refine fun wd hwd => ⟨_, rfl, upd_same, [(.inr ("top" : Str), .bl d)], rfl, (by show 1 ≤ 15; decide), ?_⟩
    have sA : Same H (upd (upd H wd (.dK [])) wd (.dK (mergeK [] [(.inr ("top" : Str), .bl d)]))) := fun b o e => by
      rw [upd_ne (ne_of_none e hwd), upd_ne (ne_of_none e hwd)]; exact e
    have eA : (upd (upd H wd (.dK [])) wd (.dK (mergeK [] [(.inr ("top" : Str), .bl d)]))) wd = some (.dK (kvM rs d ts [])) := upd_same
    generalize upd (upd H wd (.dK [])) wd (.dK (mergeK [] [(.inr ("top" : Str), .bl d)])) = H1 at sA eA
    refine ⟨_, rfl, t, dx, _, rfl, sA _ _ h1, noB, t, ("top" : Str), rs, rfl, ht.same sA, .inl rfl, fun bl H2 hbl s2 e2 => ?_⟩
    rw [below_top hv] at e2
    have sB := sA.trans s2
    have nw : ∀ {b : Addr} {o : HO}, H b = some o → b ≠ wd := fun {b o} e => ne_of_none e hwd
    have nbw : bl ≠ wd := fun e => by rw [← e, hbl] at eA; cases eA
    refine ⟨bl, rfl, ⟨_, SqL.of e2⟩, ?_⟩
    refine for_list (K := K) (a := bl) (xs := (names rs).map V.str) (fun i σ H' => ∃ v : Option V, σ = [some (.ref t), some (.bl d), some (.ref u), some (.ref wd), v] ∧ SB wd H2 H' ∧ H' wd = some (.dK (kvM rs d ts (rs.take i)))) ⟨_, rfl, SB.refl _ _, s2 _ _ eA⟩ (fun i σ H' _ ⟨_, _, sb, _⟩ => SqL.of (sb _ _ nbw e2)) ?_ ?_
    · rintro i x σ H3 hx ⟨v, rfl, sb, hw⟩
      unfold names at hx
      rw [List.getElem?_map, List.getElem?_map] at hx
      obtain ⟨n1, hn1, rfl⟩ := Option.map_eq_some_iff.mp hx
      obtain ⟨r, hr', rfl⟩ := Option.map_eq_some_iff.mp hn1
      have hrm := List.mem_of_getElem? hr'
      have ro := rowOf_at hv hr'
      have s3 : SB wd H H3 := (SB.of sB).trans sb
      have t3 : TreeAt C H3 t rs := by
        refine ⟨⟨dx, q, f, k, p, qs, s3 _ _ (nw h1) h1, s3 _ _ (nw h2) h2, ⟨h3.len, fun j b w hb hw => s3 _ _ (nw (h3.at_ j b w hb hw)) (h3.at_ j b w hb hw)⟩, s3 _ _ (nw h4) h4, s3 _ _ (nw h5) h5, s3 _ _ (nw h6) h6⟩, hv, l100⟩
      have fo : r.fo = ("top" : Str) ∨ (r.fo ≠ ("top" : Str) ∧ r.fo ∈ names (rs.take i)) := by
        by_cases e : r.fo = ("top" : Str)
        · exact .inl e
        · exact .inr ⟨e, (hv.fo hr').resolve_left e⟩
      have dg := DGet.k (k := Sum.inr r.fo) hw
      rw [valV_kvM hv d ts fo] at dg
      refine ⟨_, rfl, _, rfl, t, dx, _, rfl, s3 _ _ (nw h1) h1, noF, _, rfl, t, r.nm, rs, r, rfl, t3, ro, wd, _, rfl, dg, _, rfl, _, rfl, u, _, rfl, .inr (sqT (s3 _ _ (nw hu') hu')), rfl, flat_strs _, rfl, ?_⟩
      refine ⟨_, rfl, _, rfl, wd, _, rfl, DPut.k (k := Sum.inr r.nm) hw (small1000 (by unfold kvM kvF; rw [List.length_cons, List.length_map, List.length_take]; omega)), ?_⟩
      refine ⟨_, rfl, fun b o nb e => by rw [upd_ne nb]; exact sb b o nb e, ?_⟩
      rw [upd_same, ← kvM_more hv d ts hr', val_step hv d ts hrm]
      have e : (if false = true then !inV (.str r.nm) (ts.map V.str) else inV (.str r.nm) (ts.map V.str)) = decide (r.nm ∈ ts) := by
        rw [if_neg Bool.false_ne_true, inV_strs]
      rw [e]
      congr 3
      cases valOf rs d ts r.fo <;> cases decide (r.nm ∈ ts) <;> rfl
    · rintro σ H3 ⟨v, rfl, sb, hw⟩
      unfold names at hw
      rw [List.length_map, List.length_map, List.take_length] at hw
      exact ⟨_, rfl, hq wd H3 hwd (fun b o e => (SB.of sB).trans sb b o (nw e) e) hw⟩
end
end Ts

set_option maxRecDepth 100000
set_option maxHeartbeats 4000000
namespace Ts
open PySem L2
def Free (rs : List Row) (x : Str) : Prop := ∃ r, rowOf rs x = some r ∧ r.pr ≠ none
theorem Free.mem {rs : List Row} {x : Str} (h : Free rs x) : x ∈ names rs := by
  obtain ⟨r, e, _⟩ := h
  have e' : rs.find? (fun r => decide (r.nm = x)) = some r := e
  have e2 := List.find?_some e'
  exact List.mem_map.mpr ⟨r, List.mem_of_find?_eq_some e', of_decide_eq_true e2⟩
/-- a list or a tuple, the program's own ones too -/
def SqX (K : PySem.W.Frag) (H : Hp) (a : Addr) (xs : List V) : Prop := SqL K H a xs ∨ SqT K H a xs
theorem SqX.eq {K : PySem.W.Frag} {H H' : Hp} {a : Addr} {xs : List V} (h : SqX K H a xs) (e : H' a = H a) : SqX K H' a xs := by
  unfold SqX SqL SqT Rd at h ⊢
  rw [e]
  exact h
theorem SqX.keep {K : PySem.W.Frag} {H H' : Hp} {a : Addr} {xs : List V} (h : SqX K H a xs) (s : ∀ o, (∀ C dx fs, o ≠ HO.ins C dx fs) → H a = some o → H' a = some o) : SqX K H' a xs := by
  rcases h with ((h | ⟨o, h⟩) | h) | ((h | ⟨o, h⟩) | h)
  · exact .inl (.inl (.inl (s _ (fun _ _ _ z => by cases z) h)))
  · exact .inl (.inl (.inr ⟨o, s _ (fun _ _ _ z => by cases z) h⟩))
  · exact .inl (.inr h)
  · exact .inr (.inl (.inl (s _ (fun _ _ _ z => by cases z) h)))
  · exact .inr (.inl (.inr ⟨o, s _ (fun _ _ _ z => by cases z) h⟩))
  · exact .inr (.inr h)
theorem SqX.same {K : PySem.W.Frag} {H H' : Hp} {a : Addr} {xs : List V} (h : SqX K H a xs) (s : Same H H') : SqX K H' a xs := h.keep fun o _ e => s _ _ e
theorem SqX.sbm {K : PySem.W.Frag} {H H' : Hp} {a m C dx : Addr} {fs : List (Str × V)} {xs : List V} (h : SqX K H a xs) (hm : H m = some (.ins C dx fs)) (s : SB m H H') : SqX K H' a xs :=
  h.keep fun o no e => s _ _ (fun q => by rw [q, hm] at e; exact no _ _ _ (Option.some.inj e).symm) e
/-- x itself, a list or a tuple, in slot i -/
def iSeqX (K : PySem.W.Frag) (i : Nat) : TI := fun σ H R => ∃ (a : Addr) (xs : List V), σ[i]? = some (some (.ref a)) ∧ SqX K H a xs ∧ ∀ J, Walk J xs.length (fun H' => H' a = H a) (YAt xs) → R J H
theorem pi_seqX {X : Cx} {e tg : Expr} {i : Nat} (he : PE X e (tVar i)) : PI X tg e (iSeqX X.K i) := by
  refine ⟨fun pins s σ H R I h => ?_⟩
  obtain ⟨a, xs, e1, hq, k⟩ := h
  have sub : ∀ {H' : Hp}, H' a = H a → (SqL X.K H a xs → SqL X.K H' a xs) ∧ (SqT X.K H a xs → SqT X.K H' a xs) := fun {H'} e => by
    unfold SqL SqT Rd
    rw [e]
    exact ⟨id, id⟩
  rcases hq with hq | hq
  · exact (pi_list he).run pins s σ H R I ⟨_, e1, a, rfl, ⟨_, hq⟩, k _ (walk_list.mono (fun H' e => (sub e).1 hq) fun _ _ _ _ _ _ y => y)⟩
  · exact (pi_tup he).run pins s σ H R I ⟨_, e1, a, rfl, ⟨_, hq⟩, k _ (walk_tup.mono (fun H' e => (sub e).2 hq) fun _ _ _ _ _ _ y => y)⟩
def spCheckTurns (K : PySem.W.Frag) (C : Addr) : Sp := fun vs H Q _ => ∃ (t u : Addr) (xs : List Str) (rs : List Row), vs = [.ref t, .ref u] ∧ TreeAt C H t rs ∧ SqX K H u (xs.map V.str) ∧ (∀ x ∈ xs, Free rs x) ∧ Q .non H
def mf (t u k : Addr) (d : Bool) : List (Str × V) := putF "known" (.ref k) (putF "turns" (.ref u) (putF "default" (.bl d) (putF "tree" (.ref t) [])))
/-- the turned boxes, in the tree's order -/
def turnsL (rs : List Row) (xs : List Str) : List Str := (names rs).filter fun z => decide (z ∈ xs)
theorem turnsL_norm (rs : List Row) (xs : List Str) : turnsL rs xs = turnsL rs (turnsL rs xs) := by
  unfold turnsL
  refine List.filter_congr fun z hz => ?_
  by_cases e : z ∈ xs
  · simp [e, hz]
  · simp [e]
structure MeanAt (C CM : Addr) (H : Hp) (m t : Addr) (rs : List Row) (d : Bool) (ts : List Str) : Prop where
  ex : ∃ (dx u k : Addr), H m = some (.ins CM dx (mf t u k d)) ∧ H u = some (.tup (ts.map V.str)) ∧ H k = some (.dK (kvM rs d ts rs))
  tree : TreeAt C H t rs
  norm : ts = turnsL rs ts
theorem MeanAt.sub {C CM : Addr} {H : Hp} {m t : Addr} {rs : List Row} {d : Bool} {ts : List Str} (h : MeanAt C CM H m t rs d ts) : ∀ x ∈ ts, x ∈ names rs := fun x hx => by
  rw [h.norm] at hx
  exact (List.mem_filter.mp hx).1
theorem MeanAt.len {C CM : Addr} {H : Hp} {m t : Addr} {rs : List Row} {d : Bool} {ts : List Str} (h : MeanAt C CM H m t rs d ts) : ts.length ≤ 100 := by
  rw [h.norm]
  unfold turnsL names
  have h1 := List.length_filter_le (fun z => decide (z ∈ ts)) (rs.map (·.nm))
  have h2 := h.tree.len
  rw [List.length_map] at h1
  omega
theorem MeanAt.same {C CM : Addr} {H H' : Hp} {m t : Addr} {rs : List Row} {d : Bool} {ts : List Str} (h : MeanAt C CM H m t rs d ts) (s : Same H H') : MeanAt C CM H' m t rs d ts := by
  obtain ⟨dx, u, k, h1, h2, h3⟩ := h.ex
  exact ⟨⟨dx, u, k, s _ _ h1, s _ _ h2, s _ _ h3⟩, h.tree.same s, h.norm⟩
structure TxM (K : PySem.W.Frag) (mg : Str → Option Value) (CM : Addr) : Prop where
  cl : Cls K CM
  nt : NoAttr K CM "tree"
  nd : NoAttr K CM "default"
  nu : NoAttr K CM "turns"
  nk : NoAttr K CM "known"
  g : mg "Meaning" = some (.ref CM)
def spMeaningInit (K : PySem.W.Frag) (C CM : Addr) : Sp := fun vs H Q _ => ∃ (m dx t h : Addr) (d : Bool) (xs : List Str) (rs : List Row), vs = [.ref m, .ref t, .bl d, .ref h] ∧ H m = some (.ins CM dx []) ∧ TreeAt C H t rs ∧ SqX K H h (xs.map V.str) ∧ (∀ x ∈ xs, Free rs x) ∧
  ∀ H', SB m H H' → MeanAt C CM H' m t rs d (turnsL rs xs) → Q .non H'
section
variable {P : Program} {w : World} {K : PySem.W.Frag} {mg : Str → Option Value} {base : Heap} {C CM : Addr}
abbrev nCheckTurns : List Str := ["tree", "turns", "box"]
theorem sc_check_turns : FnScope nCheckTurns ["tree", "turns"] (defScope s_check_turns) := ⟨rfl, rfl, rfl, by decide +kernel, rfl, by decide +kernel, by decide +kernel⟩
theorem ok_check_turns (D : DefAt K mg "check_turns" s_check_turns ["tree", "turns"]) (Db : DefAt K mg "check_box" s_check_box ["tree", "thing"]) (Gb : FnOk P w K mg base CX0 3 Db.f Db.fd ["tree", "thing"] (spBox C)) (T : TxT K mg C)
    (mP : MethAt K C "price" "Tree.price" s_Tree_price ["self", "box"]) (GP : FnOk P w K mg base CX0 4 mP.f mP.fd ["self", "box"] (spGet C fun r => prV r.pr)) : FnOk P w K mg base CX0 5 D.f D.fd ["tree", "turns"] (spCheckTurns K C) := by
  refine D.F.ok sc_check_turns (fun vs H Q E h => ?_) (fun cdv A outer s H vs Q E hr h => ?_)
  · obtain ⟨t, u, xs, rs, rfl, _⟩ := h
    rfl
  · obtain ⟨t, u, xs, rs, rfl, ht, hx, hfree, hq⟩ := h
    have hr2 : Room 3 _ := hr.mono (by decide)
    obtain ⟨dx, q, f, k, p, qs, h1, h2, h3, h4, h5, h6⟩ := id ht.ex
    have noP : (tf q f k p).lookup ("price" : Str) = none := tf_no _ _ _ _ (by decide +kernel) (by decide +kernel) (by decide +kernel) (by decide +kernel)
    refine ⟨_, pss_cons (ps_for PassesOwn.never rfl (pi_seqX (i := 1) (pv 1)) (pg_name (i := 2) sc_check_turns.nd rfl (.inl rfl))
        (pss_one (ps_expr (pe_call Gb hr2 rfl Db.g Db.F.kp Db.b .nil pass0 (pa_cons (pv 0) (pa_cons (pv 2) pa_nil))))))
      (pss_one (ps_for PassesOwn.never rfl (pi_seqX (i := 1) (pv 1)) (pg_name (i := 2) sc_check_turns.nd rfl (.inl rfl))
        (pss_one (ps_if (pt_cmpR op_isN (pe_meth (pv 0) T.cl mP.m GP hr mP.b .nil pass0 (pa_cons (pv 2) pa_nil)) pe_non (nomark _)) (pss_one ps_never) pss_nil)))), ?_⟩
    have at_ : ∀ {i : Nat} {x : V}, (xs.map V.str)[i]? = some x → ∃ z, x = .str z ∧ Free rs z := fun {i x} hx => by
      rw [List.getElem?_map] at hx
      obtain ⟨z, hz, rfl⟩ := Option.map_eq_some_iff.mp hx
      exact ⟨z, rfl, hfree z (List.mem_of_getElem? hz)⟩
    refine ⟨u, _, rfl, hx, fun J W => ?_⟩
    refine for_it W (fun i σ H' => ∃ v : Option V, σ = [some (.ref t), some (.ref u), v] ∧ H' = H) ⟨none, rfl, rfl⟩ (fun i σ H' _ ⟨_, _, e⟩ => by rw [e]) ?_ ?_
    · rintro i x σ H2 H3 hi ⟨v, rfl, rfl⟩ ⟨rfl, hxi⟩
      obtain ⟨z, rfl, hz⟩ := at_ hxi
      exact ⟨_, rfl, _, rfl, t, z, rs, rfl, ht, hz.mem, _, rfl, rfl⟩
    rintro σ H2 ⟨v, rfl, rfl⟩
    refine ⟨u, _, rfl, hx, fun J W => ?_⟩
    refine for_it W (fun i σ H' => ∃ v : Option V, σ = [some (.ref t), some (.ref u), v] ∧ H' = H2) ⟨v, rfl, rfl⟩ (fun i σ H' _ ⟨_, _, e⟩ => by rw [e]) ?_ ?_
    · rintro i x σ H3 H4 hi ⟨v, rfl, rfl⟩ ⟨rfl, hxi⟩
      obtain ⟨z, rfl, r, hr', hp⟩ := at_ hxi
      refine ⟨_, rfl, t, dx, _, rfl, h1, noP, _, rfl, t, z, rs, r, rfl, ht, hr', ?_⟩
      have e2 : decide ((fun r : Row => prV r.pr) r = V.non) = false := by
        cases e : r.pr with
        | none => exact absurd e hp
        | some i => show decide (prV r.pr = V.non) = false; rw [e]; exact decide_eq_false (fun h => by cases h)
      refine ⟨rfl, _, rfl, ?_⟩
      rw [e2]
      exact iteF ⟨_, rfl, rfl⟩
    · rintro σ H3 ⟨v, rfl, rfl⟩
      exact hq
end
end Ts

set_option maxRecDepth 100000
set_option maxHeartbeats 4000000
namespace Ts
open PySem L2
theorem mtd_ : ¬ (("tree" : Str) = "default") := by decide +kernel
theorem mtu_ : ¬ (("tree" : Str) = "turns") := by decide +kernel
theorem mtk_ : ¬ (("tree" : Str) = "known") := by decide +kernel
theorem mdu_ : ¬ (("default" : Str) = "turns") := by decide +kernel
theorem mdk_ : ¬ (("default" : Str) = "known") := by decide +kernel
theorem muk_ : ¬ (("turns" : Str) = "known") := by decide +kernel
theorem mf_t (t u k : Addr) (d : Bool) : (mf t u k d).lookup ("tree" : Str) = some (.ref t) := by
  unfold mf
  rw [lookup_putF, if_neg mtk_, lookup_putF, if_neg mtu_, lookup_putF, if_neg mtd_, lookup_putF, if_pos rfl]
theorem mf_d (t u k : Addr) (d : Bool) : (mf t u k d).lookup ("default" : Str) = some (.bl d) := by
  unfold mf
  rw [lookup_putF, if_neg mdk_, lookup_putF, if_neg mdu_, lookup_putF, if_pos rfl]
theorem mf_u (t u k : Addr) (d : Bool) : (mf t u k d).lookup ("turns" : Str) = some (.ref u) := by
  unfold mf
  rw [lookup_putF, if_neg muk_, lookup_putF, if_pos rfl]
theorem mf_k (t u k : Addr) (d : Bool) : (mf t u k d).lookup ("known" : Str) = some (.ref k) := by
  unfold mf
  rw [lookup_putF, if_pos rfl]
theorem mf_no (t u k : Addr) (d : Bool) {m : Str} (h1 : ¬ m = "tree") (h2 : ¬ m = "default") (h3 : ¬ m = "turns") (h4 : ¬ m = "known") : (mf t u k d).lookup m = none := by
  unfold mf
  rw [lookup_putF, if_neg h4, lookup_putF, if_neg h3, lookup_putF, if_neg h2, lookup_putF, if_neg h1]
  rfl
theorem turns_more {rs : List Row} {i : Nat} {r : Row} (h : rs[i]? = some r) (xs : List Str) : (names (rs.take (i + 1))).filter (fun z => decide (z ∈ xs)) = (names (rs.take i)).filter (fun z => decide (z ∈ xs)) ++ (if decide (r.nm ∈ xs) = true then [r.nm] else []) := by
  unfold names
  rw [take_more h, List.map_append, List.filter_append]
  by_cases e : r.nm ∈ xs
  · simp [e]
  · simp [e]
theorem TreeAt.sbm {C CM : Addr} {H H' : Hp} {t m dx : Addr} {rs : List Row} (h : TreeAt C H t rs) (hm : H m = some (.ins CM dx [])) (s : SB m H H') : TreeAt C H' t rs := by
  obtain ⟨tx, q, f, k, p, qs, h1, h2, h3, h4, h5, h6⟩ := h.ex
  have w : ∀ {b : Addr} {o : HO}, H b = some o → o ≠ .ins CM dx [] → H' b = some o := fun {b o} e1 no => s b o (fun eb => by rw [eb, hm] at e1; exact no (Option.some.inj e1).symm) e1
  refine ⟨⟨tx, q, f, k, p, qs, w h1 (fun e => ?_), w h2 (fun h => by cases h), ⟨h3.len, fun i b r hb hr => w (h3.at_ i b r hb hr) (fun h => by cases h)⟩, w h4 (fun h => by cases h), w h5 (fun h => by cases h), w h6 (fun h => by cases h)⟩, h.val, h.len⟩
  injection e with _ _ e3
  have e4 := tf_p q f k p
  rw [e3] at e4
  cases e4
/-- a def with defaults that lets nothing out -/
theorem okD {w : World} {P : Program} {K : PySem.W.Frag} {base : Heap} {mg : Str → Option Value} {qual x : Str} {fd : FuncData} {f : Addr} {ar : Arguments} {bo : List Stmt} {sc : Scope} {kws : List (Str × V)} {dvs : List V} {ps N : List Str} {n : Nat} {sp : Sp} (F : FunD K x qual ar bo sc dvs kws f fd) (S : FnScope N ps sc)
    (ln : ∀ vs H Q E, sp vs H Q E → vs.length = ps.length) (hb : ∀ (cdv : Value) (A : Around) (outer : List Env) (s : Shared) (H : Hp) (vs : List V) (Q : VK) (E : XK), Room n (A.deeper (PyProof.Rows.envOfC qual sc s.heap.objs.size f cdv)) → sp vs H Q E → ∃ t, PSs (cxOf CX0 P w K mg base N qual sc f cdv A outer s H E).nox bo t ∧ t { nx := fun _ H' => Q .non H', rt := Q } (start N vs) H) :
    FnOk P w K mg base CX0 (n + 1) f fd ps sp := by
  refine F.ok S ln fun cdv A outer s H vs Q E r hsp => ?_
  obtain ⟨t, h, q⟩ := hb cdv A outer s H vs Q E r hsp
  exact ⟨t, h.nox, q⟩
section
variable {P : Program} {w : World} {K : PySem.W.Frag} {mg : Str → Option Value} {base : Heap} {C CM : Addr}
abbrev nMInit : List Str := ["self", "tree", "default", "turns", "box"]
theorem sc_M_init : FnScope nMInit ["self", "tree", "default", "turns"] (defScope s_Meaning_init) := ⟨rfl, rfl, rfl, by decide +kernel, rfl, by decide +kernel, by decide +kernel⟩
theorem ok_M_init {f : Addr} {fd : FuncData} {dvs : List V} (F : FunD K "__init__" "Meaning.__init__" (defArgs s_Meaning_init) (defBody s_Meaning_init) (defScope s_Meaning_init) dvs [] f fd) (B : TxB mg) (TC : TxC K mg) (T : TxT K mg C) (M : TxM K mg CM)
    (Dc : DefAt K mg "check_turns" s_check_turns ["tree", "turns"]) (Gc : FnOk P w K mg base CX0 5 Dc.f Dc.fd ["tree", "turns"] (spCheckTurns K C))
    (Dv : DefAt K mg "values_of" s_values_of ["tree", "default", "turns"]) (Gv : FnOk P w K mg base CX0 6 Dv.f Dv.fd ["tree", "default", "turns"] (spValues C))
    (mB : MethAt K C "below" "Tree.below" s_Tree_below ["self", "box"]) (GB : FnOk P w K mg base CX0 5 mB.f mB.fd ["self", "box"] (spListOf C belowL)) :
    FnOk P w K mg base CX0 7 f fd ["self", "tree", "default", "turns"] (spMeaningInit K C CM) := by
  obtain ⟨t1, gT⟩ := TC.top
  refine okD F sc_M_init (fun vs H Q E h => ?_) (fun cdv A outer s H vs Q E hr h => ?_)
  · obtain ⟨m, dx, t, h, d, xs, rs, rfl, _⟩ := h
    rfl
  · obtain ⟨m, dx, t, h, d, xs, rs, rfl, hm, ht, hx, hfree, hq⟩ := h
    have hr4 : Room 5 _ := hr.mono (by decide)
    refine ⟨_, pss_cons (ps_if (pt_not (pt_val (pe_callB call_isi (by rfl) B.isinstance (by decide +kernel) (pa_cons (pv 2) (pa_cons (pe_bltn (by rfl) B.bool (by decide +kernel) (v := .ty "bool") rfl) pa_nil))))) (pss_one ps_never) pss_nil)
      (pss_cons (ps_expr (pe_call Gc hr4 rfl Dc.g Dc.F.kp Dc.b .nil pass0 (pa_cons (pv 1) (pa_cons (pv 3) pa_nil))))
      (pss_cons (ps_fld (pv 0) (pv 1) rfl)
      (pss_cons (ps_fld (pv 0) (pv 2) rfl)
      (pss_cons (ps_fld (pv 0) (pe_callTy call_tuple_of (by rfl) B.tuple (by decide +kernel) (pa_cons (pe_lc (own := [("box", 4)]) (g := gName 4) (tt := tTest (tOp (rIn K false) (tVar 4) (tVar 3))) (te := tVar 4) rfl sc_M_init.nd (pi_list (pe_meth (pv 1) T.cl mB.m GB hr4 mB.b .nil pass0 (pa_cons (pe_glob (by rfl) gT (v := .str ("top" : Str)) ⟨_, rfl⟩) pa_nil))) (blkOk_by (N := nMInit) (sc := defScope s_Meaning_init) (by decide +kernel))
          (fun _ _ _ _ _ => pg_name (i := 4) sc_M_init.nd rfl (Or.inl rfl)) (fun _ _ _ _ _ => by exact pts_one (pt_cmpR op_in_seq (pv 4) (pv 3) (by rfl))) (fun _ _ _ _ _ => pv 4)) pa_nil)) rfl)
      (pss_one (ps_fld (pv 0) (pe_call Gv hr rfl Dv.g Dv.F.kp Dv.b .nil pass0 (pa_cons (pv 1) (pa_cons (pv 2) (pa_cons (pe_fld (pv 0) rfl) pa_nil)))) rfl)))))), ?_⟩
    have hv := ht.val
    have l100 := ht.len
    obtain ⟨tx, q, f, k, p, qs, h1, _⟩ := id ht.ex
    have noB : (tf q f k p).lookup ("below" : Str) = none := tf_no _ _ _ _ (by decide +kernel) (by decide +kernel) (by decide +kernel) (by decide +kernel)
    refine ⟨_, rfl, _, _, _, _, true, rfl, .ty "bool", .base (.bl d), kit_ty (by decide +kernel), _, rfl, iteF ?_⟩
    refine ⟨_, rfl, _, rfl, t, h, xs, rs, rfl, ht, hx, hfree, ?_⟩
    refine ⟨_, rfl, _, rfl, m, CM, dx, _, rfl, hm, M.cl, M.nt, (by show 0 < 1000; decide), ?_⟩
    refine ⟨_, rfl, _, rfl, m, CM, dx, _, rfl, upd_same, M.cl, M.nd, (Nat.lt_of_le_of_lt (putF_len _ _ _) (by decide)), ?_⟩
    obtain ⟨Hb, Eb⟩ : ∃ Hx, Hx = upd (upd H m (.ins CM dx (putF "tree" (.ref t) []))) m (.ins CM dx (putF "default" (.bl d) (putF "tree" (.ref t) []))) := ⟨_, rfl⟩
    have bm : Hb m = some (.ins CM dx (putF "default" (.bl d) (putF "tree" (.ref t) []))) := by rw [Eb]; exact upd_same
    have sb : SB m H Hb := fun b o nb e => by rw [Eb, upd_ne nb, upd_ne nb]; exact e
    rw [← Eb]
    clear Eb
    have tb := ht.sbm hm sb
    have hxb : SqX K Hb h (xs.map V.str) := hx.sbm hm sb
    have htm : Hb t = some (.ins C tx (tf q f k p)) := by
      refine sb _ _ (fun e => ?_) h1
      rw [e, hm] at h1
      have e3 := Option.some.inj h1
      injection e3 with _ _ e3
      have e4 := tf_p q f k p
      rw [← e3] at e4
      cases e4
    refine ⟨_, rfl, t, tx, _, rfl, htm, noB, t, ("top" : Str), rs, rfl, tb, .inl rfl, fun bl H2 hbl s2 e2 => ?_⟩
    rw [below_top hv] at e2
    refine ⟨bl, rfl, ⟨_, SqL.of e2⟩, fun D hD => ?_⟩
    have hx2 := hxb.same s2
    refine lc_list (K := K) (a := bl) (xs := (names rs).map V.str) (fun i H' => Same H2 H' ∧ H' D = some (.lst (((names (rs.take i)).filter (fun z => decide (z ∈ xs))).map V.str))) ⟨Same.new hD, upd_same⟩ (fun i H' _ m => m.1.seq (SqL.of e2)) ?_ ?_
    · rintro i x H3 hxi ⟨s3, hD3⟩
      unfold names at hxi
      rw [List.getElem?_map, List.getElem?_map] at hxi
      obtain ⟨n1, hn1, rfl⟩ := Option.map_eq_some_iff.mp hxi
      obtain ⟨r, hr', rfl⟩ := Option.map_eq_some_iff.mp hn1
      have sz : (((names (rs.take i)).filter (fun z => decide (z ∈ xs))).map V.str).length < sizeLine := small1000 (by
        rw [List.length_map]
        have h1 := List.length_filter_le (fun z => decide (z ∈ xs)) (names (rs.take i))
        unfold names at h1 ⊢
        rw [List.length_map, List.length_take] at h1
        omega)
      refine ⟨rfl, _, rfl, _, rfl, h, _, rfl, (hx2.same s3), rfl, flat_strs _, _, rfl, ?_⟩
      have e : (if false = true then !inV (.str r.nm) (xs.map V.str) else inV (.str r.nm) (xs.map V.str)) = decide (r.nm ∈ xs) := by
        rw [if_neg Bool.false_ne_true, inV_strs]
      rw [e]
      refine ite2 (fun hc => ?_) (fun hc => ?_)
      · refine ⟨_, rfl, _, hD3, sz, fun b o eb => ?_, ?_⟩
        · rw [upd_ne (fun y => by rw [y, hD] at eb; cases eb)]
          exact s3 _ _ eb
        · rw [upd_same, turns_more hr', if_pos hc, List.map_append]; rfl
      · refine ⟨s3, ?_⟩
        rw [turns_more hr', if_neg hc, List.append_nil]
        exact hD3
    rintro H3 ⟨s3, hD3⟩
    rw [show ((names rs).map V.str).length = rs.length from by unfold names; rw [List.length_map, List.length_map], List.take_length] at hD3
    refine ⟨D, _, rfl, .inl ⟨SqL.of hD3, fun u hu => ?_⟩⟩
    have s4 := (s2.trans s3).trans (Same.new (o := .tup ((turnsL rs xs).map V.str)) hu)
    have e4 : (upd H3 u (.tup ((turnsL rs xs).map V.str))) u = some (.tup ((turnsL rs xs).map V.str)) := upd_same
    have e4' : (upd H3 u (.tup (((names rs).filter (fun z => decide (z ∈ xs))).map V.str))) = upd H3 u (.tup ((turnsL rs xs).map V.str)) := rfl
    rw [e4']
    have num : u ≠ m := fun e => by rw [e, (s2.trans s3) _ _ bm] at hu; cases hu
    generalize upd H3 u (.tup ((turnsL rs xs).map V.str)) = H4 at s4 e4
    refine ⟨_, rfl, m, CM, dx, _, rfl, s4 _ _ bm, M.cl, M.nu, (Nat.lt_of_le_of_lt (Nat.le_trans (putF_len _ _ _) (Nat.succ_le_succ (putF_len _ _ _))) (by decide)), ?_⟩
    obtain ⟨H5, E5⟩ : ∃ Hx, Hx = upd H4 m (.ins CM dx (putF "turns" (.ref u) (putF "default" (.bl d) (putF "tree" (.ref t) [])))) := ⟨_, rfl⟩
    have m5 : H5 m = some (.ins CM dx (putF "turns" (.ref u) (putF "default" (.bl d) (putF "tree" (.ref t) [])))) := by rw [E5]; exact upd_same
    have sb5 : SB m H H5 := fun b o nb e => by rw [E5, upd_ne nb]; exact s4 _ _ (sb b o nb e)
    have u5 : H5 u = some (.tup ((turnsL rs xs).map V.str)) := by rw [E5, upd_ne num]; exact e4
    rw [← E5]
    clear E5
    refine ⟨_, rfl, _, rfl, _, rfl, m, CM, dx, _, _, rfl, m5, M.cl, M.nu, (by rw [lookup_putF, if_pos rfl]), t, u, d, turnsL rs xs, rs, rfl, ht.sbm hm sb5, u5, fun kd H6 hkd s6 e6 => ?_⟩
    refine ⟨_, rfl, m, CM, dx, _, rfl, s6 _ _ m5, M.cl, M.nk, (Nat.lt_of_le_of_lt (Nat.le_trans (putF_len _ _ _) (Nat.succ_le_succ (Nat.le_trans (putF_len _ _ _) (Nat.succ_le_succ (putF_len _ _ _))))) (by decide)), ?_⟩
    have sb7 : SB m H (upd H6 m (.ins CM dx (mf t u kd d))) := fun b o nb e => by rw [upd_ne nb]; exact s6 _ _ (sb5 b o nb e)
    have nkm : kd ≠ m := fun e => by rw [e, m5] at hkd; cases hkd
    exact hq _ sb7 ⟨⟨dx, u, kd, upd_same, by rw [upd_ne num]; exact s6 _ _ u5, by rw [upd_ne nkm]; exact e6⟩, ht.sbm hm sb7, turnsL_norm rs xs⟩
end
end Ts

set_option maxRecDepth 100000
set_option maxHeartbeats 4000000
namespace Ts
open PySem L2
def spMValue (C CM : Addr) : Sp := fun vs H Q _ => ∃ (m t : Addr) (z : Str) (rs : List Row) (d : Bool) (ts : List Str), vs = [.ref m, .str z] ∧ MeanAt C CM H m t rs d ts ∧ (z = ("top" : Str) ∨ z ∈ names rs) ∧ Q (.bl (valOf rs d ts z)) H
def spMLen (C CM : Addr) : Sp := fun vs H Q _ => ∃ (m t : Addr) (rs : List Row) (d : Bool) (ts : List Str), vs = [.ref m] ∧ MeanAt C CM H m t rs d ts ∧ ts.length ≤ 1000 ∧ Q (.int ts.length) H
/-- what the turned boxes cost -/
def costOf (rs : List Row) (ts : List Str) : List Int := ts.map fun z => (((rowOf rs z).bind (·.pr)).getD 0)
def spMPrice (C CM : Addr) : Sp := fun vs H Q _ => ∃ (m t : Addr) (rs : List Row) (d : Bool) (ts : List Str), vs = [.ref m] ∧ MeanAt C CM H m t rs d ts ∧ ts.length ≤ 1000 ∧ (∀ z ∈ ts, Free rs z) ∧ ∀ H', Same H H' → Q (.int (costOf rs ts).sum) H'
section
variable {P : Program} {w : World} {K : PySem.W.Frag} {mg : Str → Option Value} {base : Heap} {C CM : Addr}
theorem sc_M_value : FnScope ["self", "box"] ["self", "box"] (defScope s_Meaning_value) := ⟨rfl, rfl, rfl, by decide +kernel, rfl, by decide +kernel, by decide +kernel⟩
theorem ok_M_value {f : Addr} {fd : FuncData} (F : Fun K "value" "Meaning.value" s_Meaning_value f fd) (M : TxM K mg CM) (Dp : DefAt K mg "check_place" s_check_place ["tree", "thing"]) (Gp : FnOk P w K mg base CX0 4 Dp.f Dp.fd ["tree", "thing"] (spPlace C)) : FnOk P w K mg base CX0 5 f fd ["self", "box"] (spMValue C CM) := by
  refine F.ok sc_M_value (fun vs H Q E h => ?_) (fun cdv A outer s H vs Q E hr h => ?_)
  · obtain ⟨m, t, z, rs, d, ts, rfl, _⟩ := h
    rfl
  · obtain ⟨m, t, z, rs, d, ts, rfl, hm, hz, hq⟩ := h
    have hu := hu_of hr
    obtain ⟨dx, u, k, h1, h2, h3⟩ := hm.ex
    refine ⟨_, pss_cons (ps_expr (pe_call Gp hr rfl Dp.g Dp.F.kp Dp.b .nil pass0 (pa_cons (pe_fld (pv 0) rfl) (pa_cons (pv 1) pa_nil)))) (pss_one (ps_ret (pe_dget hu (pe_fld (pv 0) rfl) (pv 1) (fun _ _ => rfl)))), ?_⟩
    have dg := DGet.k (k := Sum.inr z) h3
    rw [valV_kvM hm.tree.val d ts (hz.elim .inl fun h => by
      by_cases e : z = ("top" : Str)
      · exact .inl e
      · exact .inr ⟨e, h⟩)] at dg
    exact ⟨_, rfl, m, CM, dx, _, _, rfl, h1, M.cl, M.nt, mf_t _ _ _ _, _, rfl, t, z, rs, rfl, hm.tree, hz, _, rfl, m, CM, dx, _, _, rfl, h1, M.cl, M.nk, mf_k _ _ _ _, _, rfl, k, _, rfl, dg, hq⟩
theorem sc_M_len : FnScope ["self"] ["self"] (defScope s_Meaning_len) := ⟨rfl, rfl, rfl, by decide +kernel, rfl, by decide +kernel, by decide +kernel⟩
theorem ok_M_len {f : Addr} {fd : FuncData} (F : Fun K "__len__" "Meaning.__len__" s_Meaning_len f fd) (B : TxB mg) (M : TxM K mg CM) : FnOk P w K mg base CX0 2 f fd ["self"] (spMLen C CM) := by
  refine F.ok sc_M_len (fun vs H Q E h => ?_) (fun cdv A outer s H vs Q E hr h => ?_)
  · obtain ⟨m, t, rs, d, ts, rfl, _⟩ := h
    rfl
  · obtain ⟨m, t, rs, d, ts, rfl, hm, hl, hq⟩ := h
    obtain ⟨dx, u, k, h1, h2, h3⟩ := hm.ex
    refine ⟨_, pss_one (ps_ret (pe_callB call_len_seq (by rfl) B.len PySem.boot_len (pa_cons (pe_fld (pv 0) rfl) pa_nil))), ?_⟩
    refine ⟨_, rfl, m, CM, dx, _, _, rfl, h1, M.cl, M.nu, mf_u _ _ _ _, u, _, rfl, .inr (sqT h2), ?_⟩
    rw [List.length_map]
    exact hq
end
end Ts

set_option maxRecDepth 100000
set_option maxHeartbeats 4000000
namespace Ts
open PySem L2
/-! ### lists of texts as data -/
theorem strs_dpAll {K : PySem.W.Frag} {H : Hp} : ∀ l : List Str, DpAll K H (l.map V.str) (l.map PyData.str)
  | [] => .nil
  | x :: l => .cons (.str x) (strs_dpAll l)
theorem strs_dp {K : PySem.W.Frag} {H : Hp} {a : Addr} {l : List Str} (h : H a = some (.lst (l.map V.str))) : Dp K H (.ref a) (.list (l.map PyData.str)) := .lst (SqL.of h) (strs_dpAll l)
theorem strs_eqv : ∀ a b : List Str, PyData.eqvAll (a.map PyData.str) (b.map PyData.str) = decide (a = b)
  | [], [] => by simp [PyData.eqvAll]
  | [], _ :: _ => by simp [PyData.eqvAll]
  | _ :: _, [] => by simp [PyData.eqvAll]
  | x :: a, y :: b => by
    simp only [List.map_cons, PyData.eqvAll, PyData.eqv, str_beq, strs_eqv a b]
    by_cases h1 : x = y <;> by_cases h2 : a = b <;> simp [h1, h2]
theorem strs_same (l : List Str) : PyData.eqv (.list (l.map PyData.str)) (.list (l.map PyData.str)) = true := by
  simp only [PyData.eqv]
  rw [strs_eqv]
  exact decide_eq_true rfl
theorem strs_lay : ∀ l : List Str, (∀ x ∈ l, PyData.strOk x = true) → PyData.canLayAll0 (l.map PyData.str) = true
  | [], _ => by simp [PyData.canLayAll0]
  | x :: l, h => by
    simp only [List.map_cons, PyData.canLayAll0, PyData.canLay0, h x (List.mem_cons_self ..), strs_lay l (fun q hq => h q (List.mem_cons_of_mem _ hq)), Bool.and_self]
theorem strs_depth : ∀ l : List Str, PyData.depthAll (l.map PyData.str) = 0
  | [] => by simp [PyData.depthAll]
  | x :: l => by simp only [List.map_cons, PyData.depthAll, PyData.depth, strs_depth l]; rfl
theorem shaped_strs {l : List Str} (h : ∀ x ∈ l, PyData.strOk x = true) : SeqAt.shaped (.list (l.map PyData.str)) = true := by
  unfold SeqAt.shaped
  rw [Bool.and_eq_true]
  refine ⟨by simp only [PyData.canLay0]; exact strs_lay l h, decide_eq_true ?_⟩
  simp only [PyData.depth, strs_depth]
  omega
theorem names_ok {rs : List Row} (h : Valid rs) : ∀ x ∈ names rs, PyData.strOk x = true := fun x hx => by
  obtain ⟨r, hr, rfl⟩ := List.mem_map.mp hx
  exact (h.ok r hr).n
theorem inside_ok {rs : List Row} (h : Valid rs) (z : Str) : ∀ x ∈ insideL rs z, PyData.strOk x = true := fun x hx => by
  obtain ⟨r, hr, rfl⟩ := List.mem_map.mp hx
  exact (h.ok r (List.mem_filter.mp hr).1).n
theorem below_ok {rs : List Row} (h : Valid rs) (z : Str) : ∀ x ∈ belowL rs z, PyData.strOk x = true := fun x hx => by
  obtain ⟨r, hr, rfl⟩ := List.mem_map.mp hx
  exact (h.ok r (List.mem_filter.mp hr).1).n
theorem lst_same {rs : List Row} : PyData.eqv (.list (rs.map rowD)) (.list (rs.map rowD)) = true := by
  simp only [PyData.eqv]
  rw [rows_eqv]
  exact decide_eq_true rfl
def told (r : Row) : PyData := .tuple [.str r.fo, .str r.ki, prD r.pr]
theorem told_same (r : Row) : PyData.eqv (told r) (told r) = true := by
  simp [told, PyData.eqv, PyData.eqvAll, prD_eqv]
theorem told_shaped {r : Row} (h : RowOk r) : SeqAt.shaped (told r) = true := by
  obtain ⟨h1, h2, h3⟩ := h
  obtain ⟨n, f, k, p⟩ := r
  unfold SeqAt.shaped
  cases p <;> simp_all [told, prD, PyData.canLay0, PyData.canLayAll0, PyData.depth, PyData.depthAll]
end Ts

set_option maxRecDepth 100000
set_option maxHeartbeats 4000000
namespace Ts
open PySem L2
theorem shaped_strsT {l : List Str} (h : ∀ x ∈ l, PyData.strOk x = true) : SeqAt.shaped (.tuple (l.map PyData.str)) = true := by
  unfold SeqAt.shaped
  rw [Bool.and_eq_true]
  refine ⟨by simp only [PyData.canLay0]; exact strs_lay l h, decide_eq_true ?_⟩
  simp only [PyData.depth, strs_depth]
  omega
theorem nfM {K : PySem.W.Frag} {C : Addr} : PySem.W.notFirst K C (.ref C) = true := by simp [PySem.W.notFirst]
theorem MeanAt.ok {C CM : Addr} {H : Hp} {m t : Addr} {rs : List Row} {d : Bool} {ts : List Str} (h : MeanAt C CM H m t rs d ts) : ∀ x ∈ ts, PyData.strOk x = true := fun x hx => names_ok h.tree.val x (h.sub x hx)
def spMEq (K : PySem.W.Frag) (C CM : Addr) : Sp := fun vs H Q _ => ∃ (m t : Addr) (x : V) (rs : List Row) (d : Bool) (ts : List Str), vs = [.ref m, x] ∧ MeanAt C CM H m t rs d ts ∧
  ((∃ (m2 t2 : Addr) (rs2 : List Row) (d2 : Bool) (ts2 : List Str), x = .ref m2 ∧ MeanAt C CM H m2 t2 rs2 d2 ts2 ∧ Q (.bl (decide (rs = rs2) && (decide (d = d2) && decide (ts = ts2)))) H) ∨ (Other K H x (.ref CM) ∧ Q (.bl false) H))
def spMContains (K : PySem.W.Frag) (C CM : Addr) : Sp := fun vs H Q _ => ∃ (m t : Addr) (x : V) (rs : List Row) (d : Bool) (ts : List Str), vs = [.ref m, x] ∧ MeanAt C CM H m t rs d ts ∧
  ((∃ z : Str, x = .str z ∧ Q (.bl (decide (z = ("top" : Str) ∨ z ∈ names rs) && valOf rs d ts z)) H) ∨ (Other K H x (.type "str") ∧ Q (.bl false) H))
section
variable {P : Program} {w : World} {K : PySem.W.Frag} {mg : Str → Option Value} {base : Heap} {C CM : Addr}
theorem sc_M_eq : FnScope ["self", "other"] ["self", "other"] (defScope s_Meaning_eq) := ⟨rfl, rfl, rfl, by decide +kernel, rfl, by decide +kernel, by decide +kernel⟩
theorem ok_M_eq {f : Addr} {fd : FuncData} (F : Fun K "__eq__" "Meaning.__eq__" s_Meaning_eq f fd) (B : TxB mg) (M : TxM K mg CM) (I : C8.InsC K CM)
    (mE : MethAt K C "__eq__" "Tree.__eq__" s_Tree_eq ["self", "other"]) (GE : FnOk P w K mg base CX0 2 mE.f mE.fd ["self", "other"] (spEqT K C)) : FnOk P w K mg base CX0 3 f fd ["self", "other"] (spMEq K C CM) := by
  refine F.ok sc_M_eq (fun vs H Q E h => ?_) (fun cdv A outer s H vs Q E hr h => ?_)
  · obtain ⟨m, t, x, rs, d, ts, rfl, _⟩ := h
    rfl
  · obtain ⟨m, t, x, rs, d, ts, rfl, hm, h⟩ := h
    obtain ⟨dx, u, k, h1, h2, h3⟩ := hm.ex
    refine ⟨_, pss_one (ps_ret (pe_and (pe_callB call_isi (by rfl) B.isinstance (by decide +kernel) (pa_cons (pv 1) (pa_cons (pe_glob (by rfl) M.g (v := .ref CM) rfl) pa_nil)))
      (pe_and (pe_cmpR (op_eqC GE mE.m hr mE.b pass0) (pe_fld (pv 0) rfl) (pe_fld (pv 1) rfl) (nomark _))
      (pe_and (pe_cmpR op_eq (pe_fld (pv 0) rfl) (pe_fld (pv 1) rfl) (nomark _))
      (pe_one (pe_cmpR (op_eqD (by have := hr.units; exact this)) (pe_fld (pv 0) rfl) (pe_fld (pv 1) rfl) (nomark _))))))), ?_⟩
    rcases h with ⟨m2, t2, rs2, d2, ts2, rfl, hm2, hq⟩ | ⟨⟨ty, hty, hk⟩, hq⟩
    · obtain ⟨dx', u', k', g1, g2, g3⟩ := hm2.ex
      obtain ⟨tx, _, _, _, _, _, t1, _⟩ := id hm.tree.ex
      obtain ⟨tx2, _, _, _, _, _, t3, _⟩ := id hm2.tree.ex
      refine ⟨_, rfl, _, _, _, _, true, rfl, .own CM, .base (.ins g1 I.cl I.ha I.hn I.htk I.hm), I.me, _, rfl, iteT ?_⟩
      refine ⟨_, rfl, m, CM, dx, _, _, rfl, h1, M.cl, M.nt, mf_t _ _ _ _, _, rfl, m2, CM, dx', _, _, rfl, g1, M.cl, M.nt, mf_t _ _ _ _, t, tx, _, .ref C, rfl, t1, .ins t3, nfM, t, .ref t2, rs, rfl, hm.tree, .inl ⟨t2, rs2, rfl, hm2.tree, ?_⟩⟩
      refine ⟨_, rfl, _, rfl, ?_⟩
      refine ite2 (fun hc => ?_) (fun hc => ?_)
      · have e1 : decide (rs = rs2) = true := hc
        rw [e1, Bool.true_and] at hq
        refine ⟨_, rfl, m, CM, dx, _, _, rfl, h1, M.cl, M.nd, mf_d _ _ _ _, _, rfl, m2, CM, dx', _, _, rfl, g1, M.cl, M.nd, mf_d _ _ _ _, rfl, _, rfl, ?_⟩
        have e2 : decide (V.bl d = V.bl d2) = decide (d = d2) := by cases d <;> cases d2 <;> rfl
        rw [e2]
        refine ite2 (fun hd => ?_) (fun hd => ?_)
        · rw [hd, Bool.true_and] at hq
          refine ⟨_, rfl, m, CM, dx, _, _, rfl, h1, M.cl, M.nu, mf_u _ _ _ _, _, rfl, m2, CM, dx', _, _, rfl, g1, M.cl, M.nu, mf_u _ _ _ _, _, _, .tup (sqT h2) (strs_dpAll ts), .tup (sqT g2) (strs_dpAll ts2), shaped_strsT hm.ok, shaped_strsT hm2.ok, ?_⟩
          have e3 : PyData.eqv (.tuple (ts.map PyData.str)) (.tuple (ts2.map PyData.str)) = decide (ts = ts2) := by
            simp only [PyData.eqv]
            exact strs_eqv ts ts2
          rw [e3]
          exact hq
        · have e3 : decide (d = d2) = false := by simpa using hd
          rw [e3, Bool.false_and] at hq
          exact hq
      · have e1 : decide (rs = rs2) = false := by simpa using hc
        rw [e1, Bool.false_and] at hq
        exact hq
    · exact ⟨_, rfl, _, _, _, _, false, rfl, .own CM, hty, hk, _, rfl, iteF hq⟩
theorem sc_M_contains : FnScope ["self", "x"] ["self", "x"] (defScope s_Meaning_contains) := ⟨rfl, rfl, rfl, by decide +kernel, rfl, by decide +kernel, by decide +kernel⟩
theorem ok_M_contains {f : Addr} {fd : FuncData} (F : Fun K "__contains__" "Meaning.__contains__" s_Meaning_contains f fd) (B : TxB mg) (M : TxM K mg CM) : FnOk P w K mg base CX0 2 f fd ["self", "x"] (spMContains K C CM) := by
  refine F.ok sc_M_contains (fun vs H Q E h => ?_) (fun cdv A outer s H vs Q E hr h => ?_)
  · obtain ⟨m, t, x, rs, d, ts, rfl, _⟩ := h
    rfl
  · obtain ⟨m, t, x, rs, d, ts, rfl, hm, h⟩ := h
    have hu := hu_of hr
    obtain ⟨dx, u, k, h1, h2, h3⟩ := hm.ex
    refine ⟨_, pss_one (ps_ret (pe_and (pe_callB call_isi (by rfl) B.isinstance (by decide +kernel) (pa_cons (pv 1) (pa_cons (pe_bltn (by rfl) B.str (by decide +kernel) (v := .ty "str") rfl) pa_nil))) (pe_one (pe_dget2 hu (pe_fld (pv 0) rfl) (pv 1) pe_bl (by constructor <;> intros <;> rfl))))), ?_⟩
    rcases h with ⟨z, rfl, hq⟩ | ⟨⟨ty, hty, hk⟩, hq⟩
    · refine ⟨_, rfl, _, _, _, _, true, rfl, .ty "str", .base (.str z), kit_ty (by decide +kernel), _, rfl, iteT ?_⟩
      have dg := DGet.k (k := Sum.inr z) h3
      refine ⟨_, rfl, m, CM, dx, _, _, rfl, h1, M.cl, M.nk, mf_k _ _ _ _, k, rfl, .inl ⟨_, .inl h3⟩, _, rfl, _, dg, ?_⟩
      by_cases e : z = ("top" : Str) ∨ z ∈ names rs
      · rw [valV_kvM hm.tree.val d ts (by
          by_cases e1 : z = ("top" : Str)
          · exact .inl e1
          · exact .inr ⟨e1, e.resolve_left e1⟩)]
        rw [decide_eq_true e, Bool.true_and] at hq
        exact hq
      · have en : valV (kvM rs d ts rs) (.inr z : Key) = none := by
          show valV ((.inr ("top" : Str), .bl d) :: kvF (fun r => .bl (valOf rs d ts r.nm)) rs) (.inr z : Key) = none
          rw [valV_neg (fun q => e (.inl (Sum.inr.inj q).symm)), valV_kvF, find_none (fun h => e (.inr h))]; rfl
        rw [en]
        rw [decide_eq_false e, Bool.false_and] at hq
        exact hq
    · exact ⟨_, rfl, _, _, _, _, false, rfl, .ty "str", hty, hk, _, rfl, iteF hq⟩
end
end Ts

set_option maxRecDepth 100000
set_option maxHeartbeats 4000000
namespace Ts
open PySem L2
/-! ### iter(tuple), and a walk over an object whose `__iter__` hands it on -/
/-- at it an iterator over the tuple at l, at its start -/
def ItT (l it : Addr) : HO := .ext fun h => h.IsTupleIter it l 0
theorem itT_ok {P : Program} {w : World} {H : Hp} {h : Heap} {l it : Addr} (e : h.IsTupleIter it l 0) : ObjOk P w H h it (ItT l it) := by
  obtain ⟨o, ho, hc, hd⟩ := id e
  exact ⟨e, ⟨o, ho⟩, fun g1 g2 q kk => by obtain ⟨o2, ho2, r2⟩ := q; exact ⟨o2, kk _ ho2, r2⟩⟩
def rIterT (K : PySem.W.Frag) (n : Nat) : List V → Hp → VK → Prop := fun xs H Q => ∃ (l : Addr) (zs : List V), xs = [.ref l] ∧ SqT K H l zs ∧ ∀ it, H it = Option.none → n ≤ it → Q (.ref it) (upd H it (ItT l it))
section
variable {X : Cx}
theorem call_iterT : CallR X (.builtin "iter") (rIterT X.K X.s_0.heap.objs.size) := by
  intro pins s σ H xs us Q I r hh
  obtain ⟨l, zs, rfl, hsq, hQ⟩ := hh
  obtain ⟨u, rfl, ru⟩ := vals1 r
  cases ru
  obtain ⟨its, rv, pl, hz⟩ := I.tuple hsq
  have ht : s.heap.IsTuple l its.toArray := pl
  refine Calls.call_function_entry (by decide +kernel) (by decide +kernel) PySem.W.kdk_entry_iter (PySem.W.kdk_args_iter _) ?_; unfold Builtin.«iter»
  refine wpAny_bind (m := someArgs "iter" 1 2 _) (wpAny_of_eq (a := [Value.ref l]) (by first | rfl | kernel_rfl!) ?_); show wpAny _ _ (pyIter (.ref l) >>= _) _ _ _
  refine wpAny_bind (wpAny_pyIter_tuple ht (wpAny_pure ⟨_, rfl, ?_⟩))
  exact ⟨.ref s.heap.objs.size, _, I.laid (t' := s.toks) (fun b u e => Heap.get?_push_of_some _ e) (Nat.le_refl _) (itT_ok ⟨_, Heap.get?_push_size _ rfl, rfl, rfl⟩), rfl, hQ _ (I.hok.fresh (Nat.le_refl _)) I.sz⟩
end
/-- a def that may say how young its answer is: sp knows the size of the memory at the call -/
def FnY (P : Program) (w : World) (K : PySem.W.Frag) (mg : Str → Option Value) (base : Heap) (CX : CXT) (k : Nat) (f : Addr) (ps : List Str) (sp : Nat → Sp) : Prop :=
  (∀ n vs H Q E, sp n vs H Q E → vs.length = ps.length) ∧ ∀ (A : Around) (outer : List Env) (s : Shared) (H : Hp) (us : List Value) (vs : List V) (Q : VK) (E : XK), Room k A → Env0 P w K mg base A outer s H → Vals vs us → sp s.heap.objs.size vs H Q E →
    codeAny (model P w) A (.call (.ref f) ⟨us, []⟩) (CR CX outer P w H s Q E) s
theorem fn_young {CX : CXT} {P : Program} {w : World} {K : PySem.W.Frag} {mg : Str → Option Value} {base : Heap} {k : Nat} {f : Addr} {fd : FuncData} {x qual : Str} {st : Stmt} {N ps : List Str} {sp : Nat → Sp} (F : Fun K x qual st f fd) (S : FnScope N ps (defScope st)) (bd : Binds K fd ps [])
    (len : ∀ n vs H Q E, sp n vs H Q E → vs.length = ps.length)
    (body : ∀ (cdv : Value) (A : Around) (outer : List Env) (s : Shared) (H : Hp) (vs : List V) (Q : VK) (E : XK), Room k (A.deeper (PyProof.Rows.envOfC qual (defScope st) s.heap.objs.size f cdv)) → sp s.heap.objs.size vs H Q E →
      ∃ t, PSs (cxOf CX P w K mg base N qual (defScope st) f cdv A outer s H E) (defBody st) t ∧ t { nx := fun _ H' => Q .non H', rt := Q } (start N vs) H) : FnY P w K mg base CX (k + 1) f ps sp := by
  refine ⟨len, fun A outer s H us vs Q E rm en rv want => ?_⟩
  obtain ⟨oc, od, kV, doc, pm, an, cdv, ct, osl, rfl, look, code⟩ := F.ex
  have lv := len _ _ _ _ _ want
  have KI : K.In s.heap := en.mod.kin.keeps fun b o hb => (en.bs b o hb).1
  have nolim : s.heap.NoLimit := en.mod.nolimit.keeps fun b o hb => (en.bs b o hb).1
  have kinds : ∀ z ∈ ps.zip us, (defScope st).names.lookup z.1 = some .local ∨ ((defScope st).names.lookup z.1 = some .cell ∧ ((cellsFrom (s.heap.objs.size + 1) (defScope st).names []).lookup z.1).isSome = true) := fun ⟨n, v⟩ hz => by
    rcases S.par n (List.of_mem_zip hz).1 with z1 | z1
    · exact .inl z1
    · exact .inr ⟨z1, PySem.W.cellsFrom_some _ _ _ (.inl z1)⟩
  have bt := bd s us KI (by rw [List.append_nil, ← rv.length]; exact lv)
  rw [List.append_nil] at bt
  refine codeAny_call_function rm.depth (KI _ _ look) rfl S.co S.gen rfl (PySem.W.codeRec_of KI code) (bt _ _ _ _ ?_)
  refine wpAny_newFunctionEnv_cells S.kind kinds fun e2 he2 s1 y => ?_
  subst he2
  refine ⟨nolim.keeps y.toInCall.keep, codeAny_func ?_⟩
  obtain ⟨t, tm, tq⟩ := body cdv A outer s H vs Q E (rm.deeper _) want
  have J : Inv (cxOf CX P w K mg base N qual (defScope st) f cdv A outer s H E) [] (start N vs) H s1 := inv_start S rm.hd en lv rv y
  refine wpAny_mono (tm.run [] s1 (start N vs) H _ J tq) (fun fl s2 hs => ?_) fun e3 s2 hs => hs
  have close : ∀ {σ2 : St} {H2 : Hp} {v : V} {u : Value}, Inv (cxOf CX P w K mg base N qual (defScope st) f cdv A outer s H E) [] σ2 H2 s2 → RelV v u → Q v H2 → CE outer P w H s Q u s2 := fun {σ2 H2 v u} J2 r2 q2 => ⟨v, H2, J2.os, J2.bare, J2.base, J2.hok, r2, q2⟩
  cases fl with
  | ret u => obtain ⟨v, σ2, H2, J2, r2, q2⟩ := hs; exact close J2 r2 q2
  | next => obtain ⟨σ2, H2, J2, q2⟩ := hs; exact close (v := V.non) (u := Value.none) J2 rfl q2
  | brk => obtain ⟨_, _, _, q2⟩ := hs; exact False.elim q2
  | cont => obtain ⟨_, _, _, q2⟩ := hs; exact False.elim q2
/-- what such an `__iter__` promises: an iterator over a tuple -/
def spIterT (K : PySem.W.Frag) (C : Addr) (fld : Str) : Nat → Sp := fun n vs H Q _ => ∃ (a dx l : Addr) (fs : List (Str × V)) (zs : List V), vs = [.ref a] ∧ H a = some (.ins C dx fs) ∧ fs.lookup fld = some (.ref l) ∧ SqT K H l zs ∧ ∀ it, H it = Option.none → n ≤ it → Q (.ref it) (upd H it (ItT l it))
def iOwnT (K : PySem.W.Frag) (C : Addr) (fld : Str) (t : TE) : TI := fun σ H R => t σ H fun x H1 => ∃ (a dx l : Addr) (fs : List (Str × V)), x = .ref a ∧ H1 a = some (.ins C dx fs) ∧ fs.lookup fld = some (.ref l) ∧ (∃ zs, SqT K H1 l zs) ∧ R (Itt K l) H1
theorem itT_at {X : Cx} {pins : List (Addr × Obj)} {σ : L2.St} {H : Hp} {s : Shared} {l it : Addr} (I : Inv X pins σ H s) (e : H it = some (ItT l it)) : s.heap.IsTupleIter it l 0 := (I.hok it _ e).1
section
variable {X : Cx} {tg e : Expr} {t : TE} {C f : Addr} {fld : Str} {k : Nat} {ps : List Str}
theorem pi_ownT (he : PE X e t) (F : FnY X.prog X.w X.K X.mg X.base CX0 k f ps (spIterT X.K C fld)) (m : Meth X.K C "__iter__" f) (hr : Room k X.A) : PI X tg e (iOwnT X.K C fld t) := by
  refine ⟨fun pins s σ H R I h => ?_⟩
  refine thn (he.run pins s σ H _ I h) fun v s1 ⟨x, H1, I1, r1, a, dx, l, fs, ex, ha, hf, ⟨zs, hz⟩, q⟩ => ?_
  subst ex
  cases r1
  obtain ⟨mA, J, _⟩ := ins_get I1.hok ha
  obtain ⟨od, J, _⟩ := J.look
  obtain ⟨mm, hF⟩ := I1.fr
  refine PySem.W.owit_iter hF I1.ok.mod.kin J m.at_ m.fn ?_
  refine wpAny_call (codeAny_mono (F.2 X.A X.stack s1 H1 [.ref a] [.ref a] (fun v H2 => ∃ it, v = .ref it ∧ H1 it = Option.none ∧ s1.heap.objs.size ≤ it ∧ H2 = upd H1 it (ItT l it)) E0 hr I1.env0 (.cons (show RelV (.ref a) (.ref a) from rfl) .nil) ⟨a, dx, l, fs, zs, rfl, ha, hf, hz, fun it h0 hn => ⟨it, rfl, h0, hn, rfl⟩⟩) fun r s' hq => ?_)
  cases r with
  | error e => exact hq.elim
  | ok fl =>
    cases fl with
    | next => exact hq.elim
    | brk => exact hq.elim
    | cont => exact hq.elim
    | ret u =>
      obtain ⟨v2, H2, I2, r2, it, ev, h0, hn, eH⟩ := I1.after hq
      subst ev
      subst eH
      cases r2
      have ti := itT_at I2 upd_same
      have I3 : Inv X pins σ (ItX.dropH (upd H1 it (ItT l it)) it) s' := ItX.inv_drop I2 (φ := fun h => h.IsTupleIter it l 0) upd_same
      have fp := ItX.inv_fp I2 upd_same (Nat.le_trans I1.sz hn)
      rw [ItX.dropH_upd h0] at I3 fp
      have fin : PIE X pins σ tg R (.ref it) s' := ⟨it, [it], _, _, H1, rfl, I3, turn_tuple l it, ti, fun b hb => by
        have eb : b = it := by simpa using hb
        rw [eb]; exact fp, q⟩
      exact wpAny_specialOf (name := "__next__") ti.typeIs PySem.F.slot_tuple_iterator_next.lookup fin
end
end Ts

set_option maxRecDepth 100000
set_option maxHeartbeats 4000000
namespace Ts
open PySem L2
/-! ### what a newcomer is worth -/
theorem wayOf_last (rs : List Row) (q : Row) : wayOf (rs ++ [q]) q.nm = wayOf rs q.fo ++ [q.nm] := by
  unfold wayOf
  rw [List.reverse_append]
  show (if q.nm = q.nm then wayR rs.reverse q.fo ++ [q.nm] else wayR rs.reverse q.nm) = _
  rw [if_pos rfl]
theorem wayOf_skip (rs : List Row) (q : Row) {z : Str} (h : q.nm ≠ z) : wayOf (rs ++ [q]) z = wayOf rs z := by
  unfold wayOf
  rw [List.reverse_append]
  show (if q.nm = z then wayR rs.reverse q.fo ++ [z] else wayR rs.reverse z) = _
  rw [if_neg h]
theorem turned_congr {ts us : List Str} : ∀ (l : List Str) (d : Bool), (∀ x ∈ l, x ∈ ts ↔ x ∈ us) → turned d ts l = turned d us l
  | [], _, _ => rfl
  | x :: l, d, h => by
    show turned (if x ∈ ts then !d else d) ts l = turned (if x ∈ us then !d else d) us l
    have e : (if x ∈ ts then !d else d) = (if x ∈ us then !d else d) := by
      by_cases hx : x ∈ ts
      · rw [if_pos hx, if_pos ((h x (List.mem_cons_self ..)).mp hx)]
      · rw [if_neg hx, if_neg fun q => hx ((h x (List.mem_cons_self ..)).mpr q)]
    rw [e]
    exact turned_congr l _ fun y hy => h y (List.mem_cons_of_mem _ hy)
theorem valOf_congr {rs : List Row} {d : Bool} {ts us : List Str} {z : Str} (h : ∀ x ∈ names rs, x ∈ ts ↔ x ∈ us) : valOf rs d ts z = valOf rs d us z :=
  turned_congr _ _ fun x hx => h x (way_mem hx)
theorem mem_turnsL {rs : List Row} {xs : List Str} {x : Str} : x ∈ turnsL rs xs ↔ x ∈ names rs ∧ x ∈ xs := by
  unfold turnsL
  rw [List.mem_filter, decide_eq_true_eq]
theorem names_app (rs qs : List Row) : names (rs ++ qs) = names rs ++ names qs := List.map_append
theorem val_newc {rs : List Row} {q : Row} (d : Bool) {ts : List Str} (h : q.nm ∉ ts) : valOf (rs ++ [q]) d (turnsL (rs ++ [q]) ts) q.nm = valOf rs d ts q.fo := by
  unfold valOf
  rw [wayOf_last, turned_snoc, if_neg fun e => h (mem_turnsL.mp e).2]
  refine turned_congr _ _ fun x hx => ?_
  rw [mem_turnsL, names_app]
  exact ⟨fun e => e.2, fun e => ⟨List.mem_append.mpr (.inl (way_mem hx)), e⟩⟩
theorem filter_of_sub {l : List Str} : ∀ {s : List Str}, s.Sublist l → l.Nodup → l.filter (fun z => decide (z ∈ s)) = s := by
  intro s h
  induction h with
  | slnil => intro _; rfl
  | cons a h ih =>
    intro nd
    rw [List.nodup_cons] at nd
    rw [List.filter_cons_of_neg (by
      rw [decide_eq_true_eq]
      exact fun e => nd.1 (h.subset e))]
    exact ih nd.2
  | cons_cons a h ih =>
    rename_i l1 l2
    intro nd
    rw [List.nodup_cons] at nd
    rw [List.filter_cons_of_pos (by rw [decide_eq_true_eq]; exact List.mem_cons_self ..)]
    have e : l2.filter (fun z => decide (z ∈ a :: l1)) = l2.filter (fun z => decide (z ∈ l1)) := by
      refine List.filter_congr fun z hz => ?_
      have ne : z ≠ a := fun e => nd.1 (e ▸ hz)
      simp [ne]
    rw [e, ih nd.2]
theorem Valid.nodup {rs : List Row} (h : Valid rs) : (names rs).Nodup := by
  unfold names
  rw [List.nodup_iff_pairwise_ne, List.pairwise_iff_getElem]
  intro i j hi hj hij e
  rw [List.length_map] at hi hj
  rw [List.getElem_map, List.getElem_map] at e
  refine (h j rs[j] (List.getElem?_eq_getElem hj)).new (List.mem_map.mpr ⟨rs[i], ?_, e⟩)
  exact List.mem_take_iff_getElem.mpr ⟨i, by omega, rfl⟩
theorem turnsL_sub {rs : List Row} (h : Valid rs) {ts : List Str} (s : ts.Sublist (names rs)) : turnsL rs ts = ts := filter_of_sub s h.nodup
theorem turnsL_congr {rs : List Row} {xs ys : List Str} (h : ∀ x, x ∈ xs ↔ x ∈ ys) : turnsL rs xs = turnsL rs ys := by
  unfold turnsL
  refine List.filter_congr fun z _ => ?_
  rw [decide_eq_decide]
  exact h z
/-! ### a dict of values, as data -/
def kvD (b : Str × Bool) : PyData := .tuple [.str b.1, .bool b.2]
/-- the items of the values -/
def itemsM (rs : List Row) (d : Bool) (ts : List Str) : List (Str × Bool) := (("top" : Str), d) :: rs.map fun r => (r.nm, valOf rs d ts r.nm)
theorem kvM_items (rs : List Row) (d : Bool) (ts : List Str) : kvM rs d ts rs = (itemsM rs d ts).map fun q => ((.inr q.1 : Key), V.bl q.2) := by
  unfold kvM itemsM kvF
  rw [List.map_cons, List.map_map]
  rfl
theorem items_dp {K : PySem.W.Frag} {H : Hp} : ∀ {qs : List (Str × Bool)} {ts : List Addr}, Paired (fun (t : Addr) (q : Key × V) => H t = some (.tup [kV q.1, q.2])) ts (qs.map fun q => ((.inr q.1 : Key), V.bl q.2)) → DpAll K H (ts.map V.ref) (qs.map kvD)
  | [], [], _ => .nil
  | [], _ :: _, h => by cases h
  | _ :: _, [], h => by cases h
  | q :: qs, t :: ts, h => by
    cases h with
    | cons h1 h2 => exact .cons (.tup (sqT h1) (.cons (.str _) (.cons (.bl _) .nil))) (items_dp h2)
theorem items_lay : ∀ (qs : List (Str × Bool)), (∀ q ∈ qs, PyData.strOk q.1 = true) → PyData.canLayAll0 (qs.map kvD) = true
  | [], _ => by simp [PyData.canLayAll0]
  | q :: qs, h => by
    have h1 := h q (List.mem_cons_self ..)
    simp [List.map_cons, kvD, PyData.canLayAll0, PyData.canLay0, h1, items_lay qs (fun x hx => h x (List.mem_cons_of_mem _ hx))]
theorem items_depth : ∀ (qs : List (Str × Bool)), PyData.depthAll (qs.map kvD) ≤ 1
  | [] => by simp [PyData.depthAll]
  | q :: qs => by
    have ih := items_depth qs
    simp only [List.map_cons, kvD, PyData.depthAll, PyData.depth]
    omega
theorem shaped_items {qs : List (Str × Bool)} (h : ∀ q ∈ qs, PyData.strOk q.1 = true) : SeqAt.shaped (.list (qs.map kvD)) = true := by
  have q := items_depth qs
  unfold SeqAt.shaped
  rw [Bool.and_eq_true]
  refine ⟨by simp only [PyData.canLay0]; exact items_lay qs h, decide_eq_true ?_⟩
  simp only [PyData.depth]
  omega
theorem items_ok {rs : List Row} (h : Valid rs) (d : Bool) (ts : List Str) : ∀ q ∈ itemsM rs d ts, PyData.strOk q.1 = true := by
  intro q hq
  rcases List.mem_cons.mp hq with e | hq
  · rw [e]; exact top_ok
  · obtain ⟨r, hr, rfl⟩ := List.mem_map.mp hq
    exact names_ok h _ (List.mem_map.mpr ⟨r, hr, rfl⟩)
theorem items_same : ∀ (qs : List (Str × Bool)), PyData.eqvAll (qs.map kvD) (qs.map kvD) = true
  | [] => by simp [PyData.eqvAll]
  | q :: qs => by
    simp [List.map_cons, kvD, PyData.eqvAll, PyData.eqv, items_same qs]
section
variable {P : Program} {w : World} {K : PySem.W.Frag} {mg : Str → Option Value} {base : Heap} {C CM : Addr}
theorem sc_M_iter : FnScope ["self"] ["self"] (defScope s_Meaning_iter) := ⟨rfl, rfl, rfl, by decide +kernel, rfl, by decide +kernel, by decide +kernel⟩
theorem ok_M_iter {f : Addr} {fd : FuncData} (F : Fun K "__iter__" "Meaning.__iter__" s_Meaning_iter f fd) (bd : Binds K fd ["self"] []) (hI : mg "iter" = none) (M : TxM K mg CM) : FnY P w K mg base CX0 2 f ["self"] (spIterT K CM "turns") := by
  refine fn_young F sc_M_iter bd (fun n vs H Q E h => ?_) (fun cdv A outer s H vs Q E hr h => ?_)
  · obtain ⟨a, dx, l, fs, zs, rfl, _⟩ := h
    rfl
  · obtain ⟨a, dx, l, fs, zs, rfl, ha, hf, hz, q⟩ := h
    refine ⟨_, pss_one (ps_ret (pe_callB call_iterT (by rfl) hI (by decide +kernel) (pa_cons (pe_fld (pv 0) rfl) pa_nil))), ?_⟩
    exact ⟨_, rfl, a, CM, dx, fs, _, rfl, ha, M.cl, M.nu, hf, l, zs, rfl, hz, q⟩
end
end Ts

set_option maxRecDepth 100000
set_option maxHeartbeats 4000000
namespace Ts
open PySem L2
theorem mk_same {C : Addr} {H H' : Hp} {x dx : Addr} (nx : H x = none) (nd : H dx = none) (sb : SB x (upd (upd H dx (.own x)) x (.ins C dx [])) H') : Same H H' := fun b o e =>
  sb b o (ne_of_none e nx) (by rw [upd_ne (ne_of_none e nx), upd_ne (ne_of_none e nd)]; exact e)
theorem mk_same0 {C : Addr} {H : Hp} {x dx : Addr} (nx : H x = none) (nd : H dx = none) : Same H (upd (upd H dx (.own x)) x (.ins C dx [])) := fun b o e => by
  rw [upd_ne (ne_of_none e nx), upd_ne (ne_of_none e nd)]; exact e
theorem SeqRows.snoc {H : Hp} {as : List Addr} {rs : List Row} {a : Addr} {r : Row} (h : SeqRows H as rs) (ha : H a = some (.tup (rowVs r)) ∨ H a = some (.lst (rowVs r))) : SeqRows H (as ++ [a]) (rs ++ [r]) := by
  refine ⟨by simp [h.len], fun i b q hb hq => ?_⟩
  rcases Nat.lt_or_ge i as.length with hi | hi
  · rw [List.getElem?_append_left hi] at hb
    rw [List.getElem?_append_left (h.len ▸ hi)] at hq
    exact h.at_ i b q hb hq
  · rw [List.getElem?_append_right hi] at hb
    rw [List.getElem?_append_right (h.len ▸ hi)] at hq
    have e0 : i - as.length = 0 := by
      have := (List.getElem?_eq_some_iff.mp hb).1
      simp at this
      omega
    have e1 : i - rs.length = 0 := by rw [← h.len]; exact e0
    rw [e0] at hb
    rw [e1] at hq
    simp at hb hq
    subst hb; subst hq
    exact ha
theorem SeqRows.append {H : Hp} : ∀ {bs : List Addr} {qs : List Row} {as : List Addr} {rs : List Row}, SeqRows H as rs → SeqRows H bs qs → SeqRows H (as ++ bs) (rs ++ qs)
  | [], [], as, rs, h, _ => by simpa using h
  | [], _ :: _, _, _, _, h => by have := h.len; simp at this
  | _ :: _, [], _, _, _, h => by have := h.len; simp at this
  | b :: bs, q :: qs, as, rs, h, h2 => by
    have h3 : SeqRows H bs qs := ⟨by simpa using h2.len, fun i a r ha hr => h2.at_ (i + 1) a r (by simpa using ha) (by simpa using hr)⟩
    have := SeqRows.append (h.snoc (h2.at_ 0 b q rfl rfl)) h3
    simpa using this
theorem rows_at {as : List Addr} {rs : List Row} {H : Hp} (h : RowsAt H as rs) {i : Nat} {x : V} (hx : (as.map V.ref)[i]? = some x) : ∃ ra r, x = .ref ra ∧ as[i]? = some ra ∧ rs[i]? = some r ∧ H ra = some (.tup (rowVs r)) := by
  rw [List.getElem?_map] at hx
  obtain ⟨ra, hra, rfl⟩ := Option.map_eq_some_iff.mp hx
  obtain ⟨r, hr'⟩ : ∃ r, rs[i]? = some r := ⟨rs[i]'(by rw [← h.len]; exact (List.getElem?_eq_some_iff.mp hra).1), List.getElem?_eq_getElem _⟩
  exact ⟨ra, r, rfl, hra, hr', h.at_ i ra r hra hr'⟩
theorem filter_more {rs : List Row} {i : Nat} {r : Row} (h : rs[i]? = some r) (p : Row → Bool) : (rs.take (i + 1)).filter p = (rs.take i).filter p ++ (if p r = true then [r] else []) := by
  rw [take_more h, List.filter_append]
  by_cases e : p r = true
  · rw [if_pos e, List.filter_cons_of_pos e]; rfl
  · rw [if_neg e, List.filter_cons_of_neg e]; rfl
/-- a new list that keeps some of the rows: what stands between two turns -/
structure KeepI (H0 H : Hp) (D : Addr) (qs : List Row) : Prop where
  same : Same H0 H
  ex : ∃ as : List Addr, H D = some (.lst (as.map V.ref)) ∧ RowsAt H as qs
theorem KeepI.nil {H : Hp} {D : Addr} (h : H D = none) : KeepI H (upd H D (.lst [])) D [] := ⟨Same.new h, [], upd_same, RowsAt.nil⟩
theorem KeepI.grow {H0 H H' : Hp} {D ra : Addr} {qs : List Row} {r : Row} (h : KeepI H0 H D qs) (hD : H0 D = none) (s : Same H H') (hr : H' ra = some (.tup (rowVs r))) (hl : qs.length ≤ 900) :
    ∃ acc, H' D = some (.lst acc) ∧ acc.length < sizeLine ∧ KeepI H0 (upd H' D (.lst (acc ++ [V.ref ra]))) D (qs ++ [r]) := by
  obtain ⟨as, h1, h2⟩ := h.ex
  have hD' := s _ _ h1
  have kt : ∀ {b : Addr} {xs : List V}, H' b = some (.tup xs) → (upd H' D (.lst (as.map V.ref ++ [V.ref ra]))) b = some (.tup xs) := fun {b xs} e => by
    rw [upd_ne (fun y => by rw [y, hD'] at e; cases e)]; exact e
  refine ⟨as.map V.ref, hD', small1000 (by rw [List.length_map, h2.len]; omega), fun b o e => ?_, as ++ [ra], by rw [upd_same, List.map_append]; rfl, RowsAt.snoc ⟨h2.len, fun j b q hb hq => kt (s _ _ (h2.at_ j b q hb hq))⟩ (kt hr)⟩
  rw [upd_ne (fun y => by rw [y, hD] at e; cases e)]
  exact s _ _ (h.same _ _ e)
theorem KeepI.on {H0 H H' : Hp} {D : Addr} {qs : List Row} (h : KeepI H0 H D qs) (s : Same H H') : KeepI H0 H' D qs := by
  obtain ⟨as, h1, h2⟩ := h.ex
  exact ⟨h.same.trans s, as, s _ _ h1, h2.same s⟩
def spMore (C : Addr) : Sp := fun vs H Q _ => ∃ (t a : Addr) (rs : List Row) (r : Row), vs = [.ref t, .ref a] ∧ TreeAt C H t rs ∧ Seq H a (rowVs r) ∧ Fits rs r ∧ rs.length + 1 ≤ 100 ∧ ∀ x H', Same H H' → TreeAt C H' x (rs ++ [r]) → Q (.ref x) H'
def spLess (C : Addr) : Sp := fun vs H Q _ => ∃ (t : Addr) (z : Str) (rs : List Row), vs = [.ref t, .str z] ∧ TreeAt C H t rs ∧ z ∈ names rs ∧ ∀ x H', Same H H' → TreeAt C H' x (lessL rs z) → Q (.ref x) H'
def spMoved (C : Addr) : Sp := fun vs H Q _ => ∃ (t : Addr) (m : Row) (fo : Str) (rs : List Row), vs = [.ref t, .str m.nm, .str fo] ∧ TreeAt C H t rs ∧ m ∈ rs ∧ (fo = ("top" : Str) ∨ ∃ q ∈ rs, q.nm = fo ∧ q.ki = ("folder" : Str) ∧ under rs m.nm q = false) ∧ ∀ x H', Same H H' → TreeAt C H' x (movedL rs m fo) → Q (.ref x) H'
section
variable {P : Program} {w : World} {K : PySem.W.Frag} {mg : Str → Option Value} {base : Heap} {C : Addr}
theorem sc_Tree_more : FnScope ["self", "row"] ["self", "row"] (defScope s_Tree_more) := ⟨rfl, rfl, rfl, by decide +kernel, rfl, by decide +kernel, by decide +kernel⟩
theorem ok_Tree_more {f fT : Addr} {fd fdT : FuncData} (F : Fun K "more" "Tree.more" s_Tree_more f fd) (mR : MethAt K C "rows" "Tree.rows" s_Tree_rows ["self"]) (B : TxB mg) (T : TxT K mg C)
    (MT : Mk K C fT) (bT : Binds K fdT ["self", "rows"] []) (GT : FnOk P w K mg base CX0 5 fT fdT ["self", "rows"] (spTreeInit C)) : FnOk P w K mg base CX0 7 f fd ["self", "row"] (spMore C) := by
  have GR : FnOk P w K mg base CX0 2 mR.f mR.fd ["self"] (spRowsM C) := ok_Tree_rows mR.F B T
  refine F.ok sc_Tree_more (fun vs H Q E h => ?_) (fun cdv A outer s H vs Q E hr h => ?_)
  · obtain ⟨t, a, rs, r, rfl, _⟩ := h
    rfl
  · obtain ⟨t, a, rs, r, rfl, ht, ha, hf, hl, hq⟩ := h
    obtain ⟨dx, q, f, k, p, qs, h1, h2, h3, h4, h5, h6⟩ := ht.ex
    refine ⟨_, pss_one (ps_ret (pe_make MT GT hr rfl T.g bT .nil pass0 (pa_cons (pe_op op_cat (pe_meth0 (pv 0) T.cl mR.m GR (hr.mono (by decide)) mR.b .nil pass0) (pe_lst (pa_cons (pv 1) pa_nil))) pa_nil))), ?_⟩
    have noR : (tf q f k p).lookup ("rows" : Str) = none := tf_no _ _ _ _ (by decide +kernel) (by decide +kernel) (by decide +kernel) (by decide +kernel)
    refine ⟨_, rfl, t, dx, _, rfl, h1, noR, t, rs, rfl, ht, fun l qs2 hl' hq2 => ⟨_, rfl, (by show 1 ≤ sizeLine; decide), fun l2 hl2 => ?_⟩⟩
    have s1 := (Same.new (o := .lst (qs2.map V.ref)) hl').trans (Same.new (o := .lst [V.ref a]) hl2)
    refine ⟨l, l2, _, _, rfl, rfl, (Same.new hl2) _ _ upd_same, upd_same, szl (by rw [List.length_map, hq2.len]; show _ + 1 ≤ 1000; omega), fun l3 hl3 => ?_⟩
    have s2 := s1.trans (Same.new (o := .lst (qs2.map V.ref ++ [V.ref a])) hl3)
    intro x d nx nd _
    have s3 := mk_same0 (C := C) nx nd
    have hl3' : (upd (upd (upd H l (.lst (qs2.map V.ref))) l2 (.lst [V.ref a])) l3 (.lst (qs2.map V.ref ++ [V.ref a]))) l3 = some (.lst ((qs2 ++ [a]).map V.ref)) := by rw [upd_same, List.map_append]; rfl
    exact ⟨x, d, l3, qs2 ++ [a], rs ++ [r], rfl, upd_same, .inr (s3 _ _ hl3'), (SeqRows.snoc (hq2.same s2).seq (ha.same s2)).same s3, by rw [List.length_append]; exact hl, ht.val.snoc hf, fun H' sb tr => ⟨rfl, hq x H' (s2.trans (mk_same nx nd sb)) tr⟩⟩
end
end Ts

set_option maxRecDepth 100000
set_option maxHeartbeats 4000000
namespace Ts
open PySem L2
/-! ### making trees and meanings, as a caller reads it -/
theorem mean_made {K : PySem.W.Frag} {C CM : Addr} {Q : VK} {H : Hp} {t h : Addr} {d : Bool} {xs : List Str} {rs : List Row} (ht : TreeAt C H t rs) (hx : SqX K H h (xs.map V.str)) (hf : ∀ x ∈ xs, Free rs x)
    (k : ∀ m H', Same H H' → MeanAt C CM H' m t rs d (turnsL rs xs) → Q (.ref m) H') :
    ∀ x dx, H x = none → H dx = none → dx ≠ x → spMeaningInit K C CM (.ref x :: ([.ref t, .bl d, .ref h] ++ [])) (upd (upd H dx (.own x)) x (.ins CM dx [])) (fun v H2 => v = .non ∧ Q (.ref x) H2) E0 :=
  fun x dx nx nd _ => ⟨x, dx, t, h, d, xs, rs, rfl, upd_same, ht.same (mk_same0 nx nd), hx.same (mk_same0 nx nd), hf, fun H' sb m => ⟨rfl, k x H' (mk_same nx nd sb) m⟩⟩
theorem mean_madeD {K : PySem.W.Frag} {C CM : Addr} {Q : VK} {H : Hp} {t h : Addr} {d : Bool} {rs : List Row} (ht : TreeAt C H t rs) (hx : SqT K H h []) 
    (k : ∀ m H', Same H H' → MeanAt C CM H' m t rs d [] → Q (.ref m) H') :
    ∀ x dx, H x = none → H dx = none → dx ≠ x → spMeaningInit K C CM (.ref x :: ([.ref t, .bl d] ++ [.ref h])) (upd (upd H dx (.own x)) x (.ins CM dx [])) (fun v H2 => v = .non ∧ Q (.ref x) H2) E0 :=
  fun x dx nx nd _ => ⟨x, dx, t, h, d, [], rs, rfl, upd_same, ht.same (mk_same0 nx nd), (show SqX K H h [] from .inr hx).same (mk_same0 nx nd), (fun x hx => by cases hx), fun H' sb m => ⟨rfl, k x H' (mk_same nx nd sb) (by
    have e : turnsL rs [] = [] := by unfold turnsL; simp
    rw [e] at m
    exact m)⟩⟩
theorem tree_made {C : Addr} {Q : VK} {H : Hp} {p : Addr} {as : List Addr} {rs : List Row} (hp : Seq H p (as.map V.ref)) (hr : SeqRows H as rs) (hl : rs.length ≤ 100) (hv : Valid rs)
    (k : ∀ t H', Same H H' → TreeAt C H' t rs → Q (.ref t) H') :
    ∀ x dx, H x = none → H dx = none → dx ≠ x → spTreeInit C (.ref x :: ([.ref p] ++ [])) (upd (upd H dx (.own x)) x (.ins C dx [])) (fun v H2 => v = .non ∧ Q (.ref x) H2) E0 :=
  fun x dx nx nd _ => ⟨x, dx, p, as, rs, rfl, upd_same, hp.same (mk_same0 nx nd), hr.same (mk_same0 nx nd), hl, hv, fun H' sb m => ⟨rfl, k x H' (mk_same nx nd sb) m⟩⟩
theorem newz_len : ("newz" : Str).length = 4 := by decide +kernel
theorem newz_low : Low ("newz" : Str) := by unfold Low; decide +kernel
theorem newz_fits {rs : List Row} (hn : ∀ r ∈ rs, r.nm.length ≠ 4) {fo : Str} (hfo : fo = ("top" : Str) ∨ fo ∈ folderNames rs) : Fits rs ⟨"newz", fo, "item", some 1⟩ := by
  refine ⟨⟨.inr newz_len, newz_low⟩, fun e => ?_, fun hm => ?_, hfo.imp id mem_folders, (show ("item" : Str) ∈ kinds3 by decide +kernel), (show (1 : Int) ≤ 1 by decide)⟩
  · have := congrArg Str.length e
    rw [show (Row.nm ⟨"newz", fo, "item", some 1⟩) = ("newz" : Str) from rfl, newz_len, top_len] at this
    exact absurd this (by decide)
  · obtain ⟨r, h1, h2⟩ := List.mem_map.mp hm
    exact hn r h1 (by rw [h2]; exact newz_len)
theorem newz_not {rs : List Row} (hn : ∀ r ∈ rs, r.nm.length ≠ 4) : ("newz" : Str) ∉ names rs := fun hm => by
  obtain ⟨r, h1, h2⟩ := List.mem_map.mp hm
  exact hn r h1 (by rw [h2]; exact newz_len)
theorem rowOf_app {rs qs : List Row} {z : Str} {r : Row} (h : rowOf rs z = some r) : rowOf (rs ++ qs) z = some r := by
  unfold rowOf at h ⊢
  rw [List.find?_append, h]; rfl
theorem Free.app {rs qs : List Row} {z : Str} (h : Free rs z) : Free (rs ++ qs) z := by
  obtain ⟨r, e, hp⟩ := h
  exact ⟨r, rowOf_app e, hp⟩
end Ts

set_option maxRecDepth 100000
set_option maxHeartbeats 4000000
namespace Ts
open PySem L2
/-! ### all but lists is kept -/
def KL (H H' : Hp) : Prop := ∀ b o, H b = some o → (∀ xs, o ≠ .lst xs) → H' b = some o
theorem KL.of {H H' : Hp} (s : Same H H') : KL H H' := fun b o e _ => s b o e
theorem KL.refl (H : Hp) : KL H H := fun _ _ e _ => e
theorem KL.trans {H H1 H2 : Hp} (x : KL H H1) (y : KL H1 H2) : KL H H2 := fun b o e n => y b o (x b o e n) n
theorem KL.upd {H : Hp} {l : Addr} {xs : List V} {o : HO} (h : H l = some (.lst xs)) : KL H (L2.upd H l o) := fun b o e n => by
  rw [upd_ne (fun q => by rw [q, h] at e; exact n _ (Option.some.inj e).symm)]
  exact e
theorem RowsAt.kl {H H' : Hp} {as : List Addr} {rs : List Row} (h : RowsAt H as rs) (s : KL H H') : RowsAt H' as rs := ⟨h.len, fun i a r ha hr => s _ _ (h.at_ i a r ha hr) (fun _ e => nomatch e)⟩
theorem TreeAt.kl {C : Addr} {H H' : Hp} {t : Addr} {rs : List Row} (h : TreeAt C H t rs) (s : KL H H') : TreeAt C H' t rs := by
  obtain ⟨dx, q, f, k, p, qs, h1, h2, h3, h4, h5, h6⟩ := h.ex
  exact ⟨⟨dx, q, f, k, p, qs, s _ _ h1 (fun _ e => nomatch e), s _ _ h2 (fun _ e => nomatch e), h3.kl s, s _ _ h4 (fun _ e => nomatch e), s _ _ h5 (fun _ e => nomatch e), s _ _ h6 (fun _ e => nomatch e)⟩, h.val, h.len⟩
theorem MeanAt.kl {C CM : Addr} {H H' : Hp} {m t : Addr} {rs : List Row} {d : Bool} {ts : List Str} (h : MeanAt C CM H m t rs d ts) (s : KL H H') : MeanAt C CM H' m t rs d ts := by
  obtain ⟨dx, u, k, h1, h2, h3⟩ := h.ex
  exact ⟨⟨dx, u, k, s _ _ h1 (fun _ e => nomatch e), s _ _ h2 (fun _ e => nomatch e), s _ _ h3 (fun _ e => nomatch e)⟩, h.tree.kl s, h.norm⟩
theorem any_falses : ∀ n : Nat, (List.replicate n false).any id = false
  | 0 => rfl
  | n + 1 => by rw [List.replicate_succ, List.any_cons, any_falses n]; rfl
theorem all_trues : ∀ n : Nat, (List.replicate n true).all id = true
  | 0 => rfl
  | n + 1 => by rw [List.replicate_succ, List.all_cons, all_trues n]; rfl
theorem KL.sb {H H' : Hp} {a : Addr} {n : Int} (st : Stm H a n) (s : SB a H H') : KL H H' := fun b o e no => s b o (fun q => by
  obtain ⟨x, y, z, ea, _⟩ := st
  rw [q, ea] at e
  exact no _ (Option.some.inj e).symm) e
theorem RowsL.sbk {H H' : Hp} {a p : Addr} {rs : List Row} {n : Int} (h : RowsL H p rs) (np : p ≠ a) (st : Stm H a n) (s : SB a H H') : RowsL H' p rs := by
  obtain ⟨as, h1, h2⟩ := h.ex
  exact ⟨as, s _ _ np h1, h2.kl (KL.sb st s)⟩
theorem RowsL.upd {H : Hp} {p l : Addr} {xs : List V} {o : HO} {rs : List Row} (h : RowsL H p rs) (np : p ≠ l) (e : H l = some (.lst xs)) : RowsL (L2.upd H l o) p rs := by
  obtain ⟨as, h1, h2⟩ := h.ex
  exact ⟨as, by rw [upd_ne np]; exact h1, h2.kl (KL.upd e)⟩
theorem smb {H H1 H2 : Hp} {a : Addr} (h : Same H H1) (ha : H a = none) (s : SB a H1 H2) : Same H H2 := fun b o e => s b o (ne_of_none e ha) (h b o e)
theorem smu {H H1 : Hp} {a : Addr} {o : HO} (h : Same H H1) (ha : H a = none) : Same H (L2.upd H1 a o) := fun b o e => by
  rw [upd_ne (ne_of_none e ha)]
  exact h b o e
theorem cut_str (ts : List Str) (lo hi : Option Int) : ∃ zs : List Str, cutV (ts.map V.str) lo hi = zs.map V.str ∧ (∀ z ∈ zs, z ∈ ts) ∧ zs.length ≤ ts.length := by
  refine ⟨(ts.drop (HT.sIx (ts.map V.str).length 0 lo)).take (HT.sIx (ts.map V.str).length (ts.map V.str).length hi - HT.sIx (ts.map V.str).length 0 lo), ?_, fun z hz => List.mem_of_mem_drop (List.mem_of_mem_take hz), ?_⟩
  · unfold cutV
    rw [← List.map_drop, ← List.map_take]
  · rw [List.length_take, List.length_drop]; omega
theorem prices_ok : ∀ q ∈ pricesL, PriceOk q := by
  intro q hq
  simp [pricesL] at hq
  rcases hq with rfl | rfl | rfl | rfl | rfl <;> simp [PriceOk]
theorem kinds_ok3 : ∀ k ∈ kindsL, k ∈ kinds3 := by decide +kernel
theorem paired_same {H H' : Hp} (s : Same H H') : ∀ {ts : List Addr} {qs : List (Key × V)}, Paired (fun (t : Addr) (q : Key × V) => H t = some (.tup [kV q.1, q.2])) ts qs → Paired (fun (t : Addr) (q : Key × V) => H' t = some (.tup [kV q.1, q.2])) ts qs
  | _, _, .nil => .nil
  | _, _, .cons h t => .cons (s _ _ h) (paired_same s t)
theorem iteF' {c : Bool} {A B : Prop} (h : c = false) (b : B) : if c = true then A else B := by rw [h]; exact b
theorem kvM_at {rs : List Row} {d : Bool} {ts : List Str} {j : Nat} {k : Key} {v : V} (h : (kvM rs d ts rs)[j]? = some (k, v)) : ∃ z : Str, k = .inr z ∧ (z = ("top" : Str) ∨ z ∈ names rs) := by
  have hm := List.mem_of_getElem? h
  unfold kvM at hm
  rcases List.mem_cons.mp hm with e | hm
  · exact ⟨"top", (Prod.mk.inj e).1, .inl rfl⟩
  · unfold kvF at hm
    obtain ⟨r, hr, e⟩ := List.mem_map.mp hm
    exact ⟨r.nm, (Prod.mk.inj e).1.symm, .inr (List.mem_map.mpr ⟨r, hr, rfl⟩)⟩
theorem valV_kvM' {rs : List Row} (h : Valid rs) (d : Bool) (ts : List Str) {z : Str} (hz : z = ("top" : Str) ∨ z ∈ names rs) : valV (kvM rs d ts rs) (.inr z : Key) = some (.bl (valOf rs d ts z)) :=
  valV_kvM h d ts (by
    by_cases e : z = ("top" : Str)
    · exact .inl e
    · exact .inr ⟨e, hz.resolve_left e⟩)
def spLaw (K : PySem.W.Frag) : Sp := fun vs H Q _ => ∃ (a : Addr) (ns : List Int), vs = [.ref a] ∧ SqL K H a (ns.map V.int) ∧ ns.length ≤ 63 ∧ ∀ H', Q (.bl true) H'
/-- how the class of trees stands to other sorts -/
structure TxN (K : PySem.W.Frag) (C : Addr) : Prop where
  ne : PySem.W.findIn K (.ref C) "__ne__" = some (some (.builtin "object.__ne__"))
  ob : PySem.W.subIn K (.ref C) (.type "object") = some true
theorem nfC {K : PySem.W.Frag} {C : Addr} : PySem.W.notFirst K C (.ref C) = true := by simp [PySem.W.notFirst]
end Ts

set_option maxRecDepth 100000
set_option maxHeartbeats 4000000
namespace Ts
open PySem L2
/-! ### two meanings of one tree -/
/-- the top and the boxes -/
def plc (rs : List Row) : List Str := ("top" : Str) :: names rs
theorem val_all {rs : List Row} (hv : Valid rs) {d d2 : Bool} {ts us : List Str} (h1 : turnsL rs ts = ts) (h2 : turnsL rs us = us) : (∀ z ∈ plc rs, valOf rs d ts z = valOf rs d2 us z) ↔ (d = d2 ∧ ts = us) := by
  constructor
  · intro h
    have hd : d = d2 := by
      have := h ("top" : Str) (List.mem_cons_self ..)
      rw [val_top hv, val_top hv] at this
      exact this
    refine ⟨hd, ?_⟩
    rw [← h1, ← h2]
    unfold turnsL
    refine List.filter_congr fun z hz => ?_
    obtain ⟨r, hr, rfl⟩ := List.mem_map.mp hz
    have e1 := h r.nm (List.mem_cons_of_mem _ hz)
    have e2 := h r.fo (by
      rcases hv.foAll hr with e | e
      · rw [e]; exact List.mem_cons_self ..
      · exact List.mem_cons_of_mem _ e)
    rw [val_step hv d ts hr, val_step hv d2 us hr, e2] at e1
    revert e1
    generalize valOf rs d2 us r.fo = b
    generalize decide (r.nm ∈ ts) = x
    generalize decide (r.nm ∈ us) = y
    cases b <;> cases x <;> cases y <;> simp
  · rintro ⟨rfl, rfl⟩ z _
    rfl
theorem val_norm {rs : List Row} (d : Bool) (us : List Str) (z : Str) : valOf rs d (turnsL rs us) z = valOf rs d us z :=
  valOf_congr fun x hx => by rw [mem_turnsL]; exact ⟨fun e => e.2, fun e => ⟨hx, e⟩⟩
def firstUn (rs : List Row) (d : Bool) (ts : List Str) (d2 : Bool) (us : List Str) : Option Str := (plc rs).find? fun z => decide (valOf rs d ts z ≠ valOf rs d2 us z)
def optS : Option Str → V
  | none => .non
  | some z => .str z
theorem find_at {α : Type} {p : α → Bool} : ∀ {l : List α} {i : Nat} {z : α}, (∀ x ∈ l.take i, p x = false) → l[i]? = some z → p z = true → l.find? p = some z
  | [], i, z, _, h, _ => by simp at h
  | x :: l, 0, z, _, h, hp => by
    have e : x = z := Option.some.inj h
    subst e
    rw [List.find?_cons_of_pos hp]
  | x :: l, i + 1, z, hx, h, hp => by
    have h0 := hx x (by rw [List.take_succ_cons]; exact List.mem_cons_self ..)
    rw [List.find?_cons_of_neg (by rw [h0]; exact Bool.false_ne_true)]
    exact find_at (fun y hy => hx y (by rw [List.take_succ_cons]; exact List.mem_cons_of_mem _ hy)) (by simpa using h) hp
theorem kvM_plc {rs : List Row} {d : Bool} {ts : List Str} {j : Nat} {k : Key} {v : V} (h : (kvM rs d ts rs)[j]? = some (k, v)) : ∃ z : Str, k = .inr z ∧ (plc rs)[j]? = some z := by
  have e : (kvM rs d ts rs).map Prod.fst = (plc rs).map Sum.inr := by
    unfold kvM plc names kvF
    rw [List.map_cons, List.map_cons, List.map_map, List.map_map]
    rfl
  have e2 : ((kvM rs d ts rs).map Prod.fst)[j]? = some k := by rw [List.getElem?_map, h]; rfl
  rw [e, List.getElem?_map] at e2
  obtain ⟨z, hz, e3⟩ := Option.map_eq_some_iff.mp e2
  exact ⟨z, e3.symm, hz⟩
theorem kvM_len (rs : List Row) (d : Bool) (ts : List Str) : (kvM rs d ts rs).length = (plc rs).length := by
  unfold kvM plc names kvF
  simp
theorem mem_plc {rs : List Row} {z : Str} : z ∈ plc rs ↔ z = ("top" : Str) ∨ z ∈ names rs := List.mem_cons
/-! ### two sorted lists of the same texts -/
theorem ltCps_irr : ∀ l : List Nat, PySem.Spec.ltCps l l = false
  | [] => rfl
  | a :: l => by simp [PySem.Spec.ltCps, ltCps_irr l]
theorem ltCps_total : ∀ (a b : List Nat), PySem.Spec.ltCps a b = false → PySem.Spec.ltCps b a = false → a = b
  | [], [], _, _ => rfl
  | [], _ :: _, h, _ => by simp [PySem.Spec.ltCps] at h
  | _ :: _, [], _, h => by simp [PySem.Spec.ltCps] at h
  | x :: a, y :: b, h1, h2 => by
    simp only [PySem.Spec.ltCps, Bool.or_eq_false_iff, decide_eq_false_iff_not, Bool.and_eq_false_iff, beq_eq_false_iff_ne] at h1 h2
    have e : x = y := by omega
    subst e
    rw [ltCps_total a b (h1.2.resolve_left (by simp)) (h2.2.resolve_left (by simp))]
theorem geCps_trans : ∀ (a b c : List Nat), PySem.Spec.ltCps b a = false → PySem.Spec.ltCps c b = false → PySem.Spec.ltCps c a = false
  | [], [], [], _, _ => rfl
  | [], _, _ :: _, _, _ => by simp [PySem.Spec.ltCps]
  | [], _ :: _, [], _, h => by simp [PySem.Spec.ltCps] at h
  | _ :: _, [], _, h, _ => by simp [PySem.Spec.ltCps] at h
  | _ :: _, _ :: _, [], _, h => by simp [PySem.Spec.ltCps] at h
  | x :: a, y :: b, z :: c, h1, h2 => by
    simp only [PySem.Spec.ltCps, Bool.or_eq_false_iff, decide_eq_false_iff_not, Bool.and_eq_false_iff, beq_eq_false_iff_ne] at h1 h2 ⊢
    refine ⟨by omega, ?_⟩
    by_cases e : z = x
    · right
      have e1 : y = x := by omega
      have e2 : z = y := by omega
      exact geCps_trans a b c (h1.2.resolve_left (by simp [e1])) (h2.2.resolve_left (by simp [e2]))
    · left; exact e
theorem pw_of_rising : ∀ (l : List Str) (p : Str), PyProof.Rows.risingS p l = true → (p :: l).Pairwise fun a b => PySem.Spec.ltCps b.cps.toList a.cps.toList = false
  | [], p, _ => by simp
  | x :: l, p, h => by
    have h' : (!PySem.Spec.ltCps x.cps.toList p.cps.toList && PyProof.Rows.risingS x l) = true := h
    rw [Bool.and_eq_true, Bool.not_eq_true'] at h'
    have ih := pw_of_rising l x h'.2
    rw [List.pairwise_cons]
    refine ⟨fun y hy => ?_, ih⟩
    rcases List.mem_cons.mp hy with rfl | hy
    · exact h'.1
    · exact geCps_trans _ _ _ h'.1 (List.rel_of_pairwise_cons ih hy)
theorem pw_of_sorted : ∀ {l : List Str}, PyProof.Rows.sortedS l = true → l.Pairwise fun a b => PySem.Spec.ltCps b.cps.toList a.cps.toList = false
  | [], _ => List.Pairwise.nil
  | x :: l, h => pw_of_rising l x h
theorem str_of_cps {a b : Str} (h : a.cps.toList = b.cps.toList) : a = b := by
  cases a; cases b
  simp only at h
  rw [Str.mk.injEq]
  exact Array.ext' h
theorem sorted_same {xs ys zs ws : List Str} (p1 : xs.Perm zs) (p2 : ys.Perm ws) (s1 : PyProof.Rows.sortedS xs = true) (s2 : PyProof.Rows.sortedS ys = true) : xs = ys ↔ zs.Perm ws := by
  constructor
  · rintro rfl
    exact p1.symm.trans p2
  · intro h
    refine List.Perm.eq_of_pairwise (le := fun a b => PySem.Spec.ltCps b.cps.toList a.cps.toList = false) (fun a b _ _ h1 h2 => str_of_cps (ltCps_total _ _ h2 h1)) (pw_of_sorted s1) (pw_of_sorted s2) ((p1.trans h).trans p2.symm)
/-! ### what newcomers show -/
def newL (rs : List Row) (d : Bool) (ts : List Str) : List Bool := ((("top" : Str) :: folderNames rs).flatMap fun fo => [valOf rs d ts fo, valOf rs d ts fo]) ++ rs.map fun r => valOf rs d ts r.nm
theorem newL_eq {rs : List Row} {d d2 : Bool} {ts us : List Str} : newL rs d ts = newL rs d2 us ↔ ∀ z ∈ plc rs, valOf rs d ts z = valOf rs d2 us z := by
  unfold newL
  constructor
  · intro h
    have hl : ((("top" : Str) :: folderNames rs).flatMap fun fo => [valOf rs d ts fo, valOf rs d ts fo]).length = ((("top" : Str) :: folderNames rs).flatMap fun fo => [valOf rs d2 us fo, valOf rs d2 us fo]).length := by
      simp only [List.length_flatMap]; rfl
    obtain ⟨h1, h2⟩ := List.append_inj h hl
    intro z hz
    rcases mem_plc.mp hz with rfl | hz
    · rw [List.flatMap_cons, List.flatMap_cons] at h1
      have := List.append_inj h1 rfl
      exact (List.cons.inj this.1).1
    · obtain ⟨r, hr, rfl⟩ := List.mem_map.mp hz
      exact List.map_inj_left.mp h2 r hr
  · intro h
    congr 1
    · rw [List.flatMap_def, List.flatMap_def]
      refine congrArg List.flatten (List.map_congr_left fun fo hfo => ?_)
      rw [h fo (by
        rcases List.mem_cons.mp hfo with rfl | hfo
        · exact List.mem_cons_self ..
        · obtain ⟨q, hq, rfl, _⟩ := mem_folders hfo
          exact List.mem_cons_of_mem _ (List.mem_map.mpr ⟨q, hq, rfl⟩))]
    · exact List.map_congr_left fun r hr => h r.nm (List.mem_cons_of_mem _ (List.mem_map.mpr ⟨r, hr, rfl⟩))
theorem bools_dp {K : PySem.W.Frag} {H : Hp} : ∀ l : List Bool, DpAll K H (l.map V.bl) (l.map PyData.bool)
  | [] => .nil
  | x :: l => .cons (.bl x) (bools_dp l)
theorem bools_eqv : ∀ a b : List Bool, PyData.eqvAll (a.map PyData.bool) (b.map PyData.bool) = decide (a = b)
  | [], [] => by simp [PyData.eqvAll]
  | [], _ :: _ => by simp [PyData.eqvAll]
  | _ :: _, [] => by simp [PyData.eqvAll]
  | x :: a, y :: b => by
    simp only [List.map_cons, PyData.eqvAll, PyData.eqv, bools_eqv a b]
    by_cases h : a = b <;> cases x <;> cases y <;> simp [h]
theorem bools_lay : ∀ l : List Bool, PyData.canLayAll0 (l.map PyData.bool) = true
  | [] => by simp [PyData.canLayAll0]
  | x :: l => by simp [PyData.canLayAll0, PyData.canLay0, bools_lay l]
theorem bools_depth : ∀ l : List Bool, PyData.depthAll (l.map PyData.bool) = 0
  | [] => by simp [PyData.depthAll]
  | x :: l => by simp [PyData.depthAll, PyData.depth, bools_depth l]
theorem shaped_bools (l : List Bool) : SeqAt.shaped (.list (l.map PyData.bool)) = true := by
  unfold SeqAt.shaped
  rw [Bool.and_eq_true]
  refine ⟨by simp only [PyData.canLay0]; exact bools_lay l, decide_eq_true ?_⟩
  simp only [PyData.depth, bools_depth]
  omega
end Ts

set_option maxRecDepth 100000
set_option maxHeartbeats 4000000
namespace Ts
open PySem L2
/-! ### own operators between two objects of one class -/
def rBinC (C : Addr) (sp : Sp) (E : XK) : R2 := fun x y H Q => ∃ (a b dx dy : Addr) (fs gs : List (Str × V)), x = .ref a ∧ y = .ref b ∧ H a = some (.ins C dx fs) ∧ H b = some (.ins C dy gs) ∧ sp [.ref a, .ref b] H (fun v H' => ∃ r : Addr, v = .ref r ∧ Q v H') E
def rInvC (C : Addr) (sp : Sp) (E : XK) : V → Hp → VK → Prop := fun x H Q => ∃ (a dx : Addr) (fs : List (Str × V)), x = .ref a ∧ H a = some (.ins C dx fs) ∧ sp [.ref a] H Q E
section
variable {X : Cx} {k : Nat} {C f : Addr} {fd : FuncData} {ps : List Str} {sp : Sp} {CX : CXT} {E : XK}
theorem op_binC {op : Operator} {nm : Str} (F : FnOk X.prog X.w X.K X.mg X.base CX k f fd ps sp) (m : Meth X.K C nm f) (hn : PySem.dunder op.info.2 = nm) (hc : PySem.W.selfFirst X.K C = true) (hr : Room k X.A) (hb : Binds X.K fd ps []) (hx : Passes CX X E) : OpR X (binaryOp op) (rBinC C sp E) := by
  intro pins s σ H x y v u Q I rx ry hq
  obtain ⟨a, b, dx, dy, fs, gs, rfl, rfl, ha, hb', hsp⟩ := hq
  cases rx
  cases ry
  obtain ⟨mA, J, _⟩ := ins_get I.hok ha
  obtain ⟨od, J, _⟩ := J.look
  obtain ⟨mm, hF⟩ := I.fr
  refine PySem.W.binop_K hF I.ok.mod.kin J (ty_looks I (show RelV (.ref b) (.ref b) from rfl) (.ins hb')) hc (by rw [hn]; exact m.at_) m.fn ?_
  refine wpAny_mono (run_at F hr rfl hb hx I (us := [.ref a, .ref b]) (.cons (show RelV (.ref a) (.ref a) from rfl) (.cons (show RelV (.ref b) (.ref b) from rfl) .nil)) hsp) (fun r s' hq => ?_) fun _ _ x => x
  obtain ⟨z, H', I', rz, q, rfl, hQ⟩ := hq
  cases rz
  exact ⟨.ref q, H', I', rfl, hQ⟩
theorem un_invC (F : FnOk X.prog X.w X.K X.mg X.base CX k f fd ps sp) (m : Meth X.K C "__invert__" f) (hr : Room k X.A) (hb : Binds X.K fd ps []) (hx : Passes CX X E) : UnR X (unaryOp .Invert) (rInvC C sp E) := by
  intro pins s σ H x v Q I rx hq
  obtain ⟨a, dx, fs, rfl, ha, hsp⟩ := hq
  cases rx
  obtain ⟨mA, J, _⟩ := ins_get I.hok ha
  obtain ⟨od, J, _⟩ := J.look
  obtain ⟨mm, hF⟩ := I.fr
  exact PySem.W.ksp_inv hF I.ok.mod.kin J m.at_ m.fn (run_at F hr rfl hb hx I (us := [.ref a]) (.cons (show RelV (.ref a) (.ref a) from rfl) .nil) hsp)
end
end Ts

set_option maxRecDepth 100000
set_option maxHeartbeats 4000000
namespace Ts
open PySem L2
/-! ### meanings by their values -/
/-- the turns that give these values -/
def turnsG (rs : List Row) (v : Str → Bool) : List Str := (rs.filter fun r => decide (v r.nm ≠ v r.fo)).map (·.nm)
theorem row_same {rs : List Row} (hv : Valid rs) {r q : Row} (hr : r ∈ rs) (hq : q ∈ rs) (e : r.nm = q.nm) : r = q := by
  obtain ⟨i, hi, e1⟩ := List.mem_iff_getElem.mp hr
  obtain ⟨j, hj, e2⟩ := List.mem_iff_getElem.mp hq
  have h1 := rowOf_at hv (i := i) (r := r) (by rw [← e1]; exact List.getElem?_eq_getElem hi)
  have h2 := rowOf_at hv (i := j) (r := q) (by rw [← e2]; exact List.getElem?_eq_getElem hj)
  rw [e, h2] at h1
  exact (Option.some.inj h1).symm
theorem mem_turnsG {rs : List Row} (hv : Valid rs) {v : Str → Bool} {r : Row} (hr : r ∈ rs) : r.nm ∈ turnsG rs v ↔ v r.nm ≠ v r.fo := by
  unfold turnsG
  constructor
  · intro h
    obtain ⟨q, hq, e⟩ := List.mem_map.mp h
    rw [List.mem_filter, decide_eq_true_eq] at hq
    rw [row_same hv hr hq.1 e.symm]
    exact hq.2
  · intro h
    exact List.mem_map.mpr ⟨r, List.mem_filter.mpr ⟨hr, decide_eq_true h⟩, rfl⟩
theorem turnsG_sub (rs : List Row) (v : Str → Bool) : (turnsG rs v).Sublist (names rs) := List.Sublist.map _ List.filter_sublist
theorem val_turnsG {rs : List Row} (hv : Valid rs) (v : Str → Bool) : ∀ z ∈ plc rs, valOf rs (v "top") (turnsG rs v) z = v z := by
  have key : ∀ n : Nat, ∀ i, i < n → ∀ r, rs[i]? = some r → valOf rs (v "top") (turnsG rs v) r.nm = v r.nm := by
    intro n
    induction n with
    | zero => intro i hi; omega
    | succ n ih =>
      intro i hi r hr
      have hrm := List.mem_of_getElem? hr
      have hfo : valOf rs (v "top") (turnsG rs v) r.fo = v r.fo := by
        rcases hv.fo hr with e | e
        · rw [e, val_top hv]
        · obtain ⟨q, hq, e2⟩ := List.mem_map.mp e
          obtain ⟨j, hj, e3⟩ := List.mem_take_iff_getElem.mp hq
          rw [← e2]
          exact ih j (by omega) q (by rw [← e3]; exact List.getElem?_eq_getElem _)
      rw [val_step hv _ _ hrm, hfo]
      have e : decide (r.nm ∈ turnsG rs v) = decide (v r.nm ≠ v r.fo) := decide_eq_decide.mpr (mem_turnsG hv hrm)
      rw [e]
      cases v r.fo <;> cases v r.nm <;> rfl
  intro z hz
  rcases mem_plc.mp hz with rfl | hz
  · exact val_top hv _ _
  · obtain ⟨r, hr, rfl⟩ := List.mem_map.mp hz
    obtain ⟨i, hi, e⟩ := List.mem_iff_getElem.mp hr
    exact key (i + 1) i (by omega) r (by rw [← e]; exact List.getElem?_eq_getElem hi)
theorem fo_plc {rs : List Row} (hv : Valid rs) {r : Row} (hr : r ∈ rs) : r.fo ∈ plc rs := mem_plc.mpr (hv.foAll hr)
theorem nm_plc {rs : List Row} {r : Row} (hr : r ∈ rs) : r.nm ∈ plc rs := mem_plc.mpr (.inr (List.mem_map.mpr ⟨r, hr, rfl⟩))
structure MV (C CM : Addr) (H : Hp) (m t : Addr) (rs : List Row) (v : Str → Bool) : Prop where
  ex : ∃ (d : Bool) (ts : List Str), MeanAt C CM H m t rs d ts ∧ ∀ z ∈ plc rs, valOf rs d ts z = v z
  lk : ∀ r ∈ rs, r.pr = none → v r.nm = v r.fo
theorem MV.same {C CM : Addr} {H H' : Hp} {m t : Addr} {rs : List Row} {v : Str → Bool} (h : MV C CM H m t rs v) (s : Same H H') : MV C CM H' m t rs v := by
  obtain ⟨d, ts, hm, hv⟩ := h.ex
  exact ⟨⟨d, ts, hm.same s, hv⟩, h.lk⟩
theorem MV.at_ {C CM : Addr} {H : Hp} {m t : Addr} {rs : List Row} {v : Str → Bool} (h : MV C CM H m t rs v) : ∃ dx fs, H m = some (.ins CM dx fs) := by
  obtain ⟨d, ts, hm, hv⟩ := h.ex
  obtain ⟨dx, u, k, h1, _⟩ := hm.ex
  exact ⟨dx, _, h1⟩
theorem turns_of {rs : List Row} (hv : Valid rs) {d : Bool} {ts : List Str} {v : Str → Bool} (hn : ts = turnsL rs ts) (h : ∀ z ∈ plc rs, valOf rs d ts z = v z) : d = v "top" ∧ ts = turnsG rs v := by
  have h1 : turnsL rs (turnsG rs v) = turnsG rs v := turnsL_sub hv (turnsG_sub rs v)
  refine (val_all hv (d := d) (d2 := v "top") hn.symm h1).mp fun z hz => ?_
  rw [h z hz, val_turnsG hv v z hz]
theorem MV.turns {C CM : Addr} {H : Hp} {m t : Addr} {rs : List Row} {v : Str → Bool} (h : MV C CM H m t rs v) : MeanAt C CM H m t rs (v "top") (turnsG rs v) := by
  obtain ⟨d, ts, hm, hv⟩ := h.ex
  obtain ⟨e1, e2⟩ := turns_of hm.tree.val hm.norm hv
  rw [← e1, ← e2]
  exact hm
theorem MV.free {C CM : Addr} {H : Hp} {m t : Addr} {rs : List Row} {v : Str → Bool} (h : MV C CM H m t rs v) : ∀ z ∈ turnsG rs v, Free rs z := fun z hz => by
  have hv := h.turns.tree.val
  obtain ⟨r, hr, rfl⟩ := List.mem_map.mp hz
  rw [List.mem_filter, decide_eq_true_eq] at hr
  obtain ⟨i, hi, e⟩ := List.mem_iff_getElem.mp hr.1
  exact ⟨r, rowOf_at hv (by rw [← e]; exact List.getElem?_eq_getElem hi), fun q => hr.2 (h.lk r hr.1 q)⟩
theorem MV.valid {C CM : Addr} {H : Hp} {m t : Addr} {rs : List Row} {v : Str → Bool} (h : MV C CM H m t rs v) : Valid rs := h.turns.tree.val
/-- from a meaning -/
theorem MV.of {C CM : Addr} {H : Hp} {m t : Addr} {rs : List Row} {d : Bool} {ts : List Str} (h : MeanAt C CM H m t rs d ts) (hf : ∀ z ∈ ts, Free rs z) : MV C CM H m t rs (valOf rs d ts) := by
  refine ⟨⟨d, ts, h, fun _ _ => rfl⟩, fun r hr q => ?_⟩
  rw [val_step h.tree.val d ts hr]
  have : r.nm ∉ ts := fun hm => by
    obtain ⟨r2, e, hp⟩ := hf _ hm
    obtain ⟨i, hi, e2⟩ := List.mem_iff_getElem.mp hr
    rw [rowOf_at h.tree.val (i := i) (r := r) (by rw [← e2]; exact List.getElem?_eq_getElem hi)] at e
    cases e
    exact hp q
  rw [decide_eq_false this]
  cases valOf rs d ts r.fo <;> rfl
/-- a dict of values -/
def kvG (rs : List Row) (v : Str → Bool) : List (Key × V) := (plc rs).map fun z => ((.inr z : Key), V.bl (v z))
theorem kvM_kvG {rs : List Row} (hv : Valid rs) {d : Bool} {ts : List Str} {v : Str → Bool} (h : ∀ z ∈ plc rs, valOf rs d ts z = v z) : kvM rs d ts rs = kvG rs v := by
  unfold kvM kvG plc names kvF
  rw [List.map_cons, List.map_map]
  congr 1
  · rw [← h _ (mem_plc.mpr (.inl rfl)), val_top hv]
  · refine List.map_congr_left fun r hr => ?_
    show (Sum.inr r.nm, V.bl (valOf rs d ts r.nm)) = (Sum.inr r.nm, V.bl (v r.nm))
    rw [h _ (nm_plc hr)]
theorem valV_list (v : Str → Bool) {z : Str} : ∀ {l : List Str}, z ∈ l → valV (l.map fun z => ((.inr z : Key), V.bl (v z))) (.inr z : Key) = some (.bl (v z))
  | x :: l, hz => by
    rw [List.map_cons]
    by_cases e : x = z
    · subst e; rw [valV_pos rfl]
    · rw [valV_neg (fun q => e (Sum.inr.inj q))]
      exact valV_list v ((List.mem_cons.mp hz).resolve_left fun q => e q.symm)
theorem valV_kvG {rs : List Row} (v : Str → Bool) {z : Str} (hz : z ∈ plc rs) : valV (kvG rs v) (.inr z : Key) = some (.bl (v z)) := valV_list v hz
theorem kvG_at {rs : List Row} {v : Str → Bool} {j : Nat} {k : Key} {x : V} (h : (kvG rs v)[j]? = some (k, x)) : ∃ z : Str, k = .inr z ∧ (plc rs)[j]? = some z := by
  unfold kvG at h
  rw [List.getElem?_map] at h
  obtain ⟨z, hz, e⟩ := Option.map_eq_some_iff.mp h
  exact ⟨z, (Prod.mk.inj e).1.symm, hz⟩
theorem kvG_len (rs : List Row) (v : Str → Bool) : (kvG rs v).length = (plc rs).length := by unfold kvG; rw [List.length_map]
theorem plc_nodup {rs : List Row} (hv : Valid rs) : (plc rs).Nodup := by
  unfold plc
  rw [List.nodup_cons]
  exact ⟨top_not hv, hv.nodup⟩
/-- the values of the first places, one more -/
theorem kvP_more {l : List Str} (nd : l.Nodup) (v : Str → Bool) {i : Nat} {z : Str} (h : l[i]? = some z) : putK ((l.take i).map fun z => ((.inr z : Key), V.bl (v z))) (.inr z) (.bl (v z)) = (l.take (i + 1)).map fun z => ((.inr z : Key), V.bl (v z)) := by
  have hn : z ∉ l.take i := fun hm => by
    obtain ⟨j, hj, e⟩ := List.mem_take_iff_getElem.mp hm
    obtain ⟨hi, e2⟩ := List.getElem?_eq_some_iff.mp h
    have := (List.getElem_inj nd).mp (e.trans e2.symm)
    omega
  have hv : valV ((l.take i).map fun z => ((.inr z : Key), V.bl (v z))) (.inr z : Key) = none := by
    generalize l.take i = m at hn
    induction m with
    | nil => rfl
    | cons x m ih =>
      rw [List.map_cons, valV_neg (fun q => hn (by rw [Sum.inr.inj q]; exact List.mem_cons_self ..))]
      exact ih fun q => hn (List.mem_cons_of_mem _ q)
  rw [putK_new _ hv, take_more h, List.map_append]
  rfl
def eqV (rs : List Row) (v w : Str → Bool) : Bool := (plc rs).all fun z => v z == w z
theorem eqV_true {rs : List Row} {v w : Str → Bool} (h : ∀ z, v z = w z) : eqV rs v w = true := by
  unfold eqV
  rw [List.all_eq_true]
  intro z _
  rw [h z]; simp
theorem eqV_iff {rs : List Row} {v w : Str → Bool} : eqV rs v w = true ↔ ∀ z ∈ plc rs, v z = w z := by
  unfold eqV
  rw [List.all_eq_true]
  exact ⟨fun h z hz => by simpa using h z hz, fun h z hz => by simpa using h z hz⟩
def spBin (C CM : Addr) (f : Bool → Bool → Bool) : Sp := fun vs H Q _ => ∃ (m m2 t t2 : Addr) (rs : List Row) (v w : Str → Bool), vs = [.ref m, .ref m2] ∧ MV C CM H m t rs v ∧ MV C CM H m2 t2 rs w ∧ ∀ m3 H', Same H H' → MV C CM H' m3 t rs (fun z => f (v z) (w z)) → Q (.ref m3) H'
def spInv (C CM : Addr) : Sp := fun vs H Q _ => ∃ (m t : Addr) (rs : List Row) (v : Str → Bool), vs = [.ref m] ∧ MV C CM H m t rs v ∧ ∀ m3 H', Same H H' → MV C CM H' m3 t rs (fun z => !(v z)) → Q (.ref m3) H'
def spWith (C CM : Addr) : Sp := fun vs H Q _ => ∃ (t vd : Addr) (rs : List Row) (v : Str → Bool), vs = [.ref t, .ref vd] ∧ TreeAt C H t rs ∧ H vd = some (.dK (kvG rs v)) ∧ (∀ r ∈ rs, r.pr = none → v r.nm = v r.fo) ∧ ∀ m H', Same H H' → MV C CM H' m t rs v → Q (.ref m) H'
theorem rd_bin {C CM : Addr} {H : Hp} {m m2 t t2 : Addr} {rs : List Row} {v w : Str → Bool} {f : Bool → Bool → Bool} {E : XK} {Q : VK} (h1 : MV C CM H m t rs v) (h2 : MV C CM H m2 t2 rs w) (k : ∀ m3 H', Same H H' → MV C CM H' m3 t rs (fun z => f (v z) (w z)) → Q (.ref m3) H') : rBinC CM (spBin C CM f) E (.ref m) (.ref m2) H Q := by
  obtain ⟨dx, fs, e1⟩ := h1.at_
  obtain ⟨dy, gs, e2⟩ := h2.at_
  exact ⟨m, m2, dx, dy, fs, gs, rfl, rfl, e1, e2, m, m2, t, t2, rs, v, w, rfl, h1, h2, fun m3 H' s mv => ⟨m3, rfl, k m3 H' s mv⟩⟩
theorem rd_inv {C CM : Addr} {H : Hp} {m t : Addr} {rs : List Row} {v : Str → Bool} {E : XK} {Q : VK} (h1 : MV C CM H m t rs v) (k : ∀ m3 H', Same H H' → MV C CM H' m3 t rs (fun z => !(v z)) → Q (.ref m3) H') : rInvC CM (spInv C CM) E (.ref m) H Q := by
  obtain ⟨dx, fs, e1⟩ := h1.at_
  exact ⟨m, dx, fs, rfl, e1, m, t, rs, v, rfl, h1, k⟩
theorem eq_eqV {rs : List Row} (hv : Valid rs) (v w : Str → Bool) : (decide (rs = rs) && (decide (v "top" = w "top") && decide (turnsG rs v = turnsG rs w))) = eqV rs v w := by
  rw [decide_eq_true (rfl : rs = rs), Bool.true_and, Bool.eq_iff_iff, Bool.and_eq_true, decide_eq_true_eq, decide_eq_true_eq, eqV_iff, ← val_all hv (turnsL_sub hv (turnsG_sub rs v)) (turnsL_sub hv (turnsG_sub rs w))]
  exact ⟨fun h z hz => by have := h z hz; rw [val_turnsG hv v z hz, val_turnsG hv w z hz] at this; exact this, fun h z hz => by rw [val_turnsG hv v z hz, val_turnsG hv w z hz]; exact h z hz⟩
theorem rd_eq {K : PySem.W.Frag} {C CM : Addr} {H : Hp} {m m2 t t2 : Addr} {rs : List Row} {v w : Str → Bool} {E : XK} {Q : VK} (h1 : MV C CM H m t rs v) (h2 : MV C CM H m2 t2 rs w) (k : Q (.bl (eqV rs v w)) H) : rEqC K CM (spMEq K C CM) E (.ref m) (.ref m2) H Q := by
  obtain ⟨dx, fs, e1⟩ := h1.at_
  obtain ⟨dy, gs, e2⟩ := h2.at_
  refine ⟨m, dx, fs, .ref CM, rfl, e1, .ins e2, nfM, m, t, _, rs, _, _, rfl, h1.turns, .inl ⟨m2, t2, rs, _, _, rfl, h2.turns, _, rfl, ?_⟩⟩
  rw [eq_eqV h1.valid]
  exact k
theorem rd_ne {K : PySem.W.Frag} {C CM : Addr} {H : Hp} {m m2 t t2 : Addr} {rs : List Row} {v w : Str → Bool} {E : XK} {Q : VK} (h1 : MV C CM H m t rs v) (h2 : MV C CM H m2 t2 rs w) (k : Q (.bl (!eqV rs v w)) H) : rNeC K CM (spMEq K C CM) E (.ref m) (.ref m2) H Q := by
  obtain ⟨dx, fs, e1⟩ := h1.at_
  obtain ⟨dy, gs, e2⟩ := h2.at_
  refine ⟨m, dx, fs, .ref CM, rfl, e1, .ins e2, nfM, m, t, _, rs, _, _, rfl, h1.turns, .inl ⟨m2, t2, rs, _, _, rfl, h2.turns, _, rfl, ?_⟩⟩
  rw [eq_eqV h1.valid]
  exact k
theorem turned_not (ts : List Str) : ∀ (l : List Str) (d : Bool), turned (!d) ts l = !(turned d ts l)
  | [], _ => rfl
  | x :: l, d => by
    show turned (if x ∈ ts then !(!d) else !d) ts l = !(turned (if x ∈ ts then !d else d) ts l)
    rw [← turned_not ts l]
    by_cases h : x ∈ ts
    · rw [if_pos h, if_pos h]
    · rw [if_neg h, if_neg h]
end Ts

set_option maxRecDepth 100000
set_option maxHeartbeats 4000000
namespace Ts
open PySem L2
/-- a dict comprehension over any walk -/
theorem dc_walk {J : It} {n : Nat} {G : Hp → Prop} {Y : Nat → Hp → V → Hp → Prop} (wk : Walk J n G Y) {g : TG} {tt : TT} {tk tv : TE} {us : List Nat} {σ : L2.St} {H0 : Hp} {D : Addr} {Qd : Hp → Prop} (I : Nat → Hp → Prop) (start : I 0 (upd H0 D (.dK []))) (stays : ∀ i H, i ≤ n → I i H → G H)
    (turn : ∀ i x H H', i < n → I i H → Y i H x H' → g x (wipe σ us) H' fun σ2 H2 => wipe σ2 us = wipe σ us ∧ tt σ2 H2 fun b H3 => if b = true then tk σ2 H3 fun y H4 => tv σ2 H4 fun z H5 => ∃ kvs k, y = kV k ∧ H5 D = some (.dK kvs) ∧ kvs.length < sizeLine ∧ I (i + 1) (upd H5 D (.dK (putK kvs k z))) else I (i + 1) H3)
    (done : ∀ H, I n H → Qd H) : ∃ W : Nat → Nat → Hp → Prop, (∃ m, W 0 m (upd H0 D (.dK []))) ∧ ∀ i m H, W i m H → (J.stop i H ∧ Qd H) ∨ (J.go i H ∧ ∃ Nx : Hp → Prop, (∀ H', Nx H' → ∃ m', m' < m ∧ W (i + 1) m' H') ∧ ∀ x H', J.yld i H x H' → g x (wipe σ us) H' fun σ2 H2 => wipe σ2 us = wipe σ us ∧ tt σ2 H2 fun b H3 =>
      if b = true then tk σ2 H3 fun y H4 => tv σ2 H4 fun z H5 => ∃ kvs k, y = kV k ∧ H5 D = some (.dK kvs) ∧ kvs.length < sizeLine ∧ Nx (upd H5 D (.dK (putK kvs k z))) else Nx H3) := by
  refine ⟨fun i m H => m = n - i ∧ i ≤ n ∧ I i H, ⟨n, rfl, Nat.zero_le _, start⟩, ?_⟩
  rintro i m H ⟨rfl, hi, here⟩
  have ok := stays i H hi here
  rcases Nat.lt_or_ge i n with lt | ge
  · exact .inr ⟨wk.goes i H lt ok, I (i + 1), fun H' h' => ⟨n - (i + 1), by omega, rfl, lt, h'⟩, fun x H' y => turn i x H H' lt here (wk.yields i H x H' lt ok y)⟩
  · obtain rfl : i = n := Nat.le_antisymm hi ge
    exact .inl ⟨wk.stops H ok, done H here⟩
def spCheckTrees (C CM : Addr) : Sp := fun vs H Q _ => ∃ (m m2 t t2 : Addr) (rs : List Row) (d d2 : Bool) (ts ts2 : List Str), vs = [.ref m, .ref m2] ∧ MeanAt C CM H m t rs d ts ∧ MeanAt C CM H m2 t2 rs d2 ts2 ∧ Q .non H
section
variable {P : Program} {w : World} {K : PySem.W.Frag} {mg : Str → Option Value} {base : Heap} {C CM : Addr}
theorem sc_check_trees : FnScope ["one", "other"] ["one", "other"] (defScope s_check_trees) := ⟨rfl, rfl, rfl, by decide +kernel, rfl, by decide +kernel, by decide +kernel⟩
theorem ok_check_trees (D : DefAt K mg "check_trees" s_check_trees ["one", "other"]) (M : TxM K mg CM) (N : TxN K C)
    (mE : MethAt K C "__eq__" "Tree.__eq__" s_Tree_eq ["self", "other"]) (GE : FnOk P w K mg base CX0 2 mE.f mE.fd ["self", "other"] (spEqT K C)) : FnOk P w K mg base CX0 4 D.f D.fd ["one", "other"] (spCheckTrees C CM) := by
  refine D.F.ok sc_check_trees (fun vs H Q E h => ?_) (fun cdv A outer s H vs Q E hr h => ?_)
  · obtain ⟨m, m2, t, t2, rs, d, d2, ts, ts2, rfl, _⟩ := h
    rfl
  · obtain ⟨m, m2, t, t2, rs, d, d2, ts, ts2, rfl, hm, hm2, hq⟩ := h
    obtain ⟨dx, u, k, h1, h2, h3⟩ := hm.ex
    obtain ⟨dx2, u2, k2, g1, g2, g3⟩ := hm2.ex
    obtain ⟨tdx, _, _, _, _, _, t1, _⟩ := id hm.tree.ex
    obtain ⟨tdx2, _, _, _, _, _, t3, _⟩ := id hm2.tree.ex
    refine ⟨_, pss_one (ps_if (pt_cmpR (op_neC GE mE.m N.ne N.ob hr mE.b pass0) (pe_fld (pv 0) rfl) (pe_fld (pv 1) rfl) (nomark _)) (pss_one ps_never) pss_nil), ?_⟩
    refine ⟨_, rfl, m, CM, dx, _, _, rfl, h1, M.cl, M.nt, mf_t _ _ _ _, _, rfl, m2, CM, dx2, _, _, rfl, g1, M.cl, M.nt, mf_t _ _ _ _, t, tdx, _, .ref C, rfl, t1, .ins t3, nfC, t, _, rs, rfl, hm.tree, .inl ⟨t2, rs, rfl, hm2.tree, _, rfl, _, rfl, ?_⟩⟩
    exact iteF' (by simp) hq
abbrev nWith : List Str := ["tree", "values", "turns", "box"]
theorem sc_with : FnScope nWith ["tree", "values"] (defScope s_with_values) := ⟨rfl, rfl, rfl, by decide +kernel, rfl, by decide +kernel, by decide +kernel⟩
theorem ok_with {fM : Addr} {fdM : FuncData} (D : DefAt K mg "with_values" s_with_values ["tree", "values"]) (TC : TxC K mg) (T : TxT K mg C) (M : TxM K mg CM)
    (MM : Mk K CM fM) (bM : Binds K fdM ["self", "tree", "default", "turns"] []) (GM : FnOk P w K mg base CX0 7 fM fdM ["self", "tree", "default", "turns"] (spMeaningInit K C CM))
    (mB : MethAt K C "below" "Tree.below" s_Tree_below ["self", "box"]) (GB : FnOk P w K mg base CX0 5 mB.f mB.fd ["self", "box"] (spListOf C belowL))
    (mF : MethAt K C "folder" "Tree.folder" s_Tree_folder ["self", "box"]) (GF : FnOk P w K mg base CX0 4 mF.f mF.fd ["self", "box"] (spGet C fun r => .str r.fo)) : FnOk P w K mg base CX0 9 D.f D.fd ["tree", "values"] (spWith C CM) := by
  obtain ⟨t1, gT⟩ := TC.top
  refine D.F.ok sc_with (fun vs H Q E h => ?_) (fun cdv A outer s H vs Q E hr h => ?_)
  · obtain ⟨t, vd, rs, v, rfl, _⟩ := h
    rfl
  · obtain ⟨t, vd, rs, v, rfl, ht, hvd, hlk, hq⟩ := h
    have hu := hu_of hr
    have hr4 : Room 5 _ := hr.mono (by decide)
    have hr3 : Room 4 _ := hr.mono (by decide)
    refine ⟨_, pss_cons (ps_setLc (i := 2) (own := [("box", 3)]) (g := gName 3) (tt := tTest (tOp rNe (tDGet (tVar 1) (tVar 3)) (tDGet (tVar 1) (tMeth C "folder" (spGet C fun r => .str r.fo) [] E0 (tVar 0) (tCons (tVar 3) tNil))))) (te := tVar 3) rfl sc_with.nd rfl rfl (sw_true rfl rfl rfl (by decide +kernel)) (pi_list (pe_meth (pv 0) T.cl mB.m GB hr4 mB.b .nil pass0 (pa_cons (pe_glob (by rfl) gT (v := .str ("top" : Str)) ⟨_, rfl⟩) pa_nil))) (blkOk_by (N := nWith) (sc := defScope s_with_values) (by decide +kernel))
        (fun _ _ _ _ _ => pg_name (i := 3) sc_with.nd rfl (Or.inl rfl)) (fun _ _ _ _ _ => by exact pts_one (pt_cmpR op_ne (pe_dget hu (pv 1) (pv 3) (fun _ _ => rfl)) (pe_dget hu (pv 1) (pe_meth (pv 0) T.cl mF.m GF hr3 mF.b .nil pass0 (pa_cons (pv 3) pa_nil)) (fun _ _ => rfl)) (nomark _))) (fun _ _ _ _ _ => pv 3))
      (pss_one (ps_ret (pe_make MM GM hr rfl M.g bM .nil pass0 (pa_cons (pv 0) (pa_cons (pe_dget hu (pv 1) (pe_glob (by rfl) gT (v := .str ("top" : Str)) ⟨_, rfl⟩) (fun _ _ => rfl)) (pa_cons (pv 2) pa_nil)))))), ?_⟩
    have hv := ht.val
    have l100 := ht.len
    obtain ⟨dx, q, f, k, p, qs, h1, _⟩ := id ht.ex
    have noB : (tf q f k p).lookup ("below" : Str) = none := tf_no _ _ _ _ (by decide +kernel) (by decide +kernel) (by decide +kernel) (by decide +kernel)
    have noF : (tf q f k p).lookup ("folder" : Str) = none := tf_no _ _ _ _ (by decide +kernel) (by decide +kernel) (by decide +kernel) (by decide +kernel)
    refine ⟨_, rfl, t, dx, _, rfl, h1, noB, t, ("top" : Str), rs, rfl, ht, .inl rfl, fun bl H2 hbl s2 e2 => ?_⟩
    rw [below_top hv] at e2
    refine ⟨bl, rfl, ⟨_, SqL.of e2⟩, fun D hD => ?_⟩
    refine lc_list (K := K) (a := bl) (xs := (names rs).map V.str) (fun i H' => Same H2 H' ∧ H' D = some (.lst ((((rs.take i).filter fun r => decide (v r.nm ≠ v r.fo)).map (·.nm)).map V.str))) ⟨Same.new hD, upd_same⟩ (fun i H' _ m => m.1.seq (SqL.of e2)) ?_ ?_
    · rintro i x H3 hxi ⟨s3, hD3⟩
      unfold names at hxi
      rw [List.getElem?_map, List.getElem?_map] at hxi
      obtain ⟨n1, hn1, rfl⟩ := Option.map_eq_some_iff.mp hxi
      obtain ⟨r, hr', rfl⟩ := Option.map_eq_some_iff.mp hn1
      have hrm := List.mem_of_getElem? hr'
      have s23 := s2.trans s3
      have dg := DGet.k (k := Sum.inr r.nm) (s23 _ _ hvd)
      rw [valV_kvG v (nm_plc hrm)] at dg
      have dg2 := DGet.k (k := Sum.inr r.fo) (s23 _ _ hvd)
      rw [valV_kvG v (fo_plc hv hrm)] at dg2
      have szD : (((rs.take i).filter fun r => decide (v r.nm ≠ v r.fo)).map (·.nm)).length ≤ 1000 := by
        rw [List.length_map]
        have h1 := List.length_filter_le (fun r : Row => decide (v r.nm ≠ v r.fo)) (rs.take i)
        rw [List.length_take] at h1
        omega
      refine ⟨rfl, _, rfl, _, rfl, vd, _, rfl, dg, _, rfl, _, rfl, t, dx, _, rfl, s23 _ _ h1, noF, _, rfl, t, r.nm, rs, r, rfl, ht.same s23, rowOf_at hv hr', vd, _, rfl, dg2, rfl, _, rfl, ?_⟩
      have e0 : (!decide (V.bl (v r.nm) = V.bl (v r.fo))) = decide (v r.nm ≠ v r.fo) := by
        cases v r.nm <;> cases v r.fo <;> rfl
      rw [e0]
      refine ite2 (fun hc => ?_) (fun hc => ?_)
      · refine ⟨_, rfl, _, hD3, by rw [List.length_map]; exact small1000 szD, fun b o eb => ?_, ?_⟩
        · rw [upd_ne (fun y => by rw [y, hD] at eb; cases eb)]
          exact s3 _ _ eb
        · rw [upd_same, filter_take hr', if_pos hc, List.map_append]; rfl
      · refine ⟨s3, ?_⟩
        rw [filter_take hr', if_neg hc, List.append_nil]
        exact hD3
    rintro H3 ⟨s3, hD3⟩
    rw [show ((names rs).map V.str).length = rs.length from by unfold names; rw [List.length_map, List.length_map], List.take_length] at hD3
    have s23 := s2.trans s3
    have dgt := DGet.k (k := Sum.inr ("top" : Str)) (s23 _ _ hvd)
    rw [valV_kvG v (mem_plc.mpr (.inl rfl))] at dgt
    refine ⟨_, rfl, _, rfl, vd, _, rfl, dgt, _, rfl, ?_⟩
    have fr : ∀ z ∈ turnsG rs v, Free rs z := fun z hz => by
      obtain ⟨r, hr, rfl⟩ := List.mem_map.mp hz
      rw [List.mem_filter, decide_eq_true_eq] at hr
      obtain ⟨i, hi, e⟩ := List.mem_iff_getElem.mp hr.1
      exact ⟨r, rowOf_at hv (by rw [← e]; exact List.getElem?_eq_getElem hi), fun q => hr.2 (hlk r hr.1 q)⟩
    refine fun m dm nm nd _ => ⟨m, dm, t, D, v "top", turnsG rs v, rs, rfl, upd_same, (ht.same s23).same (mk_same0 nm nd), SqX.same (.inl (SqL.of hD3)) (mk_same0 nm nd), fr, fun H4 sb4 hm => ⟨rfl, ?_⟩⟩
    rw [turnsL_sub hv (turnsG_sub rs v)] at hm
    exact hq m H4 (s23.trans (mk_same nm nd sb4)) ⟨⟨_, _, hm, val_turnsG hv v⟩, hlk⟩
theorem sc_M_xor : FnScope ["self", "other", "box"] ["self", "other"] (defScope s_Meaning_xor) := ⟨rfl, rfl, rfl, by decide +kernel, rfl, by decide +kernel, by decide +kernel⟩
theorem ok_M_xor {f : Addr} {fd : FuncData} (F : Fun K "__xor__" "Meaning.__xor__" s_Meaning_xor f fd) (M : TxM K mg CM) (Dc : DefAt K mg "check_trees" s_check_trees ["one", "other"]) (Gc : FnOk P w K mg base CX0 4 Dc.f Dc.fd ["one", "other"] (spCheckTrees C CM))
    (Dw : DefAt K mg "with_values" s_with_values ["tree", "values"]) (Gw : FnOk P w K mg base CX0 9 Dw.f Dw.fd ["tree", "values"] (spWith C CM)) : FnOk P w K mg base CX0 10 f fd ["self", "other"] (spBin C CM fun a b => a != b) := by
  refine F.ok sc_M_xor (fun vs H Q E h => ?_) (fun cdv A outer s H vs Q E hr h => ?_)
  · obtain ⟨m, m2, t, t2, rs, v, w', rfl, _⟩ := h
    rfl
  · obtain ⟨m, m2, t, t2, rs, v, w', rfl, hm, hm2, hq⟩ := h
    have hu := hu_of hr
    have hr3 : Room 4 _ := hr.mono (by decide)
    have hv := hm.valid
    have hl := hm.turns.tree.len
    obtain ⟨dx, u, k, h1, h2, h3⟩ := hm.turns.ex
    obtain ⟨dx2, u2, k2, g1, g2, g3⟩ := hm2.turns.ex
    rw [kvM_kvG hv (val_turnsG hv v)] at h3
    rw [kvM_kvG hv (val_turnsG hv w')] at g3
    refine ⟨_, pss_cons (ps_expr (pe_call Gc hr3 rfl Dc.g Dc.F.kp Dc.b .nil pass0 (pa_cons (pv 0) (pa_cons (pv 1) pa_nil))))
      (pss_one (ps_ret (pe_call Gw hr rfl Dw.g Dw.F.kp Dw.b .nil pass0 (pa_cons (pe_fld (pv 0) rfl) (pa_cons (pe_lock (pe_dc (own := [("box", 2)]) (g := gName 2) (tt := tYes) (tk := tVar 2) (tv := tOp rNe (tDGet (tFld K (tVar 0) "known") (tVar 2)) (tDGet (tFld K (tVar 1) "known") (tVar 2))) rfl sc_M_xor.nd (pi_keys (pe_fld (pv 0) rfl)) (blkOk_by (N := ["self", "other", "box"]) (sc := defScope s_Meaning_xor) (by decide +kernel))
        (fun _ _ _ _ _ => pg_name (i := 2) sc_M_xor.nd rfl (Or.inl rfl)) (fun _ _ _ _ _ => pts_nil) (fun _ _ _ _ _ => pv 2) (fun _ _ _ _ _ => by exact pe_cmpR op_ne (pe_dget hu (pe_fld (pv 0) rfl) (pv 2) (fun _ _ => rfl)) (pe_dget hu (pe_fld (pv 1) rfl) (pv 2) (fun _ _ => rfl)) (nomark _)))) pa_nil))))), ?_⟩
    refine ⟨_, rfl, _, rfl, m, m2, t, t2, rs, _, _, _, _, rfl, hm.turns, hm2.turns, ?_⟩
    refine ⟨_, rfl, m, CM, dx, _, _, rfl, h1, M.cl, M.nt, mf_t _ _ _ _, ?_⟩
    refine ⟨k, _, h3, trivial, fun od => ?_⟩
    obtain ⟨Hl, El⟩ : ∃ Hx, Hx = upd H k (.frz od (.dK (kvG rs v))) := ⟨_, rfl⟩
    have lk : Hl k = some (.frz od (.dK (kvG rs v))) := by rw [El]; exact upd_same
    have l1 : Hl m = some (.ins CM dx (mf t u k (v "top"))) := by
      rw [El, upd_ne (fun e => by rw [e, h3] at h1; cases h1)]; exact h1
    have l2 : Hl m2 = some (.ins CM dx2 (mf t2 u2 k2 (w' "top"))) := by
      rw [El, upd_ne (fun e => by rw [e, h3] at g1; cases g1)]; exact g1
    have back : ∀ {H' : Hp}, Same Hl H' → Same H (upd H' k (.dK (kvG rs v))) := fun {H'} sl b o e => by
      by_cases q : b = k
      · rw [q, upd_same, ← e, q]; exact h3.symm
      · rw [upd_ne q]; exact sl _ _ (by rw [El, upd_ne q]; exact e)
    have lk2 : ∃ kv, Rd Hl k2 (.dK kv) ∧ kv = kvG rs w' := by
      by_cases q : k2 = k
      · rw [q] at g3
        rw [h3] at g3
        have e3 := HO.dK.inj (Option.some.inj g3)
        exact ⟨_, by rw [q]; exact .inr ⟨od, lk⟩, e3⟩
      · exact ⟨_, .inl (by rw [El, upd_ne q]; exact g3), rfl⟩
    obtain ⟨kv2, rd2, rfl⟩ := lk2
    rw [← El]
    clear El
    refine ⟨_, rfl, m, CM, dx, _, _, rfl, l1, M.cl, M.nk, mf_k _ _ _ _, k, od, rfl, .inl ⟨_, lk, fun D hD => ?_⟩⟩
    have nD : D ≠ k := (ne_of_none lk hD).symm
    have lp : (plc rs).length ≤ 101 := by unfold plc names; rw [List.length_cons, List.length_map]; omega
    refine dc_walk (walk_keys (d := k) (o := od) (kvs := kvG rs v)) (fun i H' => Same Hl H' ∧ H' D = some (.dK (((plc rs).take i).map fun z => ((.inr z : Key), V.bl ((fun a b => a != b) (v z) (w' z)))))) ⟨Same.new hD, upd_same⟩ (fun i H' _ m => m.1 _ _ lk) ?_ ?_
    · rintro i x H5x H5 hi ⟨s5, hD5⟩ ⟨rfl, k', v', hk, rfl⟩
      obtain ⟨z, rfl, hz⟩ := kvG_at hk
      have hzm := List.mem_of_getElem? hz
      have dg1 : DGet H5 k (.str z) (some (.bl (v z))) := .inl ⟨_, .inr z, .inr ⟨od, s5 _ _ lk⟩, rfl, (valV_kvG v hzm).symm⟩
      have dg2 : DGet H5 k2 (.str z) (some (.bl (w' z))) := .inl ⟨_, .inr z, rd2.imp (s5 _ _) (fun ⟨o, e⟩ => ⟨o, s5 _ _ e⟩), rfl, (valV_kvG w' hzm).symm⟩
      refine ⟨rfl, tYes_if ?_⟩
      refine ⟨_, rfl, _, rfl, m, CM, dx, _, _, rfl, s5 _ _ l1, M.cl, M.nk, mf_k _ _ _ _, _, rfl, k, _, rfl, dg1, _, rfl, m2, CM, dx2, _, _, rfl, s5 _ _ l2, M.cl, M.nk, mf_k _ _ _ _, _, rfl, k2, _, rfl, dg2, rfl, ?_⟩
      have e9 : (upd H5 D (.dK (putK (((plc rs).take i).map fun z => ((.inr z : Key), V.bl (v z != w' z))) (.inr z) (.bl (!decide (V.bl (v z) = V.bl (w' z))))))) D = some (.dK (((plc rs).take (i + 1)).map fun z => ((.inr z : Key), V.bl (v z != w' z)))) := by
        rw [upd_same, ← kvP_more (plc_nodup hv) (fun z => v z != w' z) hz]
        cases v z <;> cases w' z <;> rfl
      exact ⟨_, .inr z, rfl, hD5, small1000 (by rw [List.length_map, List.length_take]; omega), fun b o eb => by
          rw [upd_ne (fun y => by rw [y, hD] at eb; cases eb)]
          exact s5 _ _ eb, e9⟩
    rintro H5 ⟨s5, hD5⟩
    rw [kvG_len, List.take_length] at hD5
    refine ⟨s5 _ _ lk, ?_⟩
    have bk := back s5
    refine ⟨t, D, rs, fun z => (fun a b => a != b) (v z) (w' z), rfl, hm.turns.tree.same bk, by rw [upd_ne nD]; exact hD5, fun r hr q => ?_, fun m3 H6 s6 hm3 => hq m3 H6 (bk.trans s6) hm3⟩
    show (fun a b => a != b) (v r.nm) (w' r.nm) = (fun a b => a != b) (v r.fo) (w' r.fo)
    rw [hm.lk r hr q, hm2.lk r hr q]
theorem sc_M_and : FnScope ["self", "other", "box"] ["self", "other"] (defScope s_Meaning_and) := ⟨rfl, rfl, rfl, by decide +kernel, rfl, by decide +kernel, by decide +kernel⟩
theorem ok_M_and {f : Addr} {fd : FuncData} (F : Fun K "__and__" "Meaning.__and__" s_Meaning_and f fd) (M : TxM K mg CM) (Dc : DefAt K mg "check_trees" s_check_trees ["one", "other"]) (Gc : FnOk P w K mg base CX0 4 Dc.f Dc.fd ["one", "other"] (spCheckTrees C CM))
    (Dw : DefAt K mg "with_values" s_with_values ["tree", "values"]) (Gw : FnOk P w K mg base CX0 9 Dw.f Dw.fd ["tree", "values"] (spWith C CM)) : FnOk P w K mg base CX0 10 f fd ["self", "other"] (spBin C CM fun a b => a && b) := by
  refine F.ok sc_M_and (fun vs H Q E h => ?_) (fun cdv A outer s H vs Q E hr h => ?_)
  · obtain ⟨m, m2, t, t2, rs, v, w', rfl, _⟩ := h
    rfl
  · obtain ⟨m, m2, t, t2, rs, v, w', rfl, hm, hm2, hq⟩ := h
    have hu := hu_of hr
    have hr3 : Room 4 _ := hr.mono (by decide)
    have hv := hm.valid
    have hl := hm.turns.tree.len
    obtain ⟨dx, u, k, h1, h2, h3⟩ := hm.turns.ex
    obtain ⟨dx2, u2, k2, g1, g2, g3⟩ := hm2.turns.ex
    rw [kvM_kvG hv (val_turnsG hv v)] at h3
    rw [kvM_kvG hv (val_turnsG hv w')] at g3
    refine ⟨_, pss_cons (ps_expr (pe_call Gc hr3 rfl Dc.g Dc.F.kp Dc.b .nil pass0 (pa_cons (pv 0) (pa_cons (pv 1) pa_nil))))
      (pss_one (ps_ret (pe_call Gw hr rfl Dw.g Dw.F.kp Dw.b .nil pass0 (pa_cons (pe_fld (pv 0) rfl) (pa_cons (pe_lock (pe_dc (own := [("box", 2)]) (g := gName 2) (tt := tYes) (tk := tVar 2) (tv := tAndV (tDGet (tFld K (tVar 0) "known") (tVar 2)) (tDGet (tFld K (tVar 1) "known") (tVar 2))) rfl sc_M_and.nd (pi_keys (pe_fld (pv 0) rfl)) (blkOk_by (N := ["self", "other", "box"]) (sc := defScope s_Meaning_and) (by decide +kernel))
        (fun _ _ _ _ _ => pg_name (i := 2) sc_M_and.nd rfl (Or.inl rfl)) (fun _ _ _ _ _ => pts_nil) (fun _ _ _ _ _ => pv 2) (fun _ _ _ _ _ => by exact pe_and (pe_dget hu (pe_fld (pv 0) rfl) (pv 2) (fun _ _ => rfl)) (pe_one (pe_dget hu (pe_fld (pv 1) rfl) (pv 2) (fun _ _ => rfl)))))) pa_nil))))), ?_⟩
    refine ⟨_, rfl, _, rfl, m, m2, t, t2, rs, _, _, _, _, rfl, hm.turns, hm2.turns, ?_⟩
    refine ⟨_, rfl, m, CM, dx, _, _, rfl, h1, M.cl, M.nt, mf_t _ _ _ _, ?_⟩
    refine ⟨k, _, h3, trivial, fun od => ?_⟩
    obtain ⟨Hl, El⟩ : ∃ Hx, Hx = upd H k (.frz od (.dK (kvG rs v))) := ⟨_, rfl⟩
    have lk : Hl k = some (.frz od (.dK (kvG rs v))) := by rw [El]; exact upd_same
    have l1 : Hl m = some (.ins CM dx (mf t u k (v "top"))) := by
      rw [El, upd_ne (fun e => by rw [e, h3] at h1; cases h1)]; exact h1
    have l2 : Hl m2 = some (.ins CM dx2 (mf t2 u2 k2 (w' "top"))) := by
      rw [El, upd_ne (fun e => by rw [e, h3] at g1; cases g1)]; exact g1
    have back : ∀ {H' : Hp}, Same Hl H' → Same H (upd H' k (.dK (kvG rs v))) := fun {H'} sl b o e => by
      by_cases q : b = k
      · rw [q, upd_same, ← e, q]; exact h3.symm
      · rw [upd_ne q]; exact sl _ _ (by rw [El, upd_ne q]; exact e)
    have lk2 : ∃ kv, Rd Hl k2 (.dK kv) ∧ kv = kvG rs w' := by
      by_cases q : k2 = k
      · rw [q] at g3
        rw [h3] at g3
        have e3 := HO.dK.inj (Option.some.inj g3)
        exact ⟨_, by rw [q]; exact .inr ⟨od, lk⟩, e3⟩
      · exact ⟨_, .inl (by rw [El, upd_ne q]; exact g3), rfl⟩
    obtain ⟨kv2, rd2, rfl⟩ := lk2
    rw [← El]
    clear El
    refine ⟨_, rfl, m, CM, dx, _, _, rfl, l1, M.cl, M.nk, mf_k _ _ _ _, k, od, rfl, .inl ⟨_, lk, fun D hD => ?_⟩⟩
    have nD : D ≠ k := (ne_of_none lk hD).symm
    have lp : (plc rs).length ≤ 101 := by unfold plc names; rw [List.length_cons, List.length_map]; omega
    refine dc_walk (walk_keys (d := k) (o := od) (kvs := kvG rs v)) (fun i H' => Same Hl H' ∧ H' D = some (.dK (((plc rs).take i).map fun z => ((.inr z : Key), V.bl ((fun a b => a && b) (v z) (w' z)))))) ⟨Same.new hD, upd_same⟩ (fun i H' _ m => m.1 _ _ lk) ?_ ?_
    · rintro i x H5x H5 hi ⟨s5, hD5⟩ ⟨rfl, k', v', hk, rfl⟩
      obtain ⟨z, rfl, hz⟩ := kvG_at hk
      have hzm := List.mem_of_getElem? hz
      have dg1 : DGet H5 k (.str z) (some (.bl (v z))) := .inl ⟨_, .inr z, .inr ⟨od, s5 _ _ lk⟩, rfl, (valV_kvG v hzm).symm⟩
      have dg2 : DGet H5 k2 (.str z) (some (.bl (w' z))) := .inl ⟨_, .inr z, rd2.imp (s5 _ _) (fun ⟨o, e⟩ => ⟨o, s5 _ _ e⟩), rfl, (valV_kvG w' hzm).symm⟩
      refine ⟨rfl, tYes_if ⟨_, rfl, _, rfl, m, CM, dx, _, _, rfl, s5 _ _ l1, M.cl, M.nk, mf_k _ _ _ _, _, rfl, k, _, rfl, dg1, _, rfl, ?_⟩⟩
      have e9 : ∀ b : Bool, b = (v z && w' z) → (upd H5 D (.dK (putK (((plc rs).take i).map fun z => ((.inr z : Key), V.bl (v z && w' z))) (.inr z) (.bl b)))) D = some (.dK (((plc rs).take (i + 1)).map fun z => ((.inr z : Key), V.bl (v z && w' z)))) := fun b e => by
        rw [upd_same, e, ← kvP_more (plc_nodup hv) (fun z => v z && w' z) hz]
      refine ite2 (fun hc => ?_) (fun hc => ?_)
      · refine ⟨_, rfl, m2, CM, dx2, _, _, rfl, s5 _ _ l2, M.cl, M.nk, mf_k _ _ _ _, _, rfl, k2, _, rfl, dg2, ?_⟩
        refine ⟨_, .inr z, rfl, hD5, small1000 (by rw [List.length_map, List.length_take]; omega), fun b o eb => by
          rw [upd_ne (fun y => by rw [y, hD] at eb; cases eb)]
          exact s5 _ _ eb, e9 _ (by rw [hc]; rfl)⟩
      · have hc' : v z = false := by simpa using hc
        refine ⟨_, .inr z, rfl, hD5, small1000 (by rw [List.length_map, List.length_take]; omega), fun b o eb => by
          rw [upd_ne (fun y => by rw [y, hD] at eb; cases eb)]
          exact s5 _ _ eb, e9 false (by rw [hc']; rfl)⟩
    rintro H5 ⟨s5, hD5⟩
    rw [kvG_len, List.take_length] at hD5
    refine ⟨s5 _ _ lk, ?_⟩
    have bk := back s5
    refine ⟨t, D, rs, fun z => (fun a b => a && b) (v z) (w' z), rfl, hm.turns.tree.same bk, by rw [upd_ne nD]; exact hD5, fun r hr q => ?_, fun m3 H6 s6 hm3 => hq m3 H6 (bk.trans s6) hm3⟩
    show (fun a b => a && b) (v r.nm) (w' r.nm) = (fun a b => a && b) (v r.fo) (w' r.fo)
    rw [hm.lk r hr q, hm2.lk r hr q]
theorem sc_M_or : FnScope ["self", "other", "box"] ["self", "other"] (defScope s_Meaning_or) := ⟨rfl, rfl, rfl, by decide +kernel, rfl, by decide +kernel, by decide +kernel⟩
theorem ok_M_or {f : Addr} {fd : FuncData} (F : Fun K "__or__" "Meaning.__or__" s_Meaning_or f fd) (M : TxM K mg CM) (Dc : DefAt K mg "check_trees" s_check_trees ["one", "other"]) (Gc : FnOk P w K mg base CX0 4 Dc.f Dc.fd ["one", "other"] (spCheckTrees C CM))
    (Dw : DefAt K mg "with_values" s_with_values ["tree", "values"]) (Gw : FnOk P w K mg base CX0 9 Dw.f Dw.fd ["tree", "values"] (spWith C CM)) : FnOk P w K mg base CX0 10 f fd ["self", "other"] (spBin C CM fun a b => a || b) := by
  refine F.ok sc_M_or (fun vs H Q E h => ?_) (fun cdv A outer s H vs Q E hr h => ?_)
  · obtain ⟨m, m2, t, t2, rs, v, w', rfl, _⟩ := h
    rfl
  · obtain ⟨m, m2, t, t2, rs, v, w', rfl, hm, hm2, hq⟩ := h
    have hu := hu_of hr
    have hr3 : Room 4 _ := hr.mono (by decide)
    have hv := hm.valid
    have hl := hm.turns.tree.len
    obtain ⟨dx, u, k, h1, h2, h3⟩ := hm.turns.ex
    obtain ⟨dx2, u2, k2, g1, g2, g3⟩ := hm2.turns.ex
    rw [kvM_kvG hv (val_turnsG hv v)] at h3
    rw [kvM_kvG hv (val_turnsG hv w')] at g3
    refine ⟨_, pss_cons (ps_expr (pe_call Gc hr3 rfl Dc.g Dc.F.kp Dc.b .nil pass0 (pa_cons (pv 0) (pa_cons (pv 1) pa_nil))))
      (pss_one (ps_ret (pe_call Gw hr rfl Dw.g Dw.F.kp Dw.b .nil pass0 (pa_cons (pe_fld (pv 0) rfl) (pa_cons (pe_lock (pe_dc (own := [("box", 2)]) (g := gName 2) (tt := tYes) (tk := tVar 2) (tv := tOrV (tDGet (tFld K (tVar 0) "known") (tVar 2)) (tDGet (tFld K (tVar 1) "known") (tVar 2))) rfl sc_M_or.nd (pi_keys (pe_fld (pv 0) rfl)) (blkOk_by (N := ["self", "other", "box"]) (sc := defScope s_Meaning_or) (by decide +kernel))
        (fun _ _ _ _ _ => pg_name (i := 2) sc_M_or.nd rfl (Or.inl rfl)) (fun _ _ _ _ _ => pts_nil) (fun _ _ _ _ _ => pv 2) (fun _ _ _ _ _ => by exact pe_or (pe_dget hu (pe_fld (pv 0) rfl) (pv 2) (fun _ _ => rfl)) (pe_one (pe_dget hu (pe_fld (pv 1) rfl) (pv 2) (fun _ _ => rfl)))))) pa_nil))))), ?_⟩
    refine ⟨_, rfl, _, rfl, m, m2, t, t2, rs, _, _, _, _, rfl, hm.turns, hm2.turns, ?_⟩
    refine ⟨_, rfl, m, CM, dx, _, _, rfl, h1, M.cl, M.nt, mf_t _ _ _ _, ?_⟩
    refine ⟨k, _, h3, trivial, fun od => ?_⟩
    obtain ⟨Hl, El⟩ : ∃ Hx, Hx = upd H k (.frz od (.dK (kvG rs v))) := ⟨_, rfl⟩
    have lk : Hl k = some (.frz od (.dK (kvG rs v))) := by rw [El]; exact upd_same
    have l1 : Hl m = some (.ins CM dx (mf t u k (v "top"))) := by
      rw [El, upd_ne (fun e => by rw [e, h3] at h1; cases h1)]; exact h1
    have l2 : Hl m2 = some (.ins CM dx2 (mf t2 u2 k2 (w' "top"))) := by
      rw [El, upd_ne (fun e => by rw [e, h3] at g1; cases g1)]; exact g1
    have back : ∀ {H' : Hp}, Same Hl H' → Same H (upd H' k (.dK (kvG rs v))) := fun {H'} sl b o e => by
      by_cases q : b = k
      · rw [q, upd_same, ← e, q]; exact h3.symm
      · rw [upd_ne q]; exact sl _ _ (by rw [El, upd_ne q]; exact e)
    have lk2 : ∃ kv, Rd Hl k2 (.dK kv) ∧ kv = kvG rs w' := by
      by_cases q : k2 = k
      · rw [q] at g3
        rw [h3] at g3
        have e3 := HO.dK.inj (Option.some.inj g3)
        exact ⟨_, by rw [q]; exact .inr ⟨od, lk⟩, e3⟩
      · exact ⟨_, .inl (by rw [El, upd_ne q]; exact g3), rfl⟩
    obtain ⟨kv2, rd2, rfl⟩ := lk2
    rw [← El]
    clear El
    refine ⟨_, rfl, m, CM, dx, _, _, rfl, l1, M.cl, M.nk, mf_k _ _ _ _, k, od, rfl, .inl ⟨_, lk, fun D hD => ?_⟩⟩
    have nD : D ≠ k := (ne_of_none lk hD).symm
    have lp : (plc rs).length ≤ 101 := by unfold plc names; rw [List.length_cons, List.length_map]; omega
    refine dc_walk (walk_keys (d := k) (o := od) (kvs := kvG rs v)) (fun i H' => Same Hl H' ∧ H' D = some (.dK (((plc rs).take i).map fun z => ((.inr z : Key), V.bl ((fun a b => a || b) (v z) (w' z)))))) ⟨Same.new hD, upd_same⟩ (fun i H' _ m => m.1 _ _ lk) ?_ ?_
    · rintro i x H5x H5 hi ⟨s5, hD5⟩ ⟨rfl, k', v', hk, rfl⟩
      obtain ⟨z, rfl, hz⟩ := kvG_at hk
      have hzm := List.mem_of_getElem? hz
      have dg1 : DGet H5 k (.str z) (some (.bl (v z))) := .inl ⟨_, .inr z, .inr ⟨od, s5 _ _ lk⟩, rfl, (valV_kvG v hzm).symm⟩
      have dg2 : DGet H5 k2 (.str z) (some (.bl (w' z))) := .inl ⟨_, .inr z, rd2.imp (s5 _ _) (fun ⟨o, e⟩ => ⟨o, s5 _ _ e⟩), rfl, (valV_kvG w' hzm).symm⟩
      refine ⟨rfl, tYes_if ⟨_, rfl, _, rfl, m, CM, dx, _, _, rfl, s5 _ _ l1, M.cl, M.nk, mf_k _ _ _ _, _, rfl, k, _, rfl, dg1, _, rfl, ?_⟩⟩
      have e9 : ∀ b : Bool, b = (v z || w' z) → (upd H5 D (.dK (putK (((plc rs).take i).map fun z => ((.inr z : Key), V.bl (v z || w' z))) (.inr z) (.bl b)))) D = some (.dK (((plc rs).take (i + 1)).map fun z => ((.inr z : Key), V.bl (v z || w' z)))) := fun b e => by
        rw [upd_same, e, ← kvP_more (plc_nodup hv) (fun z => v z || w' z) hz]
      refine ite2 (fun hc => ?_) (fun hc => ?_)
      · refine ⟨_, .inr z, rfl, hD5, small1000 (by rw [List.length_map, List.length_take]; omega), fun b o eb => by
          rw [upd_ne (fun y => by rw [y, hD] at eb; cases eb)]
          exact s5 _ _ eb, e9 true (by rw [hc]; rfl)⟩
      · have hc' : v z = false := by simpa using hc
        refine ⟨_, rfl, m2, CM, dx2, _, _, rfl, s5 _ _ l2, M.cl, M.nk, mf_k _ _ _ _, _, rfl, k2, _, rfl, dg2, ?_⟩
        refine ⟨_, .inr z, rfl, hD5, small1000 (by rw [List.length_map, List.length_take]; omega), fun b o eb => by
          rw [upd_ne (fun y => by rw [y, hD] at eb; cases eb)]
          exact s5 _ _ eb, e9 _ (by rw [hc']; rfl)⟩
    rintro H5 ⟨s5, hD5⟩
    rw [kvG_len, List.take_length] at hD5
    refine ⟨s5 _ _ lk, ?_⟩
    have bk := back s5
    refine ⟨t, D, rs, fun z => (fun a b => a || b) (v z) (w' z), rfl, hm.turns.tree.same bk, by rw [upd_ne nD]; exact hD5, fun r hr q => ?_, fun m3 H6 s6 hm3 => hq m3 H6 (bk.trans s6) hm3⟩
    show (fun a b => a || b) (v r.nm) (w' r.nm) = (fun a b => a || b) (v r.fo) (w' r.fo)
    rw [hm.lk r hr q, hm2.lk r hr q]
theorem sc_M_sub : FnScope ["self", "other", "box"] ["self", "other"] (defScope s_Meaning_sub) := ⟨rfl, rfl, rfl, by decide +kernel, rfl, by decide +kernel, by decide +kernel⟩
theorem ok_M_sub {f : Addr} {fd : FuncData} (F : Fun K "__sub__" "Meaning.__sub__" s_Meaning_sub f fd) (M : TxM K mg CM) (Dc : DefAt K mg "check_trees" s_check_trees ["one", "other"]) (Gc : FnOk P w K mg base CX0 4 Dc.f Dc.fd ["one", "other"] (spCheckTrees C CM))
    (Dw : DefAt K mg "with_values" s_with_values ["tree", "values"]) (Gw : FnOk P w K mg base CX0 9 Dw.f Dw.fd ["tree", "values"] (spWith C CM)) : FnOk P w K mg base CX0 10 f fd ["self", "other"] (spBin C CM fun a b => a && !b) := by
  refine F.ok sc_M_sub (fun vs H Q E h => ?_) (fun cdv A outer s H vs Q E hr h => ?_)
  · obtain ⟨m, m2, t, t2, rs, v, w', rfl, _⟩ := h
    rfl
  · obtain ⟨m, m2, t, t2, rs, v, w', rfl, hm, hm2, hq⟩ := h
    have hu := hu_of hr
    have hr3 : Room 4 _ := hr.mono (by decide)
    have hv := hm.valid
    have hl := hm.turns.tree.len
    obtain ⟨dx, u, k, h1, h2, h3⟩ := hm.turns.ex
    obtain ⟨dx2, u2, k2, g1, g2, g3⟩ := hm2.turns.ex
    rw [kvM_kvG hv (val_turnsG hv v)] at h3
    rw [kvM_kvG hv (val_turnsG hv w')] at g3
    refine ⟨_, pss_cons (ps_expr (pe_call Gc hr3 rfl Dc.g Dc.F.kp Dc.b .nil pass0 (pa_cons (pv 0) (pa_cons (pv 1) pa_nil))))
      (pss_one (ps_ret (pe_call Gw hr rfl Dw.g Dw.F.kp Dw.b .nil pass0 (pa_cons (pe_fld (pv 0) rfl) (pa_cons (pe_lock (pe_dc (own := [("box", 2)]) (g := gName 2) (tt := tYes) (tk := tVar 2) (tv := tAndV (tDGet (tFld K (tVar 0) "known") (tVar 2)) (tNotV (tDGet (tFld K (tVar 1) "known") (tVar 2)))) rfl sc_M_sub.nd (pi_keys (pe_fld (pv 0) rfl)) (blkOk_by (N := ["self", "other", "box"]) (sc := defScope s_Meaning_sub) (by decide +kernel))
        (fun _ _ _ _ _ => pg_name (i := 2) sc_M_sub.nd rfl (Or.inl rfl)) (fun _ _ _ _ _ => pts_nil) (fun _ _ _ _ _ => pv 2) (fun _ _ _ _ _ => by exact pe_and (pe_dget hu (pe_fld (pv 0) rfl) (pv 2) (fun _ _ => rfl)) (pe_one (pe_not (pe_dget hu (pe_fld (pv 1) rfl) (pv 2) (fun _ _ => rfl))))))) pa_nil))))), ?_⟩
    refine ⟨_, rfl, _, rfl, m, m2, t, t2, rs, _, _, _, _, rfl, hm.turns, hm2.turns, ?_⟩
    refine ⟨_, rfl, m, CM, dx, _, _, rfl, h1, M.cl, M.nt, mf_t _ _ _ _, ?_⟩
    refine ⟨k, _, h3, trivial, fun od => ?_⟩
    obtain ⟨Hl, El⟩ : ∃ Hx, Hx = upd H k (.frz od (.dK (kvG rs v))) := ⟨_, rfl⟩
    have lk : Hl k = some (.frz od (.dK (kvG rs v))) := by rw [El]; exact upd_same
    have l1 : Hl m = some (.ins CM dx (mf t u k (v "top"))) := by
      rw [El, upd_ne (fun e => by rw [e, h3] at h1; cases h1)]; exact h1
    have l2 : Hl m2 = some (.ins CM dx2 (mf t2 u2 k2 (w' "top"))) := by
      rw [El, upd_ne (fun e => by rw [e, h3] at g1; cases g1)]; exact g1
    have back : ∀ {H' : Hp}, Same Hl H' → Same H (upd H' k (.dK (kvG rs v))) := fun {H'} sl b o e => by
      by_cases q : b = k
      · rw [q, upd_same, ← e, q]; exact h3.symm
      · rw [upd_ne q]; exact sl _ _ (by rw [El, upd_ne q]; exact e)
    have lk2 : ∃ kv, Rd Hl k2 (.dK kv) ∧ kv = kvG rs w' := by
      by_cases q : k2 = k
      · rw [q] at g3
        rw [h3] at g3
        have e3 := HO.dK.inj (Option.some.inj g3)
        exact ⟨_, by rw [q]; exact .inr ⟨od, lk⟩, e3⟩
      · exact ⟨_, .inl (by rw [El, upd_ne q]; exact g3), rfl⟩
    obtain ⟨kv2, rd2, rfl⟩ := lk2
    rw [← El]
    clear El
    refine ⟨_, rfl, m, CM, dx, _, _, rfl, l1, M.cl, M.nk, mf_k _ _ _ _, k, od, rfl, .inl ⟨_, lk, fun D hD => ?_⟩⟩
    have nD : D ≠ k := (ne_of_none lk hD).symm
    have lp : (plc rs).length ≤ 101 := by unfold plc names; rw [List.length_cons, List.length_map]; omega
    refine dc_walk (walk_keys (d := k) (o := od) (kvs := kvG rs v)) (fun i H' => Same Hl H' ∧ H' D = some (.dK (((plc rs).take i).map fun z => ((.inr z : Key), V.bl ((fun a b => a && !b) (v z) (w' z)))))) ⟨Same.new hD, upd_same⟩ (fun i H' _ m => m.1 _ _ lk) ?_ ?_
    · rintro i x H5x H5 hi ⟨s5, hD5⟩ ⟨rfl, k', v', hk, rfl⟩
      obtain ⟨z, rfl, hz⟩ := kvG_at hk
      have hzm := List.mem_of_getElem? hz
      have dg1 : DGet H5 k (.str z) (some (.bl (v z))) := .inl ⟨_, .inr z, .inr ⟨od, s5 _ _ lk⟩, rfl, (valV_kvG v hzm).symm⟩
      have dg2 : DGet H5 k2 (.str z) (some (.bl (w' z))) := .inl ⟨_, .inr z, rd2.imp (s5 _ _) (fun ⟨o, e⟩ => ⟨o, s5 _ _ e⟩), rfl, (valV_kvG w' hzm).symm⟩
      refine ⟨rfl, tYes_if ⟨_, rfl, _, rfl, m, CM, dx, _, _, rfl, s5 _ _ l1, M.cl, M.nk, mf_k _ _ _ _, _, rfl, k, _, rfl, dg1, _, rfl, ?_⟩⟩
      have e9 : ∀ b : Bool, b = (v z && !(w' z)) → (upd H5 D (.dK (putK (((plc rs).take i).map fun z => ((.inr z : Key), V.bl (v z && !(w' z)))) (.inr z) (.bl b)))) D = some (.dK (((plc rs).take (i + 1)).map fun z => ((.inr z : Key), V.bl (v z && !(w' z))))) := fun b e => by
        rw [upd_same, e, ← kvP_more (plc_nodup hv) (fun z => v z && !(w' z)) hz]
      refine ite2 (fun hc => ?_) (fun hc => ?_)
      · refine ⟨_, rfl, m2, CM, dx2, _, _, rfl, s5 _ _ l2, M.cl, M.nk, mf_k _ _ _ _, _, rfl, k2, _, rfl, dg2, _, rfl, ?_⟩
        refine ⟨_, .inr z, rfl, hD5, small1000 (by rw [List.length_map, List.length_take]; omega), fun b o eb => by
          rw [upd_ne (fun y => by rw [y, hD] at eb; cases eb)]
          exact s5 _ _ eb, e9 _ (by rw [hc]; rfl)⟩
      · have hc' : v z = false := by simpa using hc
        refine ⟨_, .inr z, rfl, hD5, small1000 (by rw [List.length_map, List.length_take]; omega), fun b o eb => by
          rw [upd_ne (fun y => by rw [y, hD] at eb; cases eb)]
          exact s5 _ _ eb, e9 false (by rw [hc']; rfl)⟩
    rintro H5 ⟨s5, hD5⟩
    rw [kvG_len, List.take_length] at hD5
    refine ⟨s5 _ _ lk, ?_⟩
    have bk := back s5
    refine ⟨t, D, rs, fun z => (fun a b => a && !b) (v z) (w' z), rfl, hm.turns.tree.same bk, by rw [upd_ne nD]; exact hD5, fun r hr q => ?_, fun m3 H6 s6 hm3 => hq m3 H6 (bk.trans s6) hm3⟩
    show (fun a b => a && !b) (v r.nm) (w' r.nm) = (fun a b => a && !b) (v r.fo) (w' r.fo)
    rw [hm.lk r hr q, hm2.lk r hr q]
theorem sc_M_invert : FnScope ["self"] ["self"] (defScope s_Meaning_invert) := ⟨rfl, rfl, rfl, by decide +kernel, rfl, by decide +kernel, by decide +kernel⟩
theorem ok_M_invert {fM f : Addr} {fdM fd : FuncData} (F : Fun K "__invert__" "Meaning.__invert__" s_Meaning_invert f fd) (M : TxM K mg CM)
    (MM : Mk K CM fM) (bM : Binds K fdM ["self", "tree", "default", "turns"] []) (GM : FnOk P w K mg base CX0 7 fM fdM ["self", "tree", "default", "turns"] (spMeaningInit K C CM)) : FnOk P w K mg base CX0 9 f fd ["self"] (spInv C CM) := by
  refine F.ok sc_M_invert (fun vs H Q E h => ?_) (fun cdv A outer s H vs Q E hr h => ?_)
  · obtain ⟨m, t, rs, v, rfl, _⟩ := h
    rfl
  · obtain ⟨m, t, rs, v, rfl, hm, hq⟩ := h
    have hv := hm.valid
    obtain ⟨dx, u, k, h1, h2, h3⟩ := hm.turns.ex
    refine ⟨_, pss_one (ps_ret (pe_make MM GM hr rfl M.g bM .nil pass0 (pa_cons (pe_fld (pv 0) rfl) (pa_cons (pe_not (pe_fld (pv 0) rfl)) (pa_cons (pe_fld (pv 0) rfl) pa_nil))))), ?_⟩
    refine ⟨_, rfl, m, CM, dx, _, _, rfl, h1, M.cl, M.nt, mf_t _ _ _ _, _, rfl, m, CM, dx, _, _, rfl, h1, M.cl, M.nd, mf_d _ _ _ _, _, rfl, _, rfl, m, CM, dx, _, _, rfl, h1, M.cl, M.nu, mf_u _ _ _ _, ?_⟩
    refine fun m3 dm nm nd _ => ⟨m3, dm, t, u, !(v "top"), turnsG rs v, rs, rfl, upd_same, hm.turns.tree.same (mk_same0 nm nd), SqX.same (.inr (sqT h2)) (mk_same0 nm nd), hm.free, fun H4 sb4 hm4 => ⟨rfl, ?_⟩⟩
    rw [turnsL_sub hv (turnsG_sub rs v)] at hm4
    refine hq m3 H4 (mk_same nm nd sb4) ⟨⟨_, _, hm4, fun z hz => ?_⟩, fun r hr q => ?_⟩
    · show turned (!(v "top")) (turnsG rs v) (wayOf rs z) = !(v z)
      rw [turned_not, ← val_turnsG hv v z hz]
      rfl
    · show (!(v r.nm)) = !(v r.fo)
      rw [hm.lk r hr q]
end
end Ts

set_option maxRecDepth 100000
set_option maxHeartbeats 4000000
namespace Ts
open PySem L2
/-! ### ranges of numbers -/
structure Rg where
  lo : Int
  hi : Option Int
def Rg.ok (g : Rg) : Prop := 0 ≤ g.lo ∧ ∀ h, g.hi = some h → g.lo ≤ h
def rgV (g : Rg) : List V := [.int g.lo, prV g.hi]
def noI : Rg := ⟨0, some 0⟩
def oneI : Rg := ⟨1, some 1⟩
def anyI : Rg := ⟨0, none⟩
structure TxQ (K : PySem.W.Frag) (mg : Str → Option Value) where
  noA : Addr
  no : mg "NO_ITEMS" = some (.ref noA)
  noT : ∀ H, SqT K H noA (rgV noI)
  oneA : Addr
  one : mg "ONE_ITEM" = some (.ref oneA)
  oneT : ∀ H, SqT K H oneA (rgV oneI)
  anyA : Addr
  any : mg "ANY_ITEMS" = some (.ref anyA)
  anyT : ∀ H, SqT K H anyA (rgV anyI)
  item : ∃ t, mg "ITEM" = some (.str "item" t)
  shut : ∃ t, mg "SHUT" = some (.str "shut" t)
/-- a dict of ranges: its keys, and what lies behind each -/
def RgsAt (H : Hp) (d : Addr) (L : List Str) (g : Str → Rg) : Prop := ∃ ad : Str → Addr, H d = some (.dK (kvX (fun z => .ref (ad z)) L)) ∧ ∀ z ∈ L, Seq H (ad z) (rgV (g z))
theorem RgsAt.same {H H' : Hp} {d : Addr} {L : List Str} {g : Str → Rg} (h : RgsAt H d L g) (s : Same H H') : RgsAt H' d L g := let ⟨ad, h1, h2⟩ := h; ⟨ad, s _ _ h1, fun z hz => (h2 z hz).same s⟩
/-- the numbers that a place is by itself -/
def pairR (rs : List Row) (L : List Str) (g : Str → Rg) (z : Str) : Rg := match rowOf rs z with
  | some r => if r.ki = ("shut" : Str) then (if z ∈ L then g z else anyI) else if r.ki = ("item" : Str) then oneI else noI
  | none => noI
def PrsAt (K : PySem.W.Frag) (H : Hp) (k : Addr) (l : List Str) (pr : Str → Rg) : Prop := ∃ ad : Str → Addr, H k = some (.dK (kvX (fun z => .ref (ad z)) l)) ∧ ∀ z ∈ l, SqT K H (ad z) (rgV (pr z))
theorem sqT_same {K : PySem.W.Frag} {H H' : Hp} {a : Addr} {xs : List V} (h : SqT K H a xs) (s : Same H H') : SqT K H' a xs := by
  rcases h with (h | ⟨o, h⟩) | h
  · exact .inl (.inl (s _ _ h))
  · exact .inl (.inr ⟨o, s _ _ h⟩)
  · exact .inr h
theorem PrsAt.same {K : PySem.W.Frag} {H H' : Hp} {d : Addr} {L : List Str} {g : Str → Rg} (h : PrsAt K H d L g) (s : Same H H') : PrsAt K H' d L g := let ⟨ad, h1, h2⟩ := h; ⟨ad, s _ _ h1, fun z hz => sqT_same (h2 z hz) s⟩
def cf (t k : Addr) : List (Str × V) := putF "pairs" (.ref k) (putF "tree" (.ref t) [])
structure CntAt (K : PySem.W.Frag) (C CC : Addr) (H : Hp) (c t : Addr) (rs : List Row) (pr : Str → Rg) : Prop where
  ex : ∃ dx k, H c = some (.ins CC dx (cf t k)) ∧ PrsAt K H k (plc rs) pr
  tree : TreeAt C H t rs
theorem CntAt.same {K : PySem.W.Frag} {C CC : Addr} {H H' : Hp} {c t : Addr} {rs : List Row} {pr : Str → Rg} (h : CntAt K C CC H c t rs pr) (s : Same H H') : CntAt K C CC H' c t rs pr := let ⟨⟨dx, k, h1, h2⟩, ht⟩ := h; ⟨⟨dx, k, s _ _ h1, h2.same s⟩, ht.same s⟩
theorem rowOf_in {rs : List Row} {z : Str} {r : Row} (h : rowOf rs z = some r) : z ∈ names rs := by
  have h1 := List.mem_of_find?_eq_some h
  have h2 := List.find?_some h
  exact List.mem_map.mpr ⟨r, h1, of_decide_eq_true h2⟩
theorem same_sb {H H' : Hp} {D : Addr} (hD : H D = none) (s : SB D H H') : Same H H' := fun b o e => s b o (ne_of_none e hD) e
theorem sqT_upd {K : PySem.W.Frag} {H : Hp} {D a : Addr} {kvs : List (Key × V)} {o : HO} {xs : List V} (h : SqT K H a xs) (hD : H D = some (.dK kvs)) : SqT K (upd H D o) a xs := by
  have n : ∀ {u : HO}, H a = some u → (∀ m, u ≠ .dK m) → a ≠ D := fun {u} e hu q => by
    rw [q, hD] at e
    exact hu _ (Option.some.inj e).symm
  rcases h with (h | ⟨o', h⟩) | h
  · exact .inl (.inl (by rw [upd_ne (n h (fun _ e => nomatch e))]; exact h))
  · exact .inl (.inr ⟨o', by rw [upd_ne (n h (fun _ e => nomatch e))]; exact h⟩)
  · exact .inr h
theorem kvX_put {f : Str → V} {l : List Str} {z : Str} {v : V} (hn : z ∉ l) : putK (kvX f l) (.inr z) v = kvX (fun y => if y = z then v else f y) (l ++ [z]) := by
  have hv : valV (kvX f l) (.inr z : Key) = none := by
    induction l with
    | nil => rfl
    | cons x m ih =>
      show valV (((.inr x : Key), f x) :: kvX f m) _ = _
      rw [valV_neg (fun q => hn (by rw [Sum.inr.inj q]; exact List.mem_cons_self ..))]
      exact ih fun q => hn (List.mem_cons_of_mem _ q)
  rw [putK_new _ hv]
  unfold kvX
  rw [List.map_append]
  have e1 : l.map (fun y => ((.inr y : Key), if y = z then v else f y)) = l.map fun y => ((.inr y : Key), f y) := List.map_congr_left fun y hy => by
    rw [if_neg (fun q => hn (by rw [← q]; exact hy))]
  rw [e1]
  simp
theorem valV_kvX_none {f : Str → V} {z : Str} {l : List Str} (hn : z ∉ l) : valV (kvX f l) (.inr z : Key) = none := by
  induction l with
  | nil => rfl
  | cons x m ih =>
    show valV (((.inr x : Key), f x) :: kvX f m) _ = _
    rw [valV_neg (fun q => hn (by rw [Sum.inr.inj q]; exact List.mem_cons_self ..))]
    exact ih fun q => hn (List.mem_cons_of_mem _ q)
def spIsRange : Sp := fun vs H Q _ => ∃ (a : Addr) (q : Rg), vs = [.ref a] ∧ Seq H a (rgV q) ∧ q.ok ∧ ∀ H', Same H H' → Q (.bl true) H'
def spCheckRg (C : Addr) : Sp := fun vs H Q _ => ∃ (t d : Addr) (rs : List Row) (L : List Str) (g : Str → Rg), vs = [.ref t, .ref d] ∧ TreeAt C H t rs ∧ RgsAt H d L g ∧ (∀ z ∈ L, (g z).ok ∧ ∃ r, rowOf rs z = some r ∧ r.ki = ("shut" : Str)) ∧ ∀ H', Same H H' → Q .non H'
def spRangesOf (K : PySem.W.Frag) (C : Addr) : Sp := fun vs H Q _ => ∃ (t d : Addr) (rs : List Row) (L : List Str) (g : Str → Rg), vs = [.ref t, .ref d] ∧ TreeAt C H t rs ∧ RgsAt H d L g ∧ L.length ≤ 100 ∧
  ∀ D H', H D = none → Same H H' → PrsAt K H' D (plc rs) (pairR rs L g) → Q (.ref D) H'
/-- a dict of references that is locked is none of a tree's -/
theorem TreeAt.lockR {C : Addr} {H : Hp} {t d : Addr} {rs : List Row} {ad : Str → Addr} {L : List Str} {o : HO} (h : TreeAt C H t rs) (hd : H d = some (.dK (kvX (fun z => V.ref (ad z)) L))) (hl : L ≠ []) : TreeAt C (upd H d o) t rs := by
  obtain ⟨dx, q, f, k, p, qs, h1, h2, h3, h4, h5, h6⟩ := h.ex
  have n1 : ∀ {b : Addr} {u : HO}, H b = some u → (∀ m, u ≠ .dK m) → b ≠ d := fun {b u} hb hu q => by
    rw [q, hd] at hb
    exact hu _ (Option.some.inj hb).symm
  have n2 : ∀ {b : Addr} (g : Row → V), H b = some (.dK (kvF g rs)) → (∀ r x, g r ≠ V.ref x) → b ≠ d := fun {b} g hb hg q => by
    rw [q, hd] at hb
    have e := HO.dK.inj (Option.some.inj hb)
    cases L with
    | nil => exact hl rfl
    | cons z L =>
      cases rs with
      | nil => cases e
      | cons r rs =>
        have e2 := congrArg (fun l => l.head?) e
        have e3 := (Prod.mk.inj (Option.some.inj e2)).2
        exact hg r _ e3.symm
  have np : ∀ (r : Row) (x : Addr), prV r.pr ≠ V.ref x := fun r x => by cases r.pr <;> exact fun e => nomatch e
  exact ⟨⟨dx, q, f, k, p, qs, by rw [upd_ne (n1 h1 (fun _ e => nomatch e))]; exact h1, by rw [upd_ne (n1 h2 (fun _ e => nomatch e))]; exact h2, ⟨h3.len, fun i b r hb hr => by rw [upd_ne (n1 (h3.at_ i b r hb hr) (fun _ e => nomatch e))]; exact h3.at_ i b r hb hr⟩, by rw [upd_ne (n2 _ h4 (fun _ _ e => nomatch e))]; exact h4, by rw [upd_ne (n2 _ h5 (fun _ _ e => nomatch e))]; exact h5, by rw [upd_ne (n2 _ h6 np)]; exact h6⟩, h.val, h.len⟩
section
variable {P : Program} {w : World} {K : PySem.W.Frag} {mg : Str → Option Value} {base : Heap} {C : Addr}
abbrev nIsRange : List Str := ["thing", "least", "most"]
theorem sc_is_range : FnScope nIsRange ["thing"] (defScope s_is_range) := ⟨rfl, rfl, rfl, by decide +kernel, rfl, by decide +kernel, by decide +kernel⟩
theorem ok_is_range (D : DefAt K mg "is_range" s_is_range ["thing"]) (B : TxB mg) (TC : TxC K mg) : FnOk P w K mg base CX0 2 D.f D.fd ["thing"] spIsRange := by
  have Gn : FnOk P w K mg base CX0 1 TC.num.f TC.num.fd ["thing", "least"] spIsNumber := ok_is_number TC.num B
  refine D.F.ok sc_is_range (fun vs H Q E h => ?_) (fun cdv A outer s H vs Q E hr h => ?_)
  · obtain ⟨a, q, rfl, _⟩ := h
    rfl
  · obtain ⟨a, q, rfl, ha, ⟨hq0, hq1⟩, hq⟩ := h
    refine ⟨_, pss_cons (ps_if (PW.pt (pw_or (pt_not (pt_val (pe_callB call_isiT (by rfl) B.isinstance (by decide +kernel) (pa_cons (pv 0) (pa_cons (pe_tup (pa_cons (pe_bltn (by rfl) B.list (by decide +kernel) (v := .ty "list") rfl) (pa_cons (pe_bltn (by rfl) B.tuple (by decide +kernel) (v := .ty "tuple") rfl) pa_nil))) pa_nil)))))
        (pw_or1 (pt_cmpR op_ne (pe_callB call_len_seq (by rfl) B.len PySem.boot_len (pa_cons (pv 0) pa_nil)) pe_int (nomark _))))) (pss_one (ps_ret pe_bl)) pss_nil)
      (C8.pss_cut (ps_asg (pv 0) (pg_or (pg_tup rfl (pgs_cons (pg_name (i := 1) sc_is_range.nd rfl (.inl rfl)) (pgs_cons (pg_name (i := 2) sc_is_range.nd rfl (.inl rfl)) pgs_nil)))
          (pg_unl rfl (pgs_cons (pg_name (i := 1) sc_is_range.nd rfl (.inl rfl)) (pgs_cons (pg_name (i := 2) sc_is_range.nd rfl (.inl rfl)) pgs_nil)))))
      (pss_one (ps_ret (pe_and (pe_call Gn hr rfl TC.num.g TC.num.F.kp TC.num.b .nil pass0 (pa_cons (pv 1) (pa_cons pe_int pa_nil))) (pe_one (pe_or (pe_cmpR op_isN (pv 2) pe_non (nomark _)) (pe_one (pe_call Gn hr rfl TC.num.g TC.num.F.kp TC.num.b .nil pass0 (pa_cons (pv 2) (pa_cons (pv 1) pa_nil))))))))))
      , ?_⟩
    refine ⟨_, rfl, (by show 2 ≤ sizeLine; decide), fun tp htp => ?_⟩
    have s1 : Same H (upd H tp (.tup [.ty "list", .ty "tuple"])) := Same.new htp
    obtain ⟨t, ty, kk⟩ := (ha.same s1).ty (K := K)
    refine ⟨_, tp, _, t, _, true, rfl, upd_same, .cons (.ty "list") (.cons (.ty "tuple") .nil), ty, kk, _, rfl, iteF ?_⟩
    refine ⟨_, rfl, a, _, rfl, (ha.same s1).or, rfl, _, rfl, ?_⟩
    refine iteF ?_
    have un : SqT K (upd H tp (.tup [.ty "list", .ty "tuple"])) a (rgV q) ∨ SqL K (upd H tp (.tup [.ty "list", .ty "tuple"])) a (rgV q) := (ha.same s1).or.symm
    refine ⟨fun σ' H' => σ' = [some (.ref a), some (.int q.lo), some (prV q.hi)] ∧ H' = upd H tp (.tup [.ty "list", .ty "tuple"]), ?_, ?_⟩
    · refine ⟨_, rfl, ?_⟩
      rcases un with un | un
      · exact .inl ⟨a, _, rfl, un, rfl, _, _, rfl, _, _, rfl, rfl, rfl, rfl⟩
      · exact .inr ⟨a, _, rfl, un, rfl, _, _, rfl, _, _, rfl, rfl, rfl, rfl⟩
    rintro σ' H' ⟨rfl, rfl⟩
    refine ⟨_, rfl, q.lo, 0, rfl, ?_⟩
    rw [decide_eq_true hq0]
    refine ⟨_, rfl, iteT ?_⟩
    refine ⟨_, rfl, rfl, _, rfl, ?_⟩
    cases e : q.hi with
    | none => exact iteT (hq _ s1)
    | some h =>
      refine iteF' (decide_eq_false (fun e => by cases e)) ⟨_, rfl, _, rfl, h, q.lo, rfl, ?_⟩
      rw [decide_eq_true (hq1 h e)]
      exact hq _ s1
abbrev nCheckRg : List Str := ["tree", "ranges", "box", "pair"]
theorem sc_check_ranges : FnScope nCheckRg ["tree", "ranges"] (defScope s_check_ranges) := ⟨rfl, rfl, rfl, by decide +kernel, rfl, by decide +kernel, by decide +kernel⟩
theorem kvX_at {f : Str → V} {l : List Str} {i : Nat} {kv : Key × V} (h : (kvX f l)[i]? = some kv) : ∃ z, kv = (.inr z, f z) ∧ l[i]? = some z := by
  unfold kvX at h
  rw [List.getElem?_map] at h
  obtain ⟨z, hz, e⟩ := Option.map_eq_some_iff.mp h
  exact ⟨z, e.symm, hz⟩
theorem ok_check_ranges (D : DefAt K mg "check_ranges" s_check_ranges ["tree", "ranges"]) (B : TxB mg) (TC : TxC K mg) (T : TxT K mg C) (TQ : TxQ K mg)
    (M : MethAt K C "__contains__" "Tree.__contains__" s_Tree_contains ["self", "x"]) (mK : MethAt K C "kind" "Tree.kind" s_Tree_kind ["self", "box"]) (GK : FnOk P w K mg base CX0 4 mK.f mK.fd ["self", "box"] (spGet C fun r => .str r.ki))
    (Dr : DefAt K mg "is_range" s_is_range ["thing"]) : FnOk P w K mg base CX0 5 D.f D.fd ["tree", "ranges"] (spCheckRg C) := by
  have Gr : FnOk P w K mg base CX0 2 Dr.f Dr.fd ["thing"] spIsRange := ok_is_range Dr B TC
  have G : FnOk P w K mg base CX0 2 M.f M.fd ["self", "x"] (spContains K C) := ok_Tree_contains M.F B T
  obtain ⟨t3, gS⟩ := TQ.shut
  refine D.F.ok sc_check_ranges (fun vs H Q E h => ?_) (fun cdv A outer s H vs Q E hr h => ?_)
  · obtain ⟨t, d, rs, L, g, rfl, _⟩ := h
    rfl
  · obtain ⟨t, d, rs, L, g, rfl, ht, ⟨ad, hd, hg⟩, hok, hq⟩ := h
    have r2 : Room 2 _ := hr.mono (by decide)
    refine ⟨_, pss_one (ps_lock (ps_for PassesOwn.never rfl (pi_items (pv 1)) (pg_tup rfl (pgs_cons (pg_name (i := 2) sc_check_ranges.nd rfl (.inl rfl)) (pgs_cons (pg_name (i := 3) sc_check_ranges.nd rfl (.inl rfl)) pgs_nil)))
        (pss_one (ps_if (PW.pt (pw_or (pt_cmpR (op_notinC G M.m r2 M.b pass0) (pv 2) (pv 0) (by rfl)) (pw_or (pt_cmpR op_ne (pe_meth (pv 0) T.cl mK.m GK hr mK.b .nil pass0 (pa_cons (pv 2) pa_nil)) (pe_glob (by rfl) gS (v := .str ("shut" : Str)) ⟨_, rfl⟩) (nomark _)) (pw_or1 (pt_not (pt_val (pe_call Gr r2 rfl Dr.g Dr.F.kp Dr.b .nil pass0 (pa_cons (pv 3) pa_nil)))))))) (pss_one ps_never) pss_nil)))), ?_⟩
    refine ⟨d, _, hd, trivial, fun od => ?_⟩
    obtain ⟨Hl, El⟩ : ∃ Hx, Hx = upd H d (.frz od (.dK (kvX (fun z => V.ref (ad z)) L))) := ⟨_, rfl⟩
    have lk : Hl d = some (.frz od (.dK (kvX (fun z => V.ref (ad z)) L))) := by rw [El]; exact upd_same
    have keep : ∀ b o, H b = some o → b ≠ d → Hl b = some o := fun b o e n => by rw [El, upd_ne n]; exact e
    have back : ∀ H', Same Hl H' → Same H (upd H' d (.dK (kvX (fun z => V.ref (ad z)) L))) := fun H' s b o e => by
      by_cases q : b = d
      · rw [q, upd_same, ← e, q]; exact hd.symm
      · rw [upd_ne q]; exact s _ _ (keep b o e q)
    have tl : L ≠ [] → TreeAt C Hl t rs := fun h => by rw [El]; exact ht.lockR hd h
    rw [← El]
    clear El
    refine ⟨_, rfl, d, od, _, rfl, lk, ?_⟩
    refine for_it (walk_items (d := d) (o := od) (kvs := kvX (fun z => V.ref (ad z)) L)) (fun i σ H' => ∃ v1 v2 : Option V, σ = [some (.ref t), some (.ref d), v1, v2] ∧ Same Hl H') ⟨none, none, rfl, Same.refl _⟩ (fun i σ H' _ ⟨_, _, _, s⟩ => s _ _ lk) ?_ ?_
    · rintro i x σ H2 H3 hi ⟨v1, v2, rfl, s2⟩ ⟨Tq, kx, vx, rfl, hT, rfl, hkx, hvx⟩
      rw [Option.map_eq_some_iff] at hkx hvx
      obtain ⟨⟨k', v'⟩, hk, rfl⟩ := hkx
      obtain ⟨⟨k'', v''⟩, hk2, rfl⟩ := hvx
      rw [hk] at hk2
      cases Option.some.inj hk2
      obtain ⟨z, ez, hz⟩ := kvX_at hk
      cases ez
      have hzm := List.mem_of_getElem? hz
      obtain ⟨hzok, r, hro, hki⟩ := hok z hzm
      have sT : Same H2 (upd H2 Tq (.tup [V.str z, V.ref (ad z)])) := Same.new hT
      have eT : (upd H2 Tq (.tup [V.str z, V.ref (ad z)])) Tq = some (.tup [V.str z, V.ref (ad z)]) := upd_same
      show gTup K 2 _ _ _ (upd H2 Tq (.tup [V.str z, V.ref (ad z)])) _
      generalize upd H2 Tq (.tup [V.str z, V.ref (ad z)]) = H4 at sT eT
      have s4 := s2.trans sT
      have ht4 := (tl (fun e => by rw [e] at hzm; cases hzm)).same s4
      obtain ⟨dx, q, f, k, p, qs, h1, _⟩ := id ht4.ex
      have noK : (tf q f k p).lookup ("kind" : Str) = none := tf_no _ _ _ _ (by decide +kernel) (by decide +kernel) (by decide +kernel) (by decide +kernel)
      have sq : Seq H4 (ad z) (rgV (g z)) := by
        have h0 := hg z hzm
        have nd : ad z ≠ d := fun e => by rw [e] at h0; rcases h0 with h0 | h0 <;> (rw [hd] at h0; cases h0)
        exact (show Seq Hl (ad z) (rgV (g z)) from h0.imp (fun h => keep _ _ h nd) (fun h => keep _ _ h nd)).same s4
      have hzn : z ∈ names rs := by
        exact rowOf_in hro
      refine ⟨Tq, _, rfl, sqT eT, rfl, _, _, rfl, _, _, rfl, rfl, ?_⟩
      refine ⟨_, rfl, _, rfl, t, dx, _, rfl, h1, t, _, rs, rfl, ht4, .inl ⟨z, rfl, _, rfl, _, rfl, ?_⟩⟩
      rw [decide_eq_true hzn]
      refine iteF ⟨_, rfl, t, dx, _, rfl, h1, noK, _, rfl, t, z, rs, r, rfl, ht4, hro, rfl, _, rfl, ?_⟩
      refine iteF' (by simp [hki]) ⟨_, rfl, ad z, g z, rfl, sq, hzok, fun H5 s5 => ⟨_, rfl, iteF ⟨_, _, rfl, s4.trans s5⟩⟩⟩
    · rintro σ H2 ⟨v1, v2, rfl, s2⟩
      exact ⟨s2 _ _ lk, hq _ (back _ s2)⟩
abbrev nRangesOf : List Str := ["tree", "ranges", "found", "box"]
theorem sc_ranges_of : FnScope nRangesOf ["tree", "ranges"] (defScope s_ranges_of) := ⟨rfl, rfl, rfl, by decide +kernel, rfl, by decide +kernel, by decide +kernel⟩
theorem ok_ranges_of (D : DefAt K mg "ranges_of" s_ranges_of ["tree", "ranges"]) (B : TxB mg) (TC : TxC K mg) (T : TxT K mg C) (TQ : TxQ K mg)
    (mB : MethAt K C "below" "Tree.below" s_Tree_below ["self", "box"]) (GB : FnOk P w K mg base CX0 5 mB.f mB.fd ["self", "box"] (spListOf C belowL))
    (mK : MethAt K C "kind" "Tree.kind" s_Tree_kind ["self", "box"]) (GK : FnOk P w K mg base CX0 4 mK.f mK.fd ["self", "box"] (spGet C fun r => .str r.ki)) : FnOk P w K mg base CX0 6 D.f D.fd ["tree", "ranges"] (spRangesOf K C) := by
  obtain ⟨t1, gT⟩ := TC.top
  obtain ⟨t2, gI⟩ := TQ.item
  obtain ⟨t3, gS⟩ := TQ.shut
  refine D.F.ok sc_ranges_of (fun vs H Q E h => ?_) (fun cdv A outer s H vs Q E hr h => ?_)
  · obtain ⟨t, d, rs, L, g, rfl, _⟩ := h
    rfl
  · obtain ⟨t, d, rs, L, g, rfl, ht, hRg, hL, hq⟩ := h
    have hu := hu_of hr
    have r4 : Room 4 _ := hr.mono (by decide)
    refine ⟨_, pss_cons (ps_set (i := 2) sc_ranges_of.nd rfl (.inl rfl) (pe_disp (pps_cons (pe_glob (by rfl) gT (v := .str ("top" : Str)) ⟨_, rfl⟩) (pe_glob (by rfl) TQ.no (v := .ref TQ.noA) rfl) pps_nil) (by rfl) (by rfl) (fun z => by cases z) (by decide)))
      (pss_cons (ps_for PassesOwn.never rfl (pi_list (pe_meth (pv 0) T.cl mB.m GB hr mB.b .nil pass0 (pa_cons (pe_glob (by rfl) gT (v := .str ("top" : Str)) ⟨_, rfl⟩) pa_nil))) (pg_name (i := 3) sc_ranges_of.nd rfl (.inl rfl))
        (pss_one (ps_if (pt_cmpR op_eq (pe_meth (pv 0) T.cl mK.m GK r4 mK.b .nil pass0 (pa_cons (pv 3) pa_nil)) (pe_glob (by rfl) gS (v := .str ("shut" : Str)) ⟨_, rfl⟩) (nomark _))
          (pss_one (ps_dput hu (pv 2) (pv 3) (pe_callTy (T := "tuple") call_tuple_of (by rfl) B.tuple (by decide +kernel) (pa_cons (pe_dget2 hu (pv 1) (pv 3) (pe_glob (by rfl) TQ.any (v := .ref TQ.anyA) rfl) (by constructor <;> intros <;> rfl)) pa_nil)) rfl))
          (pss_one (ps_dput hu (pv 2) (pv 3) (pe_ifExp (pt_cmpR op_eq (pe_meth (pv 0) T.cl mK.m GK r4 mK.b .nil pass0 (pa_cons (pv 3) pa_nil)) (pe_glob (by rfl) gI (v := .str ("item" : Str)) ⟨_, rfl⟩) (nomark _)) (pe_glob (by rfl) TQ.one (v := .ref TQ.oneA) rfl) (pe_glob (by rfl) TQ.no (v := .ref TQ.noA) rfl)) rfl)))))
      (pss_one (ps_ret (pv 2)))), ?_⟩
    have hv := ht.val
    have l100 := ht.len
    obtain ⟨dx, q, f, k, p, qs, h1, _⟩ := id ht.ex
    have noB : (tf q f k p).lookup ("below" : Str) = none := tf_no _ _ _ _ (by decide +kernel) (by decide +kernel) (by decide +kernel) (by decide +kernel)
    have noK : (tf q f k p).lookup ("kind" : Str) = none := tf_no _ _ _ _ (by decide +kernel) (by decide +kernel) (by decide +kernel) (by decide +kernel)
    refine fun wd hwd => ⟨upd_same, [(.inr ("top" : Str), .ref TQ.noA)], rfl, (by show 1 ≤ 15; decide), ?_⟩
    have sA : Same H (upd (upd H wd (.dK [])) wd (.dK (mergeK [] [(.inr ("top" : Str), .ref TQ.noA)]))) := fun b o e => by
      rw [upd_ne (ne_of_none e hwd), upd_ne (ne_of_none e hwd)]; exact e
    have eA : (upd (upd H wd (.dK [])) wd (.dK (mergeK [] [(.inr ("top" : Str), .ref TQ.noA)]))) wd = some (.dK (kvX (fun _ => V.ref TQ.noA) ["top"])) := upd_same
    generalize upd (upd H wd (.dK [])) wd (.dK (mergeK [] [(.inr ("top" : Str), .ref TQ.noA)])) = H1 at sA eA
    refine ⟨_, rfl, t, dx, _, rfl, sA _ _ h1, noB, t, ("top" : Str), rs, rfl, ht.same sA, .inl rfl, fun bl H2 hbl s2 e2 => ?_⟩
    rw [below_top hv] at e2
    have nbw : bl ≠ wd := fun e => by rw [← e, hbl] at eA; cases eA
    have sB : SB wd H H2 := SB.of (sA.trans s2)
    have ptop : pairR rs L g "top" = noI := by
      unfold pairR
      rw [show rowOf rs ("top" : Str) = none from by
        cases e : rowOf rs ("top" : Str) with
        | none => rfl
        | some r => exact absurd (rowOf_in e) (top_not hv)]
    refine ⟨bl, rfl, ⟨_, SqL.of e2⟩, ?_⟩
    refine for_list (K := K) (a := bl) (xs := (names rs).map V.str) (fun i σ H' => ∃ v : Option V, σ = [some (.ref t), some (.ref d), some (.ref wd), v] ∧ SB wd H2 H' ∧ PrsAt K H' wd ("top" :: names (rs.take i)) (pairR rs L g)) ⟨_, rfl, SB.refl _ _, ⟨fun _ => TQ.noA, s2 _ _ eA, fun z hz => ?_⟩⟩ (fun i σ H' _ ⟨_, _, sb, _⟩ => SqL.of (sb _ _ nbw e2)) ?_ ?_
    · rw [List.mem_singleton.mp (show z ∈ [("top" : Str)] from hz), ptop]
      exact TQ.noT _
    · rintro i x σ H3 hx ⟨v, rfl, sb, ad, hw, hp⟩
      unfold names at hx
      rw [List.getElem?_map, List.getElem?_map] at hx
      obtain ⟨n1, hn1, rfl⟩ := Option.map_eq_some_iff.mp hx
      obtain ⟨r, hr', rfl⟩ := Option.map_eq_some_iff.mp hn1
      have ro := rowOf_at hv hr'
      have s3 : Same H H3 := same_sb hwd (sB.trans sb)
      have t3 := ht.same s3
      have hRg3 := hRg.same s3
      have fit := hv i r hr'
      have hnew : r.nm ∉ ("top" : Str) :: names (rs.take i) := fun h => by
        rcases List.mem_cons.mp h with h | h
        · exact fit.top h
        · exact fit.new h
      have put : ∀ (a : Addr) (G : Hp), Same H3 G → SqT K G a (rgV (pairR rs L g r.nm)) → ∃ (a_1 : Addr) (H4 : Hp), V.ref wd = V.ref a_1 ∧ DPut G a_1 (.str r.nm) (.ref a) H4 ∧ ∃ v : Option V, [some (V.ref t), some (.ref d), some (.ref wd), some (.str r.nm)] = [some (V.ref t), some (.ref d), some (.ref wd), v] ∧ SB wd H2 H4 ∧ PrsAt K H4 wd ("top" :: names (rs.take (i + 1))) (pairR rs L g) := by
        intro a G s ha
        have hwG := s _ _ hw
        refine ⟨wd, _, rfl, DPut.k (k := Sum.inr r.nm) hwG (small1000 (by unfold kvX names; rw [List.length_map, List.length_cons, List.length_map, List.length_take]; omega)), _, rfl, fun b o nb e => by rw [upd_ne nb]; exact s _ _ (sb b o nb e), fun y => if y = r.nm then a else ad y, ?_, fun y hy => ?_⟩
        · rw [upd_same, kvX_put hnew]
          have el : (("top" : Str) :: names (rs.take i)) ++ [r.nm] = ("top" : Str) :: names (rs.take (i + 1)) := by unfold names; rw [take_more hr', List.map_append]; rfl
          rw [el]
          congr 3
          funext y
          by_cases e : y = r.nm
          · simp [e]
          · simp [e]
        · by_cases e : y = r.nm
          · show SqT K _ (if y = r.nm then a else ad y) _
            rw [if_pos e, e]
            exact sqT_upd ha hwG
          · show SqT K _ (if y = r.nm then a else ad y) _
            rw [if_neg e]
            refine sqT_upd (sqT_same (hp y ?_) s) hwG
            rcases List.mem_cons.mp hy with h | h
            · rw [h]; exact List.mem_cons_self ..
            · unfold names at h
              rw [take_more hr', List.map_append] at h
              rcases List.mem_append.mp h with h | h
              · exact List.mem_cons_of_mem _ h
              · exact absurd (List.mem_singleton.mp h) e
      have epr : pairR rs L g r.nm = if r.ki = ("shut" : Str) then (if r.nm ∈ L then g r.nm else anyI) else if r.ki = ("item" : Str) then oneI else noI := by
        unfold pairR
        rw [ro]
      refine ⟨_, rfl, t, dx, _, rfl, s3 _ _ h1, noK, _, rfl, t, r.nm, rs, r, rfl, t3, ro, rfl, _, rfl, ?_⟩
      by_cases hk : r.ki = ("shut" : Str)
      · rw [decide_eq_true (congrArg V.str hk)]
        rw [if_pos hk] at epr
        obtain ⟨ad0, hd3, hg3⟩ := hRg3
        refine iteT ⟨_, rfl, d, rfl, .inl ⟨_, .inl hd3⟩, _, rfl, _, DGet.k (k := Sum.inr r.nm) hd3, ?_⟩
        by_cases hm : r.nm ∈ L
        · rw [valV_kvX _ hm]
          rw [if_pos hm] at epr
          have hs := hg3 _ hm
          rw [← epr] at hs
          refine ⟨ad0 r.nm, rgV (pairR rs L g r.nm), rfl, ?_⟩
          rcases hs with hs | hs
          · exact .inr ⟨sqT hs, _, rfl, _, rfl, put _ _ (Same.refl _) (sqT hs)⟩
          · exact .inl ⟨SqL.of hs, fun l hl => ⟨_, rfl, _, rfl, put _ _ (Same.new hl) (sqT upd_same)⟩⟩
        · rw [valV_kvX_none hm]
          rw [if_neg hm] at epr
          refine ⟨TQ.anyA, _, rfl, .inr ⟨TQ.anyT _, _, rfl, _, rfl, put _ _ (Same.refl _) ?_⟩⟩
          rw [epr]
          exact TQ.anyT _
      · rw [decide_eq_false (fun e => hk (V.str.inj e))]
        rw [if_neg hk] at epr
        refine iteF ⟨_, rfl, t, dx, _, rfl, s3 _ _ h1, noK, _, rfl, t, r.nm, rs, r, rfl, t3, ro, rfl, _, rfl, ?_⟩
        by_cases hi : r.ki = ("item" : Str)
        · rw [decide_eq_true (congrArg V.str hi)]
          rw [if_pos hi] at epr
          refine iteT ⟨_, rfl, _, rfl, put _ _ (Same.refl _) ?_⟩
          rw [epr]
          exact TQ.oneT _
        · rw [decide_eq_false (fun e => hi (V.str.inj e))]
          rw [if_neg hi] at epr
          refine iteF ⟨_, rfl, _, rfl, put _ _ (Same.refl _) ?_⟩
          rw [epr]
          exact TQ.noT _
    · rintro σ H3 ⟨v, rfl, sb, hp⟩
      rw [show ((names rs).map V.str).length = rs.length from by unfold names; rw [List.length_map, List.length_map], List.take_length] at hp
      exact ⟨_, rfl, hq wd H3 hwd (same_sb hwd (sB.trans sb)) hp⟩
end
end Ts

set_option maxRecDepth 100000
set_option maxHeartbeats 4000000
namespace Ts
open PySem L2
theorem walk_in {J : It} {n : Nat} {G : Hp → Prop} {Y : Nat → Hp → V → Hp → Prop} (wk : Walk J n G Y) {B : V → Hp → (Hp → Prop) → Prop} {Dn : Hp → Prop} {H0 : Hp} (I : Nat → Hp → Prop) (start : I 0 H0) (stays : ∀ i H, i ≤ n → I i H → G H)
    (turn : ∀ i x H H', i < n → I i H → Y i H x H' → B x H' (I (i + 1))) (done : ∀ H, I n H → Dn H) :
    ∃ W : Nat → Nat → Hp → Prop, (∃ m, W 0 m H0) ∧ ∀ i m H, W i m H → (J.stop i H ∧ Dn H) ∨ (J.go i H ∧ ∃ Nx : Hp → Prop, (∀ H', Nx H' → ∃ m', m' < m ∧ W (i + 1) m' H') ∧ ∀ x H', J.yld i H x H' → B x H' Nx) := by
  refine ⟨fun i m H => m = n - i ∧ i ≤ n ∧ I i H, ⟨n, by simp, Nat.zero_le _, start⟩, ?_⟩
  rintro i m H ⟨rfl, hi, here⟩
  have ok := stays i H hi here
  rcases Nat.lt_or_ge i n with lt | ge
  · exact .inr ⟨wk.goes i H lt ok, I (i + 1), fun H' h' => ⟨n - (i + 1), by omega, rfl, lt, h'⟩, fun x H' y => turn i x H H' lt here (wk.yields i H x H' lt ok y)⟩
  · obtain rfl : i = n := Nat.le_antisymm hi ge
    exact .inl ⟨wk.stops H ok, done H here⟩
/-! ### sums of ranges -/
def rgSum (l : List Rg) : Rg := ⟨(l.map (·.lo)).sum, if l.any (fun q => decide (q.hi = none)) then none else some ((l.map fun q => q.hi.getD 0).sum)⟩
/-- the places of a value within a place -/
def sideL (rs : List Row) (v : Str → Bool) (z : Str) (b : Bool) : List Str := (z :: belowL rs z).filter fun y => decide (v y = b)
def numW (rs : List Row) (pr : Str → Rg) (v : Str → Bool) (z : Str) (b : Bool) : Rg := rgSum ((sideL rs v z b).map pr)
theorem below_len (rs : List Row) (z : Str) : (belowL rs z).length ≤ rs.length := by
  unfold belowL
  rw [List.length_map]
  exact List.length_filter_le _ _
theorem below_names {rs : List Row} {z y : Str} (h : y ∈ belowL rs z) : y ∈ names rs := by
  obtain ⟨r, hr, rfl⟩ := List.mem_map.mp h
  exact List.mem_map.mpr ⟨r, (List.mem_filter.mp hr).1, rfl⟩
theorem filt_more {α : Type} {l : List α} {i : Nat} {x : α} (h : l[i]? = some x) (p : α → Bool) : (l.take (i + 1)).filter p = (l.take i).filter p ++ (if p x = true then [x] else []) := by
  rw [take_more h, List.filter_append]
  congr 1
  by_cases q : p x = true
  · rw [if_pos q]; simp [q]
  · rw [if_neg q]; simp [q]
theorem dec_bl (p q : Bool) : decide (V.bl p = V.bl q) = decide (p = q) := by cases p <;> cases q <;> rfl
theorem prV_non (o : Option Int) : (prV o = V.non) ↔ o = none := by cases o <;> simp [prV]
theorem inV_prs : ∀ l : List (Option Int), inV .non (l.map prV) = l.any fun o => decide (o = none) := by
  intro l
  induction l with
  | nil => rfl
  | cons o l ih =>
    rw [List.map_cons, List.any_cons, ← ih]
    cases o <;> rfl
theorem flat_prs (l : List (Option Int)) : (l.map prV).all flatV = true := by
  rw [List.all_map]
  exact List.all_eq_true.mpr fun o _ => by cases o <;> rfl
theorem prs_ints : ∀ l : List Rg, (l.any fun q => decide (q.hi = none)) = false → l.map (fun q => prV q.hi) = (l.map fun q => q.hi.getD 0).map V.int
  | [], _ => rfl
  | q :: l, h => by
    rw [List.any_cons, Bool.or_eq_false_iff] at h
    rw [List.map_cons, List.map_cons, List.map_cons, prs_ints l h.2]
    congr 1
    cases e : q.hi with
    | none => rw [e] at h; simp at h
    | some i => rfl
def mayB (g : Rg) : List Bool := (if g.lo = 0 then [false] else []) ++ (if g.hi ≠ some 0 then [true] else [])
theorem mayB_len (g : Rg) : (mayB g).length ≤ 2 := by
  unfold mayB
  rw [List.length_append]
  split <;> split <;> simp
def shownS (a b : Bool) : Str := if a && b then "part" else if a then "on" else if b then "off" else "none"
def wordsB (x y : List Bool) : List Str := (x.map fun a => y.map fun b => shownS a b).flatten
structure TxK (K : PySem.W.Frag) (mg : Str → Option Value) (CC : Addr) : Prop where
  cl : Cls K CC
  nt : NoAttr K CC "tree"
  np : NoAttr K CC "pairs"
  g : mg "Counts" = some (.ref CC)
structure TxS (mg : Str → Option Value) : Prop where
  part : ∃ t, mg "PART" = some (.str "part" t)
  none_ : ∃ t, mg "NONE" = some (.str "none" t)
  on : ∃ t, mg "ON" = some (.str "on" t)
  off : ∃ t, mg "OFF" = some (.str "off" t)
def HasT (K : PySem.W.Frag) (H : Hp) (x t : Addr) : Prop := ∃ (C2 dx : Addr) (fs : List (Str × V)), H x = some (.ins C2 dx fs) ∧ Cls K C2 ∧ NoAttr K C2 "tree" ∧ fs.lookup ("tree" : Str) = some (V.ref t)
def Near (K : PySem.W.Frag) (C : Addr) (H : Hp) (x y : Addr) : Prop := ∃ (t1 t2 : Addr) (rs : List Row), HasT K H x t1 ∧ HasT K H y t2 ∧ TreeAt C H t1 rs ∧ TreeAt C H t2 rs
theorem MV.has {K : PySem.W.Frag} {mg : Str → Option Value} {C CM : Addr} {H : Hp} {m t : Addr} {rs : List Row} {v : Str → Bool} (h : MV C CM H m t rs v) (M : TxM K mg CM) : HasT K H m t := by
  obtain ⟨dx, u, k, h1, _⟩ := h.turns.ex
  exact ⟨CM, dx, _, h1, M.cl, M.nt, mf_t _ _ _ _⟩
theorem cf_t (t k : Addr) : (cf t k).lookup ("tree" : Str) = some (V.ref t) := by unfold cf; rfl
theorem cf_p (t k : Addr) : (cf t k).lookup ("pairs" : Str) = some (V.ref k) := by unfold cf; rfl
theorem CntAt.has {K : PySem.W.Frag} {mg : Str → Option Value} {C CC : Addr} {H : Hp} {c t : Addr} {rs : List Row} {pr : Str → Rg} (h : CntAt K C CC H c t rs pr) (TK : TxK K mg CC) : HasT K H c t := by
  obtain ⟨dx, k, h1, _⟩ := h.ex
  exact ⟨CC, dx, _, h1, TK.cl, TK.nt, cf_t _ _⟩
/-- counts and a meaning of trees that are alike, and a place -/
structure CMZ (K : PySem.W.Frag) (C CM CC : Addr) (H : Hp) (c m : Addr) (rs : List Row) (pr : Str → Rg) (v : Str → Bool) : Prop where
  ex : ∃ t t2 : Addr, CntAt K C CC H c t rs pr ∧ MV C CM H m t2 rs v
theorem CMZ.same {K : PySem.W.Frag} {C CM CC : Addr} {H H' : Hp} {c m : Addr} {rs : List Row} {pr : Str → Rg} {v : Str → Bool} (h : CMZ K C CM CC H c m rs pr v) (s : Same H H') : CMZ K C CM CC H' c m rs pr v := let ⟨t, t2, h1, h2⟩ := h.ex; ⟨⟨t, t2, h1.same s, h2.same s⟩⟩
def spTreesN (K : PySem.W.Frag) (C : Addr) : Sp := fun vs H Q _ => ∃ x y : Addr, vs = [.ref x, .ref y] ∧ Near K C H x y ∧ Q .non H
def spCountsInit (K : PySem.W.Frag) (C CC : Addr) : Sp := fun vs H Q _ => ∃ (c dx t d : Addr) (rs : List Row) (L : List Str) (g : Str → Rg), vs = [.ref c, .ref t, .ref d] ∧ H c = some (.ins CC dx []) ∧ TreeAt C H t rs ∧ RgsAt H d L g ∧ L.length ≤ 100 ∧ (∀ z ∈ L, (g z).ok ∧ ∃ r, rowOf rs z = some r ∧ r.ki = ("shut" : Str)) ∧
  ∀ H', SB c H H' → CntAt K C CC H' c t rs (pairR rs L g) → Q .non H'
def spNum (K : PySem.W.Frag) (C CM CC : Addr) : Sp := fun vs H Q _ => ∃ (c m : Addr) (z : Str) (b : Bool) (rs : List Row) (pr : Str → Rg) (v : Str → Bool), vs = [.ref c, .ref m, .str z, .bl b] ∧ CMZ K C CM CC H c m rs pr v ∧ z ∈ plc rs ∧
  ∀ a H', Same H H' → SqT K H' a (rgV (rgSum ((sideL rs v z b).map pr))) → Q (.ref a) H'
def spSide (K : PySem.W.Frag) (C CM CC : Addr) (b : Bool) : Sp := fun vs H Q _ => ∃ (c m : Addr) (z : Str) (rs : List Row) (pr : Str → Rg) (v : Str → Bool), vs = [.ref c, .ref m, .str z] ∧ CMZ K C CM CC H c m rs pr v ∧ z ∈ plc rs ∧
  ∀ a H', Same H H' → SqT K H' a (rgV (numW rs pr v z b)) → Q (.ref a) H'
def spMay (K : PySem.W.Frag) : Sp := fun vs H Q _ => ∃ (a : Addr) (g : Rg), vs = [.ref a] ∧ SqT K H a (rgV g) ∧ ∀ D H', H D = none → Same H H' → H' D = some (.lst ((mayB g).map V.bl)) → Q (.ref D) H'
def spShown : Sp := fun vs H Q _ => ∃ a b : Bool, vs = [.bl a, .bl b] ∧ Q (.str (shownS a b)) H
def spShows (K : PySem.W.Frag) (C CM CC : Addr) : Sp := fun vs H Q _ => ∃ (c m : Addr) (z : Str) (rs : List Row) (pr : Str → Rg) (v : Str → Bool), vs = [.ref c, .ref m, .str z] ∧ CMZ K C CM CC H c m rs pr v ∧ z ∈ plc rs ∧
  ∀ D H' (ws : List Str), H D = none → Same H H' → H' D = some (.lst (ws.map V.str)) → ws.Perm (wordsB (mayB (numW rs pr v z true)) (mayB (numW rs pr v z false))) → PyProof.Rows.sortedS ws = true → Q (.ref D) H'
section
variable {P : Program} {w : World} {K : PySem.W.Frag} {mg : Str → Option Value} {base : Heap} {C CM CC : Addr}
theorem ok_treesN (D : DefAt K mg "check_trees" s_check_trees ["one", "other"]) (N : TxN K C)
    (mE : MethAt K C "__eq__" "Tree.__eq__" s_Tree_eq ["self", "other"]) (GE : FnOk P w K mg base CX0 2 mE.f mE.fd ["self", "other"] (spEqT K C)) : FnOk P w K mg base CX0 4 D.f D.fd ["one", "other"] (spTreesN K C) := by
  refine D.F.ok sc_check_trees (fun vs H Q E h => ?_) (fun cdv A outer s H vs Q E hr h => ?_)
  · obtain ⟨x, y, rfl, _⟩ := h
    rfl
  · obtain ⟨x, y, rfl, ⟨t1, t2, rs, ⟨C1, d1, fs1, h1, c1, n1, k1⟩, ⟨C2, d2, fs2, h2, c2, n2, k2⟩, ht1, ht2⟩, hq⟩ := h
    obtain ⟨tdx, _, _, _, _, _, e1, _⟩ := id ht1.ex
    obtain ⟨tdx2, _, _, _, _, _, e3, _⟩ := id ht2.ex
    refine ⟨_, pss_one (ps_if (pt_cmpR (op_neC GE mE.m N.ne N.ob (hr.mono (by decide)) mE.b pass0) (pe_fld (pv 0) rfl) (pe_fld (pv 1) rfl) (nomark _)) (pss_one ps_never) pss_nil), ?_⟩
    refine ⟨_, rfl, x, C1, d1, _, _, rfl, h1, c1, n1, k1, _, rfl, y, C2, d2, _, _, rfl, h2, c2, n2, k2, t1, tdx, _, .ref C, rfl, e1, .ins e3, nfC, t1, _, rs, rfl, ht1, .inl ⟨t2, rs, rfl, ht2, _, rfl, _, rfl, ?_⟩⟩
    exact iteF' (by simp) hq
abbrev nCountsInit : List Str := ["self", "tree", "ranges", "told"]
theorem sc_Counts_init : FnScope nCountsInit ["self", "tree", "ranges"] (defScope s_Counts_init) := ⟨rfl, rfl, rfl, by decide +kernel, rfl, by decide +kernel, by decide +kernel⟩
theorem ok_Counts_init {f : Addr} {fd : FuncData} {dvs : List V} (F : FunD K "__init__" "Counts.__init__" (defArgs s_Counts_init) (defBody s_Counts_init) (defScope s_Counts_init) dvs [] f fd) (TK : TxK K mg CC)
    (Dc : DefAt K mg "check_ranges" s_check_ranges ["tree", "ranges"]) (Gc : FnOk P w K mg base CX0 5 Dc.f Dc.fd ["tree", "ranges"] (spCheckRg C))
    (Do : DefAt K mg "ranges_of" s_ranges_of ["tree", "ranges"]) (Go : FnOk P w K mg base CX0 6 Do.f Do.fd ["tree", "ranges"] (spRangesOf K C)) : FnOk P w K mg base CX0 7 f fd ["self", "tree", "ranges"] (spCountsInit K C CC) := by
  refine F.ok sc_Counts_init (fun vs H Q E h => ?_) (fun cdv A outer s H vs Q E hr h => ?_)
  · obtain ⟨c, dx, t, d, rs, L, g, rfl, _⟩ := h
    rfl
  · obtain ⟨c, dx, t, d, rs, L, g, rfl, hc, ht, hRg, hl, hok, hq⟩ := h
    have r5 : Room 5 _ := hr.mono (by decide)
    refine ⟨_, pss_cons (ps_set (i := 3) sc_Counts_init.nd rfl (.inl rfl) (pe_ifExp (pt_cmpR op_isN (pv 2) pe_non (nomark _)) pe_dnewK (pv 2)))
      (pss_cons (ps_expr (pe_call Gc r5 rfl Dc.g Dc.F.kp Dc.b .nil pass0 (pa_cons (pv 1) (pa_cons (pv 3) pa_nil))))
      (pss_cons (ps_fld (pv 0) (pv 1) rfl)
      (pss_one (ps_fld (pv 0) (pe_call Go hr rfl Do.g Do.F.kp Do.b .nil pass0 (pa_cons (pv 1) (pa_cons (pv 3) pa_nil))) rfl)))), ?_⟩
    refine ⟨_, rfl, rfl, _, rfl, iteF' (decide_eq_false (fun e => by cases e)) ⟨_, rfl, ?_⟩⟩
    refine ⟨_, rfl, _, rfl, t, d, rs, L, g, rfl, ht, hRg, hok, fun H1 s1 => ?_⟩
    refine ⟨_, rfl, _, rfl, c, CC, dx, _, rfl, s1 _ _ hc, TK.cl, TK.nt, (by show 0 < 1000; decide), ?_⟩
    have sb2 : SB c H (upd H1 c (.ins CC dx (putF "tree" (.ref t) []))) := fun b o nb e => by rw [upd_ne nb]; exact s1 _ _ e
    have c2 : (upd H1 c (.ins CC dx (putF "tree" (.ref t) []))) c = some (.ins CC dx (putF "tree" (.ref t) [])) := upd_same
    generalize upd H1 c (.ins CC dx (putF "tree" (.ref t) [])) = H2 at sb2 c2
    have ht2 : TreeAt C H2 t rs := ht.sbm hc sb2
    have rg2 : RgsAt H2 d L g := by
      obtain ⟨ad, h1, h2⟩ := hRg
      refine ⟨ad, sb2 _ _ (fun e => by rw [e, hc] at h1; cases h1) h1, fun z hz => ?_⟩
      have h3 := h2 z hz
      have nc : ad z ≠ c := fun e => by rw [e] at h3; rcases h3 with h3 | h3 <;> (rw [hc] at h3; cases h3)
      exact h3.imp (sb2 _ _ nc) (sb2 _ _ nc)
    refine ⟨_, rfl, _, rfl, t, d, rs, L, g, rfl, ht2, rg2, hl, fun D H3 hD s3 hp => ?_⟩
    refine ⟨_, rfl, c, CC, dx, _, rfl, s3 _ _ c2, TK.cl, TK.np, (Nat.lt_of_le_of_lt (putF_len _ _ _) (by decide)), ?_⟩
    have sb4 : SB c H (upd H3 c (.ins CC dx (cf t D))) := fun b o nb e => by rw [upd_ne nb]; exact s3 _ _ (sb2 b o nb e)
    have nDc : D ≠ c := fun e => by rw [e, c2] at hD; cases hD
    refine hq _ sb4 ⟨⟨dx, D, upd_same, ?_⟩, ht.sbm hc sb4⟩
    obtain ⟨ad, h1, h2⟩ := hp
    refine ⟨ad, by rw [upd_ne nDc]; exact h1, fun z hz => ?_⟩
    have h4 := h2 z hz
    have c3 := s3 _ _ c2
    rcases h4 with (h | ⟨o, h⟩) | h
    · exact .inl (.inl (by rw [upd_ne (fun e => by rw [e, c3] at h; cases h)]; exact h))
    · exact .inl (.inr ⟨o, by rw [upd_ne (fun e => by rw [e, c3] at h; cases h)]; exact h⟩)
    · exact .inr h
abbrev nShown : List Str := ["has_on", "has_off"]
theorem sc_shown : FnScope nShown ["has_on", "has_off"] (defScope s_shown) := ⟨rfl, rfl, rfl, by decide +kernel, rfl, by decide +kernel, by decide +kernel⟩
theorem ok_shown (D : DefAt K mg "shown" s_shown ["has_on", "has_off"]) (TS : TxS mg) : FnOk P w K mg base CX0 1 D.f D.fd ["has_on", "has_off"] spShown := by
  obtain ⟨t1, g1⟩ := TS.part
  obtain ⟨t2, g2⟩ := TS.none_
  obtain ⟨t3, g3⟩ := TS.on
  obtain ⟨t4, g4⟩ := TS.off
  refine D.F.ok sc_shown (fun vs H Q E h => ?_) (fun cdv A outer s H vs Q E hr h => ?_)
  · obtain ⟨a, b, rfl, _⟩ := h
    rfl
  · obtain ⟨a, b, rfl, hq⟩ := h
    refine ⟨_, pss_cons (ps_if (PW.pt (pw_and (pt_val (pv 0)) (pw_and1 (pt_val (pv 1))))) (pss_one (ps_ret (pe_glob (by rfl) g1 (v := .str ("part" : Str)) ⟨_, rfl⟩))) pss_nil)
      (pss_cons (ps_if (pt_val (pv 0)) (pss_one (ps_ret (pe_glob (by rfl) g3 (v := .str ("on" : Str)) ⟨_, rfl⟩))) pss_nil)
      (pss_one (ps_ret (pe_ifExp (pt_val (pv 1)) (pe_glob (by rfl) g4 (v := .str ("off" : Str)) ⟨_, rfl⟩) (pe_glob (by rfl) g2 (v := .str ("none" : Str)) ⟨_, rfl⟩))))), ?_⟩
    cases a
    · cases b
      · exact ⟨_, rfl, _, rfl, iteF ⟨_, rfl, _, rfl, iteF ⟨_, rfl, _, rfl, iteF hq⟩⟩⟩
      · exact ⟨_, rfl, _, rfl, iteF ⟨_, rfl, _, rfl, iteF ⟨_, rfl, _, rfl, iteT hq⟩⟩⟩
    · cases b
      · exact ⟨_, rfl, _, rfl, iteT ⟨_, rfl, _, rfl, iteF ⟨_, rfl, _, rfl, iteT hq⟩⟩⟩
      · exact ⟨_, rfl, _, rfl, iteT ⟨_, rfl, _, rfl, iteT hq⟩⟩
abbrev nMay : List Str := ["number", "least", "most"]
theorem sc_may : FnScope nMay ["number"] (defScope s_may_have) := ⟨rfl, rfl, rfl, by decide +kernel, rfl, by decide +kernel, by decide +kernel⟩
theorem ok_may (D : DefAt K mg "may_have" s_may_have ["number"]) : FnOk P w K mg base CX0 1 D.f D.fd ["number"] (spMay K) := by
  refine D.F.ok sc_may (fun vs H Q E h => ?_) (fun cdv A outer s H vs Q E hr h => ?_)
  · obtain ⟨a, g, rfl, _⟩ := h
    rfl
  · obtain ⟨a, g, rfl, ha, hq⟩ := h
    refine ⟨_, pss_cons (ps_asg (pv 0) (pg_tup rfl (pgs_cons (pg_name (i := 1) sc_may.nd rfl (.inl rfl)) (pgs_cons (pg_name (i := 2) sc_may.nd rfl (.inl rfl)) pgs_nil))))
      (pss_one (ps_ret (pe_op op_cat (pe_ifExp (pt_cmpR op_eq (pv 1) pe_int (nomark _)) (pe_lst (pa_cons pe_bl pa_nil)) (pe_lst pa_nil)) (pe_ifExp (pt_cmpR op_ne (pv 2) pe_int (nomark _)) (pe_lst (pa_cons pe_bl pa_nil)) (pe_lst pa_nil))))), ?_⟩
    refine ⟨_, rfl, a, _, rfl, ha, rfl, _, _, rfl, _, _, rfl, rfl, ?_⟩
    have fin : ∀ (l l2 : Addr) (xs ys : List Bool) (H2 : Hp), Same H H2 → H2 l = some (.lst (xs.map V.bl)) → H2 l2 = some (.lst (ys.map V.bl)) → xs ++ ys = mayB g → xs.length + ys.length ≤ 2 → rCat (.ref l) (.ref l2) H2 Q := by
      intro l l2 xs ys H2 s2 e1 e2 ex hl
      refine ⟨l, l2, _, _, rfl, rfl, e1, e2, szl (by rw [List.length_map, List.length_map]; omega), fun p hp => ?_⟩
      refine hq p _ (s2.free hp) (s2.trans (Same.new hp)) ?_
      rw [upd_same, ← List.map_append, ex]
    have two : ∀ (l : Addr) (xs : List Bool) (H1 : Hp), Same H H1 → H1 l = some (.lst (xs.map V.bl)) → xs = (if g.lo = 0 then [false] else []) → ∀ l2, H1 l2 = none → ∀ ys, ys = (if g.hi ≠ some 0 then [true] else []) → rCat (.ref l) (.ref l2) (upd H1 l2 (.lst (ys.map V.bl))) Q := by
      intro l xs H1 s1 e1 ex l2 h2 ys ey
      refine fin l l2 xs ys _ (s1.trans (Same.new h2)) ((Same.new h2) _ _ e1) upd_same (by rw [ex, ey]; rfl) ?_
      rw [ex, ey]
      split <;> split <;> simp
    have sc : scal (prV g.hi) (.int 0) = true := by cases g.hi <;> rfl
    have dh : (!decide (prV g.hi = V.int 0)) = decide (g.hi ≠ some 0) := by
      cases e : g.hi with
      | none => simp [prV]
      | some i =>
        by_cases q : i = 0
        · subst q; simp [prV]
        · simp [prV, q]
    refine ⟨_, rfl, rfl, _, rfl, ?_⟩
    by_cases h0 : g.lo = 0
    · rw [decide_eq_true (congrArg V.int h0)]
      refine iteT ⟨(by show 1 ≤ sizeLine; decide), fun l hl => ?_⟩
      refine ⟨_, rfl, sc, _, rfl, ?_⟩
      rw [dh]
      refine ite2 (fun h => ⟨(by show 1 ≤ sizeLine; decide), fun l2 hl2 => ?_⟩) (fun h => ⟨(by show 0 ≤ sizeLine; decide), fun l2 hl2 => ?_⟩)
      · exact two l [false] _ (Same.new hl) upd_same (by rw [if_pos h0]) l2 hl2 [true] (by rw [if_pos (of_decide_eq_true h)])
      · exact two l [false] _ (Same.new hl) upd_same (by rw [if_pos h0]) l2 hl2 [] (by rw [if_neg (fun q => h (decide_eq_true q))])
    · rw [decide_eq_false (fun q => h0 (V.int.inj q))]
      refine iteF ⟨(by show 0 ≤ sizeLine; decide), fun l hl => ?_⟩
      refine ⟨_, rfl, sc, _, rfl, ?_⟩
      rw [dh]
      refine ite2 (fun h => ⟨(by show 1 ≤ sizeLine; decide), fun l2 hl2 => ?_⟩) (fun h => ⟨(by show 0 ≤ sizeLine; decide), fun l2 hl2 => ?_⟩)
      · exact two l [] _ (Same.new hl) upd_same (by rw [if_neg h0]) l2 hl2 [true] (by rw [if_pos (of_decide_eq_true h)])
      · exact two l [] _ (Same.new hl) upd_same (by rw [if_neg h0]) l2 hl2 [] (by rw [if_neg (fun q => h (decide_eq_true q))])
abbrev nNum : List Str := ["counts", "meaning", "box", "value", "pairs", "mosts", "place", "least", "most"]
theorem sc_num : FnScope nNum ["counts", "meaning", "box", "value"] (defScope s_number_within) := ⟨rfl, rfl, rfl, by decide +kernel, rfl, by decide +kernel, by decide +kernel⟩
theorem ok_num (D : DefAt K mg "number_within" s_number_within ["counts", "meaning", "box", "value"]) (hS : mg "sum" = none) (T : TxT K mg C) (M : TxM K mg CM) (TK : TxK K mg CC)
    (Dt : DefAt K mg "check_trees" s_check_trees ["one", "other"]) (Gt : FnOk P w K mg base CX0 4 Dt.f Dt.fd ["one", "other"] (spTreesN K C))
    (Dp : DefAt K mg "check_place" s_check_place ["tree", "thing"]) (Gp : FnOk P w K mg base CX0 4 Dp.f Dp.fd ["tree", "thing"] (spPlace C))
    (mB : MethAt K C "below" "Tree.below" s_Tree_below ["self", "box"]) (GB : FnOk P w K mg base CX0 5 mB.f mB.fd ["self", "box"] (spListOf C belowL))
    (mV : MethAt K CM "value" "Meaning.value" s_Meaning_value ["self", "box"]) (GV : FnOk P w K mg base CX0 5 mV.f mV.fd ["self", "box"] (spMValue C CM)) :
    FnOk P w K mg base CX0 6 D.f D.fd ["counts", "meaning", "box", "value"] (spNum K C CM CC) := by
  refine D.F.ok sc_num (fun vs H Q E h => ?_) (fun cdv A outer s H vs Q E hr h => ?_)
  · obtain ⟨c, m, z, b, rs, pr, v, rfl, _⟩ := h
    rfl
  · obtain ⟨c, m, z, b, rs, pr, v, rfl, hcm, hz, hq⟩ := h
    have hu := hu_of hr
    have r4 : Room 4 _ := hr.mono (by decide)
    obtain ⟨t, t2, hc, hm⟩ := id hcm.ex
    obtain ⟨dx, k, h1, ad, h2, h3⟩ := id hc.ex
    obtain ⟨tdx, tq, tfo, tk, tp, tqs, g1, _⟩ := id hc.tree.ex
    obtain ⟨mdx, mu, mk, m1, _⟩ := id hm.turns.ex
    have hv := hc.tree.val
    have l100 := hc.tree.len
    have noB : (tf tq tfo tk tp).lookup ("below" : Str) = none := tf_no _ _ _ _ (by decide +kernel) (by decide +kernel) (by decide +kernel) (by decide +kernel)
    have noV : (mf t2 mu mk (v "top")).lookup ("value" : Str) = none := by rfl
    refine ⟨_, pss_cons (ps_expr (pe_call Gt r4 rfl Dt.g Dt.F.kp Dt.b .nil pass0 (pa_cons (pv 0) (pa_cons (pv 1) pa_nil))))
      (pss_cons (ps_expr (pe_call Gp r4 rfl Dp.g Dp.F.kp Dp.b .nil pass0 (pa_cons (pe_fld (pv 0) rfl) (pa_cons (pv 2) pa_nil))))
      (pss_cons (ps_setLc (i := 4) (own := [("place", 6)]) (g := gName 6) (tt := tTest (tOp rEq (tMeth CM "value" (spMValue C CM) [] E0 (tVar 1) (tCons (tVar 6) tNil)) (tVar 3))) (te := tDGet (tFld K (tVar 0) "pairs") (tVar 6)) rfl sc_num.nd rfl rfl (sw_true rfl rfl rfl (by decide +kernel)) (pi_list (pe_op op_cat (pe_lst (pa_cons (pv 2) pa_nil)) (pe_meth (pe_fld (pv 0) rfl) T.cl mB.m GB hr mB.b .nil pass0 (pa_cons (pv 2) pa_nil)))) (blkOk_by (N := nNum) (sc := defScope s_number_within) (by decide +kernel))
          (fun _ _ _ _ _ => pg_name (i := 6) sc_num.nd rfl (Or.inl rfl)) (fun _ _ _ _ _ => by exact pts_one (pt_cmpR op_eq (pe_meth (pv 1) M.cl mV.m GV hr mV.b .nil pass0 (pa_cons (pv 6) pa_nil)) (pv 3) (nomark _))) (fun _ _ _ _ _ => by exact pe_dget hu (pe_fld (pv 0) rfl) (pv 6) (fun _ _ => rfl)))
      (pss_cons (ps_setLc (i := 5) (own := [("least", 7), ("most", 8)]) (g := gTup K 2 (gCons (gName 7) (gCons (gName 8) gNil))) (tt := tYes) (te := tVar 8) rfl sc_num.nd rfl rfl (sw_true rfl rfl rfl (by decide +kernel)) (pi_list (pv 4)) (blkOk_by (N := nNum) (sc := defScope s_number_within) (by decide +kernel))
          (fun _ _ _ _ _ => by exact pg_tup rfl (pgs_cons (pg_name (i := 7) sc_num.nd rfl (Or.inl rfl)) (pgs_cons (pg_name (i := 8) sc_num.nd rfl (Or.inl rfl)) pgs_nil))) (fun _ _ _ _ _ => pts_nil) (fun _ _ _ _ _ => pv 8))
      (pss_one (ps_ret (pe_tup (pa_cons (pe_callB (cr_sum rfl) (by rfl) hS (by decide +kernel) (pa_cons (pe_lc (own := [("least", 7), ("most", 8)]) (g := gTup K 2 (gCons (gName 7) (gCons (gName 8) gNil))) (tt := tYes) (te := tVar 7) rfl sc_num.nd (pi_list (pv 4)) (blkOk_by (N := nNum) (sc := defScope s_number_within) (by decide +kernel))
          (fun _ _ _ _ _ => by exact pg_tup rfl (pgs_cons (pg_name (i := 7) sc_num.nd rfl (Or.inl rfl)) (pgs_cons (pg_name (i := 8) sc_num.nd rfl (Or.inl rfl)) pgs_nil))) (fun _ _ _ _ _ => pts_nil) (fun _ _ _ _ _ => pv 7)) pa_nil))
        (pa_cons (pe_ifExp (pt_cmpR op_in_seq pe_non (pv 5) (by rfl)) pe_non (pe_callB (cr_sum rfl) (by rfl) hS (by decide +kernel) (pa_cons (pv 5) pa_nil))) pa_nil)))))))), ?_⟩
    refine ⟨_, rfl, _, rfl, c, m, rfl, ⟨t, t2, rs, hc.has TK, hm.has M, hc.tree, hm.turns.tree⟩, ?_⟩
    refine ⟨_, rfl, c, CC, dx, _, _, rfl, h1, TK.cl, TK.nt, cf_t _ _, _, rfl, t, z, rs, rfl, hc.tree, mem_plc.mp hz, ?_⟩
    -- the places within
    refine ⟨_, rfl, (by show 1 ≤ sizeLine; decide), fun l1 hl1 => ?_⟩
    have s1 : Same H (upd H l1 (.lst [V.str z])) := Same.new hl1
    have e1 : (upd H l1 (.lst [V.str z])) l1 = some (.lst [V.str z]) := upd_same
    generalize upd H l1 (.lst [V.str z]) = H1 at s1 e1
    refine ⟨_, rfl, c, CC, dx, _, _, rfl, s1 _ _ h1, TK.cl, TK.nt, cf_t _ _, t, tdx, _, rfl, s1 _ _ g1, noB, _, rfl, t, z, rs, rfl, hc.tree.same s1, mem_plc.mp hz, fun bl H2 hbl s2 e2 => ?_⟩
    have lb : (belowL rs z).length ≤ 100 := Nat.le_trans (below_len rs z) l100
    refine ⟨l1, bl, _, _, rfl, rfl, s2 _ _ e1, e2, szl (by rw [List.length_map]; show 1 + _ ≤ 1000; omega), fun pl hpl => ?_⟩
    have s3 := (s1.trans s2).trans (Same.new (o := .lst ([V.str z] ++ (belowL rs z).map V.str)) hpl)
    have e3 : (upd H2 pl (.lst ([V.str z] ++ (belowL rs z).map V.str))) pl = some (.lst ((z :: belowL rs z).map V.str)) := upd_same
    generalize upd H2 pl (.lst ([V.str z] ++ (belowL rs z).map V.str)) = H3 at s3 e3
    have inP : ∀ y ∈ z :: belowL rs z, y ∈ plc rs := fun y hy => by
      rcases List.mem_cons.mp hy with h | h
      · rw [h]; exact hz
      · exact mem_plc.mpr (.inr (below_names h))
    refine ⟨pl, rfl, ⟨_, SqL.of e3⟩, fun D1 hD1 => ?_⟩
    refine lc_list (K := K) (a := pl) (xs := (z :: belowL rs z).map V.str) (fun i H' => Same H3 H' ∧ H' D1 = some (.lst ((((z :: belowL rs z).take i).filter fun y => decide (v y = b)).map fun y => V.ref (ad y)))) ⟨Same.new hD1, upd_same⟩ (fun i H' _ m => SqL.of (m.1 _ _ e3)) ?_ ?_
    · rintro i x H4 hx ⟨s4, e4⟩
      rw [List.getElem?_map] at hx
      obtain ⟨y, hy, rfl⟩ := Option.map_eq_some_iff.mp hx
      have hyp := inP y (List.mem_of_getElem? hy)
      have s4' := s3.trans s4
      have lt : (((z :: belowL rs z).take i).filter fun y => decide (v y = b)).length ≤ 200 := by
        have h1 := List.length_filter_le (fun y => decide (v y = b)) ((z :: belowL rs z).take i)
        rw [List.length_take, List.length_cons] at h1
        omega
      refine ⟨rfl, _, rfl, m, mdx, _, rfl, s4' _ _ m1, noV, _, rfl, m, t2, y, rs, _, _, rfl, hm.turns.same s4', mem_plc.mp hyp, _, rfl, rfl, _, rfl, ?_⟩
      rw [val_turnsG hv v y hyp, dec_bl]
      have dg : DGet H4 k (.str y) (some (.ref (ad y))) := .inl ⟨_, .inr y, .inl (s4' _ _ h2), rfl, (valV_kvX (fun z => V.ref (ad z)) hyp).symm⟩
      refine ite2 (fun hb => ?_) (fun hb => ?_)
      · refine ⟨_, rfl, c, CC, dx, _, _, rfl, s4' _ _ h1, TK.cl, TK.np, cf_p _ _, _, rfl, k, _, rfl, dg, _, e4, small1000 (by rw [List.length_map]; omega), fun o' ob eb => ?_, ?_⟩
        · rw [upd_ne (fun q => by rw [q, hD1] at eb; cases eb)]
          exact s4 _ _ eb
        · rw [upd_same, filt_more hy, if_pos hb, List.map_append]; rfl
      · refine ⟨s4, ?_⟩
        rw [filt_more hy, if_neg hb, List.append_nil]
        exact e4
    rintro H4 ⟨s4, e4⟩
    rw [List.length_map, List.take_length] at e4
    have e4' : H4 D1 = some (.lst ((sideL rs v z b).map fun y => V.ref (ad y))) := e4
    have inS : ∀ y ∈ sideL rs v z b, y ∈ plc rs := fun y hy => inP y (List.mem_filter.mp hy).1
    have lS : (sideL rs v z b).length ≤ 200 := by
      have h1 := List.length_filter_le (fun y => decide (v y = b)) (z :: belowL rs z)
      rw [List.length_cons] at h1
      unfold sideL
      omega
    have s4' := s3.trans s4
    have tup : ∀ y ∈ sideL rs v z b, ∀ H', Same H4 H' → SqT K H' (ad y) (rgV (pr y)) := fun y hy H' s => sqT_same (h3 y (inS y hy)) (s4'.trans s)
    clear e4 e3 hpl hD1 hbl hl1 e1 e2 s3 s1 s2
    generalize sideL rs v z b = S at e4' inS lS tup hq
    -- the mosts
    refine ⟨_, rfl, D1, rfl, ⟨_, SqL.of e4'⟩, fun D2 hD2 => ?_⟩
    refine lc_list (K := K) (a := D1) (xs := S.map fun y => V.ref (ad y)) (fun i H' => Same H4 H' ∧ H' D2 = some (.lst ((((S.take i).map pr).map (·.hi)).map prV))) ⟨Same.new hD2, upd_same⟩ (fun i H' _ m => SqL.of (m.1 _ _ e4')) ?_ ?_
    · rintro i x H5 hx ⟨s5, e5⟩
      rw [List.getElem?_map] at hx
      obtain ⟨y, hy, rfl⟩ := Option.map_eq_some_iff.mp hx
      refine ⟨ad y, _, rfl, tup y (List.mem_of_getElem? hy) _ s5, rfl, _, _, rfl, _, _, rfl, rfl, rfl, tYes_if ⟨_, rfl, _, e5, small1000 (by rw [List.length_map, List.length_map, List.length_map, List.length_take]; omega), fun o' ob eb => ?_, ?_⟩⟩
      · rw [upd_ne (fun q => by rw [q, hD2] at eb; cases eb)]
        exact s5 _ _ eb
      · rw [upd_same, take_more hy, List.map_append, List.map_append, List.map_append]; rfl
    rintro H5 ⟨s5, e5⟩
    rw [List.length_map, List.take_length] at e5
    -- the sum of the leasts
    refine ⟨_, rfl, D1, rfl, ⟨_, SqL.of (s5 _ _ e4')⟩, fun D3 hD3 => ?_⟩
    refine lc_list (K := K) (a := D1) (xs := S.map fun y => V.ref (ad y)) (fun i H' => Same H5 H' ∧ H' D3 = some (.lst ((((S.take i).map pr).map (·.lo)).map V.int))) ⟨Same.new hD3, upd_same⟩ (fun i H' _ m => SqL.of (m.1 _ _ (s5 _ _ e4'))) ?_ ?_
    · rintro i x H6 hx ⟨s6, e6⟩
      rw [List.getElem?_map] at hx
      obtain ⟨y, hy, rfl⟩ := Option.map_eq_some_iff.mp hx
      refine ⟨ad y, _, rfl, tup y (List.mem_of_getElem? hy) _ (s5.trans s6), rfl, _, _, rfl, _, _, rfl, rfl, rfl, tYes_if ⟨_, rfl, _, e6, small1000 (by rw [List.length_map, List.length_map, List.length_map, List.length_take]; omega), fun o' ob eb => ?_, ?_⟩⟩
      · rw [upd_ne (fun q => by rw [q, hD3] at eb; cases eb)]
        exact s6 _ _ eb
      · rw [upd_same, take_more hy, List.map_append, List.map_append, List.map_append]; rfl
    rintro H6 ⟨s6, e6⟩
    rw [List.length_map, List.take_length] at e6
    refine ⟨D3, _, rfl, SqL.of e6, ?_⟩
    have e56 := s6 _ _ e5
    have s36 : Same H H6 := (s4'.trans s5).trans s6
    refine ⟨_, rfl, D2, _, rfl, .inl (SqL.of e56), rfl, flat_prs _, _, rfl, ?_⟩
    rw [if_neg Bool.false_ne_true, inV_prs]
    have ea : ((S.map pr).map (·.hi)).any (fun o => decide (o = none)) = (S.map pr).any fun q => decide (q.hi = none) := by rw [List.any_map]; rfl
    rw [ea]
    cases en : (S.map pr).any fun q => decide (q.hi = none) with
    | true =>
      refine iteT ⟨(by show 2 ≤ sizeLine; decide), fun a ha => hq a _ (s36.trans (Same.new ha)) ?_⟩
      unfold rgSum rgV
      rw [en]
      exact sqT upd_same
    | false =>
      refine iteF ⟨_, rfl, D2, (S.map pr).map fun q => q.hi.getD 0, rfl, ?_, (by show 2 ≤ sizeLine; decide), fun a ha => hq a _ (s36.trans (Same.new ha)) ?_⟩
      · have := prs_ints (S.map pr) en
        rw [List.map_map] at e56
        rw [← this]
        exact SqL.of e56
      · unfold rgSum rgV
        rw [en]
        exact sqT upd_same
theorem sc_on : FnScope ["self", "meaning", "box"] ["self", "meaning", "box"] (defScope s_Counts_on) := ⟨rfl, rfl, rfl, by decide +kernel, rfl, by decide +kernel, by decide +kernel⟩
theorem sc_off : FnScope ["self", "meaning", "box"] ["self", "meaning", "box"] (defScope s_Counts_off) := ⟨rfl, rfl, rfl, by decide +kernel, rfl, by decide +kernel, by decide +kernel⟩
theorem ok_on {f : Addr} {fd : FuncData} (F : Fun K "on" "Counts.on" s_Counts_on f fd) (Dn : DefAt K mg "number_within" s_number_within ["counts", "meaning", "box", "value"]) (Gn : FnOk P w K mg base CX0 6 Dn.f Dn.fd ["counts", "meaning", "box", "value"] (spNum K C CM CC)) : FnOk P w K mg base CX0 7 f fd ["self", "meaning", "box"] (spSide K C CM CC true) := by
  refine F.ok sc_on (fun vs H Q E h => ?_) (fun cdv A outer s H vs Q E hr h => ?_)
  · obtain ⟨c, m, z, rs, pr, v, rfl, _⟩ := h
    rfl
  · obtain ⟨c, m, z, rs, pr, v, rfl, hcm, hz, hq⟩ := h
    refine ⟨_, pss_one (ps_ret (pe_call Gn hr rfl Dn.g Dn.F.kp Dn.b .nil pass0 (pa_cons (pv 0) (pa_cons (pv 1) (pa_cons (pv 2) (pa_cons pe_bl pa_nil)))))), ?_⟩
    exact ⟨_, rfl, _, rfl, _, rfl, c, m, z, true, rs, pr, v, rfl, hcm, hz, hq⟩
theorem ok_off {f : Addr} {fd : FuncData} (F : Fun K "off" "Counts.off" s_Counts_off f fd) (Dn : DefAt K mg "number_within" s_number_within ["counts", "meaning", "box", "value"]) (Gn : FnOk P w K mg base CX0 6 Dn.f Dn.fd ["counts", "meaning", "box", "value"] (spNum K C CM CC)) : FnOk P w K mg base CX0 7 f fd ["self", "meaning", "box"] (spSide K C CM CC false) := by
  refine F.ok sc_off (fun vs H Q E h => ?_) (fun cdv A outer s H vs Q E hr h => ?_)
  · obtain ⟨c, m, z, rs, pr, v, rfl, _⟩ := h
    rfl
  · obtain ⟨c, m, z, rs, pr, v, rfl, hcm, hz, hq⟩ := h
    refine ⟨_, pss_one (ps_ret (pe_call Gn hr rfl Dn.g Dn.F.kp Dn.b .nil pass0 (pa_cons (pv 0) (pa_cons (pv 1) (pa_cons (pv 2) (pa_cons pe_bl pa_nil)))))), ?_⟩
    exact ⟨_, rfl, _, rfl, _, rfl, c, m, z, false, rs, pr, v, rfl, hcm, hz, hq⟩
abbrev nShows : List Str := ["self", "meaning", "box", "some_on", "some_off", "has_on", "has_off"]
theorem sc_shows : FnScope nShows ["self", "meaning", "box"] (defScope s_Counts_shows) := ⟨rfl, rfl, rfl, by decide +kernel, rfl, by decide +kernel, by decide +kernel⟩
theorem ok_shows {f : Addr} {fd : FuncData} (F : Fun K "shows" "Counts.shows" s_Counts_shows f fd) (hSo : mg "sorted" = none) (TK : TxK K mg CC) (TS : TxS mg)
    (mOn : MethAt K CC "on" "Counts.on" s_Counts_on ["self", "meaning", "box"]) (GOn : FnOk P w K mg base CX0 7 mOn.f mOn.fd ["self", "meaning", "box"] (spSide K C CM CC true))
    (mOf : MethAt K CC "off" "Counts.off" s_Counts_off ["self", "meaning", "box"]) (GOf : FnOk P w K mg base CX0 7 mOf.f mOf.fd ["self", "meaning", "box"] (spSide K C CM CC false))
    (Dm : DefAt K mg "may_have" s_may_have ["number"]) (Ds : DefAt K mg "shown" s_shown ["has_on", "has_off"]) : FnOk P w K mg base CX0 8 f fd ["self", "meaning", "box"] (spShows K C CM CC) := by
  have Gm : FnOk P w K mg base CX0 1 Dm.f Dm.fd ["number"] (spMay K) := ok_may Dm
  have Gs : FnOk P w K mg base CX0 1 Ds.f Ds.fd ["has_on", "has_off"] spShown := ok_shown Ds TS
  refine F.ok sc_shows (fun vs H Q E h => ?_) (fun cdv A outer s H vs Q E hr h => ?_)
  · obtain ⟨c, m, z, rs, pr, v, rfl, _⟩ := h
    rfl
  · obtain ⟨c, m, z, rs, pr, v, rfl, hcm, hz, hq⟩ := h
    have r1 : Room 1 _ := hr.mono (by decide)
    obtain ⟨t, t2, hc, hm⟩ := id hcm.ex
    obtain ⟨dx, k, h1, _⟩ := id hc.ex
    have noN : ∀ {n : Str}, n ≠ ("tree" : Str) → n ≠ ("pairs" : Str) → (cf t k).lookup n = none := fun {n} a b => by
      unfold cf
      rw [lookup_putF, if_neg b, lookup_putF, if_neg a]
      rfl
    refine ⟨_, pss_cons (ps_asg (pe_tup (pa_cons (pe_call Gm r1 rfl Dm.g Dm.F.kp Dm.b .nil pass0 (pa_cons (pe_meth (pv 0) TK.cl mOn.m GOn hr mOn.b .nil pass0 (pa_cons (pv 1) (pa_cons (pv 2) pa_nil))) pa_nil)) (pa_cons (pe_call Gm r1 rfl Dm.g Dm.F.kp Dm.b .nil pass0 (pa_cons (pe_meth (pv 0) TK.cl mOf.m GOf hr mOf.b .nil pass0 (pa_cons (pv 1) (pa_cons (pv 2) pa_nil))) pa_nil)) pa_nil))) (pg_tup rfl (pgs_cons (pg_name (i := 3) sc_shows.nd rfl (.inl rfl)) (pgs_cons (pg_name (i := 4) sc_shows.nd rfl (.inr rfl)) pgs_nil))))
      (pss_one (ps_ret (pe_callB cr_sortedS (by rfl) hSo (by decide +kernel) (pa_cons (pe_lc2 (own := [("has_on", 5), ("has_off", 6)]) (vs1 := [6]) (g := gName 5) (tt := tYes) (wi1 := iList K (tVar 4)) (g1 := gName 6) (tt1 := tYes) (te := tCall spShown [] E0 (tCons (tVar 5) (tCons (tVar 6) tNil))) rfl sc_shows.nd (pi_list (pv 3)) (blkOk_by (N := nShows) (sc := defScope s_Counts_shows) (by decide +kernel)) (by decide)
        (fun _ _ _ _ _ => pg_name (i := 5) sc_shows.nd rfl (Or.inl rfl)) (fun _ _ _ _ _ => pts_nil) (fun _ _ _ _ _ => by exact pi_list (pv 4)) (fun _ _ _ _ _ => pg_name (i := 6) sc_shows.nd rfl (Or.inl rfl)) (fun _ _ _ _ _ => pts_nil) (fun _ _ _ _ _ => by exact pe_call Gs r1 rfl Ds.g Ds.F.kp Ds.b .nil pass0 (pa_cons (pv 5) (pa_cons (pv 6) pa_nil)))) pa_nil)))), ?_⟩
    refine ⟨_, rfl, c, dx, _, rfl, h1, noN (by decide +kernel) (by decide +kernel), _, rfl, _, rfl, c, m, z, rs, pr, v, rfl, hcm, hz, fun a1 H1 s1 ha1 => ?_⟩
    refine ⟨a1, _, rfl, ha1, fun D1 H2 hD1 s2 e2 => ?_⟩
    have s12 := s1.trans s2
    refine ⟨_, rfl, c, dx, _, rfl, s12 _ _ h1, noN (by decide +kernel) (by decide +kernel), _, rfl, _, rfl, c, m, z, rs, pr, v, rfl, hcm.same s12, hz, fun a2 H3 s3 ha2 => ?_⟩
    refine ⟨a2, _, rfl, ha2, fun D2 H4x hD2 s4x e4x => ⟨(by show 2 ≤ sizeLine; decide), fun tq htq => ⟨tq, _, rfl, sqT upd_same, rfl, _, _, rfl, _, _, rfl, rfl, ?_⟩⟩⟩
    have s4 := s4x.trans (Same.new (o := .tup [V.ref D1, V.ref D2]) htq)
    have e4 := (Same.new (o := .tup [V.ref D1, V.ref D2]) htq) _ _ e4x
    generalize upd H4x tq (.tup [V.ref D1, V.ref D2]) = H4 at s4 e4
    have s14 := (s12.trans s3).trans s4
    have e24 := (s3.trans s4) _ _ e2
    have lx := mayB_len (numW rs pr v z true)
    have ly := mayB_len (numW rs pr v z false)
    generalize mayB (numW rs pr v z true) = X at e24 hq lx
    generalize mayB (numW rs pr v z false) = Y at e4 hq ly
    refine ⟨_, rfl, D1, rfl, ⟨_, SqL.of e24⟩, fun D hD => ?_⟩
    have wl : ∀ i, (wordsB (X.take i) Y).length ≤ 4 := fun i => by
      unfold wordsB
      have : ∀ l : List Bool, ((l.map fun a => Y.map fun b => shownS a b).flatten).length = l.length * Y.length := fun l => by
        induction l with
        | nil => simp
        | cons x l ih => rw [List.map_cons, List.flatten_cons, List.length_append, ih, List.length_map, List.length_cons, Nat.add_mul, Nat.one_mul, Nat.add_comm]
      rw [this, List.length_take]
      have h1 : min i X.length ≤ 2 := by omega
      exact Nat.le_trans (Nat.mul_le_mul h1 ly) (by decide)
    refine walk_in (walk_list (K := K) (a := D1) (xs := X.map V.bl)) (fun i H' => Same H4 H' ∧ H' D = some (.lst ((wordsB (X.take i) Y).map V.str))) ⟨Same.new hD, upd_same⟩ (fun i H' _ m => SqL.of (m.1 _ _ e24)) ?_ ?_
    · rintro i x H5 H6 hi ⟨s5, e5⟩ ⟨rfl, hx⟩
      rw [List.getElem?_map] at hx
      obtain ⟨p, hp, rfl⟩ := Option.map_eq_some_iff.mp hx
      refine ⟨rfl, tYes_if ?_⟩
      refine ⟨_, rfl, D2, rfl, ⟨_, SqL.of (s5 _ _ e4)⟩, ?_⟩
      refine walk_in (walk_list (K := K) (a := D2) (xs := Y.map V.bl)) (fun j H' => Same H4 H' ∧ H' D = some (.lst ((wordsB (X.take i) Y ++ (Y.take j).map fun b => shownS p b).map V.str))) ⟨s5, by simpa using e5⟩ (fun j H' _ m => SqL.of (m.1 _ _ e4)) ?_ ?_
      · rintro j y H7 H8 hj ⟨s7, e7⟩ ⟨rfl, hy⟩
        rw [List.getElem?_map] at hy
        obtain ⟨q, hq', rfl⟩ := Option.map_eq_some_iff.mp hy
        refine ⟨rfl, tYes_if ⟨_, rfl, _, rfl, p, q, rfl, _, e7, small1000 ?_, fun o' ob eb => ?_, ?_⟩⟩
        · have := wl i
          rw [List.length_map, List.length_append, List.length_map, List.length_take]
          omega
        · rw [upd_ne (fun q => by rw [q, hD] at eb; cases eb)]
          exact s7 _ _ eb
        · rw [upd_same, take_more hq', List.map_append, List.map_append, List.map_append, List.map_append, List.append_assoc]; rfl
      · rintro H7 ⟨s7, e7⟩
        refine ⟨s7, ?_⟩
        rw [e7, List.length_map, List.take_length, take_more hp]
        unfold wordsB
        simp [List.map_append, List.flatten_append]
    rintro H5 ⟨s5, e5⟩
    rw [List.length_map, List.take_length] at e5
    have w4 := wl X.length
    rw [List.take_length] at w4
    refine ⟨D, wordsB X Y, rfl, SqL.of e5, by omega, fun ys p hp hs hpn => ?_⟩
    exact hq p _ ys ((s14.trans s5).free hpn) ((s14.trans s5).trans (Same.new hpn)) upd_same hp hs
end
end Ts

set_option maxRecDepth 100000
set_option maxHeartbeats 4000000
namespace L2
open PySem PySem.Spec PyProof.Rows
/-! ### == of any thing and a text; != of lists of lists of one and the same thing; list.count of texts -/
theorem dict_eq_no_str (l : Addr) (o : Obj) (b : Str) (u : Tok) :
    Meets (Builtin.«dict.__eq__» ⟨[.ref l, .str b u], []⟩) (fun _ R s => s.heap.get? l = some o ∧ o.cls = .type "dict" ∧ R (.ok (.ret .notImplemented)) s) :=
  .of_wp fun prog w A R s h => by
    obtain ⟨hp, g, d, tk, os⟩ := s
    obtain ⟨hl, hc, h⟩ := h
    have f1 := F.sub_str_dict
    wp_walk
    exact ⟨_, rfl, h⟩
theorem str_eq_no_dict (b : Str) (u : Tok) (l : Addr) (c : Value) (es : Array DictEntry) (ep : Nat) (dd : Option Addr) (sl : Array (Option Value)) :
    Meets (Builtin.«str.__eq__» ⟨[.str b u, .ref l], []⟩) (fun _ R s => s.heap.get? l = some { cls := c, dict := dd, data := .dict es ep, slots := sl } ∧ R (.ok (.ret .notImplemented)) s) :=
  .of_wp fun prog w A R s h => by
    obtain ⟨hp, g, d, tk, os⟩ := s
    obtain ⟨hl, h⟩ := h
    wp_walk using wpAny_load hl
    exact ⟨_, rfl, h⟩
theorem rc_dict_str {A : Around} {s : Shared} {l : Addr} {es : Array DictEntry} {ep : Nat} {dd : Option Addr} {sl : Array (Option Value)} (b : Str) (u : Tok) (ho : s.heap.get? l = some { cls := .type "dict", dict := dd, data := .dict es ep, slots := sl }) (hu : A.units < cLine) : SeqAt.RcAt A s (.ref l) (.str b u) false := fun prog w E Q h =>
  SeqAt.rc_eq_decline_or (k := false) ⟨_, ho, rfl⟩ (typeIs_str s b u) (by decide) F.sub_str_dict F.slot_dict_eq F.slot_str_eq_refl
    (fun _ hq => call_meets F.slot_dict_eq ⟨_, ho, rfl⟩ F.entry_dict_eq (F.args_dict_eq_2 _ _) (dict_eq_no_str l _ b u) ⟨ho, rfl, hq⟩)
    (fun _ hq => call_meets F.slot_str_eq_refl (typeIs_str s b u) F.entry_str_eq (F.args_str_eq_2 _ _) (str_eq_no_dict b u l (.type "dict") es ep dd sl) ⟨ho, hq⟩)
    (fun _ hq => wpAny_of_eq (rfl : isSame (.ref l) (.str b u) = pure false) hq) (.inr hu) h
/-- a thing that is no text -/
def OddV (K : PySem.W.Frag) (H : Hp) (x : V) : Prop := x = .non ∨ (∃ i, x = .int i) ∨ (∃ b, x = .bl b) ∨ (∃ a xs, x = .ref a ∧ SqL K H a xs) ∨ (∃ a xs, x = .ref a ∧ SqT K H a xs) ∨ ∃ a kvs, x = .ref a ∧ H a = some (.dK kvs)
section
variable {X : Cx}
/-- == of any thing and a text -/
def rEqOdd (K : PySem.W.Frag) : R2 := fun x y H Q => ∃ z, y = .str z ∧ ((∃ z', x = .str z' ∧ Q (.bl (decide (z' = z))) H) ∨ (OddV K H x ∧ Q (.bl false) H))
theorem op_eqOdd (hu : X.A.units < cLine) : OpR X (compareOp .Eq) (rEqOdd X.K) := by
  intro pins s σ H x y v u Q I rx ry h
  obtain ⟨z, rfl, h⟩ := h
  obtain ⟨t2, rfl⟩ := ry
  rcases h with ⟨z', rfl, q⟩ | ⟨rfl | ⟨i, rfl⟩ | ⟨b, rfl⟩ | ⟨a, xs, rfl, ha⟩ | ⟨a, xs, rfl, ha⟩ | ⟨a, kvs, rfl, ha⟩, q⟩
  · obtain ⟨t, rfl⟩ := rx
    refine SeqAt.RcAt.str_str z' t z t2 _ _ _ _ ⟨.bl _, H, I, ?_, q⟩
    show Value.bool (z' == z) = Value.bool (decide (z' = z))
    rw [Bool.eq_iff_iff.mpr (show (z' == z) = true ↔ decide (z' = z) = true by simp)]
  · cases rx
    exact SeqAt.RcAt.none_str z t2 _ _ _ _ ⟨.bl false, H, I, rfl, q⟩
  · obtain ⟨t, rfl⟩ := rx
    exact SeqAt.RcAt.int_str i t z t2 _ _ _ _ ⟨.bl false, H, I, rfl, q⟩
  · cases rx
    exact SeqAt.RcAt.bool_str b z t2 _ _ _ _ ⟨.bl false, H, I, rfl, q⟩
  · cases rx
    obtain ⟨its, r1, p1, _⟩ := I.list ha
    exact SeqAt.RcAt.list_str z t2 p1.isList hu _ _ _ _ ⟨.bl false, H, I, rfl, q⟩
  · cases rx
    obtain ⟨its, r1, p1, _⟩ := I.tuple ha
    exact SeqAt.RcAt.tuple_str z t2 p1 hu _ _ _ _ ⟨.bl false, H, I, rfl, q⟩
  · cases rx
    obtain ⟨_, _, vs, _, dd⟩ := (show ObjOk X.prog X.w H s.heap a (.dK kvs) from I.hok a _ ha)
    obtain ⟨⟨cls, dd, data, sl⟩, es, ep, ho, hx, hd, _⟩ := dd
    obtain ⟨h1, h2⟩ := hx
    simp only at h1 hd
    subst h1 hd
    exact rc_dict_str z t2 ho hu _ _ _ _ ⟨.bl false, H, I, rfl, q⟩
/-- != of lists of lists of one and the same thing each -/
def rNeLL (K : PySem.W.Frag) : R2 := fun x y H Q => ∃ (a b : Addr) (as bs : List Addr) (u : V), x = .ref a ∧ y = .ref b ∧ SqL K H a (as.map V.ref) ∧ SqL K H b (bs.map V.ref) ∧ as.length = bs.length ∧ (∀ p ∈ as, SqL K H p [u]) ∧ (∀ p ∈ bs, SqL K H p [u]) ∧ (flatB u = true ∨ ∃ c, u = .ref c) ∧ Q (.bl false) H
theorem op_neLL (hu : X.A.units + 64 < cLine) : OpR X (compareOp .NotEq) (rNeLL X.K) := by
  intro pins s σ H x y v w Q I rx ry h
  obtain ⟨a, b, as, bs, u, rfl, rfl, ha, hb, hl, hA, hB, hu2, q⟩ := h
  cases (show v = Value.ref a from rx)
  cases (show w = Value.ref b from ry)
  obtain ⟨us, r1, p1, _⟩ := I.list ha
  obtain ⟨ws, r2, p2, _⟩ := I.list hb
  have e1 : us.length = as.length := by have := r1.length; rw [List.length_map] at this; exact this.symm
  have e2 : ws.length = bs.length := by have := r2.length; rw [List.length_map] at this; exact this.symm
  have at_ : ∀ {cs : List Addr} {zs : List Value}, Vals (cs.map V.ref) zs → ∀ (j : Nat) (h : j < zs.length), ∃ c ∈ cs, zs[j] = Value.ref c := fun {cs zs} r j h => by
    have e : zs.length = cs.length := by have := r.length; rw [List.length_map] at this; exact this.symm
    obtain ⟨z, hz, rz⟩ := Vals.get (i := j) (x := V.ref (cs[j]'(by omega))) r (by rw [List.getElem?_map, List.getElem?_eq_getElem (by omega)]; rfl)
    rw [List.getElem?_eq_getElem h] at hz
    cases hz
    exact ⟨_, List.getElem_mem _, rz⟩
  have one : ∀ {p : Addr}, SqL X.K H p [u] → ∃ z : Value, RelV u z ∧ s.heap.IsList p #[z] := fun {p} h => by
    obtain ⟨zs, r, pl, _⟩ := I.list h
    cases r with
    | cons r1 r2 => cases r2; exact ⟨_, r1, pl.isList⟩
  refine SeqAt.RcNeAt.lists p1.isList p2.isList (by rw [List.size_toArray, List.size_toArray, e1, e2, hl]) (by omega) (e := fun _ => true) (fun j h1 h2 => ?_) _ _ _ _ ?_
  · obtain ⟨c, hc, ec⟩ := at_ r1 j (by simpa using h1)
    obtain ⟨d, hd, ed⟩ := at_ r2 j (by simpa using h2)
    have ec' : us.toArray[j] = Value.ref c := by simpa using ec
    have ed' : ws.toArray[j] = Value.ref d := by simpa using ed
    rw [ec', ed']
    by_cases e : c = d
    · rw [e]; exact SeqAt.EqAt.same _
    · obtain ⟨z1, k1, l1⟩ := one (hA c hc)
      obtain ⟨z2, k2, l2⟩ := one (hB d hd)
      refine SeqAt.EqAt.of_refs e ?_
      have := SeqAt.RcAt.lists (A := X.A.in1) (e := fun _ => true) l1 l2 rfl (by show X.A.units + 1 < cLine; omega) (fun i h3 h4 => by
        have i0 : i = 0 := by
          have : (#[z1] : Array Value).size = 1 := rfl
          omega
        subst i0
        show SeqAt.EqAt _ s z1 z2 true
        rcases hu2 with f | ⟨c', rfl⟩
        · exact eqAt_same k1 k2 f
        · cases (show z1 = Value.ref c' from k1)
          cases (show z2 = Value.ref c' from k2)
          exact SeqAt.EqAt.same _)
      exact this
  · rw [show ((List.range us.toArray.size).all fun _ => true) = true from List.all_eq_true.mpr fun _ _ => rfl]
    exact ⟨.bl false, H, I, rfl, q⟩
end
section
variable {X : Cx}
def eqs (k : Str) : Value → Bool
  | .str z _ => z == k
  | _ => false
theorem strs_ofV : ∀ {ns : List Str} {us : List Value}, Vals (ns.map V.str) us → ∀ u ∈ us, ∃ z t, u = .str z t
  | [], _, h, u, hu => by cases h; cases hu
  | n :: ns, _, h, u, hu => by
    cases h with
    | cons r1 r2 =>
      obtain ⟨t, rfl⟩ := r1
      rcases List.mem_cons.mp hu with rfl | hu
      · exact ⟨n, t, rfl⟩
      · exact strs_ofV r2 u hu
theorem eqs_count (k : Str) : ∀ {ns : List Str} {us : List Value}, Vals (ns.map V.str) us → us.countP (eqs k) = ns.count k
  | [], _, h => by cases h; rfl
  | n :: ns, _, h => by
    cases h with
    | cons r1 r2 =>
      obtain ⟨t, rfl⟩ := r1
      rw [List.countP_cons, List.count_cons, eqs_count k r2]
      rfl
def rCntS (K : PySem.W.Frag) : V → List V → Hp → VK → Prop := fun x xs H Q => ∃ (p : Addr) (ns : List Str) (k : Str), x = .ref p ∧ xs = [.str k] ∧ SqL K H p (ns.map V.str) ∧ Q (.int (ns.count k : Nat)) H
theorem mt_scount : MtR X "list.count" (rCntS X.K) := by
  intro pins s σ H x xs v us Q I rx rxs h
  obtain ⟨p, ns, k, rfl, rfl, hs, q⟩ := h
  cases rx
  obtain ⟨u, rfl, ru⟩ := rxs.one
  obtain ⟨t, rfl⟩ := ru
  obtain ⟨its, rv, ⟨⟨cls, dd, data, sl⟩, n, ho, hc, hdn, hd⟩, hlen⟩ := I.list hs
  simp only at hc hd
  subst hc hd
  refine call_meets PySem.F.slot_list_count ⟨_, ho, rfl⟩ PySem.F.entry_list_count (PySem.F.args_list_count_2 _ _)
    (SeqAt.list_countAt p its.toArray n dd sl (.str k t) (eqs k)) ⟨ho, fun y hy => ?_, ?_⟩
  · obtain ⟨z, t', rfl⟩ := strs_ofV rv y (by simpa using hy)
    exact SeqAt.EqAt.str_str z t' k t
  have ec : its.toArray.toList.countP (eqs k) = ns.count k := eqs_count k rv
  refine ⟨.int (ns.count k : Nat), H, I.tok _, ⟨s.toks, ?_⟩, q⟩
  show Value.int ((its.toArray.toList.countP (eqs k) : Nat) : Int) s.toks = Value.int ((ns.count k : Nat) : Int) s.toks
  rw [ec]
end
end L2

set_option maxRecDepth 100000
set_option maxHeartbeats 4000000
namespace Ts
open PySem L2
/-! ### an own error class with one field, as it stands -/
structure ErrT (K : PySem.W.Frag) (mg : Str → Option Value) (E : Addr) (nm fn : Str) : Prop where
  O : OexC K E
  X : XfC K E
  nb : PySem.W.findIn K (.ref E) fn = some none
  g : mg nm = some (.ref E)
  te : PySem.W.exmOne K (.ref E) (.ref E) = some true
theorem exm_self {K : PySem.W.Frag} {S : Addr} (h1 : PySem.W.subIn K (.ref S) (.type "BaseException") = some true) (h2 : PySem.W.isClsIn K S = true) (h3 : PySem.W.typeIn K (.ref S) = some (.type "type")) (h4 : PySem.W.subIn K (.ref S) (.ref S) = some true) :
    PySem.W.exmOne K (.ref S) (.ref S) = some true := by
  have e1 : (PySem.W.subIn K (.ref S) (.type "BaseException") == some true) = true := by rw [h1] <;> rfl
  have e2 : ((PySem.W.clsIn K S).isSome && PySem.W.typeIn K (.ref S) == some (.type "type")) = true := by
    have h2' : (PySem.W.clsIn K S).isSome = true := h2
    rw [h2', h3] <;> rfl
  show (if (PySem.W.subIn K (.ref S) (.type "BaseException") == some true) = true then (if ((PySem.W.clsIn K S).isSome && PySem.W.typeIn K (.ref S) == some (.type "type")) = true then PySem.W.subIn K (.ref S) (.ref S) else none) else none) = some true
  rw [if_pos e1, if_pos e2]
  exact h4
/-- an error of the class at S is not what «except D» names -/
theorem exm_other {K : PySem.W.Frag} {S D : Addr} (h1 : PySem.W.subIn K (.ref D) (.type "BaseException") = some true) (h2 : PySem.W.isClsIn K D = true) (h3 : PySem.W.typeIn K (.ref D) = some (.type "type")) (h4 : PySem.W.subIn K (.ref S) (.ref D) = some false) :
    PySem.W.exmOne K (.ref S) (.ref D) = some false := by
  have e1 : (PySem.W.subIn K (.ref D) (.type "BaseException") == some true) = true := by rw [h1] <;> rfl
  have e2 : ((PySem.W.clsIn K D).isSome && PySem.W.typeIn K (.ref D) == some (.type "type")) = true := by
    have h2' : (PySem.W.clsIn K D).isSome = true := h2
    rw [h2', h3] <;> rfl
  show (if (PySem.W.subIn K (.ref D) (.type "BaseException") == some true) = true then (if ((PySem.W.clsIn K D).isSome && PySem.W.typeIn K (.ref D) == some (.type "type")) = true then PySem.W.subIn K (.ref S) (.ref D) else none) else none) = some false
  rw [if_pos e1, if_pos e2]
  exact h4
theorem errAll {K : PySem.W.Frag} {h : Heap} {mg : Str → Option Value} (X : K.In h) (G : h.Ns mainGlobals mg) {E BE f : Addr} {cn fn iq : Str} {st : Stmt} {nm q : Str} {N : Addr} {bs : List Value} {sn : List Str} {sub : List Value} {ab : Bool} {col : Option Bool} {dd : Option Addr} {m0 m1 m2 m3 m5 : Option Value}
    {od an : Option Addr} {sl : Array (Option Value)} {oc kV dc pm cd ct : Value}
    (aC : PySem.W.nsIn K mainGlobals cn = some (some (.ref E)))
    (xL : K.lookup E = some (excClassObj nm q E N bs [.ref BE, .type "ValueError", .type "Exception", .type "BaseException", .type "object"] true sn sub ab col dd m0 m1 m2 m3 m5 "ValueError.__new__"))
    (sa : PySem.W.findIn K (.ref E) "__setattr__" = some (some (.builtin "object.__setattr__"))) (ga : PySem.W.findIn K (.ref E) "__getattribute__" = some (some (.builtin "BaseException.__getattribute__"))) (gg : PySem.W.findIn K (.ref E) "__getattr__" = some none) (nb : PySem.W.findIn K (.ref E) fn = some none)
    (a1 : PySem.W.findIn K (.ref E) "__init__" = some (some (.ref f))) (t1 : PySem.W.typeIn K (.ref f) = some (.type "function"))
    (l1 : K.lookup f = some ⟨oc, od, .func (PySem.W.fnOf "__init__" iq (defArgs st) (defBody st) (defScope st) .none kV dc pm an cd ct), sl⟩) (c1 : PySem.W.codeIn K cd iq = true) (k1 : PySem.W.keepIn K (.ref f) = true)
    (kC : PySem.W.keepIn K (.ref E) = true) (eC : PySem.W.subIn K (.ref E) (.type "BaseException") = some true) (tC : PySem.W.typeIn K (.ref E) = some (.type "type")) (hC : PySem.W.hasDictIn K E = true) (iC : PySem.W.isClsIn K E = true) (sC : PySem.W.subIn K (.ref E) (.ref E) = some true) :
    ErrT K mg E cn fn ∧ ∃ (f : Addr) (fd : FuncData), PySem.W.findIn K (.ref E) "__init__" = some (some (.ref f)) ∧ PySem.W.typeIn K (.ref f) = some (.type "function") ∧ Fun K "__init__" iq st f fd :=
  ⟨⟨⟨⟨nm, q, N, bs, _, sn, sub, ab, col, dd, m0, m1, m2, m3, m5, xL, rfl⟩, sa, eC, tC, kC⟩, ⟨ga, gg, eC, hC⟩, nb, PySem.W.mg_of X G aC, exm_self eC iC tC sC⟩, f, _, a1, t1, fun_mk l1 c1 k1⟩
end Ts

set_option maxRecDepth 100000
set_option maxHeartbeats 4000000
namespace Ts
open PySem L2
/-! ### an own error with one field that its own __init__ stores -/
def spErr1 (CC : Addr) (fn : Str) : Sp := fun vs H Q _ => ∃ (a : Addr) (x : V), vs = [.ref a, x] ∧ H a = some (exo a CC none) ∧ ∀ d, H d = none → d ≠ a → Q .non (upd (upd H d (exd d [(fn, x)])) a (exo a CC (some d)))
section
variable {CC : Addr}
/-- what stands behind a raise: the error's own dict, new -/
theorem rd_err1 {fn : Str} {H1 : Hp} {x : V} {Q : XK} (k : ∀ d, H1 d = none → Q (.ref CC) (some d) (upd H1 d (.xd [(fn, x)]))) : ([x] : List V).length ≤ 1000 ∧ ∀ a, H1 a = none → spErr1 CC fn (.ref a :: ([x] ++ [])) (upd H1 a (exo a CC none)) (fun v H2 => v = .non ∧ ∃ (d : Addr) (fs : List (Str × V)), H2 a = some (exo a CC (some d)) ∧ H2 d = some (exd d fs) ∧ H1 d = none ∧ Q (.ref CC) (some d) (upd (del H2 a) d (.xd fs))) (fun _ _ _ => False) := by
  refine ⟨(by show 1 ≤ 1000; decide), fun a ha => ⟨a, x, rfl, upd_same, fun d hd ne => ⟨rfl, d, [(fn, x)], upd_same, by rw [upd_ne ne]; exact upd_same, by rw [upd_ne ne] at hd; exact hd, ?_⟩⟩⟩
  have hd1 : H1 d = none := by rw [upd_ne ne] at hd; exact hd
  have e : upd (del (upd (upd (upd H1 a (exo a CC none)) d (exd d [(fn, x)])) a (exo a CC (some d))) a) d (.xd [(fn, x)]) = upd H1 d (.xd [(fn, x)]) := by
    funext b
    by_cases q : b = d
    · rw [q, upd_same, upd_same]
    · rw [upd_ne q, upd_ne q]
      unfold del
      by_cases r : b = a
      · rw [if_pos r, r]; exact ha.symm
      · rw [if_neg r, upd_ne r, upd_ne q, upd_ne r]
  rw [e]
  exact k d hd1
end
section
variable {P : Program} {w : World} {K : PySem.W.Frag} {mg : Str → Option Value} {base : Heap}
/-- where nothing is raised, a def that may raise is as one that may not -/
theorem calm {k : Nat} {f : Addr} {fd : FuncData} {ps : List Str} {sp sp' : Sp} (F : FnOk P w K mg base (L2.CX P w) k f fd ps sp) (h : ∀ vs H Q E, sp' vs H Q E → sp vs H Q E0) : FnOk P w K mg base CX0 k f fd ps sp' :=
  ⟨fun vs H Q E q => F.len vs H Q E0 (h _ _ _ _ q), fun A outer s H args us vs Q E hr he hb hv hs => codeAny_mono (F.run A outer s H args us vs Q E0 hr he hb hv (h _ _ _ _ hs)) fun r s' q => by
    cases r with
    | ok f => cases f <;> exact q
    | error e =>
      obtain ⟨_, _, _, _, _, _, _, _, _, _, _, _, z⟩ := q
      exact z.elim⟩
end
end Ts

set_option maxRecDepth 100000
set_option maxHeartbeats 4000000
namespace Ts
open PySem L2
section
variable {P : Program} {w : World} {K : PySem.W.Frag} {mg : Str → Option Value} {base : Heap} {CC : Addr}
theorem sc_NoBox_init : FnScope ["self", "box"] ["self", "box"] (defScope s_NoBox_init) := ⟨rfl, rfl, rfl, by decide +kernel, rfl, by decide +kernel, by decide +kernel⟩
theorem ok_NoBox_init {f : Addr} {fd : FuncData} (F : Fun K "__init__" "NoBox.__init__" s_NoBox_init f fd) (O : OexC K CC) (nb : PySem.W.findIn K (.ref CC) "box" = some none) : FnOk P w K mg base CX0 2 f fd ["self", "box"] (spErr1 CC "box") := by
  refine F.ok sc_NoBox_init (fun vs H Q E h => ?_) (fun cdv A outer s H vs Q E hr h => ?_)
  · obtain ⟨a, x, rfl, _⟩ := h
    rfl
  · obtain ⟨a, x, rfl, ha, hq⟩ := h
    refine ⟨_, pss_one (ps_ost (pv 0) (pv 1)), ?_⟩
    exact ⟨_, rfl, _, rfl, a, CC, rfl, O, nb, .inl ⟨ha, fun d hd ne => hq d hd ne⟩⟩
end
end Ts

set_option maxRecDepth 100000
set_option maxHeartbeats 4000000
namespace Ts
open PySem L2
/-! ### what a tree refuses -/
def OddT (K : PySem.W.Frag) (H : Hp) (x : V) : Prop := OddV K H x ∧ Other K H x (.type "str")
/-- no box, no place -/
def OddN (K : PySem.W.Frag) (H : Hp) (rs : List Row) (x : V) : Prop := (∃ z : Str, x = .str z ∧ z ∉ names rs) ∨ OddT K H x
def OddP (K : PySem.W.Frag) (H : Hp) (rs : List Row) (x : V) : Prop := (∃ z : Str, x = .str z ∧ z ≠ ("top" : Str) ∧ z ∉ names rs) ∨ OddT K H x
def spRef (K : PySem.W.Frag) (C CN : Addr) (Od : PySem.W.Frag → Hp → List Row → V → Prop) : Sp := fun vs H Q E => ∃ (t : Addr) (x : V) (rs : List Row), vs = [.ref t, x] ∧ TreeAt C H t rs ∧ Od K H rs x ∧ ∀ d H', H d = none → Same H H' → H' d = some (.xd [("box", x)]) → E (.ref CN) (some d) H'
def spIsPlaceX (K : PySem.W.Frag) (C : Addr) : Sp := fun vs H Q _ => ∃ (t : Addr) (x : V) (rs : List Row), vs = [.ref t, x] ∧ TreeAt C H t rs ∧ OddP K H rs x ∧ Q (.bl false) H
section
variable {P : Program} {w : World} {K : PySem.W.Frag} {mg : Str → Option Value} {base : Heap} {C CN : Addr}
theorem odd_contains {H : Hp} {t : Addr} {rs : List Row} {x : V} {Q : VK} {E : XK} (ht : TreeAt C H t rs) (h : OddN K H rs x) (k : Q (.bl false) H) : spContains K C [.ref t, x] H Q E := by
  rcases h with ⟨z, rfl, hz⟩ | ⟨_, ho⟩
  · refine ⟨t, _, rs, rfl, ht, .inl ⟨z, rfl, ?_⟩⟩
    rw [decide_eq_false hz]; exact k
  · exact ⟨t, _, rs, rfl, ht, .inr ⟨ho, k⟩⟩
theorem OddP.n {H : Hp} {rs : List Row} {x : V} (h : OddP K H rs x) : OddN K H rs x := h.imp (fun ⟨z, e, _, hz⟩ => ⟨z, e, hz⟩) id
theorem ok_check_boxX {fI : Addr} {fdI : FuncData} (D : DefAt K mg "check_box" s_check_box ["tree", "thing"]) (M : MethAt K C "__contains__" "Tree.__contains__" s_Tree_contains ["self", "x"]) (B : TxB mg) (T : TxT K mg C)
    (TN : ErrT K mg CN "NoBox" "box") (iC : PySem.W.findIn K (.ref CN) "__init__" = some (some (.ref fI))) (tI : PySem.W.typeIn K (.ref fI) = some (.type "function")) (GI : FnOk P w K mg base CX0 2 fI fdI ["self", "box"] (spErr1 CN "box")) (bI : Binds K fdI ["self", "box"] []) :
    FnOk P w K mg base (L2.CX P w) 4 D.f D.fd ["tree", "thing"] (spRef K C CN OddN) := by
  have G : FnOk P w K mg base CX0 2 M.f M.fd ["self", "x"] (spContains K C) := ok_Tree_contains M.F B T
  refine D.F.okX sc_check_box (fun vs H Q E h => ?_) (fun cdv A outer s H vs Q E hr h => ?_)
  · obtain ⟨t, x, rs, rfl, _⟩ := h
    rfl
  · obtain ⟨t, x, rs, rfl, ht, hx, hE⟩ := h
    obtain ⟨dx, q, f, k, p, qs, h1, h2⟩ := id ht.ex
    have hr2 : Room 2 _ := hr.mono (by decide)
    refine ⟨_, pss_one (ps_if (pt_cmpR (op_notinC G M.m hr2 M.b pass0) (pv 1) (pv 0) (by rfl)) (pss_one (ps_raise rfl (takes_of rfl rfl rfl rfl) (pmk_oex TN.O iC tI GI hr bI .nil pass0 rfl TN.g (by exact pa_cons (pv 1) pa_nil)))) pss_nil), ?_⟩
    refine ⟨_, rfl, _, rfl, t, dx, _, rfl, h1, odd_contains ht hx ⟨_, rfl, _, rfl, ?_⟩⟩
    refine iteT ?_
    exact ⟨_, rfl, rd_err1 fun d hd => hE d _ hd (Same.new hd) upd_same⟩
theorem ok_is_placeX (D : DefAt K mg "is_place" s_is_place ["tree", "thing"]) (M : MethAt K C "__contains__" "Tree.__contains__" s_Tree_contains ["self", "x"]) (B : TxB mg) (TC : TxC K mg) (T : TxT K mg C) : FnOk P w K mg base CX0 3 D.f D.fd ["tree", "thing"] (spIsPlaceX K C) := by
  have G : FnOk P w K mg base CX0 2 M.f M.fd ["self", "x"] (spContains K C) := ok_Tree_contains M.F B T
  obtain ⟨t1, gT⟩ := TC.top
  refine D.F.ok sc_is_place (fun vs H Q E h => ?_) (fun cdv A outer s H vs Q E hr h => ?_)
  · obtain ⟨t, z, rs, rfl, _⟩ := h
    rfl
  · obtain ⟨t, x, rs, rfl, ht, hx, hq⟩ := h
    have h64 := hr.units
    obtain ⟨dx, q, f, k, p, qs, h1, h2⟩ := id ht.ex
    refine ⟨_, pss_one (ps_ret (pe_or (pe_cmpR (op_eqOdd (Nat.lt_of_le_of_lt (Nat.le_add_right _ _) h64)) (pv 1) (pe_glob (by rfl) gT (v := .str ("top" : Str)) ⟨_, rfl⟩) (nomark _)) (pe_one (pe_cmpR (op_inC G M.m hr M.b pass0) (pv 1) (pv 0) (by rfl))))), ?_⟩
    have fin : ∃ b, V.bl false = V.bl b ∧ if b = true then Q (V.bl true) H else tOp (rInC C (spContains K C) E0) (tVar 1) (tVar 0) (L2.start ["tree", "thing"] [V.ref t, x]) H Q := by
      refine ⟨false, rfl, iteF ?_⟩
      exact ⟨_, rfl, _, rfl, t, dx, _, rfl, h1, odd_contains ht hx.n ⟨_, rfl, hq⟩⟩
    refine ⟨_, rfl, ("top" : Str), rfl, ?_⟩
    rcases hx with ⟨z, rfl, hz1, hz2⟩ | ⟨ho, _⟩
    · refine .inl ⟨z, rfl, ?_⟩
      rw [decide_eq_false hz1]
      exact fin
    · exact .inr ⟨ho, fin⟩
theorem ok_check_placeX {fI : Addr} {fdI : FuncData} (D : DefAt K mg "check_place" s_check_place ["tree", "thing"]) (Db : DefAt K mg "is_place" s_is_place ["tree", "thing"]) (Gb : FnOk P w K mg base CX0 3 Db.f Db.fd ["tree", "thing"] (spIsPlaceX K C))
    (TN : ErrT K mg CN "NoBox" "box") (iC : PySem.W.findIn K (.ref CN) "__init__" = some (some (.ref fI))) (tI : PySem.W.typeIn K (.ref fI) = some (.type "function")) (GI : FnOk P w K mg base CX0 2 fI fdI ["self", "box"] (spErr1 CN "box")) (bI : Binds K fdI ["self", "box"] []) :
    FnOk P w K mg base (L2.CX P w) 4 D.f D.fd ["tree", "thing"] (spRef K C CN OddP) := by
  refine D.F.okX sc_check_place (fun vs H Q E h => ?_) (fun cdv A outer s H vs Q E hr h => ?_)
  · obtain ⟨t, x, rs, rfl, _⟩ := h
    rfl
  · obtain ⟨t, x, rs, rfl, ht, hx, hE⟩ := h
    refine ⟨_, pss_one (ps_if (pt_not (pt_val (pe_call Gb hr rfl Db.g Db.F.kp Db.b .nil pass0 (pa_cons (pv 0) (pa_cons (pv 1) pa_nil))))) (pss_one (ps_raise rfl (takes_of rfl rfl rfl rfl) (pmk_oex TN.O iC tI GI hr bI .nil pass0 rfl TN.g (by exact pa_cons (pv 1) pa_nil)))) pss_nil), ?_⟩
    refine ⟨_, rfl, _, rfl, t, x, rs, rfl, ht, hx, _, rfl, iteT ?_⟩
    exact ⟨_, rfl, rd_err1 fun d hd => hE d _ hd (Same.new hd) upd_same⟩
theorem ok_folderX {f : Addr} {fd : FuncData} (F : Fun K "folder" "Tree.folder" s_Tree_folder f fd) (Db : DefAt K mg "check_box" s_check_box ["tree", "thing"]) (Gb : FnOk P w K mg base (L2.CX P w) 4 Db.f Db.fd ["tree", "thing"] (spRef K C CN OddN)) : FnOk P w K mg base (L2.CX P w) 5 f fd ["self", "box"] (spRef K C CN OddN) := by
  refine F.okX sc_Tree_folder (fun vs H Q E h => ?_) (fun cdv A outer s H vs Q E hr h => ?_)
  · obtain ⟨t, x, rs, rfl, _⟩ := h
    rfl
  · obtain ⟨t, x, rs, rfl, ht, hx, hE⟩ := h
    refine ⟨_, pss_cons (ps_expr (pe_call Gb hr rfl Db.g Db.F.kp Db.b .nil (passes_call (takes_of rfl rfl rfl rfl) (fun _ _ _ _ h => h)) (pa_cons (pv 0) (pa_cons (pv 1) pa_nil)))) pss_never, ?_⟩
    exact ⟨_, rfl, _, rfl, t, x, rs, rfl, ht, hx, hE⟩
theorem ok_kindX {f : Addr} {fd : FuncData} (F : Fun K "kind" "Tree.kind" s_Tree_kind f fd) (Db : DefAt K mg "check_box" s_check_box ["tree", "thing"]) (Gb : FnOk P w K mg base (L2.CX P w) 4 Db.f Db.fd ["tree", "thing"] (spRef K C CN OddN)) : FnOk P w K mg base (L2.CX P w) 5 f fd ["self", "box"] (spRef K C CN OddN) := by
  refine F.okX sc_Tree_kind (fun vs H Q E h => ?_) (fun cdv A outer s H vs Q E hr h => ?_)
  · obtain ⟨t, x, rs, rfl, _⟩ := h
    rfl
  · obtain ⟨t, x, rs, rfl, ht, hx, hE⟩ := h
    refine ⟨_, pss_cons (ps_expr (pe_call Gb hr rfl Db.g Db.F.kp Db.b .nil (passes_call (takes_of rfl rfl rfl rfl) (fun _ _ _ _ h => h)) (pa_cons (pv 0) (pa_cons (pv 1) pa_nil)))) pss_never, ?_⟩
    exact ⟨_, rfl, _, rfl, t, x, rs, rfl, ht, hx, hE⟩
theorem ok_priceX {f : Addr} {fd : FuncData} (F : Fun K "price" "Tree.price" s_Tree_price f fd) (Db : DefAt K mg "check_box" s_check_box ["tree", "thing"]) (Gb : FnOk P w K mg base (L2.CX P w) 4 Db.f Db.fd ["tree", "thing"] (spRef K C CN OddN)) : FnOk P w K mg base (L2.CX P w) 5 f fd ["self", "box"] (spRef K C CN OddN) := by
  refine F.okX sc_Tree_price (fun vs H Q E h => ?_) (fun cdv A outer s H vs Q E hr h => ?_)
  · obtain ⟨t, x, rs, rfl, _⟩ := h
    rfl
  · obtain ⟨t, x, rs, rfl, ht, hx, hE⟩ := h
    refine ⟨_, pss_cons (ps_expr (pe_call Gb hr rfl Db.g Db.F.kp Db.b .nil (passes_call (takes_of rfl rfl rfl rfl) (fun _ _ _ _ h => h)) (pa_cons (pv 0) (pa_cons (pv 1) pa_nil)))) pss_never, ?_⟩
    exact ⟨_, rfl, _, rfl, t, x, rs, rfl, ht, hx, hE⟩
theorem ok_belowX {f : Addr} {fd : FuncData} (F : Fun K "below" "Tree.below" s_Tree_below f fd) (Db : DefAt K mg "check_place" s_check_place ["tree", "thing"]) (Gb : FnOk P w K mg base (L2.CX P w) 4 Db.f Db.fd ["tree", "thing"] (spRef K C CN OddP)) : FnOk P w K mg base (L2.CX P w) 5 f fd ["self", "box"] (spRef K C CN OddP) := by
  refine F.okX sc_Tree_below (fun vs H Q E h => ?_) (fun cdv A outer s H vs Q E hr h => ?_)
  · obtain ⟨t, x, rs, rfl, _⟩ := h
    rfl
  · obtain ⟨t, x, rs, rfl, ht, hx, hE⟩ := h
    refine ⟨_, pss_cons (ps_expr (pe_call Gb hr rfl Db.g Db.F.kp Db.b .nil (passes_call (takes_of rfl rfl rfl rfl) (fun _ _ _ _ h => h)) (pa_cons (pv 0) (pa_cons (pv 1) pa_nil)))) pss_never, ?_⟩
    exact ⟨_, rfl, _, rfl, t, x, rs, rfl, ht, hx, hE⟩
end
end Ts

set_option maxRecDepth 100000
set_option maxHeartbeats 4000000
namespace Ts
open PySem L2
open LamX (ExtN Tabs TabB)
theorem Same.x {H H' : Hp} (s : Same H H') : ExtN H H' := ExtN.of s
theorem TreeAt.ext {C : Addr} {H H' : Hp} {t : Addr} {rs : List Row} (h : TreeAt C H t rs) (s : ExtN H H') : TreeAt C H' t rs := by
  obtain ⟨dx, q, f, k, p, qs, h1, h2, h3, h4, h5, h6⟩ := h.ex
  exact ⟨⟨dx, q, f, k, p, qs, s _ _ h1 nofun, s _ _ h2 nofun, ⟨h3.len, fun i b r hb hr => s _ _ (h3.at_ i b r hb hr) nofun⟩, s _ _ h4 nofun, s _ _ h5 nofun, s _ _ h6 nofun⟩, h.val, h.len⟩
theorem RowsL.ext {H H' : Hp} {p : Addr} {rs : List Row} (h : RowsL H p rs) (s : ExtN H H') : RowsL H' p rs := by
  obtain ⟨as, h1, h2⟩ := h.ex
  exact ⟨as, s _ _ h1 nofun, ⟨h2.len, fun i b r hb hr => s _ _ (h2.at_ i b r hb hr) nofun⟩⟩
/-- a thing that is no text, new -/
def OddH (H : Hp) (x : V) : Prop := x = .non ∨ (∃ i, x = .int i) ∨ (∃ b, x = .bl b) ∨ (∃ a xs, x = .ref a ∧ H a = some (.lst xs)) ∨ (∃ a xs, x = .ref a ∧ H a = some (.tup xs)) ∨ ∃ a kvs, x = .ref a ∧ H a = some (.dK kvs)
theorem OddH.ext {H H' : Hp} {x : V} (h : OddH H x) (s : ExtN H H') : OddH H' x := by
  rcases h with h | h | h | ⟨a, xs, e, h⟩ | ⟨a, xs, e, h⟩ | ⟨a, xs, e, h⟩
  · exact .inl h
  · exact .inr (.inl h)
  · exact .inr (.inr (.inl h))
  · exact .inr (.inr (.inr (.inl ⟨a, xs, e, s _ _ h nofun⟩)))
  · exact .inr (.inr (.inr (.inr (.inl ⟨a, xs, e, s _ _ h nofun⟩))))
  · exact .inr (.inr (.inr (.inr (.inr ⟨a, xs, e, s _ _ h nofun⟩))))
theorem OddH.t {K : PySem.W.Frag} {H : Hp} {x : V} (h : OddH H x) : OddT K H x := by
  rcases h with rfl | ⟨i, rfl⟩ | ⟨b, rfl⟩ | ⟨a, xs, rfl, h⟩ | ⟨a, xs, rfl, h⟩ | ⟨a, xs, rfl, h⟩
  · exact ⟨.inl rfl, _, .base .non, kit_ty (by decide +kernel)⟩
  · exact ⟨.inr (.inl ⟨i, rfl⟩), _, .base (.int i), kit_ty (by decide +kernel)⟩
  · exact ⟨.inr (.inr (.inl ⟨b, rfl⟩)), _, .base (.bl b), kit_ty (by decide +kernel)⟩
  · exact ⟨.inr (.inr (.inr (.inl ⟨a, xs, rfl, SqL.of h⟩))), _, .base (.lst h), kit_ty (by decide +kernel)⟩
  · exact ⟨.inr (.inr (.inr (.inr (.inl ⟨a, xs, rfl, sqT h⟩)))), _, .base (.tup h), kit_ty (by decide +kernel)⟩
  · exact ⟨.inr (.inr (.inr (.inr (.inr ⟨a, xs, rfl, h⟩)))), _, .base (.dK h), kit_ty (by decide +kernel)⟩
def NoBx (H : Hp) (rs : List Row) (x : V) : Prop := (∃ z : Str, x = .str z ∧ z ∉ names rs) ∨ OddH H x
def NoPl (H : Hp) (rs : List Row) (x : V) : Prop := (∃ z : Str, x = .str z ∧ z ≠ ("top" : Str) ∧ z ∉ names rs) ∨ OddH H x
theorem NoBx.ext {H H' : Hp} {rs : List Row} {x : V} (h : NoBx H rs x) (s : ExtN H H') : NoBx H' rs x := h.imp id fun h => h.ext s
theorem NoPl.ext {H H' : Hp} {rs : List Row} {x : V} (h : NoPl H rs x) (s : ExtN H H') : NoPl H' rs x := h.imp id fun h => h.ext s
theorem NoBx.o {K : PySem.W.Frag} {H : Hp} {rs : List Row} {x : V} (h : NoBx H rs x) : OddN K H rs x := h.imp id OddH.t
theorem NoPl.o {K : PySem.W.Frag} {H : Hp} {rs : List Row} {x : V} (h : NoPl H rs x) : OddP K H rs x := h.imp id OddH.t
theorem NoPl.b {H : Hp} {rs : List Row} {x : V} (h : NoPl H rs x) : NoBx H rs x := h.imp (fun ⟨z, e, _, h⟩ => ⟨z, e, h⟩) id
end Ts

set_option maxRecDepth 100000
set_option maxHeartbeats 1000000
namespace Ts
open PySem L2
/-! ### a written dict with the keys True and False -/
/-- the dict at p: what stands at True, what stands at False -/
def BoolD (P : Program) (w : World) (p : Addr) (x y : V) : HO := .ext fun h => ∃ u v : Value, RelV x u ∧ RelV y v ∧ h.DictOf (leafKind P w) p [(Leaf.num 1, u), (Leaf.num 0, v)]
theorem boolD_new {P : Program} {w : World} {H : Hp} {h : Heap} {p : Addr} {x y : V} {u v : Value} (ru : RelV x u) (rv : RelV y v) (d : h.DictOf (leafKind P w) p [(Leaf.num 1, u), (Leaf.num 0, v)]) : ObjOk P w H h p (BoolD P w p x y) := by
  obtain ⟨o, es, ep, ho, r⟩ := id d
  exact ⟨⟨u, v, ru, rv, d⟩, ⟨o, ho⟩, fun h1 h2 ⟨u, v, ru, rv, o, es, ep, ho, r⟩ k => ⟨u, v, ru, rv, o, es, ep, k _ ho, r⟩⟩
def tDispB2 (P : Program) (w : World) (t1 t2 t3 t4 : TE) : TE := fun σ H Q => ∀ p, H p = none → tPairs [(t1, t2), (t3, t4)] σ (upd H p (.dK [])) fun ps H2 => H2 p = some (.dK []) ∧ ∃ x y, ps = [(V.bl true, x), (V.bl false, y)] ∧ ((p == sysModules) = false → Q (.ref p) (upd H2 p (BoolD P w p x y)))
theorem pe_dispB2 {X : Cx} {pos : Pos} {keys : List (Option Expr)} {values : List Expr} {t1 t2 t3 t4 : TE} (h : PPs X pos keys values [(t1, t2), (t3, t4)]) (hall : keys.all (·.isSome) = true) (hl : keys.length = values.length) (h0 : keys ≠ []) (h15 : keys.length ≤ 15) : PE X (.Dict keys values pos) (tDispB2 X.prog X.w t1 t2 t3 t4) := by
  refine ⟨fun pins s σ H Q I q => ?_⟩
  have hn := I.hok.fresh (Nat.le_refl s.heap.objs.size)
  have I1 := I.laid (a := s.heap.objs.size) (o := .dK []) (h' := s.heap.push { cls := .type "dict", data := .dict #[] }) (t' := s.toks) (fun _ _ q => Heap.get?_push_of_some _ q) (Nat.le_refl _) (dk_empty s.heap I.big)
  refine wpAny_Dict_walk (knd := leafKind X.prog X.w) hall hl h0 h15 (thn (h.run pins _ σ _ _ I1 (q _ hn)) fun ws s2 ⟨ps, H2, I2, rel, e, x, y, ep, q2⟩ => ?_)
  subst ep
  obtain ⟨z, hd, vs0, r0, o0, es0, ep0, z1, z2, z3, z4⟩ := dk_of I2.hok e
  cases r0
  cases rel with
  | @cons a1 b1 as1 bs1 r1 rel =>
  cases rel with
  | @cons a2 b2 as2 bs2 r2 rel =>
  cases rel
  obtain ⟨w1, u⟩ := b1
  obtain ⟨w2, v⟩ := b2
  obtain ⟨k1, rx⟩ := r1
  obtain ⟨k2, ry⟩ := r2
  have k1 : w1 = Value.bool true := k1
  have k2 : w2 = Value.bool false := k2
  subst k1 k2
  have hes : es0.toList = [] := by
    cases hh : es0.toList with
    | nil => rfl
    | cons a b =>
      have := z4.2.1
      rw [hh] at this
      cases this
  refine ⟨[(Leaf.num 1, u), (Leaf.num 0, v)], ⟨rfl, rfl, rfl, rfl, trivial⟩, ⟨o0, es0, ep0, z1, z2, z3, ?_, ?_, List.nodup_nil⟩, fun h' dd' hs => ?_⟩
  · intro e he
    have he2 : e ∈ es0.toList := Array.mem_def.mp he
    rw [hes] at he2
    cases he2
  · rw [hes]
    exact .nil
  · have dd2 : h'.DictOf (leafKind X.prog X.w) s.heap.objs.size [(Leaf.num 1, u), (Leaf.num 0, v)] := dd'
    have he : ∃ q, h'.get? s.heap.objs.size = some q := let ⟨q, _, _, hq, _⟩ := dd2; ⟨q, hq⟩
    exact ⟨.ref s.heap.objs.size, _, d_write I2 (by rw [e]; exact True.intro) hs he (boolD_new rx ry dd2), rfl, q2 hd⟩
/-- d[b] of it -/
def tGetB2 (P : Program) (w : World) (td ty : TE) : TE := fun σ H Q => td σ H fun z H1 => ty σ H1 fun k H2 => ∃ p x y b, z = .ref p ∧ H2 p = some (BoolD P w p x y) ∧ k = .bl b ∧ Q (if b = true then x else y) H2
theorem pe_getB2 {X : Cx} {o i : Expr} {pos : Pos} {td ty : TE} (ho : PE X o td) (hi : PE X i ty) (hs : NoSl i) : PE X (.Subscript o i pos) (tGetB2 X.prog X.w td ty) := by
  refine ⟨fun pins s σ H Q I h => ?_⟩
  refine subD_of PySem.F.slot_dict_getitem.lookup hs (thn (ho.run pins s σ H _ I h) fun u s1 ⟨z, H1, I1, rz, q1⟩ => thn (hi.run pins s1 σ H1 _ I1 q1) fun iv s2 ⟨k, H2, I2, rk, p, x, y, b, ez, hp, ek, q2⟩ => ?_)
  subst ez
  subst ek
  obtain rfl : u = Value.ref p := rz
  obtain rfl : iv = Value.bool b := rk
  obtain ⟨u, v, ru, rv, dd⟩ := (I2.hok p _ hp).1
  refine ⟨dd.typeIs, ?_⟩
  cases b with
  | true => exact wpAny_getItem_of (knd := leafKind X.prog X.w) (k := Leaf.num 1) rfl dd.mapOf rfl ⟨_, H2, I2.tok _, ru, q2⟩
  | false => exact wpAny_getItem_of (knd := leafKind X.prog X.w) (k := Leaf.num 0) rfl dd.mapOf rfl ⟨_, H2, I2.tok _, rv, q2⟩
end Ts

set_option maxRecDepth 100000
set_option maxHeartbeats 4000000
namespace Ts
open PySem PySem.Spec PyProof.Rows L2
/-! ### an own error class that takes nothing -/
abbrev veBases : List Value := [.type "ValueError", .type "Exception", .type "BaseException", .type "object"]
structure Err0 (K : PySem.W.Frag) (mg : Str → Option Value) (E : Addr) (nm : Str) : Prop where
  q : PySem.W.excIn K E veBases "ValueError.__new__" = true
  k : PySem.W.keepIn K (.ref E) = true
  b : PySem.W.subIn K (.ref E) (.type "BaseException") = some true
  t : PySem.W.typeIn K (.ref E) = some (.type "type")
  g : mg nm = some (.ref E)
  te : PySem.W.exmOne K (.ref E) (.ref E) = some true
theorem pmk_err0 {X : Cx} {E : Addr} {x : Str} {p pos : Pos} (T : Err0 X.K X.mg E x) (hg : Gl X x) (hdb : (x == ("__debug__" : Str)) = false := by decide) :
    PMk X (.Call (.Name x p) [] [] pos) (fun _ H Q => Q (.ref E) none H) := by
  intro pins s σ H Q I h
  refine wpAny_Call_Name_kw (ld_glob I hg T.g ?_ hdb)
  refine PySem.W.callWith_K0 I.kIn T.k ?_
  show wpAny _ _ (call (.ref E) []) _ _ _
  obtain ⟨_, _, _, _, _, _, _, _, _, _, _, _, _, _, _, _, _, cl, mr, nin, tl⟩ := exc_obj I.kIn T.q
  refine wpAny_call_exc_subT PySem.F.excBase_ValueError tl cl mr nin (fun h' e made => ?_) (Nat.zero_le _)
  exact mk_of I made (raises_own T.b T.t) h (I.hok.gone made.new)
end Ts

set_option maxRecDepth 100000
set_option maxHeartbeats 4000000
namespace Ts
open PySem L2
open LamX (ExtN Tabs TabB)
/-! ### counts, meanings and places that do not go together -/
def Far (K : PySem.W.Frag) (C : Addr) (H : Hp) (x y : Addr) : Prop := ∃ (t1 t2 : Addr) (rs1 rs2 : List Row), HasT K H x t1 ∧ HasT K H y t2 ∧ TreeAt C H t1 rs1 ∧ TreeAt C H t2 rs2 ∧ rs1 ≠ rs2
def NoPlc (K : PySem.W.Frag) (C : Addr) (H : Hp) (c m : Addr) (x : V) : Prop := ∃ (t1 t2 : Addr) (rs : List Row), HasT K H c t1 ∧ HasT K H m t2 ∧ TreeAt C H t1 rs ∧ TreeAt C H t2 rs ∧ NoPl H rs x
def spTreesX (K : PySem.W.Frag) (C CU : Addr) : Sp := fun vs H Q E => ∃ x y : Addr, vs = [.ref x, .ref y] ∧ Far K C H x y ∧ ∀ H', Same H H' → E (.ref CU) none H'
def RefY (K : PySem.W.Frag) (C CN CU : Addr) (H : Hp) (c m : Addr) (x : V) (E : XK) : Prop :=
  (Far K C H c m ∧ ∀ H', Same H H' → E (.ref CU) none H') ∨ (NoPlc K C H c m x ∧ ∀ d H', H d = none → Same H H' → H' d = some (.xd [("box", x)]) → E (.ref CN) (some d) H')
/-- the first three of n values are counts, a meaning and a place that do not go together -/
def spRefY (K : PySem.W.Frag) (C CN CU : Addr) (n : Nat) : Sp := fun vs H _ E => ∃ (c m : Addr) (x : V) (rest : List V), vs = .ref c :: .ref m :: x :: rest ∧ rest.length = n ∧ RefY K C CN CU H c m x E
theorem HasT.ext {K : PySem.W.Frag} {H H' : Hp} {x t : Addr} (h : HasT K H x t) (s : ExtN H H') : HasT K H' x t := let ⟨C', dx, fs, h1, h2⟩ := h; ⟨C', dx, fs, s _ _ h1 nofun, h2⟩
theorem Far.ext {K : PySem.W.Frag} {C : Addr} {H H' : Hp} {x y : Addr} (h : Far K C H x y) (s : ExtN H H') : Far K C H' x y := let ⟨t1, t2, r1, r2, h1, h2, h3, h4, h5⟩ := h; ⟨t1, t2, r1, r2, h1.ext s, h2.ext s, h3.ext s, h4.ext s, h5⟩
theorem NoPlc.ext {K : PySem.W.Frag} {C : Addr} {H H' : Hp} {c m : Addr} {x : V} (h : NoPlc K C H c m x) (s : ExtN H H') : NoPlc K C H' c m x := let ⟨t1, t2, rs, h1, h2, h3, h4, h5⟩ := h; ⟨t1, t2, rs, h1.ext s, h2.ext s, h3.ext s, h4.ext s, h5.ext s⟩
theorem RefY.same {K : PySem.W.Frag} {C CN CU : Addr} {H H' : Hp} {c m : Addr} {x : V} {E : XK} (h : RefY K C CN CU H c m x E) (s : Same H H') : RefY K C CN CU H' c m x E :=
  h.imp (fun ⟨a, b⟩ => ⟨a.ext (Same.x s), fun H2 s2 => b H2 (s.trans s2)⟩) fun ⟨a, b⟩ => ⟨a.ext (Same.x s), fun d H2 hd s2 e => b d H2 (s.free hd) (s.trans s2) e⟩
theorem pe_nv {X : Cx} {e : Expr} : PE X e (fun _ _ _ => False) := ⟨fun _ _ _ _ _ _ h => h.elim⟩
section
variable {P : Program} {w : World} {K : PySem.W.Frag} {mg : Str → Option Value} {base : Heap} {C CM CC CN CU : Addr}
theorem fn_or {k k0 k1 : Nat} {f : Addr} {fd : FuncData} {ps : List Str} {sp0 sp1 : Sp} (h0 : k0 ≤ k) (h1 : k1 ≤ k) (F0 : FnOk P w K mg base CX0 k0 f fd ps sp0) (F1 : FnOk P w K mg base (L2.CX P w) k1 f fd ps sp1) : FnOk P w K mg base (L2.CX P w) k f fd ps (fun vs H Q E => sp0 vs H Q E0 ∨ sp1 vs H Q E) :=
  ⟨fun vs H Q E q => q.elim (F0.len vs H Q E0) (F1.len vs H Q E), fun A outer s H args us vs Q E hr he hb hv hs => hs.elim
    (fun h => codeAny_mono (F0.run A outer s H args us vs Q E0 (hr.mono h0) he hb hv h) fun r s' q => by
      cases r with
      | ok f => cases f <;> exact q
      | error e => exact (show False from q).elim)
    (fun h => F1.run A outer s H args us vs Q E (hr.mono h1) he hb hv h)⟩
theorem ok_treesX (D : DefAt K mg "check_trees" s_check_trees ["one", "other"]) (N : TxN K C)
    (mE : MethAt K C "__eq__" "Tree.__eq__" s_Tree_eq ["self", "other"]) (GE : FnOk P w K mg base CX0 2 mE.f mE.fd ["self", "other"] (spEqT K C)) (TU : Err0 K mg CU "UnlikeTrees") : FnOk P w K mg base (L2.CX P w) 4 D.f D.fd ["one", "other"] (spTreesX K C CU) := by
  refine D.F.okX sc_check_trees (fun vs H Q E h => ?_) (fun cdv A outer s H vs Q E hr h => ?_)
  · obtain ⟨x, y, rfl, _⟩ := h
    rfl
  · obtain ⟨x, y, rfl, ⟨t1, t2, rs1, rs2, ⟨C1, d1, fs1, h1, c1, n1, k1⟩, ⟨C2, d2, fs2, h2, c2, n2, k2⟩, ht1, ht2, hne⟩, hE⟩ := h
    obtain ⟨tdx, _, _, _, _, _, e1, _⟩ := id ht1.ex
    obtain ⟨tdx2, _, _, _, _, _, e3, _⟩ := id ht2.ex
    refine ⟨_, pss_one (ps_if (pt_cmpR (op_neC GE mE.m N.ne N.ob (hr.mono (by decide)) mE.b pass0) (pe_fld (pv 0) rfl) (pe_fld (pv 1) rfl) (nomark _)) (pss_one (ps_raise rfl (takes_of rfl rfl rfl rfl) (pmk_err0 TU rfl))) pss_nil), ?_⟩
    refine ⟨_, rfl, x, C1, d1, _, _, rfl, h1, c1, n1, k1, _, rfl, y, C2, d2, _, _, rfl, h2, c2, n2, k2, t1, tdx, _, .ref C, rfl, e1, .ins e3, nfC, t1, _, rs1, rfl, ht1, .inl ⟨t2, rs2, rfl, ht2, _, rfl, _, rfl, ?_⟩⟩
    rw [decide_eq_false hne]
    exact iteT (hE _ (Same.refl _))
abbrev pNum : List Str := ["counts", "meaning", "box", "value"]
abbrev pTT : List Str := ["one", "other"]
/-- the two looks that all of them begin with -/
theorem refY_in {H : Hp} {c m : Addr} {x : V} {E : XK} (h : RefY K C CN CU H c m x E) {Q1 : VK} (k : ∀ t1, NoPlc K C H c m x → HasT K H c t1 → (∃ rs, TreeAt C H t1 rs ∧ NoPl H rs x) → (∀ d H', H d = none → Same H H' → H' d = some (.xd [("box", x)]) → E (.ref CN) (some d) H') → Q1 .non H) :
    spTreesN K C [.ref c, .ref m] H Q1 E0 ∨ spTreesX K C CU [.ref c, .ref m] H Q1 E := by
  rcases h with ⟨hf, hE⟩ | ⟨hn, hE⟩
  · exact .inr ⟨c, m, rfl, hf, hE⟩
  · obtain ⟨t1, t2, rs, h1, h2, h3, h4, h5⟩ := id hn
    exact .inl ⟨c, m, rfl, ⟨t1, t2, rs, h1, h2, h3, h4⟩, k t1 hn h1 ⟨rs, h3, h5⟩ hE⟩
theorem ok_numY (D : DefAt K mg "number_within" s_number_within pNum)
    (Dt : DefAt K mg "check_trees" s_check_trees pTT) (Gt : FnOk P w K mg base CX0 4 Dt.f Dt.fd pTT (spTreesN K C)) (Xt : FnOk P w K mg base (L2.CX P w) 4 Dt.f Dt.fd pTT (spTreesX K C CU))
    (Dp : DefAt K mg "check_place" s_check_place ["tree", "thing"]) (Xp : FnOk P w K mg base (L2.CX P w) 4 Dp.f Dp.fd ["tree", "thing"] (spRef K C CN OddP)) : FnOk P w K mg base (L2.CX P w) 5 D.f D.fd pNum (spRefY K C CN CU 1) := by
  refine D.F.okX sc_num (fun vs H Q E h => ?_) (fun cdv A outer s H vs Q E hr h => ?_)
  · obtain ⟨c, m, x, rest, rfl, hl, _⟩ := h
    simp [hl]
  · obtain ⟨c, m, x, rest, rfl, hl, h⟩ := h
    match rest, hl with
    | [b], _ =>
    refine ⟨_, pss_cons (ps_expr (pe_call (fn_or (Nat.le_refl _) (Nat.le_refl _) Gt Xt) hr rfl Dt.g Dt.F.kp Dt.b .nil (passes_call (takes_of rfl rfl rfl rfl) (fun _ _ _ _ h => h)) (pa_cons (pv 0) (pa_cons (pv 1) pa_nil))))
      (pss_cons (ps_expr (pe_call Xp hr rfl Dp.g Dp.F.kp Dp.b .nil (passes_call (takes_of rfl rfl rfl rfl) (fun _ _ _ _ h => h)) (pa_cons (pe_fld (pv 0) rfl) (pa_cons (pv 2) pa_nil)))) pss_never), ?_⟩
    refine ⟨_, rfl, _, rfl, refY_in h fun t1 _ ⟨C2, dx, fs, h1, h2, h3, h4⟩ ⟨rs, ht, hx⟩ hE => ?_⟩
    exact ⟨_, rfl, c, C2, dx, _, _, rfl, h1, h2, h3, h4, _, rfl, t1, x, rs, rfl, ht, hx.o, hE⟩
abbrev pOn : List Str := ["self", "meaning", "box"]
theorem ok_onY {f : Addr} {fd : FuncData} (F : Fun K "on" "Counts.on" s_Counts_on f fd) (Dn : DefAt K mg "number_within" s_number_within pNum) (Xn : FnOk P w K mg base (L2.CX P w) 5 Dn.f Dn.fd pNum (spRefY K C CN CU 1)) : FnOk P w K mg base (L2.CX P w) 6 f fd pOn (spRefY K C CN CU 0) := by
  refine F.okX sc_on (fun vs H Q E h => ?_) (fun cdv A outer s H vs Q E hr h => ?_)
  · obtain ⟨c, m, x, rest, rfl, hl, _⟩ := h
    simp [hl]
  · obtain ⟨c, m, x, rest, rfl, hl, h⟩ := h
    obtain rfl := List.eq_nil_of_length_eq_zero hl
    refine ⟨_, pss_one (ps_ret (pe_call Xn hr rfl Dn.g Dn.F.kp Dn.b .nil (passes_call (takes_of rfl rfl rfl rfl) (fun _ _ _ _ h => h)) (pa_cons (pv 0) (pa_cons (pv 1) (pa_cons (pv 2) (pa_cons pe_bl pa_nil)))))), ?_⟩
    exact ⟨_, rfl, _, rfl, _, rfl, c, m, x, [.bl true], rfl, rfl, h⟩
theorem ok_offY {f : Addr} {fd : FuncData} (F : Fun K "off" "Counts.off" s_Counts_off f fd) (Dn : DefAt K mg "number_within" s_number_within pNum) (Xn : FnOk P w K mg base (L2.CX P w) 5 Dn.f Dn.fd pNum (spRefY K C CN CU 1)) : FnOk P w K mg base (L2.CX P w) 6 f fd pOn (spRefY K C CN CU 0) := by
  refine F.okX sc_off (fun vs H Q E h => ?_) (fun cdv A outer s H vs Q E hr h => ?_)
  · obtain ⟨c, m, x, rest, rfl, hl, _⟩ := h
    simp [hl]
  · obtain ⟨c, m, x, rest, rfl, hl, h⟩ := h
    obtain rfl := List.eq_nil_of_length_eq_zero hl
    refine ⟨_, pss_one (ps_ret (pe_call Xn hr rfl Dn.g Dn.F.kp Dn.b .nil (passes_call (takes_of rfl rfl rfl rfl) (fun _ _ _ _ h => h)) (pa_cons (pv 0) (pa_cons (pv 1) (pa_cons (pv 2) (pa_cons pe_bl pa_nil)))))), ?_⟩
    exact ⟨_, rfl, _, rfl, _, rfl, c, m, x, [.bl false], rfl, rfl, h⟩
theorem RefY.has {H : Hp} {c m : Addr} {x : V} {E : XK} (h : RefY K C CN CU H c m x E) : ∃ t, HasT K H c t := by
  rcases h with ⟨⟨t1, _, _, _, h1, _⟩, _⟩ | ⟨⟨t1, _, _, h1, _⟩, _⟩
  · exact ⟨t1, h1⟩
  · exact ⟨t1, h1⟩
theorem ok_showsY {f : Addr} {fd : FuncData} (F : Fun K "shows" "Counts.shows" s_Counts_shows f fd) (TK : TxK K mg CC) (Dm : DefAt K mg "may_have" s_may_have ["number"]) (Gm : FnOk P w K mg base CX0 1 Dm.f Dm.fd ["number"] (spMay K))
    (mOn : MethAt K CC "on" "Counts.on" s_Counts_on pOn) (XOn : FnOk P w K mg base (L2.CX P w) 6 mOn.f mOn.fd pOn (spRefY K C CN CU 0)) : FnOk P w K mg base (L2.CX P w) 7 f fd pOn (fun vs H Q E => spRefY K C CN CU 0 vs H Q E ∧ ∃ (c dx t k : Addr) (r : List V), vs = .ref c :: r ∧ H c = some (.ins CC dx (cf t k))) := by
  refine F.okX sc_shows (fun vs H Q E h => ?_) (fun cdv A outer s H vs Q E hr h => ?_)
  · obtain ⟨⟨c, m, x, rest, rfl, hl, _⟩, _⟩ := h
    simp [hl]
  · obtain ⟨⟨c, m, x, rest, rfl, hl, h⟩, c2, dx, t, k, r, e, hc⟩ := h
    cases e
    obtain rfl := List.eq_nil_of_length_eq_zero hl
    have r1 : Room 1 _ := hr.mono (by decide)
    refine ⟨_, pss_cons (ps_asg (pe_tup (pa_cons (pe_call Gm r1 rfl Dm.g Dm.F.kp Dm.b .nil pass0 (pa_cons (pe_meth (pv 0) TK.cl mOn.m XOn hr mOn.b .nil (passes_call (takes_of rfl rfl rfl rfl) (fun _ _ _ _ h => h)) (pa_cons (pv 1) (pa_cons (pv 2) pa_nil))) pa_nil)) (pa_cons pe_nv pa_nil))) (pg_tup rfl (pgs_cons (pg_name (i := 3) sc_shows.nd rfl (.inl rfl)) (pgs_cons (pg_name (i := 4) sc_shows.nd rfl (.inr rfl)) pgs_nil)))) pss_never, ?_⟩
    exact ⟨_, rfl, c, dx, _, rfl, hc, rfl, _, rfl, _, rfl, c, m, x, [], rfl, rfl, h⟩
abbrev nAsks : List Str := ["self", "meaning", "box", "least", "places", "place"]
theorem sc_asks : FnScope nAsks ["self", "meaning", "box"] (defScope s_Counts_asks) := ⟨rfl, rfl, rfl, by decide +kernel, rfl, by decide +kernel, by decide +kernel⟩
theorem ok_asksY {f : Addr} {fd : FuncData} (F : Fun K "asks" "Counts.asks" s_Counts_asks f fd) (TK : TxK K mg CC)
    (mOn : MethAt K CC "on" "Counts.on" s_Counts_on pOn) (XOn : FnOk P w K mg base (L2.CX P w) 6 mOn.f mOn.fd pOn (spRefY K C CN CU 0)) : FnOk P w K mg base (L2.CX P w) 7 f fd pOn (fun vs H Q E => spRefY K C CN CU 0 vs H Q E ∧ ∃ (c dx t k : Addr) (r : List V), vs = .ref c :: r ∧ H c = some (.ins CC dx (cf t k))) := by
  refine F.okX sc_asks (fun vs H Q E h => ?_) (fun cdv A outer s H vs Q E hr h => ?_)
  · obtain ⟨⟨c, m, x, rest, rfl, hl, _⟩, _⟩ := h
    simp [hl]
  · obtain ⟨⟨c, m, x, rest, rfl, hl, h⟩, c2, dx, t, k, r, e, hc⟩ := h
    cases e
    obtain rfl := List.eq_nil_of_length_eq_zero hl
    refine ⟨_, pss_cons (ps_set (i := 3) sc_asks.nd rfl (.inr rfl) (show PE _ _ (tDispB2 P w _ _ _ _) from pe_dispB2 (pps_cons pe_bl (pe_ix ix_tup (pe_meth (pv 0) TK.cl mOn.m XOn hr mOn.b .nil (passes_call (takes_of rfl rfl rfl rfl) (fun _ _ _ _ h => h)) (pa_cons (pv 1) (pa_cons (pv 2) pa_nil))) pe_int (fun _ _ => rfl)) (pps_cons pe_bl pe_nv pps_nil)) (by rfl) (by rfl) (fun z => by cases z) (by decide))) pss_never, ?_⟩
    exact fun p hp => ⟨_, rfl, c, dx, _, rfl, (Same.new hp) _ _ hc, rfl, _, rfl, _, rfl, c, m, x, [], rfl, rfl, h.same (Same.new hp)⟩
abbrev pCk : List Str := ["counts", "meaning", "box", "table", "seen"]
abbrev nCk : List Str := ["counts", "meaning", "box", "table", "seen", "word", "item"]
theorem sc_ck : FnScope nCk pCk (defScope s_check_click) := ⟨rfl, rfl, rfl, by decide +kernel, rfl, by decide +kernel, by decide +kernel⟩
abbrev nClick : List Str := ["counts", "meaning", "box", "table", "seen", "places", "items", "place"]
theorem sc_click : FnScope nClick pCk (defScope s_click) := ⟨rfl, rfl, rfl, by decide +kernel, rfl, by decide +kernel, by decide +kernel⟩
abbrev nUnseen : List Str := ["counts", "meaning", "box", "table", "seen", "before", "behind", "place"]
theorem sc_unseen : FnScope nUnseen pCk (defScope s_unseen) := ⟨rfl, rfl, rfl, by decide +kernel, rfl, by decide +kernel, by decide +kernel⟩
theorem ok_ckY (D : DefAt K mg "check_click" s_check_click pCk)
    (Dt : DefAt K mg "check_trees" s_check_trees pTT) (Gt : FnOk P w K mg base CX0 4 Dt.f Dt.fd pTT (spTreesN K C)) (Xt : FnOk P w K mg base (L2.CX P w) 4 Dt.f Dt.fd pTT (spTreesX K C CU))
    (Dp : DefAt K mg "check_place" s_check_place ["tree", "thing"]) (Xp : FnOk P w K mg base (L2.CX P w) 4 Dp.f Dp.fd ["tree", "thing"] (spRef K C CN OddP)) : FnOk P w K mg base (L2.CX P w) 5 D.f D.fd pCk (spRefY K C CN CU 2) := by
  refine D.F.okX sc_ck (fun vs H Q E h => ?_) (fun cdv A outer s H vs Q E hr h => ?_)
  · obtain ⟨c, m, x, rest, rfl, hl, _⟩ := h
    simp [hl]
  · obtain ⟨c, m, x, rest, rfl, hl, h⟩ := h
    match rest, hl with
    | [b, b2], _ =>
    refine ⟨_, pss_cons (ps_expr (pe_call (fn_or (Nat.le_refl _) (Nat.le_refl _) Gt Xt) hr rfl Dt.g Dt.F.kp Dt.b .nil (passes_call (takes_of rfl rfl rfl rfl) (fun _ _ _ _ h => h)) (pa_cons (pv 0) (pa_cons (pv 1) pa_nil))))
      (pss_cons (ps_expr (pe_call Xp hr rfl Dp.g Dp.F.kp Dp.b .nil (passes_call (takes_of rfl rfl rfl rfl) (fun _ _ _ _ h => h)) (pa_cons (pe_fld (pv 0) rfl) (pa_cons (pv 2) pa_nil)))) pss_never), ?_⟩
    refine ⟨_, rfl, _, rfl, refY_in h fun t1 _ ⟨C2, dx, fs, h1, h2, h3, h4⟩ ⟨rs, ht, hx⟩ hE => ?_⟩
    exact ⟨_, rfl, c, C2, dx, _, _, rfl, h1, h2, h3, h4, _, rfl, t1, x, rs, rfl, ht, hx.o, hE⟩
theorem ok_clickY {f : Addr} {fd : FuncData} {dvs : List V} (F : FunD K "click" "click" (defArgs s_click) (defBody s_click) (defScope s_click) dvs [] f fd)
    (Dc : DefAt K mg "check_click" s_check_click pCk) (Xc : FnOk P w K mg base (L2.CX P w) 5 Dc.f Dc.fd pCk (spRefY K C CN CU 2)) : FnOk P w K mg base (L2.CX P w) 6 f fd pCk (spRefY K C CN CU 2) := by
  refine F.ok sc_click (fun vs H Q E h => ?_) (fun cdv A outer s H vs Q E hr h => ?_)
  · obtain ⟨c, m, x, rest, rfl, hl, _⟩ := h
    simp [hl]
  · obtain ⟨c, m, x, rest, rfl, hl, h⟩ := h
    match rest, hl with
    | [b, b2], _ =>
    refine ⟨_, pss_cons (ps_expr (pe_call Xc hr rfl Dc.g Dc.F.kp Dc.b .nil (passes_call (takes_of rfl rfl rfl rfl) (fun _ _ _ _ h => h)) (pa_cons (pv 0) (pa_cons (pv 1) (pa_cons (pv 2) (pa_cons (pv 3) (pa_cons (pv 4) pa_nil))))))) pss_never, ?_⟩
    exact ⟨_, rfl, _, rfl, _, rfl, _, rfl, _, rfl, c, m, x, [b, b2], rfl, rfl, h⟩
theorem ok_unseenY (D : DefAt K mg "unseen" s_unseen pCk)
    (Dc : DefAt K mg "check_click" s_check_click pCk) (Xc : FnOk P w K mg base (L2.CX P w) 5 Dc.f Dc.fd pCk (spRefY K C CN CU 2)) : FnOk P w K mg base (L2.CX P w) 6 D.f D.fd pCk (spRefY K C CN CU 2) := by
  refine D.F.okX sc_unseen (fun vs H Q E h => ?_) (fun cdv A outer s H vs Q E hr h => ?_)
  · obtain ⟨c, m, x, rest, rfl, hl, _⟩ := h
    simp [hl]
  · obtain ⟨c, m, x, rest, rfl, hl, h⟩ := h
    match rest, hl with
    | [b, b2], _ =>
    refine ⟨_, pss_cons (ps_expr (pe_call Xc hr rfl Dc.g Dc.F.kp Dc.b .nil (passes_call (takes_of rfl rfl rfl rfl) (fun _ _ _ _ h => h)) (pa_cons (pv 0) (pa_cons (pv 1) (pa_cons (pv 2) (pa_cons (pv 3) (pa_cons (pv 4) pa_nil))))))) pss_never, ?_⟩
    exact ⟨_, rfl, _, rfl, _, rfl, _, rfl, _, rfl, c, m, x, [b, b2], rfl, rfl, h⟩
end
end Ts

set_option maxRecDepth 100000
set_option maxHeartbeats 4000000
namespace L2
open PySem PySem.Spec PyProof.Rows
/-! ### whether any thing is in a list or tuple of texts -/
theorem rc_str_dict {A : Around} {s : Shared} {l : Addr} {es : Array DictEntry} {ep : Nat} {dd : Option Addr} {sl : Array (Option Value)} (b : Str) (u : Tok) (ho : s.heap.get? l = some { cls := .type "dict", dict := dd, data := .dict es ep, slots := sl }) (hu : A.units < cLine) : SeqAt.RcAt A s (.str b u) (.ref l) false := fun prog w E Q h =>
  SeqAt.rc_eq_decline_or (k := false) (typeIs_str s b u) ⟨_, ho, rfl⟩ (by decide) F.sub_dict_str F.slot_str_eq F.slot_dict_eq_refl
    (fun _ hq => call_meets F.slot_str_eq (typeIs_str s b u) F.entry_str_eq (F.args_str_eq_2 _ _) (str_eq_no_dict b u l (.type "dict") es ep dd sl) ⟨ho, hq⟩)
    (fun _ hq => call_meets F.slot_dict_eq_refl ⟨_, ho, rfl⟩ F.entry_dict_eq (F.args_dict_eq_2 _ _) (dict_eq_no_str l _ b u) ⟨ho, rfl, hq⟩)
    (fun _ hq => wpAny_of_eq (rfl : isSame (.str b u) (.ref l) = pure false) hq) (.inr hu) h
theorem eqAt_str_dict {A : Around} {s : Shared} {l : Addr} {es : Array DictEntry} {ep : Nat} {dd : Option Addr} {sl : Array (Option Value)} (b : Str) (u : Tok) (ho : s.heap.get? l = some { cls := .type "dict", dict := dd, data := .dict es ep, slots := sl }) (hu : A.units < cLine) : SeqAt.EqAt A s (.str b u) (.ref l) false := fun prog w E Q h => by
  unfold eqBool
  refine wpAny_holding (wpAny_ite_split (fun same => absurd (eq_of_beq same) nofun) fun _ => ?_)
  exact wpAny_bind (rc_str_dict b u ho hu prog w E _ (wpAny_truthy_bool h))
section
variable {X : Cx} {pins : List (Addr × Obj)} {σ : St} {H : Hp} {s : Shared}
/-- a text and a thing that is none -/
theorem odd_eqAt (I : Inv X pins σ H s) {A : Around} {x : V} {v : Value} (h : OddV X.K H x) (r : RelV x v) (z : Str) (t : Tok) (hu : A.units < cLine) : SeqAt.EqAt A s (.str z t) v false := by
  rcases h with rfl | ⟨i, rfl⟩ | ⟨b, rfl⟩ | ⟨a, xs, rfl, ha⟩ | ⟨a, xs, rfl, ha⟩ | ⟨a, kvs, rfl, ha⟩
  · cases r
    exact SeqAt.EqAt.str_none z t
  · obtain ⟨t2, rfl⟩ := r
    exact SeqAt.EqAt.str_int z t i t2
  · cases r
    exact SeqAt.EqAt.str_bool z t b
  · cases r
    obtain ⟨its, _, p, _⟩ := I.list ha
    exact SeqAt.EqAt.str_list z t p.isList hu
  · cases r
    obtain ⟨its, _, p, _⟩ := I.tuple ha
    exact SeqAt.EqAt.str_tuple z t p hu
  · cases r
    obtain ⟨_, _, vs, _, dd⟩ := (show ObjOk X.prog X.w H s.heap a (.dK kvs) from I.hok a _ ha)
    obtain ⟨⟨cls, dd, data, sl⟩, es, ep, ho, hx, hd, _⟩ := dd
    obtain ⟨h1, h2⟩ := hx
    simp only at h1 hd
    subst h1 hd
    exact eqAt_str_dict z t ho hu
def eqStr (z : Str) : Value → Bool
  | .str y _ => y == z
  | _ => false
theorem any_eqStr (z : Str) : ∀ {ns : List Str} {us : List Value}, Vals (ns.map V.str) us → us.any (eqStr z) = decide (z ∈ ns)
  | [], _, h => by cases h; rfl
  | n :: ns, _, h => by
    cases h with
    | cons r1 r2 =>
      obtain ⟨t, rfl⟩ := r1
      rw [List.any_cons, any_eqStr z r2]
      show (n == z || decide (z ∈ ns)) = decide (z ∈ n :: ns)
      by_cases e : n = z
      · rw [decide_eq_true (show z ∈ n :: ns from by rw [e]; exact List.mem_cons_self ..), show (n == z) = true from beq_iff_eq.mpr e, Bool.true_or]
      · rw [show (n == z) = false from beq_eq_false_iff_ne.mpr e, Bool.false_or]
        exact decide_eq_decide.mpr ⟨fun h => List.mem_cons_of_mem _ h, fun h => (List.mem_cons.mp h).resolve_left fun q => e q.symm⟩
/-- x in ts, x not in ts -/
def rInOdd (K : PySem.W.Frag) (neg : Bool) : R2 := fun x y H Q => ∃ (p : Addr) (ns : List Str), y = .ref p ∧ (SqL K H p (ns.map V.str) ∨ SqT K H p (ns.map V.str)) ∧ ((∃ z, x = .str z ∧ Q (.bl (neg != decide (z ∈ ns))) H) ∨ (OddV K H x ∧ Q (.bl neg) H))
end
section
variable {X : Cx}
theorem op_inOdd (hu : X.A.units + 1 < cLine) : OpR X (compareOp .In) (rInOdd X.K false) := by
  intro pins s σ H x y v u Q I rx ry h
  obtain ⟨p, ns, rfl, hq, h⟩ := h
  cases ry
  have hu1 : X.A.in1.units < cLine := hu
  rcases h with ⟨z, rfl, q⟩ | ⟨hx, q⟩
  · obtain ⟨t, rfl⟩ := rx
    have q' : Q (.bl (decide (z ∈ ns))) H := by rw [Bool.false_bne] at q; exact q
    rcases hq with hq | hq
    · obtain ⟨its, r, pl, hz⟩ := I.list hq
      refine SeqAt.in_listAt (eqStr z) pl.isList (fun w hw => ?_) ⟨.bl _, H, I, rfl, ?_⟩
      · obtain ⟨z', t', rfl⟩ := strs_ofV r w (by simpa using hw)
        exact SeqAt.EqAt.str_str z' t' z t
      · rw [show its.toArray.any (eqStr z) = its.any (eqStr z) by simp, any_eqStr z r]; exact q'
    · obtain ⟨its, r, pl, hz⟩ := I.tuple hq
      refine SeqAt.in_tupleAt (eqStr z) pl (fun w hw => ?_) ⟨.bl _, H, I, rfl, ?_⟩
      · obtain ⟨z', t', rfl⟩ := strs_ofV r w (by simpa using hw)
        exact SeqAt.EqAt.str_str z' t' z t
      · rw [show its.toArray.any (eqStr z) = its.any (eqStr z) by simp, any_eqStr z r]; exact q'
  · have none_ : ∀ its : List Value, its.toArray.any (fun _ => false) = false := fun its => by simp
    rcases hq with hq | hq
    · obtain ⟨its, r, pl, hz⟩ := I.list hq
      refine SeqAt.in_listAt (fun _ => false) pl.isList (fun w hw => ?_) ⟨.bl _, H, I, rfl, ?_⟩
      · obtain ⟨z', t', rfl⟩ := strs_ofV r w (by simpa using hw)
        exact odd_eqAt I hx rx z' t' hu1
      · rw [none_]; exact q
    · obtain ⟨its, r, pl, hz⟩ := I.tuple hq
      refine SeqAt.in_tupleAt (fun _ => false) pl (fun w hw => ?_) ⟨.bl _, H, I, rfl, ?_⟩
      · obtain ⟨z', t', rfl⟩ := strs_ofV r w (by simpa using hw)
        exact odd_eqAt I hx rx z' t' hu1
      · rw [none_]; exact q
theorem op_notinOdd (hu : X.A.units + 1 < cLine) : OpR X (compareOp .NotIn) (rInOdd X.K true) := by
  intro pins s σ H x y v u Q I rx ry h
  obtain ⟨p, ns, rfl, hq, h⟩ := h
  cases ry
  have hu1 : X.A.in1.units < cLine := hu
  rcases h with ⟨z, rfl, q⟩ | ⟨hx, q⟩
  · obtain ⟨t, rfl⟩ := rx
    have q' : Q (.bl (!decide (z ∈ ns))) H := by rw [Bool.true_bne] at q; exact q
    rcases hq with hq | hq
    · obtain ⟨its, r, pl, hz⟩ := I.list hq
      refine SeqAt.notIn_listAt (eqStr z) pl.isList (fun w hw => ?_) ⟨.bl _, H, I, rfl, ?_⟩
      · obtain ⟨z', t', rfl⟩ := strs_ofV r w (by simpa using hw)
        exact SeqAt.EqAt.str_str z' t' z t
      · rw [show its.toArray.any (eqStr z) = its.any (eqStr z) by simp, any_eqStr z r]; exact q'
    · obtain ⟨its, r, pl, hz⟩ := I.tuple hq
      refine SeqAt.notIn_tupleAt (eqStr z) pl (fun w hw => ?_) ⟨.bl _, H, I, rfl, ?_⟩
      · obtain ⟨z', t', rfl⟩ := strs_ofV r w (by simpa using hw)
        exact SeqAt.EqAt.str_str z' t' z t
      · rw [show its.toArray.any (eqStr z) = its.any (eqStr z) by simp, any_eqStr z r]; exact q'
  · have none_ : ∀ its : List Value, its.toArray.any (fun _ => false) = false := fun its => by simp
    rcases hq with hq | hq
    · obtain ⟨its, r, pl, hz⟩ := I.list hq
      refine SeqAt.notIn_listAt (fun _ => false) pl.isList (fun w hw => ?_) ⟨.bl _, H, I, rfl, ?_⟩
      · obtain ⟨z', t', rfl⟩ := strs_ofV r w (by simpa using hw)
        exact odd_eqAt I hx rx z' t' hu1
      · rw [none_]; exact q
    · obtain ⟨its, r, pl, hz⟩ := I.tuple hq
      refine SeqAt.notIn_tupleAt (fun _ => false) pl (fun w hw => ?_) ⟨.bl _, H, I, rfl, ?_⟩
      · obtain ⟨z', t', rfl⟩ := strs_ofV r w (by simpa using hw)
        exact odd_eqAt I hx rx z' t' hu1
      · rw [none_]; exact q
end
end L2

set_option maxRecDepth 100000
set_option maxHeartbeats 4000000
namespace Ts
open PySem L2
open LamX (ExtN Tabs TabB)
/-! ### rows of any things -/
def nmB (z : Str) : Bool := !decide (z = ("top" : Str)) && (!decide (8 < z.length) && (Txt.isascii z && (Txt.isalpha z && Txt.islower z)))
def nameB : V → Bool
  | .str z => nmB z
  | _ => false
def inB (l : List Str) : V → Bool
  | .str z => decide (z ∈ l)
  | _ => false
def numB (n : Int) : V → Bool
  | .int i => decide (n ≤ i)
  | _ => false
def prB : V → Bool
  | .non => true
  | x => numB 1 x
def fitB (N F : List Str) : List V → Bool
  | [a, b, c, d] => nameB a && (!inB N a && (inB F b && (inB kinds3 c && prB d)))
  | _ => false
def nmC : List V → Str
  | .str z :: _ => z
  | _ => ""
def foC : List V → Bool
  | [_, _, c, _] => inB ["folder"] c
  | _ => false
/-- a thing in a row -/
def CellV (H : Hp) (x : V) : Prop := (∃ z : Str, x = .str z ∧ z.length ≤ 100) ∨ OddH H x
theorem CellV.ext {H H' : Hp} {x : V} (h : CellV H x) (s : ExtN H H') : CellV H' x := h.imp id fun h => h.ext s
def isS : V → Bool
  | .str _ => true
  | _ => false
def isI : V → Bool
  | .int _ => true
  | .bl _ => true
  | _ => false
def isBl : V → Bool
  | .bl _ => true
  | _ => false
theorem CellV.ty {K : PySem.W.Frag} {H : Hp} {x : V} (h : CellV H x) : ∃ t, TyX K H x t ∧ PySem.W.kitOne K t (.type "str") = some (isS x) ∧ PySem.W.kitOne K t (.type "int") = some (isI x) ∧ PySem.W.kitOne K t (.type "bool") = some (isBl x) := by
  rcases h with ⟨z, rfl, _⟩ | rfl | ⟨i, rfl⟩ | ⟨b, rfl⟩ | ⟨a, xs, rfl, h⟩ | ⟨a, xs, rfl, h⟩ | ⟨a, xs, rfl, h⟩
  · exact ⟨_, .base (.str z), (show PySem.W.kitOne K (.type "str") (.type "str") = some true from kit_ty (by decide +kernel)), (show PySem.W.kitOne K (.type "str") (.type "int") = some false from kit_ty (by decide +kernel)), (show PySem.W.kitOne K (.type "str") (.type "bool") = some false from kit_ty (by decide +kernel))⟩
  · exact ⟨_, .base .non, (show PySem.W.kitOne K (.type "NoneType") (.type "str") = some false from kit_ty (by decide +kernel)), (show PySem.W.kitOne K (.type "NoneType") (.type "int") = some false from kit_ty (by decide +kernel)), (show PySem.W.kitOne K (.type "NoneType") (.type "bool") = some false from kit_ty (by decide +kernel))⟩
  · exact ⟨_, .base (.int i), (show PySem.W.kitOne K (.type "int") (.type "str") = some false from kit_ty (by decide +kernel)), (show PySem.W.kitOne K (.type "int") (.type "int") = some true from kit_ty (by decide +kernel)), (show PySem.W.kitOne K (.type "int") (.type "bool") = some false from kit_ty (by decide +kernel))⟩
  · exact ⟨_, .base (.bl b), (show PySem.W.kitOne K (.type "bool") (.type "str") = some false from kit_ty (by decide +kernel)), (show PySem.W.kitOne K (.type "bool") (.type "int") = some true from kit_ty (by decide +kernel)), (show PySem.W.kitOne K (.type "bool") (.type "bool") = some true from kit_ty (by decide +kernel))⟩
  · exact ⟨_, .base (.lst h), (show PySem.W.kitOne K (.type "list") (.type "str") = some false from kit_ty (by decide +kernel)), (show PySem.W.kitOne K (.type "list") (.type "int") = some false from kit_ty (by decide +kernel)), (show PySem.W.kitOne K (.type "list") (.type "bool") = some false from kit_ty (by decide +kernel))⟩
  · exact ⟨_, .base (.tup h), (show PySem.W.kitOne K (.type "tuple") (.type "str") = some false from kit_ty (by decide +kernel)), (show PySem.W.kitOne K (.type "tuple") (.type "int") = some false from kit_ty (by decide +kernel)), (show PySem.W.kitOne K (.type "tuple") (.type "bool") = some false from kit_ty (by decide +kernel))⟩
  · exact ⟨_, .base (.dK h), (show PySem.W.kitOne K (.type "dict") (.type "str") = some false from kit_ty (by decide +kernel)), (show PySem.W.kitOne K (.type "dict") (.type "int") = some false from kit_ty (by decide +kernel)), (show PySem.W.kitOne K (.type "dict") (.type "bool") = some false from kit_ty (by decide +kernel))⟩
def NoSq (H : Hp) (y : V) : Prop := y = .non ∨ (∃ i, y = .int i) ∨ (∃ z, y = .str z) ∨ ∃ a kvs, y = .ref a ∧ H a = some (.dK kvs)
theorem NoSq.ext {H H' : Hp} {y : V} (h : NoSq H y) (s : ExtN H H') : NoSq H' y := by
  rcases h with h | h | h | ⟨a, kvs, e, h⟩
  · exact .inl h
  · exact .inr (.inl h)
  · exact .inr (.inr (.inl h))
  · exact .inr (.inr (.inr ⟨a, kvs, e, s _ _ h nofun⟩))
theorem kit_noseq {K : PySem.W.Frag} {T : String} (h1 : PySem.W.kitOne K (.type T) (.type "list") = some false) (h2 : PySem.W.kitOne K (.type T) (.type "tuple") = some false) : PySem.W.kitAny K (.type T) [.type "list", .type "tuple"] = some false := kitAny_cons (b := false) h1 (fun _ => kitAny_cons (b := false) h2 (fun _ => rfl) fun e => nomatch e) fun e => nomatch e
theorem NoSq.ty {K : PySem.W.Frag} {H : Hp} {y : V} (h : NoSq H y) : ∃ t, TyX K H y t ∧ PySem.W.kitAny K t [.type "list", .type "tuple"] = some false := by
  rcases h with rfl | ⟨i, rfl⟩ | ⟨z, rfl⟩ | ⟨a, kvs, rfl, h⟩
  · exact ⟨_, .base .non, kit_noseq (kit_ty (by decide +kernel)) (kit_ty (by decide +kernel))⟩
  · exact ⟨_, .base (.int i), kit_noseq (kit_ty (by decide +kernel)) (kit_ty (by decide +kernel))⟩
  · exact ⟨_, .base (.str z), kit_noseq (kit_ty (by decide +kernel)) (kit_ty (by decide +kernel))⟩
  · exact ⟨_, .base (.dK h), kit_noseq (kit_ty (by decide +kernel)) (kit_ty (by decide +kernel))⟩
/-- a thing among rows: no list and no tuple, or one of such things -/
def ThAt (H : Hp) (y : V) (cs : List V) : Prop := (NoSq H y ∧ cs = []) ∨ ∃ a, y = .ref a ∧ Seq H a cs ∧ cs.length ≤ 10 ∧ ∀ c ∈ cs, CellV H c
theorem Seq.xt {H H' : Hp} {a : Addr} {xs : List V} (h : Seq H a xs) (s : ExtN H H') : Seq H' a xs := h.imp (fun h => s _ _ h nofun) (fun h => s _ _ h nofun)
theorem ThAt.ext {H H' : Hp} {y : V} {cs : List V} (h : ThAt H y cs) (s : ExtN H H') : ThAt H' y cs := by
  rcases h with ⟨h, e⟩ | ⟨a, e, h, l, c⟩
  · exact .inl ⟨h.ext s, e⟩
  · exact .inr ⟨a, e, h.xt s, l, fun x hx => (c x hx).ext s⟩
structure ThL (H : Hp) (ys : List V) (css : List (List V)) : Prop where
  len : ys.length = css.length
  at_ : ∀ (i : Nat) (y : V) (cs : List V), ys[i]? = some y → css[i]? = some cs → ThAt H y cs
theorem ThL.ext {H H' : Hp} {ys : List V} {css : List (List V)} (h : ThL H ys css) (s : ExtN H H') : ThL H' ys css := ⟨h.len, fun i y cs a b => (h.at_ i y cs a b).ext s⟩
/-- names and folders behind some rows -/
def nsA (N : List Str) (css : List (List V)) : List Str := N ++ css.map nmC
def fsA (F : List Str) (css : List (List V)) : List Str := F ++ (css.filter foC).map nmC
def fitAt (N F : List Str) (css : List (List V)) (i : Nat) : Bool := match css[i]? with
  | some cs => fitB (nsA N (css.take i)) (fsA F (css.take i)) cs
  | none => false
inductive DueI (N F : List Str) (css : List (List V)) : Option Nat → Prop
  | fine (h : ∀ i, i < css.length → fitAt N F css i = true) : DueI N F css none
  | bad {i : Nat} (hi : i < css.length) (h : ∀ j, j < i → fitAt N F css j = true) (hb : fitAt N F css i = false) : DueI N F css (some i)
theorem dueI_ex (N F : List Str) (css : List (List V)) : ∃ r, DueI N F css r := by
  have : ∀ n, n ≤ css.length → (∀ i, i < n → fitAt N F css i = true) ∨ ∃ i, i < n ∧ (∀ j, j < i → fitAt N F css j = true) ∧ fitAt N F css i = false := by
    intro n
    induction n with
    | zero => exact fun _ => .inl fun i hi => by omega
    | succ n ih =>
      intro hn
      rcases ih (by omega) with h | ⟨i, hi, h1, h2⟩
      · cases e : fitAt N F css n with
        | true =>
          refine .inl fun i hi => ?_
          by_cases q : i = n
          · rw [q]; exact e
          · exact h i (by omega)
        | false => exact .inr ⟨n, by omega, h, e⟩
      · exact .inr ⟨i, by omega, h1, h2⟩
  rcases this css.length (Nat.le_refl _) with h | ⟨i, hi, h1, h2⟩
  · exact ⟨none, .fine h⟩
  · exact ⟨some i, .bad hi h1 h2⟩
theorem fit_top {N F : List Str} {cs : List V} : fitB (("top" : Str) :: N) F cs = fitB N F cs := by
  unfold fitB
  split
  · rename_i a b c d
    cases a with
    | str z =>
      by_cases e : z = ("top" : Str)
      · subst e
        have : nameB (.str ("top" : Str)) = false := by show nmB _ = false; unfold nmB; simp
        rw [this]; rfl
      · have : inB (("top" : Str) :: N) (.str z) = inB N (.str z) := by
          show decide (z ∈ ("top" : Str) :: N) = decide (z ∈ N)
          exact decide_eq_decide.mpr ⟨fun h => (List.mem_cons.mp h).resolve_left e, fun h => List.mem_cons_of_mem _ h⟩
        rw [this]
    | _ => rfl
  · rfl
theorem fitAt_top {N F : List Str} {css : List (List V)} {i : Nat} : fitAt (("top" : Str) :: N) F css i = fitAt N F css i := by
  unfold fitAt
  split
  · exact fit_top
  · rfl
theorem DueI.top {N F : List Str} {css : List (List V)} {r : Option Nat} (h : DueI (("top" : Str) :: N) F css r) : DueI N F css r := by
  cases h with
  | fine h => exact .fine fun i hi => by rw [← fitAt_top]; exact h i hi
  | bad hi h hb => exact .bad hi (fun j hj => by rw [← fitAt_top]; exact h j hj) (by rw [← fitAt_top]; exact hb)
def spIsNameG : Sp := fun vs H Q _ => ∃ x, vs = [x] ∧ CellV H x ∧ Q (.bl (nameB x)) H
def spIsNumberG : Sp := fun vs H Q _ => ∃ (x : V) (n : Int), vs = [x, .int n] ∧ CellV H x ∧ Q (.bl (numB n x)) H
def spIsPriceG : Sp := fun vs H Q _ => ∃ x, vs = [x] ∧ CellV H x ∧ Q (.bl (prB x)) H
def spIsRowG : Sp := fun vs H Q _ => ∃ (y : V) (d1 d2 : Addr) (cs : List V) (N F : List Str), vs = [y, .ref d1, .ref d2] ∧ ThAt H y cs ∧ MemD H d1 N ∧ MemD H d2 F ∧ ∀ H', Same H H' → Q (.bl (fitB N F cs)) H'
theorem bfalse {b : Bool} {p : Prop} (h : b = false → p) (h2 : b = true → p) : p := by cases b; exact h rfl; exact h2 rfl
section
variable {P : Program} {w : World} {K : PySem.W.Frag} {mg : Str → Option Value} {base : Heap}
theorem ok_is_nameG (D : DefAt K mg "is_name" s_is_name ["thing"]) (B : TxB mg) (C : TxC K mg) : FnOk P w K mg base CX0 2 D.f D.fd ["thing"] spIsNameG := by
  obtain ⟨t1, gT⟩ := C.top
  obtain ⟨t2, gL⟩ := C.long
  refine D.F.ok sc_is_name (fun vs H Q E h => ?_) (fun cdv A outer s H vs Q E hr h => ?_)
  · obtain ⟨z, rfl, _⟩ := h
    rfl
  · obtain ⟨x, rfl, hx, hq⟩ := h
    refine ⟨_, pss_cons (ps_if (PW.pt (pw_or (pt_not (pt_val (pe_callB call_isi (by rfl) B.isinstance (by decide +kernel) (pa_cons (pv 0) (pa_cons (pe_bltn (by rfl) B.str (by decide +kernel) (v := .ty "str") rfl) pa_nil)))))
        (pw_or (pt_cmpR op_eq (pv 0) (pe_glob (by rfl) gT (v := .str ("top" : Str)) ⟨_, rfl⟩) (nomark _)) (pw_or1 (pt_cmpR op_gt (pe_callB call_len (by rfl) B.len PySem.boot_len (pa_cons (pv 0) pa_nil)) (pe_glob (by rfl) gL (v := .int 8) ⟨_, rfl⟩) (nomark _)))))) (pss_one (ps_ret pe_bl)) pss_nil)
      (pss_one (ps_ret (pe_and (pe_m0 PySem.F.slot_str_isascii PySem.F.type_str_isascii mt_isascii (pv 0)) (pe_and (pe_m0 PySem.F.slot_str_isalpha PySem.F.type_str_isalpha mt_isalpha (pv 0)) (pe_one (pe_m0 PySem.F.slot_str_islower PySem.F.type_str_islower mt_islower (pv 0))))))), ?_⟩
    obtain ⟨ty, hty, k1, _, _⟩ := hx.ty (K := K)
    rcases hx with ⟨z, rfl, lz⟩ | ho
    · refine ⟨_, rfl, _, _, _, _, true, rfl, .ty "str", hty, k1, _, rfl, iteF ?_⟩
      refine ⟨_, rfl, rfl, _, rfl, ?_⟩
      have hq' : Q (.bl (nmB z)) H := hq
      unfold nmB at hq'
      by_cases e : z = ("top" : Str)
      · rw [decide_eq_true (show V.str z = V.str ("top" : Str) by rw [e])]
        rw [decide_eq_true e] at hq'
        exact iteT hq'
      rw [decide_eq_false (fun q => e (V.str.inj q))]
      rw [decide_eq_false e] at hq'
      refine iteF ?_
      refine ⟨_, rfl, _, z.length, rfl, ⟨szl (by omega), rfl⟩, _, _, rfl, rfl, _, rfl, ?_⟩
      by_cases e8 : 8 < z.length
      · rw [decide_eq_true (by omega)]
        rw [decide_eq_true e8] at hq'
        exact iteT hq'
      rw [decide_eq_false (by omega)]
      rw [decide_eq_false e8] at hq'
      refine iteF ?_
      refine ⟨_, rfl, ⟨_, rfl⟩, _, rfl, rfl, trivial, _, rfl, ?_⟩
      have hq2 : Q (.bl (Txt.isascii z && (Txt.isalpha z && Txt.islower z))) H := hq'
      cases e1 : Txt.isascii z with
      | false => rw [e1] at hq2; exact iteF hq2
      | true =>
        rw [e1] at hq2
        refine iteT ⟨_, rfl, ⟨_, rfl⟩, _, rfl, rfl, trivial, _, rfl, ?_⟩
        have hq3 : Q (.bl (Txt.isalpha z && Txt.islower z)) H := hq2
        cases e2 : Txt.isalpha z with
        | false => rw [e2] at hq3; exact iteF hq3
        | true =>
          rw [e2] at hq3
          exact iteT ⟨_, rfl, ⟨_, rfl⟩, _, rfl, rfl, trivial, hq3⟩
    · have n1 : isS x = false := by rcases ho with rfl | ⟨i, rfl⟩ | ⟨b, rfl⟩ | ⟨a, xs, rfl, _⟩ | ⟨a, xs, rfl, _⟩ | ⟨a, xs, rfl, _⟩ <;> rfl
      have n2 : nameB x = false := by rcases ho with rfl | ⟨i, rfl⟩ | ⟨b, rfl⟩ | ⟨a, xs, rfl, _⟩ | ⟨a, xs, rfl, _⟩ | ⟨a, xs, rfl, _⟩ <;> rfl
      rw [n1] at k1
      rw [n2] at hq
      exact ⟨_, rfl, _, _, _, _, false, rfl, .ty "str", hty, k1, _, rfl, iteT hq⟩
theorem ok_is_numberG (D : DefAt K mg "is_number" s_is_number ["thing", "least"]) (B : TxB mg) : FnOk P w K mg base CX0 1 D.f D.fd ["thing", "least"] spIsNumberG := by
  refine D.F.ok sc_is_number (fun vs H Q E h => ?_) (fun cdv A outer s H vs Q E hr h => ?_)
  · obtain ⟨z, n, rfl, _⟩ := h
    rfl
  · obtain ⟨x, n, rfl, hx, hq⟩ := h
    refine ⟨_, (pss_one (ps_ret (pe_and (pe_callB call_isi (by rfl) B.isinstance (by decide +kernel) (pa_cons (pv 0) (pa_cons (pe_bltn (by rfl) B.int (by decide +kernel) (v := .ty "int") rfl) pa_nil)))
        (pe_and (pe_not (pe_callB call_isi (by rfl) B.isinstance (by decide +kernel) (pa_cons (pv 0) (pa_cons (pe_bltn (by rfl) B.bool (by decide +kernel) (v := .ty "bool") rfl) pa_nil)))) (pe_one (pe_cmpR op_ge (pv 0) (pv 1) (nomark _))))))), ?_⟩
    obtain ⟨ty, hty, _, k2, k3⟩ := hx.ty (K := K)
    refine ⟨_, rfl, _, _, _, _, isI x, rfl, .ty "int", hty, k2, _, rfl, ?_⟩
    rcases hx with ⟨z, rfl, lz⟩ | rfl | ⟨i, rfl⟩ | ⟨b, rfl⟩ | ⟨a, xs, rfl, _⟩ | ⟨a, xs, rfl, _⟩ | ⟨a, xs, rfl, _⟩
    · exact iteF hq
    · exact iteF hq
    · refine iteT ⟨_, rfl, _, _, _, _, false, rfl, .ty "bool", hty, k3, _, rfl, _, rfl, iteT ?_⟩
      exact ⟨_, rfl, _, rfl, _, _, rfl, rfl, hq⟩
    · exact iteT ⟨_, rfl, _, _, _, _, true, rfl, .ty "bool", hty, k3, _, rfl, _, rfl, iteF hq⟩
    · exact iteF hq
    · exact iteF hq
    · exact iteF hq
theorem ok_is_priceG (D : DefAt K mg "is_price" s_is_price ["thing"]) (B : TxB mg) (C : TxC K mg) : FnOk P w K mg base CX0 2 D.f D.fd ["thing"] spIsPriceG := by
  have Gn : FnOk P w K mg base CX0 1 C.num.f C.num.fd ["thing", "least"] spIsNumberG := ok_is_numberG C.num B
  refine D.F.ok sc_is_price (fun vs H Q E h => ?_) (fun cdv A outer s H vs Q E hr h => ?_)
  · obtain ⟨z, rfl, _⟩ := h
    rfl
  · obtain ⟨x, rfl, hx, hq⟩ := h
    refine ⟨_, (pss_one (ps_ret (pe_or (pe_cmpR op_isN (pv 0) pe_non (nomark _)) (pe_one (pe_call Gn hr rfl C.num.g C.num.F.kp C.num.b .nil pass0 (pa_cons (pv 0) (pa_cons pe_int pa_nil))))))), ?_⟩
    refine ⟨_, rfl, rfl, _, rfl, ?_⟩
    by_cases e : x = .non
    · subst e
      rw [decide_eq_true rfl]
      exact iteT hq
    · rw [decide_eq_false e]
      have e2 : prB x = numB 1 x := by cases x <;> first | rfl | exact absurd rfl e
      rw [e2] at hq
      exact iteF ⟨_, rfl, x, 1, rfl, hx, hq⟩
end
end Ts

set_option maxRecDepth 100000
set_option maxHeartbeats 1000000
namespace Ts
open PySem L2
/-! ### dicts whose keys are of any sort: None, whole numbers, texts, tuples of such -/
abbrev NK := NestedKey
abbrev EnM := NK × Value × Value
def entM (w : World) (x : EnM) : DictEntry := ⟨x.1.hash w, x.2.1, x.2.2⟩
def KeyM (h : Heap) (x : EnM) : Prop := NestedIs h x.1 x.2.1 ∧ x.1.depth ≤ 8
def DictM (w : World) (h : Heap) (d : Addr) (xs : List EnM) : Prop :=
  ∃ (o : Obj) (es : Array DictEntry) (ep : Nat), h.get? d = some o ∧ Obj.ExactDict o ∧ o.data = .dict es ep ∧ es.toList = xs.map (entM w) ∧ (∀ x ∈ xs, KeyM h x) ∧ (xs.map fun x => x.1).Nodup
theorem entM_at {w : World} {es : Array DictEntry} {xs : List EnM} (e : es.toList = xs.map (entM w)) (j : Nat) : es[j]? = (xs[j]?).map (entM w) := by
  rw [← Array.getElem?_toList, e, List.getElem?_map]
theorem entM_len {w : World} {es : Array DictEntry} {xs : List EnM} (e : es.toList = xs.map (entM w)) : es.size = xs.length := by
  rw [← Array.length_toList, e, List.length_map]
theorem nodupM {xs : List EnM} (nd : (xs.map fun x => x.1).Nodup) {i j : Nat} {k : NK} {p q : Value × Value} (hi : xs[i]? = some (k, p)) (hj : xs[j]? = some (k, q)) : i = j := by
  have a : (xs.map fun x => x.1)[i]? = some k := by rw [List.getElem?_map, hi]; rfl
  have b : (xs.map fun x => x.1)[j]? = some k := by rw [List.getElem?_map, hj]; rfl
  exact (List.getElem?_inj (List.getElem?_eq_some_iff.mp a).1 nd).mp (a.trans b.symm)
abbrev plcM (es : Array DictEntry) (n : Int) : List Nat := placesWithHash es.size (fun i => es[i]?.map (·.hash)) n
section
variable {prog : Program} {w : World} {A : Around} {E : Value → Shared → Prop} {s : Shared} {d : Addr} {o : Obj} {es : Array DictEntry} {ep : Nat} {xs : List EnM} {k : NK} {key : Value}
theorem eqM {s : Shared} {a b : NK} {u v : Value} {Q : Bool → Shared → Prop} (hu : A.units + 8 < cLine) (ha : NestedIs s.heap a u ∧ a.depth ≤ 8) (hb : NestedIs s.heap b v ∧ b.depth ≤ 8) (h : Q (decide (a = b)) s) : wpAny (model prog w) A (eqBool u v) Q E s :=
  eqAt_key a b A s u v ha.1 hb.1 (by omega) prog w E Q (by rw [← NestedKey.decide_eq]; exact h)
/-- the walk over the places of one hash, where none may tell -/
theorem walkM {Q : Option Nat → Shared → Prop} (hu : A.units + 8 < cLine) (hk : NestedIs s.heap k key ∧ k.depth ≤ 8) (ho : s.heap.get? d = some o) (hd : o.data = .dict es ep) (he : es.toList = xs.map (entM w)) (his : ∀ x ∈ xs, KeyM s.heap x) (hn : (xs.map fun x => x.1).Nodup)
    (hnone : (∀ (j : Nat) (p : Value × Value), xs[j]? ≠ some (k, p)) → Q none s) (hsome : ∀ (j : Nat) (p : Value × Value), xs[j]? = some (k, p) → Q (some j) s) :
    wpAny (model prog w) A (dictWalkPlain d key (k.hash w) es (plcM es (k.hash w))) Q E s := by
  have hsz := entM_len he
  have has : ∀ (j : Nat) (p : Value × Value), xs[j]? = some (k, p) → ((es[j]?.map (·.hash)) == some (k.hash w)) = true := fun j p e => by
    rw [entM_at he j, e]
    simp [entM]
  unfold dictWalkPlain
  refine wpAny_bind ?_
  refine wpAny_forIn_list _ (fun rest b s' => s' = s ∧ b = (none, ()) ∧ ∃ i, rest = (List.range' i (es.size - i)).filter (fun i => (es[i]?.map (·.hash)) == some (k.hash w)) ∧ i ≤ es.size ∧ ∀ j p, j < i → xs[j]? ≠ some (k, p)) _ ?_ ?_ _ _
    ⟨rfl, rfl, 0, by rw [plcM, placesWithHash, List.range_eq_range', Nat.sub_zero], Nat.zero_le _, fun _ _ z => absurd z (Nat.not_lt_zero _)⟩
  · rintro x rest b s' ⟨rfl, rfl, i, hr, hi, hno⟩
    obtain ⟨h1, h2, h3, h4, h5⟩ := filter_range'_cons _ _ _ _ _ hr.symm
    have lt : x < es.size := by omega
    obtain ⟨⟨k2, u2, v2⟩, e2⟩ : ∃ y, xs[x]? = some y := ⟨xs[x]'(by rw [← hsz]; exact lt), List.getElem?_eq_getElem _⟩
    have i2 := his _ (List.mem_of_getElem? e2)
    have ee : es[x]? = some ⟨k2.hash w, u2, v2⟩ := by rw [entM_at he x, e2]; rfl
    have below : ∀ j p, j < x → xs[j]? ≠ some (k, p) := fun j p hj z => by
      rcases Nat.lt_or_ge j i with q | q
      · exact hno j p q z
      · have := h4 j q hj
        rw [has j p z] at this
        exact absurd this (by decide)
    have next : ¬ k2 = k → ∃ i, rest = (List.range' i (es.size - i)).filter (fun i => (es[i]?.map (·.hash)) == some (k.hash w)) ∧ i ≤ es.size ∧ ∀ j p, j < i → xs[j]? ≠ some (k, p) := fun ne =>
      ⟨x + 1, by rw [h5]; congr 2; omega, lt, fun j p hj z => by
        rcases Nat.lt_or_ge j x with q | q
        · exact below j p q z
        · have : j = x := by omega
          subst this
          rw [e2] at z
          cases z
          exact ne rfl⟩
    rw [ee]
    dsimp only
    by_cases hh : (k2.hash w == k.hash w) = true
    · rw [if_pos hh]
      refine wpAny_bind (wpAny_dictEpoch ho hd (wpAny_bind (eqM hu i2 hk (wpAny_bind (wpAny_dictEpoch ho hd ?_)))))
      show wpAny _ _ (if (ep != ep) = true then _ else _) _ E _
      rw [if_neg (by simp)]
      by_cases q : k2 = k
      · rw [decide_eq_true q]
        subst q
        exact wpAny_bind (wpAny_rule (wpAny_pure (wpAny_pure (hsome x _ e2))))
      · rw [decide_eq_false q]
        exact wpAny_bind (wpAny_rule (wpAny_pure ⟨rfl, rfl, next q⟩))
    · rw [if_neg hh]
      refine wpAny_pure ⟨rfl, rfl, next fun q => ?_⟩
      rw [q] at hh
      simp at hh
  · rintro b s' ⟨rfl, rfl, i, hr, hi, hno⟩
    refine wpAny_pure (hnone fun j p z => ?_)
    rcases Nat.lt_or_ge j i with q | q
    · exact hno j p q z
    · have lt : j < es.size := by
        rw [hsz]
        exact (List.getElem?_eq_some_iff.mp z).1
      have := List.filter_eq_nil_iff.mp hr.symm j (List.mem_range'_1.mpr ⟨q, by omega⟩)
      exact this (has j p z)
theorem mayM {stored : List Value} {Q : Bool → Shared → Prop} (hk : NestedIs s.heap k key ∧ k.depth ≤ 8) (hst : ∀ v ∈ stored, ∃ k2, NestedIs s.heap k2 v ∧ k2.depth ≤ 8) (h : Q false s) : wpAny (model prog w) A (tableMayTell key stored) Q E s := by
  unfold tableMayTell
  split
  · exact wpAny_pure h
  · refine wpAny_bind (quiet_key k _ 8 s hk.1 hk.2 A E _ ?_)
    simp only [Bool.not_true, Bool.false_eq_true, if_false]
    refine wpAny_bind ?_
    refine wpAny_forIn_list _ (fun rest r s' => s' = s ∧ r = (none, ()) ∧ ∀ v ∈ rest, ∃ k2, NestedIs s.heap k2 v ∧ k2.depth ≤ 8) _ ?_ ?_ _ _ ⟨rfl, rfl, hst⟩
    · rintro x rest r s' ⟨rfl, rfl, hr⟩
      obtain ⟨k2, b1, b2⟩ := hr x List.mem_cons_self
      refine wpAny_bind (quiet_key k2 _ 8 _ b1 b2 A E _ ?_)
      simp only [Bool.not_true, Bool.false_eq_true, if_false]
      exact wpAny_pure ⟨rfl, rfl, fun v hv => hr v (List.mem_cons_of_mem _ hv)⟩
    · rintro r s' ⟨rfl, rfl, _⟩
      exact wpAny_pure h
end
end Ts

set_option maxRecDepth 100000
set_option maxHeartbeats 1000000
namespace Ts
open PySem L2
section
variable {prog : Program} {w : World} {A : Around} {E : Value → Shared → Prop} {s : Shared} {d : Addr} {o : Obj} {es : Array DictEntry} {ep : Nat} {xs : List EnM} {k : NK} {key : Value}
theorem mem_entM {w : World} {es : Array DictEntry} {xs : List EnM} (e : es.toList = xs.map (entM w)) {y : DictEntry} (h : y ∈ es) : ∃ x ∈ xs, y = entM w x := by
  have : y ∈ xs.map (entM w) := e ▸ Array.mem_toList_iff.mpr h
  obtain ⟨x, hx, rfl⟩ := List.mem_map.mp this
  exact ⟨x, hx, rfl⟩
theorem wp_if {α : Type} {M : Model} {c : Prop} [Decidable c] {a b : Sem α} {Q : α → Shared → Prop} (h1 : c → wpAny M A a Q E s) (h2 : ¬ c → wpAny M A b Q E s) : wpAny M A (if c then a else b) Q E s := by
  by_cases h : c
  · rw [if_pos h]; exact h1 h
  · rw [if_neg h]; exact h2 h
/-- a text among texts alone -/
theorem findM_str {Q : Option Nat → Shared → Prop} {x : Str} {t : Tok} (ho : s.heap.get? d = some o) (hd : o.data = .dict es ep) (he : es.toList = xs.map (entM w)) (his : ∀ x ∈ xs, KeyM s.heap x) (hall : ∀ y ∈ xs, ∃ z, y.1 = .text z)
    (hnone : (∀ (j : Nat) (p : Value × Value), xs[j]? ≠ some (.text x, p)) → Q none s) (hsome : ∀ (j : Nat) (p : Value × Value), xs[j]? = some (.text x, p) → Q (some j) s) :
    wpAny (model prog w) A (dictFind d (.str x t) (NestedKey.hash w (.text x))) Q E s := by
  refine wpAny_dictFind_of (knd := strKind prog w) (k := x) (show decide (x = x) = true from decide_eq_true rfl) ho hd (fun e hin => ?_) ?_
  · obtain ⟨y, hy, rfl⟩ := mem_entM he hin
    obtain ⟨z, hz⟩ := hall y hy
    obtain ⟨k2, u, v⟩ := y
    cases hz
    have i := (his _ hy).1
    cases i with
    | text _ t2 => exact ⟨z, decide_eq_true rfl, rfl⟩
  · have hasI : ∀ j (hj : j < es.size) (p : Value × Value) (q : NK), xs[j]? = some (q, p) → ((strKind prog w).is x es[j].key = true ↔ q = .text x) := fun j hj p q e => by
      have e1 := entM_at he j
      rw [e, Array.getElem?_eq_getElem hj] at e1
      have e2 : es[j] = entM w (q, p) := Option.some.inj e1
      rw [e2]
      obtain ⟨z, hz⟩ := hall _ (List.mem_of_getElem? e)
      have i := (his _ (List.mem_of_getElem? e)).1
      obtain ⟨u, v⟩ := p
      have hz : q = .text z := hz
      subst hz
      cases i with
      | text _ t2 =>
        constructor
        · intro h
          have h : decide (z = x) = true := h
          rw [of_decide_eq_true h]
        · intro h
          cases h
          exact decide_eq_true rfl
    have at_ : ∀ j, j < es.size → ∃ q p, xs[j]? = some (q, p) := fun j hj => ⟨_, _, List.getElem?_eq_getElem (by rw [← entM_len he]; exact hj)⟩
    cases hf : es.findIdx? fun e => (strKind prog w).is x e.key with
    | none =>
      refine hnone fun j p e => ?_
      have hj : j < es.size := by rw [entM_len he]; exact (List.getElem?_eq_some_iff.mp e).1
      have := Array.findIdx?_eq_none_iff.mp hf _ (Array.getElem_mem hj)
      rw [(hasI j hj p _ e).mpr rfl] at this
      cases this
    | some j =>
      obtain ⟨hj, h1, _⟩ := Array.findIdx?_eq_some_iff_getElem.mp hf
      obtain ⟨q, p, e⟩ := at_ j hj
      have := (hasI j hj p q e).mp h1
      subst this
      exact hsome j p e
/-- the walk's state: what is behind holds no such key, or it was found -/
def InvM (w : World) (es : Array DictEntry) (xs : List EnM) (k : NK) (rest : List Nat) (b : Option (Option Nat) × Option Nat) : Prop :=
  ∃ i hit, b = (none, hit) ∧ rest = (List.range' i (es.size - i)).filter (fun i => (es[i]?.map (·.hash)) == some (k.hash w)) ∧ i ≤ es.size ∧ ((hit = none ∧ ∀ j p, j < i → xs[j]? ≠ some (k, p)) ∨ ∃ j p, hit = some j ∧ j < i ∧ xs[j]? = some (k, p))
theorem InvM.end_ {b : Option (Option Nat) × Option Nat} (hsz : es.size = xs.length) (has : ∀ (j : Nat) (p : Value × Value), xs[j]? = some (k, p) → ((es[j]?.map (·.hash)) == some (k.hash w)) = true) (h : InvM w es xs k [] b) :
    (b = (none, none) ∧ ∀ (j : Nat) (p : Value × Value), xs[j]? ≠ some (k, p)) ∨ ∃ (j : Nat) (p : Value × Value), b = (none, some j) ∧ xs[j]? = some (k, p) := by
  obtain ⟨i, hit, rfl, hr, hi, hH⟩ := h
  rcases hH with ⟨rfl, hno⟩ | ⟨j, p, rfl, _, hj⟩
  · refine .inl ⟨rfl, fun j p z => ?_⟩
    rcases Nat.lt_or_ge j i with q | q
    · exact hno j p q z
    · have lt : j < es.size := by
        rw [hsz]
        exact (List.getElem?_eq_some_iff.mp z).1
      have := List.filter_eq_nil_iff.mp hr.symm j (List.mem_range'_1.mpr ⟨q, by omega⟩)
      exact this (has j p z)
  · exact .inr ⟨j, p, rfl, hj⟩
theorem InvM.step {x : Nat} {rest : List Nat} {b : Option (Option Nat) × Option Nat} (hsz : es.size = xs.length) (has : ∀ (j : Nat) (p : Value × Value), xs[j]? = some (k, p) → ((es[j]?.map (·.hash)) == some (k.hash w)) = true) (hn : (xs.map fun x => x.1).Nodup) (h : InvM w es xs k (x :: rest) b) :
    ∃ hit, b = (none, hit) ∧ x < es.size ∧ ∃ k2 u2 v2, xs[x]? = some (k2, u2, v2) ∧ ((hit = none ∧ ∀ j p, j < x → xs[j]? ≠ some (k, p)) ∨ ∃ j p, hit = some j ∧ j < x ∧ xs[j]? = some (k, p)) ∧ (¬ k2 = k → InvM w es xs k rest (none, hit)) ∧ (k2 = k → hit = none ∧ InvM w es xs k rest (none, some x)) := by
  obtain ⟨i, hit, rfl, hr, hi, hH⟩ := h
  obtain ⟨h1, h2, h3, h4, h5⟩ := filter_range'_cons _ _ _ _ _ hr.symm
  have lt : x < es.size := by omega
  obtain ⟨⟨k2, u2, v2⟩, e2⟩ : ∃ y, xs[x]? = some y := ⟨xs[x]'(by rw [← hsz]; exact lt), List.getElem?_eq_getElem _⟩
  have hx : (hit = none ∧ ∀ j p, j < x → xs[j]? ≠ some (k, p)) ∨ ∃ j p, hit = some j ∧ j < x ∧ xs[j]? = some (k, p) := by
    rcases hH with ⟨h0, hno⟩ | ⟨j, p, h0, hj, z⟩
    · refine .inl ⟨h0, fun j p hj z => ?_⟩
      rcases Nat.lt_or_ge j i with q | q
      · exact hno j p q z
      · have := h4 j q hj
        rw [has j p z] at this
        exact absurd this (by decide)
    · exact .inr ⟨j, p, h0, by omega, z⟩
  have hrest : rest = (List.range' (x + 1) (es.size - (x + 1))).filter (fun i => (es[i]?.map (·.hash)) == some (k.hash w)) := by rw [h5]; congr 2; omega
  refine ⟨hit, rfl, lt, k2, u2, v2, e2, hx, fun ne => ⟨x + 1, hit, rfl, hrest, lt, ?_⟩, fun q => ?_⟩
  · rcases hx with ⟨h0, hno⟩ | ⟨j, p, h0, hj, z⟩
    · refine .inl ⟨h0, fun j p hj z => ?_⟩
      rcases Nat.lt_or_ge j x with q | q
      · exact hno j p q z
      · have : j = x := by omega
        subst this
        rw [e2] at z
        cases z
        exact ne rfl
    · exact .inr ⟨j, p, h0, by omega, z⟩
  · subst q
    rcases hx with ⟨h0, hno⟩ | ⟨j, p, h0, hj, z⟩
    · exact ⟨h0, x + 1, some x, rfl, hrest, lt, .inr ⟨x, _, rfl, Nat.lt_succ_self x, e2⟩⟩
    · exact absurd (nodupM hn z e2) (by omega)
theorem findM {Q : Option Nat → Shared → Prop} (hu : A.units + 8 < cLine) (hk : NestedIs s.heap k key ∧ k.depth ≤ 8) (ho : s.heap.get? d = some o) (hd : o.data = .dict es ep) (he : es.toList = xs.map (entM w)) (his : ∀ x ∈ xs, KeyM s.heap x) (hn : (xs.map fun x => x.1).Nodup)
    (hnone : (∀ (j : Nat) (p : Value × Value), xs[j]? ≠ some (k, p)) → Q none s) (hsome : ∀ (j : Nat) (p : Value × Value), xs[j]? = some (k, p) → Q (some j) s) :
    wpAny (model prog w) A (dictFind d key (k.hash w)) Q E s := by
  by_cases hA : (∃ x, k = .text x) ∧ ∀ y ∈ xs, ∃ z, y.1 = .text z
  · obtain ⟨⟨x, rfl⟩, hall⟩ := hA
    cases hk.1 with
    | text _ t => exact findM_str ho hd he his hall hnone hsome
  have hstr : ∀ x t, key = .str x t → ¬ (es.all fun e => isExactStrKey e.key) = true := fun x t e z => by
    subst e
    refine hA ⟨?_, fun y hy => ?_⟩
    · cases hk.1
      exact ⟨x, rfl⟩
    · have := Array.all_eq_true'.mp z (entM w y) (by rw [← Array.mem_toList_iff, he]; exact List.mem_map_of_mem hy)
      have i := (his y hy).1
      obtain ⟨k2, u, v⟩ := y
      have i : NestedIs s.heap k2 u := i
      have this : isExactStrKey u = true := this
      cases i <;> first | exact ⟨_, rfl⟩ | cases this
  have hany : ∀ a, key = .ref a → ¬ (es.any fun e => e.key == Value.ref a && e.hash != k.hash w) = true := fun a e z => by
    subst e
    rw [← Array.any_toList, List.any_eq_true] at z
    obtain ⟨e, hin, hc⟩ := z
    obtain ⟨x, hx, rfl⟩ := mem_entM he (Array.mem_toList_iff.mp hin)
    simp only [entM, Bool.and_eq_true, beq_iff_eq, bne_iff_ne, ne_eq] at hc
    have i := (his x hx).1
    rw [hc.1] at i
    exact hc.2 (by rw [NestedIs.inj _ _ _ i hk.1])
  have hst : ∀ v ∈ (plcM es (k.hash w)).filterMap (fun i => es[i]?.map (·.key)), ∃ k2, NestedIs s.heap k2 v ∧ k2.depth ≤ 8 := fun v hv => by
    obtain ⟨i, _, hi⟩ := List.mem_filterMap.mp hv
    cases hei : es[i]? with
    | none => rw [hei] at hi; cases hi
    | some e =>
      rw [hei] at hi
      obtain rfl : e.key = v := by simpa using hi
      obtain ⟨x, hx, rfl⟩ := mem_entM he (Array.mem_of_getElem? hei)
      exact ⟨x.1, his x hx⟩
  have hsz := entM_len he
  have has : ∀ (j : Nat) (p : Value × Value), xs[j]? = some (k, p) → ((es[j]?.map (·.hash)) == some (k.hash w)) = true := fun j p e => by
    rw [entM_at he j, e]
    simp [entM]
  have plain := walkM (prog := prog) (E := E) (Q := Q) hu hk ho hd he his hn hnone hsome
  have may : ∀ {R : Bool → Shared → Prop}, R false s → wpAny (model prog w) A (tableMayTell key ((plcM es (k.hash w)).filterMap (fun i => es[i]?.map (·.key)))) R E s := fun h => mayM hk hst h
  unfold dictFind
  try with_reducible refine wpAny_holding ?_
  refine wpAny_bind (wpAny_dictEntries ho hd ?_)
  obtain ⟨i1, i2⟩ := id hk
  obtain ⟨K, hK⟩ : ∃ K, K = k := ⟨k, rfl⟩
  cases i1 <;> dsimp only <;> (try rw [if_neg (hstr _ _ rfl)]) <;> refine wp_if (fun _ => ?_) (fun _ => ?_)
  any_goals exact plain
  all_goals (try rw [if_neg (hany _ rfl)])
  all_goals refine wp_if (fun _ => ?_) (fun _ => ?_)
  all_goals (first | refine wpAny_bind (wpAny_pure ?_) | refine wpAny_bind (may ?_))
  all_goals rw [if_neg (by rw [Bool.false_and]; exact Bool.false_ne_true)]
  all_goals refine wpAny_bind ?_
  all_goals (
    refine wpAny_forIn_list _
      (fun rest b s' => s' = s ∧ InvM w es xs K rest b) _ ?_ ?_ _ _
      ⟨rfl, 0, none, rfl, by rw [placesWithHash, List.range_eq_range', Nat.sub_zero, hK], Nat.zero_le _, .inl ⟨rfl, fun _ _ h => absurd h (Nat.not_lt_zero _)⟩⟩)
  all_goals rw [← hK] at hk has hnone hsome
  any_goals (
    rintro b s' ⟨rfl, hI⟩
    rcases InvM.end_ hsz has hI with ⟨e, h0⟩ | ⟨j, p, e, h0⟩
    · subst e
      exact wpAny_pure (hnone h0)
    · subst e
      exact wpAny_pure (hsome j p h0))
  all_goals (
    rintro x rest b s' ⟨rfl, hI⟩
    obtain ⟨hit, e, lt, k2, u2, v2, e2, hH, next, stop⟩ := InvM.step hsz has hn hI
    subst e
    have i2 := his _ (List.mem_of_getElem? e2)
    have ee : es[x]? = some ⟨k2.hash w, u2, v2⟩ := by rw [entM_at he x, e2]; rfl
    rw [ee]
    dsimp only
    split
    · refine wpAny_bind (wpAny_dictEpoch ho hd (wpAny_bind (eqM hu i2 hk (wpAny_bind (wpAny_dictEpoch ho hd ?_)))))
      show wpAny _ _ (if (ep != ep) = true then _ else _) _ E _
      rw [if_neg (by simp)]
      by_cases q : k2 = K
      · rw [decide_eq_true q]
        obtain ⟨rfl, nx⟩ := stop q
        simp only [Option.isSome_none, Bool.false_eq_true, if_false]
        first | rw [if_pos rfl] | skip
        first | refine wpAny_bind (wpAny_pure ?_) | skip
        refine wpAny_bind (wpAny_rule ?_)
        split
        · exact wpAny_pure (wpAny_pure (hsome x _ (by rw [← q]; exact e2)))
        · exact wpAny_pure ⟨rfl, nx⟩
      · rw [decide_eq_false q]
        simp only [Bool.false_eq_true, if_false]
        refine wpAny_bind (wpAny_rule ?_)
        first | rw [if_neg (by simp)] | skip
        first
          | exact wpAny_pure ⟨rfl, next q⟩
          | exact wpAny_bind (wpAny_pure (wpAny_pure ⟨rfl, next q⟩))
    · rename_i hh
      refine wpAny_pure ⟨rfl, next fun q => ?_⟩
      rw [q, hK] at hh
      rw [beq_self_eq_true] at hh
      exact hh rfl)
end
end Ts

set_option maxRecDepth 100000
set_option maxHeartbeats 1000000
namespace Ts
open PySem L2
def atM (xs : List EnM) (k : NK) : Option Value := (xs.find? fun x => decide (x.1 = k)).map fun x => x.2.2
theorem atM_some {xs : List EnM} (nd : (xs.map fun x => x.1).Nodup) {j : Nat} {k : NK} {p : Value × Value} (e : xs[j]? = some (k, p)) : atM xs k = some p.2 := by
  induction xs generalizing j with
  | nil => simp at e
  | cons x r ih =>
    rw [List.map_cons, List.nodup_cons] at nd
    unfold atM
    rw [List.find?_cons]
    cases j with
    | zero =>
      rw [List.getElem?_cons_zero] at e
      cases e
      rw [decide_eq_true (show (k, p).1 = k from rfl)]
      rfl
    | succ j =>
      rw [List.getElem?_cons_succ] at e
      have ne : ¬ x.1 = k := fun q => nd.1 (q ▸ List.mem_map.mpr ⟨(k, p), List.mem_of_getElem? e, rfl⟩)
      rw [decide_eq_false ne]
      exact ih nd.2 e
theorem atM_no {xs : List EnM} {k : NK} (h : ∀ (j : Nat) (p : Value × Value), xs[j]? ≠ some (k, p)) : atM xs k = none ∧ k ∉ xs.map fun x => x.1 := by
  have no : ∀ x ∈ xs, ¬ x.1 = k := fun x hx q => by
    obtain ⟨j, hj⟩ := List.mem_iff_getElem?.mp hx
    exact h j x.2 (by rw [hj, ← q])
  refine ⟨?_, fun z => ?_⟩
  · unfold atM
    rw [List.find?_eq_none.mpr fun x hx q => no x hx (of_decide_eq_true q)]
    rfl
  · obtain ⟨x, hx, q⟩ := List.mem_map.mp z
    exact no x hx q
section
variable {prog : Program} {w : World} {A : Around} {E : Value → Shared → Prop} {s : Shared} {d : Addr} {xs : List EnM} {k : NK} {key : Value}
theorem DictM.isDict {s : Shared} (m : DictM w s.heap d xs) : s.TypeIs (.ref d) "dict" := by
  obtain ⟨o, es, ep, e, c, _⟩ := m
  exact ⟨o, e, c.1⟩
theorem DictM.empty (h : Heap) : DictM w (h.push { cls := .type "dict", data := .dict #[] }) h.objs.size [] :=
  ⟨_, #[], 0, Heap.get?_push_size _ rfl, ⟨rfl, rfl, rfl⟩, rfl, rfl, fun _ z => (nomatch z), List.nodup_nil⟩
theorem dictGetM {Q : Option Value → Shared → Prop} (hu : A.units + 8 < cLine) (hk : NestedIs s.heap k key ∧ k.depth ≤ 8) (hm : DictM w s.heap d xs) (h : Q (atM xs k) { s with toks := s.toks + k.draws }) : wpAny (model prog w) A (dictGet d key) Q E s := by
  obtain ⟨o, es, ep, ho, _, hd, he, his, hn⟩ := hm
  unfold dictGet
  try with_reducible refine wpAny_holding ?_
  refine wpAny_bind (pyHash_key k key A s _ hk.1 (by omega) (wpAny_bind (findM (s := { s with toks := s.toks + k.draws }) hu hk ho hd he his hn (fun no => ?_) fun j p hj => ?_)))
  · rw [(atM_no no).1] at h
    exact wpAny_pure h
  · rw [atM_some hn hj] at h
    refine wpAny_bind (wpAny_dictEntries (s := { s with toks := s.toks + k.draws }) ho hd ?_)
    rw [entM_at he j, hj]
    exact wpAny_pure h
theorem getItemM {v : Value} {Q : Value → Shared → Prop} (hu : A.in1.units + 8 < cLine) (hk : NestedIs s.heap k key ∧ k.depth ≤ 8) (hm : DictM w s.heap d xs) (hv : atM xs k = some v) (h : Q v { s with toks := s.toks + k.draws }) : wpAny (model prog w) A (getItem (.ref d) key) Q E s := by
  have T := hm.isDict
  unfold getItem
  try with_reducible refine wpAny_holding ?_
  refine wpAny_bind (wpAny_sequenceKey T (by decide) ?_)
  refine wpAny_bind (wpAny_callSpecial?_slot (name := Str.ofString "__getitem__") T PySem.F.slot_dict_getitem
    (wpAny_call_entry PySem.F.slot_dict_getitem T PySem.F.entry_dict_getitem ?_ (PySem.F.args_dict_getitem_2 _ _)))
  show wpAny _ _ (dictGet d key >>= _) _ _ s
  refine wpAny_bind (dictGetM hu hk hm ?_)
  rw [hv]
  exact wpAny_pure ⟨v, rfl, wpAny_pure h⟩
theorem keyM_stays {h h' : Heap} {o : Obj} {es : Array DictEntry} {ep : Nat} {k : NK} {u : Value} (ho : h.get? d = some o) (hd : o.data = .dict es ep) (sb : Heap.SameBut d h h') (x : NestedIs h k u ∧ k.depth ≤ 8) : NestedIs h' k u ∧ k.depth ≤ 8 :=
  ⟨NestedIs.at (fun b ob vs n hb hc => by
    refine (sb.2 b fun e => ?_).trans hb
    subst e
    rw [ho] at hb
    cases hb
    rw [hd] at hc
    cases hc) k _ x.1, x.2⟩
/-- d[k] = v, a new key -/
theorem dictSetM {v : Value} {Q : Unit → Shared → Prop} (hu : A.units + 8 < cLine) (hk : NestedIs s.heap k key ∧ k.depth ≤ 8) (hm : DictM w s.heap d xs) (hno : k ∉ xs.map fun x => x.1)
    (hQ : ∀ h', DictM w h' d (xs ++ [(k, key, v)]) → Heap.SameBut d s.heap h' → Q () { s with heap := h', toks := s.toks + k.draws }) (hz : xs.length ≤ sizeLine) : wpAny (model prog w) A (dictSet d key v) Q E s := by
  obtain ⟨o, es, ep, ho, hc, hd, he, his, hn⟩ := hm
  unfold dictSet
  try with_reducible refine wpAny_holding ?_
  refine wpAny_bind (pyHash_key k key A s _ hk.1 (by omega) ?_)
  unfold dictSetHashed
  try with_reducible refine wpAny_holding ?_
  refine wpAny_bind (findM (s := { s with toks := s.toks + k.draws }) hu hk ho hd he his hn (fun no => ?_) fun j p hj => ?_)
  · refine wpAny_bind (wpAny_rule (wpAny_updateDictKeys (hz := by have e := entM_len he; omega) (s := { s with toks := s.toks + k.draws }) ho hd (hQ _ ⟨_, _, ep + 1, Heap.get?_update_self _ ho (Obj.isFreed_of_dict (Obj.data_mapDictKeys hd _)),
      hc.mapDictKeys _, Obj.data_mapDictKeys hd _, ?_, ?_, ?_⟩ (Heap.SameBut.update ..))))
    · simp [he, entM]
    · intro x hx
      rcases List.mem_append.mp hx with hx | hx
      · exact keyM_stays ho hd (Heap.SameBut.update ..) (his x hx)
      · cases List.mem_singleton.mp hx
        exact keyM_stays ho hd (Heap.SameBut.update ..) hk
    · rw [List.map_append, List.nodup_append]
      refine ⟨hn, by simp, fun x hx y hy => ?_⟩
      cases List.mem_singleton.mp hy
      exact fun e => hno (by rw [← show x = k from e]; exact hx)
  · exact absurd (List.mem_map.mpr ⟨_, List.mem_of_getElem? hj, rfl⟩) hno
theorem inM {Q : Value → Shared → Prop} (hu : A.in1.units + 8 < cLine) (hk : NestedIs s.heap k key ∧ k.depth ≤ 8) (hd : (d == sysModules) = false) (hm : DictM w s.heap d xs) (h : Q (.bool (atM xs k).isSome) { s with toks := s.toks + k.draws }) :
    wpAny (model prog w) A (compareOp .In key (.ref d)) Q E s := by
  have T := hm.isDict
  show wpAny _ _ (do return .bool (← contains (.ref d) key)) Q E s
  refine wpAny_bind ?_
  unfold contains
  try with_reducible refine wpAny_holding ?_
  refine wpAny_bind (wpAny_specialOf T PySem.F.slot_dict_contains.lookup ?_)
  show wpAny _ _ (if (some (Value.builtin "dict.__contains__") == some Value.none) = true then _ else _) _ E s
  rw [if_neg (by rw [beq_builtin_none]; nofun)]
  refine wpAny_bind (wpAny_callSpecialUnlessNone?_slot (name := Str.ofString "__contains__") T PySem.F.slot_dict_contains
    (wpAny_call_entry PySem.F.slot_dict_contains T PySem.F.entry_dict_contains ?_ (PySem.F.args_dict_contains_2 _ _)))
  show wpAny _ _ (dictGet d key >>= _) _ _ s
  refine wpAny_bind (dictGetM hu hk hm ?_)
  cases e : atM xs k with
  | some p =>
    rw [e] at h
    show wpAny _ _ (ret (.bool true)) _ _ _
    exact wpAny_pure ⟨_, rfl, wpAny_truthy_bool (wpAny_pure h)⟩
  | none =>
    rw [e] at h
    show wpAny _ _ (Builtin.Dict.pendingKey? d key >>= _) _ _ _
    exact wpAny_bind (wpAny_pendingKey_other hd (wpAny_pure ⟨_, rfl, wpAny_truthy_bool (wpAny_pure h)⟩))
theorem notInM {Q : Value → Shared → Prop} (hu : A.in1.units + 8 < cLine) (hk : NestedIs s.heap k key ∧ k.depth ≤ 8) (hd : (d == sysModules) = false) (hm : DictM w s.heap d xs) (h : Q (.bool (!(atM xs k).isSome)) { s with toks := s.toks + k.draws }) :
    wpAny (model prog w) A (compareOp .NotIn key (.ref d)) Q E s := by
  have T := hm.isDict
  show wpAny _ _ (do return .bool (!(← contains (.ref d) key))) Q E s
  refine wpAny_bind ?_
  unfold contains
  try with_reducible refine wpAny_holding ?_
  refine wpAny_bind (wpAny_specialOf T PySem.F.slot_dict_contains.lookup ?_)
  show wpAny _ _ (if (some (Value.builtin "dict.__contains__") == some Value.none) = true then _ else _) _ E s
  rw [if_neg (by rw [beq_builtin_none]; nofun)]
  refine wpAny_bind (wpAny_callSpecialUnlessNone?_slot (name := Str.ofString "__contains__") T PySem.F.slot_dict_contains
    (wpAny_call_entry PySem.F.slot_dict_contains T PySem.F.entry_dict_contains ?_ (PySem.F.args_dict_contains_2 _ _)))
  show wpAny _ _ (dictGet d key >>= _) _ _ s
  refine wpAny_bind (dictGetM hu hk hm ?_)
  cases e : atM xs k with
  | some p =>
    rw [e] at h
    show wpAny _ _ (ret (.bool true)) _ _ _
    exact wpAny_pure ⟨_, rfl, wpAny_truthy_bool (wpAny_pure h)⟩
  | none =>
    rw [e] at h
    show wpAny _ _ (Builtin.Dict.pendingKey? d key >>= _) _ _ _
    exact wpAny_bind (wpAny_pendingKey_other hd (wpAny_pure ⟨_, rfl, wpAny_truthy_bool (wpAny_pure h)⟩))
/-- dict(pairs), all keys unlike -/
theorem callDictM {T : String} {a : Addr} {fp wr : List Addr} {n : Nat} {Rel : Nat → Value → Value → Prop} {OK : Heap → Prop} {ps : List EnM} {Q : Value → Shared → Prop} (P : PairArg prog w T a fp wr n Rel OK) (hh : A.handled = none) (hu : A.in1.in1.units + 8 < cLine) (ok : OK s.heap)
    (hl : ps.length = n) (hc : ∀ i key v, Rel i key v → ∃ k, ps[i]? = some (k, key, v)) (hst : ∀ h', (∀ b o, b ≠ s.heap.objs.size → b ∉ wr → s.heap.get? b = some o → h'.get? b = some o) → ∀ x ∈ ps, KeyM h' x) (hn : (ps.map fun x => x.1).Nodup) (hz : n ≤ sizeLine)
    (h : ∀ h' tk, DictM w h' s.heap.objs.size ps → (∀ b o, b ∉ wr → s.heap.get? b = some o → h'.get? b = some o) → Q (.ref s.heap.objs.size) { s with heap := h', toks := tk }) : wpAny (model prog w) A (call (.type "dict") [.ref a]) Q E s := by
  refine call_dict_arg P ok fun s₁ hs₁ hdf ok₁ => ?_
  subst hs₁
  have up : ∀ b o, s.heap.get? b = some o → (s.heap.push { cls := .type "dict", data := .dict #[] }).get? b = some o := fun b o e => Heap.get?_push_of_some _ e
  refine updateFrom_arg (A := A.in1) (Tab := fun i h => DictM w h s.heap.objs.size (ps.take i) ∧ ∀ b o, b ≠ s.heap.objs.size → b ∉ wr → s.heap.get? b = some o → h.get? b = some o) P .none hh ok₁ hdf ⟨DictM.empty s.heap, fun b o _ _ e => up b o e⟩ (fun _ _ tb => by obtain ⟨⟨o, _, _, e, _⟩, _⟩ := tb; exact Heap.lt_size e) ?_ ?_ ?_
  · intro i h h' wr' hd hw tb hk
    have k2 : ∀ b o, b ≠ s.heap.objs.size → b ∉ wr → s.heap.get? b = some o → h'.get? b = some o := fun b o h1 h2 e => hk b o (fun q => by
      rcases hw b q with q | q
      · exact h2 q
      · have : (s.heap.push { cls := .type "dict", data := .dict #[] }).get? b = none := q
        rw [up b o e] at this
        cases this) (tb.2 b o h1 h2 e)
    refine ⟨?_, k2⟩
    obtain ⟨⟨o, es, ep, e, c, dd, ee, _, nn⟩, _⟩ := tb
    exact ⟨o, es, ep, hk _ o hd e, c, dd, ee, fun x hx => hst h' k2 x (List.mem_of_mem_take hx), nn⟩
  · intro i key v s' Q' E' hi hrel tb _ hQ
    obtain ⟨k, hk⟩ := hc i key v hrel
    have mem := List.mem_of_getElem? hk
    have e1 : ps.take (i + 1) = ps.take i ++ [(k, key, v)] := by rw [List.take_add_one, hk]; rfl
    have hno : k ∉ (ps.take i).map fun x => x.1 := by
      have q : ((ps.take (i + 1)).map fun x => x.1).Nodup := hn.sublist ((List.take_sublist _ _).map _)
      rw [e1, List.map_append, List.nodup_append] at q
      exact fun z => q.2.2 k z k (by simp) rfl
    refine dictSetM (xs := ps.take i) hu (hst _ tb.2 _ mem) tb.1 hno (fun h' m sb => ?_) (by rw [List.length_take]; omega)
    refine hQ h' _ ⟨by rw [e1]; exact m, fun c o h1 h2 e => sb.extBut c o h1 (tb.2 c o h1 h2 e)⟩ sb
  · intro h' tk tb hk
    have e : ps.take n = ps := List.take_of_length_le (Nat.le_of_eq hl)
    rw [e] at tb
    refine ⟨rfl, h h' tk tb.1 fun b o hw e2 => hk b o (Nat.ne_of_lt (Heap.lt_size e2)) hw (up b o e2)⟩
end
end Ts

set_option maxRecDepth 100000
set_option maxHeartbeats 4000000
namespace Ts
open PySem PySem.Spec PyProof.Rows L2
/-- a key of any sort, as it is known -/
inductive KVM (K : PySem.W.Frag) (H : Hp) : NK → V → Prop
  | non : KVM K H .none .non
  | int (i : Int) : KVM K H (.num i) (.int i)
  | str (x : Str) : KVM K H (.text x) (.str x)
  | tup {a : Addr} (x : Str) : SqT K H a [.str x] → KVM K H (.tup [.text x]) (.ref a)
structure EnV where
  k : NK
  kv : V
  v : V
def KeysM (K : PySem.W.Frag) (H : Hp) (l : List EnV) : Prop := ∀ y ∈ l, KVM K H y.k y.kv
def PairM : List EnM → List EnV → Prop := Paired fun x y => x.1 = y.k ∧ RelV y.kv x.2.1 ∧ RelV y.v x.2.2
/-- the dict at p with the entries l -/
def DicM (w : World) (p : Addr) (l : List EnV) : HO := .ext fun h => ∃ (o : Obj) (es : Array DictEntry) (ep : Nat) (xs : List EnM), h.get? p = some o ∧ Obj.ExactDict o ∧ o.data = .dict es ep ∧ es.toList = xs.map (entM w) ∧ PairM xs l ∧ (l.map fun y => y.k).Nodup ∧ l.length ≤ sizeLine ∧ (p == sysModules) = false
theorem pairM_keys : ∀ {xs : List EnM} {l : List EnV}, PairM xs l → (xs.map fun x => x.1) = l.map fun y => y.k
  | _, _, .nil => rfl
  | _, _, .cons h t => by rw [List.map_cons, List.map_cons, h.1, pairM_keys t]
theorem pairM_len {xs : List EnM} {l : List EnV} (p : PairM xs l) : xs.length = l.length := by
  have := congrArg List.length (pairM_keys p)
  simpa using this
theorem pairM_at : ∀ {xs : List EnM} {l : List EnV}, PairM xs l → ∀ {i : Nat} {y : EnV}, l[i]? = some y → ∃ x, xs[i]? = some x ∧ x.1 = y.k ∧ RelV y.kv x.2.1 ∧ RelV y.v x.2.2
  | _, _, .nil, i, y, e => by simp at e
  | x :: xs, z :: l, .cons h t, i, y, e => by
    cases i with
    | zero =>
      rw [List.getElem?_cons_zero] at e
      cases e
      exact ⟨x, rfl, h⟩
    | succ i =>
      rw [List.getElem?_cons_succ] at e
      obtain ⟨x2, e2, q⟩ := pairM_at t e
      exact ⟨x2, by rw [List.getElem?_cons_succ]; exact e2, q⟩
theorem pairM_mem {xs : List EnM} {l : List EnV} (p : PairM xs l) : ∀ x ∈ xs, ∃ y ∈ l, x.1 = y.k ∧ RelV y.kv x.2.1 ∧ RelV y.v x.2.2 := by
  induction p with
  | nil => intro x hx; cases hx
  | cons h t ih =>
    intro x hx
    rcases List.mem_cons.mp hx with rfl | hx
    · exact ⟨_, List.mem_cons_self .., h⟩
    · obtain ⟨y, hy, e⟩ := ih x hx
      exact ⟨y, List.mem_cons_of_mem _ hy, e⟩
def atV (l : List EnV) (k : NK) : Option V := (l.find? fun y => decide (y.k = k)).map fun y => y.v
theorem atM_of : ∀ {xs : List EnM} {l : List EnV}, PairM xs l → ∀ {k : NK} {v : V}, atV l k = some v → ∃ u, atM xs k = some u ∧ RelV v u
  | _, _, .nil, k, v, e => nomatch e
  | x :: xs, y :: l, .cons h t, k, v, e => by
    unfold atV atM at *
    rw [List.find?_cons] at e ⊢
    rw [h.1]
    by_cases q : y.k = k
    · rw [decide_eq_true q] at e ⊢
      cases e
      exact ⟨_, rfl, h.2.2⟩
    · rw [decide_eq_false q] at e ⊢
      exact atM_of t e
section
variable {X : Cx} {pins : List (Addr × Obj)} {σ : L2.St} {H : Hp} {s : Shared}
theorem nest_of (I : Inv X pins σ H s) {k : NK} {v : V} {u : Value} (h : KVM X.K H k v) (r : RelV v u) : NestedIs s.heap k u ∧ k.depth ≤ 8 := by
  cases h with
  | non => cases r; exact ⟨.none, by decide⟩
  | int i => obtain ⟨t, rfl⟩ := r; exact ⟨.int i t, Nat.zero_le _⟩
  | str x => obtain ⟨t, rfl⟩ := r; exact ⟨.text x t, Nat.zero_le _⟩
  | tup x ha =>
    cases r
    obtain ⟨its, rv, p, _⟩ := I.tuple ha
    obtain ⟨o, ho, hc, n, hd⟩ := p
    obtain ⟨u, eu, ru⟩ := vals1 rv
    subst eu
    obtain ⟨t, rfl⟩ := ru
    exact ⟨.tup ho hc hd (.cons (.text x t) .nil), by show NestedKey.depth (.tup [.text x]) ≤ 8; simp [NestedKey.depth, NestedKey.depthAll]⟩
theorem dicM_of (I : Inv X pins σ H s) {p : Addr} {o : Obj} {l : List EnV} (e : H p = some (.frz o (DicM X.w p l))) (hk : KeysM X.K H l) :
    (p == sysModules) = false ∧ s.heap.get? p = some o ∧ Obj.ExactDict o ∧ ∃ es ep xs, o.data = .dict es ep ∧ es.toList = xs.map (entM X.w) ∧ PairM xs l ∧ DictM X.w s.heap p xs := by
  obtain ⟨h0, q⟩ := (show ObjOk X.prog X.w H s.heap p (.frz o (DicM X.w p l)) from I.hok p _ e)
  obtain ⟨⟨o2, es, ep, xs, h1, h2, h3, h4, h5, h6, h7, h8⟩, _⟩ := (show ObjOk X.prog X.w H s.heap p (DicM X.w p l) from q)
  rw [h0] at h1
  cases h1
  refine ⟨h8, h0, h2, es, ep, xs, h3, h4, h5, o, es, ep, h0, h2, h3, h4, fun x hx => ?_, by rw [pairM_keys h5]; exact h6⟩
  obtain ⟨y, hy, e1, e2, _⟩ := pairM_mem h5 x hx
  unfold KeyM
  rw [e1]
  exact nest_of I (hk y hy) e2
theorem dicM_new {H : Hp} {h : Heap} {p : Addr} {xs : List EnM} {l : List EnV} {P : Program} {w : World} (dd : DictM w h p xs) (pr : PairM xs l) (hl : l.length ≤ sizeLine) (hp : (p == sysModules) = false) : ∃ o, h.get? p = some o ∧ ∀ H, ObjOk P w H h p (.frz o (DicM w p l)) := by
  obtain ⟨o, es, ep, h1, h2, h3, h4, h5, h6⟩ := dd
  rw [pairM_keys pr] at h6
  refine ⟨o, h1, fun H => ⟨h1, ?_⟩⟩
  show ObjOk P w H h p (DicM w p l)
  refine ⟨⟨o, es, ep, xs, h1, h2, h3, h4, pr, h6, hl, hp⟩, ⟨o, h1⟩, ?_⟩
  intro a1 a2 hh k
  obtain ⟨o, es, ep, xs, h1, q⟩ := hh
  exact ⟨o, es, ep, xs, k _ h1, q⟩
/-! ### dict(pairs) -/
theorem call_dictM (hcalm : X.calm = true) (hu : X.A.units + 64 < cLine) : CallR X (.type "dict") (fun vs H Q => ∃ (a : Addr) (ps : List Addr) (l : List EnV), vs = [.ref a] ∧ SqL X.K H a (ps.map V.ref) ∧ Paired (fun p y => SqT X.K H p [y.kv, y.v]) ps l ∧ KeysM X.K H l ∧ (l.map fun y => y.k).Nodup ∧
    ∀ p o, H p = none → Q (.ref p) (upd H p (.frz o (DicM X.w p l)))) := by
  intro pins s σ H vs us Q I r q
  obtain ⟨a, ps, l, ex, hq, hp, hk, nd, q⟩ := q
  subst ex
  obtain ⟨u, eu, rx⟩ := vals1 r
  subst eu
  cases rx
  obtain ⟨its, rv, pl, hz⟩ := I.list hq
  have ei := refs_at rv
  subst ei
  rw [List.length_map] at hz
  have all : ∀ {ps : List Addr} {l : List EnV}, Paired (fun p y => SqT X.K H p [y.kv, y.v]) ps l → ∃ xs : List EnM, PairM xs l ∧ xs.length = ps.length ∧ ∀ (j : Nat) (x : EnM), xs[j]? = some x → ∃ b, ps[j]? = some b ∧ IsTup s.heap b #[x.2.1, x.2.2] := by
    intro ps l h
    induction h with
    | nil => exact ⟨[], .nil, rfl, fun j x e => by simp at e⟩
    | @cons p y ps l h t ih =>
      obtain ⟨xs, r, e, f⟩ := ih
      obtain ⟨its, rv, ht, _⟩ := I.tuple h
      obtain ⟨u, z, ei, ru, rz⟩ := vals2 rv
      subst ei
      refine ⟨(y.k, u, z) :: xs, .cons ⟨rfl, ru, rz⟩ r, by rw [List.length_cons, List.length_cons, e], fun j x e2 => ?_⟩
      cases j with
      | zero =>
        rw [List.getElem?_cons_zero] at e2
        cases e2
        exact ⟨p, rfl, ht⟩
      | succ j =>
        rw [List.getElem?_cons_succ] at e2
        obtain ⟨b, e3, e4⟩ := f j x e2
        exact ⟨b, by rw [List.getElem?_cons_succ]; exact e3, e4⟩
  obtain ⟨xs, pr, hl, ht⟩ := all hp
  obtain ⟨o, n, ho, hc, hd, hdat⟩ := pl
  have keyAll : ∀ x ∈ xs, KeyM s.heap x := fun x hx => by
    obtain ⟨y, hy, e1, e2, _⟩ := pairM_mem pr x hx
    unfold KeyM
    rw [e1]
    exact nest_of I (hk y hy) e2
  refine callDictM (ps := xs) (n := (xs.map fun x => x.2).length) (PairArg.list a _ (fun j => ps.getD j 0) (xs.map fun x => x.2)) (I.ok.hd hcalm) (by show X.A.units + 1 + 1 + 8 < cLine; omega) ⟨⟨o, n, ho, hc, hd, hdat⟩, by simp [hl], fun j k v e => ?g1⟩ (by rw [List.length_map]) (fun i key v e => by
    have e : (xs.map fun x => x.2)[i]? = some (key, v) := e
    rw [List.getElem?_map] at e
    cases e2 : xs[i]? with
    | none => rw [e2] at e; cases e
    | some x =>
      rw [e2] at e
      obtain ⟨k, u, z⟩ := x
      cases e
      exact ⟨k, rfl⟩) (fun h' k x hx => ?g2) ?g3 (by rw [List.length_map, hl]; exact hz) fun h' tk dm keep => ?g4
  case g1 =>
    rw [List.getElem?_map] at e
    cases e2 : xs[j]? with
    | none => rw [e2] at e; cases e
    | some x =>
      rw [e2] at e
      obtain ⟨k0, u0, z0⟩ := x
      cases e
      obtain ⟨b, e3, e4⟩ := ht j _ e2
      refine ⟨by simp [e3], .inl ?_⟩
      have : (ps.getD j 0) = b := by rw [List.getD_eq_getElem?_getD, e3]; rfl
      dsimp only
      rw [this]
      exact e4
  case g2 =>
    have z := keyAll x hx
    refine ⟨NestedIs.at (fun b ob vs n hb _ => k b ob (Nat.ne_of_lt (Heap.lt_size hb)) (fun q => nomatch q) hb) _ _ z.1, z.2⟩
  case g3 => rw [pairM_keys pr]; exact nd
  case g4 =>
    have hm : (s.heap.objs.size == sysModules) = false := beq_eq_false_iff_ne.mpr (Nat.ne_of_gt I.big)
    obtain ⟨o2, e2, ok⟩ := dicM_new (H := H) (P := X.prog) dm pr (by rw [← pairM_len pr, hl]; exact hz) hm
    exact ⟨.ref s.heap.objs.size, _, I.laid (t' := tk) (fun b o e => keep b o (fun q => nomatch q) e) (Nat.le_refl _) (ok _), rfl, q _ o2 (I.hok.fresh (Nat.le_refl _))⟩
/-! ### d[k], k not in d -/
def rGetM (K : PySem.W.Frag) (w : World) : V → V → Hp → VK → Prop := fun o i H Q => ∃ (ob : Obj) (p : Addr) (l : List EnV) (k : NK) (v : V), o = .ref p ∧ H p = some (.frz ob (DicM w p l)) ∧ KeysM K H l ∧ KVM K H k i ∧ atV l k = some v ∧ Q v H
theorem pget_M (hu : X.A.units + 64 < cLine) : PGet X (rGetM X.K X.w) := by
  intro pins s σ H o i ov iv Q I r1 r2 ⟨ob, p, l, k, v, e1, hp, hk, ha, hv, q⟩
  subst e1
  obtain rfl : ov = Value.ref p := r1
  obtain ⟨_, _, _, es, ep, xs, _, _, pr, dm⟩ := dicM_of I hp hk
  obtain ⟨u, hu2, rv⟩ := atM_of pr hv
  exact getItemM (by show X.A.units + 1 + 8 < cLine; omega) (nest_of I ha r2) dm hu2 ⟨v, H, I.tok _, rv, q⟩
def tGetM (K : PySem.W.Frag) (w : World) (td ty : TE) : TE := fun σ H Q => td σ H fun o H1 => ty σ H1 fun i H2 => rGetM K w o i H2 Q
theorem pe_getM {o i : Expr} {pos : Pos} {td ty : TE} (hu : X.A.units + 64 < cLine) (ho : PE X o td) (hi : PE X i ty) (hs : NoSl i) : PE X (.Subscript o i pos) (tGetM X.K X.w td ty) := by
  refine ⟨fun pins s σ H Q I h => ?_⟩
  refine subD_of PySem.F.slot_dict_getitem.lookup hs (thn (ho.run pins s σ H _ I h) fun u s1 ⟨x, H1, I1, rx, q1⟩ => thn (hi.run pins s1 σ H1 _ I1 q1) fun iv s2 ⟨y, H2, I2, ry, q2⟩ => ?_)
  refine ⟨?_, pget_M hu pins s2 σ H2 x y u iv Q I2 rx ry q2⟩
  obtain ⟨ob, p, l, k, v, e1, hp, hk, _⟩ := q2
  subst e1
  obtain rfl : u = Value.ref p := rx
  obtain ⟨_, _, _, _, _, _, _, _, _, dm⟩ := dicM_of I2 hp hk
  exact dm.isDict
end
end Ts

set_option maxRecDepth 100000
set_option maxHeartbeats 4000000
namespace Ts
open PySem PySem.Spec PyProof.Rows L2
/-! ### walks of a dict whose keys are of any sort -/
def ItkM (w : World) (d : Addr) (o : Obj) (l : List EnV) : It :=
  ⟨fun i H => H d = some (.frz o (DicM w d l)) ∧ i < l.length, fun i H x H' => H' = H ∧ ∃ y, l[i]? = some y ∧ x = y.kv, fun i H => H d = some (.frz o (DicM w d l)) ∧ l.length ≤ i⟩
def ItiM (w : World) (d : Addr) (o : Obj) (l : List EnV) : It :=
  ⟨fun i H => H d = some (.frz o (DicM w d l)) ∧ i < l.length, fun i H x H' => ∃ T y, l[i]? = some y ∧ x = .ref T ∧ H T = none ∧ H' = upd H T (.tup [y.kv, y.v]), fun i H => H d = some (.frz o (DicM w d l)) ∧ l.length ≤ i⟩
section
variable {X : Cx} {pins : List (Addr × Obj)} {σ : L2.St} {H : Hp} {s : Shared}
theorem dicM_raw (I : Inv X pins σ H s) {p : Addr} {o : Obj} {l : List EnV} (e : H p = some (.frz o (DicM X.w p l))) :
    (p == sysModules) = false ∧ s.heap.get? p = some o ∧ Obj.ExactDict o ∧ ∃ es ep, o.data = .dict es ep ∧ es.size = l.length ∧ s.heap.DictRaw p es ep ∧ ∀ i (hi : i < es.size) y, l[i]? = some y → RelV y.kv es[i].key ∧ RelV y.v es[i].val := by
  obtain ⟨h0, q⟩ := (show ObjOk X.prog X.w H s.heap p (.frz o (DicM X.w p l)) from I.hok p _ e)
  obtain ⟨⟨o2, es, ep, xs, h1, h2, h3, h4, h5, h6, h7, h8⟩, _⟩ := (show ObjOk X.prog X.w H s.heap p (DicM X.w p l) from q)
  rw [h0] at h1
  cases h1
  refine ⟨h8, h0, h2, es, ep, h3, by rw [entM_len h4, pairM_len h5], ⟨o, h0, h2, h3⟩, fun i hi y hy => ?_⟩
  obtain ⟨x, hx, e1, e2, e3⟩ := pairM_at h5 hy
  have := entM_at h4 i
  rw [Array.getElem?_eq_getElem hi, hx] at this
  have := Option.some.inj this
  rw [this]
  exact ⟨e2, e3⟩
end
section
variable {P : Program} {w : World} {K : PySem.W.Frag} {tg : Expr} {d : Addr} {o : Obj} {es : Array DictEntry} {ep : Nat}
theorem epM {o : Obj} {es es2 : Array DictEntry} {ep ep2 : Nat} (h : o.data = .dict es ep) (g : o.data = .dict es2 ep2) : es2 = es ∧ ep2 = ep := by
  rw [h] at g
  cases g
  exact ⟨rfl, rfl⟩
theorem turn_keysM {l : List EnV} (it : Addr) (od : o.data = .dict es ep) (hl : es.size = l.length) : Turn P w K tg (ItkM w d o l) [it] it (fun i h => h.IsKeyIter it d i es.size ep) where
  mem := by simp
  obj := fun i h st b hb => by
    cases List.mem_singleton.mp hb
    obtain ⟨oi, e, c, dd⟩ := st
    exact ⟨oi, e, fun v z => by rw [dd] at z; cases z⟩
  keep := fun i h h' st k => st.at fun o2 e2 => k it (List.mem_singleton.mpr rfl) o2 e2
  item := by
    intro X hP hw hK hc i pins s σ H E I hf st hg
    subst hP hw hK
    obtain ⟨hd, hi⟩ := hg
    obtain ⟨g0, g1, g2, g3, g4, g5⟩ := hf it (List.mem_singleton.mpr rfl)
    obtain ⟨_, _, _, es2, ep2, dt, sz, raw, ent⟩ := dicM_raw I hd
    obtain ⟨rfl, rfl⟩ := epM od dt
    have li : i < es2.size := by omega
    obtain ⟨y, hy⟩ : ∃ y, l[i]? = some y := ⟨l[i], List.getElem?_eq_getElem hi⟩
    refine wpAny_pyNext_keys_item_raw st raw li fun h' st' sb => ?_
    have J : Inv X pins σ H { s with heap := h' } := I.turned (t' := s.toks) (fun c oc hc z => (sb.2 c hc).trans z) g0 g1 g3 g4 g5
    obtain ⟨oi, e, c, dd⟩ := id st'
    exact ⟨_, rfl, go_of (s := { s with heap := h' }) e c dd (by decide) ⟨y.kv, H, J, (ent i li y hy).1, ⟨rfl, y, hy, rfl⟩, st', fun c hc => (hf c hc).1⟩⟩
  done := by
    intro X hP hw hK hc i pins s σ H E I hf st hg
    subst hP hw hK
    obtain ⟨hd, hi⟩ := hg
    obtain ⟨g0, g1, g2, g3, g4, g5⟩ := hf it (List.mem_singleton.mpr rfl)
    obtain ⟨_, _, _, es2, ep2, dt, sz, raw, ent⟩ := dicM_raw I hd
    obtain ⟨rfl, rfl⟩ := epM od dt
    exact wpAny_pyNext_keys_end_raw (I.ok.hd hc) st raw (by omega) fun h' eb => ⟨rfl, I.turned (t' := s.toks) (fun c oc hc z => eb c oc hc z) g0 g1 g3 g4 g5⟩
  self := fun A i s Q E st h => wpAny_pyIter_keyiter st h
theorem turn_itemsM {l : List EnV} {elts : List Expr} {kk : Nat} {tpos : Pos} (it : Addr) (od : o.data = .dict es ep) (hl : es.size = l.length) :
    Turn P w K (.Tuple elts kk tpos) (ItiM w d o l) [it] it (fun i h => ∃ ok ov, IsItemIter h it d i es.size ep ok ov) where
  mem := by simp
  obj := fun i h st b hb => by
    cases List.mem_singleton.mp hb
    obtain ⟨a1, a2, e⟩ := st
    exact ⟨_, e, fun v z => nomatch z⟩
  keep := fun i h h' st k => let ⟨a1, a2, e⟩ := st; ⟨a1, a2, k it (List.mem_singleton.mpr rfl) _ e⟩
  item := by
    intro X hP hw hK hc i pins s σ H E I hf st hg
    subst hP hw hK
    obtain ⟨hd, hi⟩ := hg
    obtain ⟨_, _, _, es2, ep2, dt, sz, raw, ent⟩ := dicM_raw I hd
    obtain ⟨rfl, rfl⟩ := epM od dt
    have li : i < es2.size := by omega
    obtain ⟨y, hy⟩ : ∃ y, l[i]? = some y := ⟨l[i], List.getElem?_eq_getElem hi⟩
    obtain ⟨a1, a2, he⟩ := st
    have lt : it < s.heap.objs.size := Heap.lt_size he
    refine wpAny_pyNext_items_item_raw he raw li fun h' go hT _ hk => ?_
    refine ⟨_, rfl, wpAny_letOwnedTupleGo_items (s := { s with heap := h' }) go fun h'' he' sb => ?_⟩
    have hT2 : h''.get? s.heap.objs.size = some { cls := .type "tuple", data := .seq #[es2[i].key, es2[i].val] } := (sb.2 _ (Nat.ne_of_gt lt)).trans hT
    have new : ObjOk X.prog X.w (upd H s.heap.objs.size (.tup [y.kv, y.v])) h'' s.heap.objs.size (.tup [y.kv, y.v]) :=
      ⟨by show 2 ≤ sizeLine; decide, [es2[i].key, es2[i].val], .cons (ent i li y hy).1 (.cons (ent i li y hy).2 .nil), ⟨_, hT2, rfl, _, rfl⟩⟩
    have J : Inv X pins σ (upd H s.heap.objs.size (.tup [y.kv, y.v])) { s with heap := h'' } :=
      I.turnedNew (t' := s.toks) (ch := [it]) (fun c oc hc z => (sb.2 c fun q => hc (by rw [q]; exact List.mem_singleton.mpr rfl)).trans (hk c oc (fun q => hc (by rw [q]; exact List.mem_singleton.mpr rfl)) z)) hf (Nat.le_refl _) new
    refine ⟨.ref s.heap.objs.size, _, J, rfl, ⟨_, y, hy, rfl, I.hok.fresh (Nat.le_refl _), rfl⟩, ⟨_, _, he'⟩, fun c hc => ?_⟩
    have e : c = it := List.mem_singleton.mp hc
    rw [e, upd_ne (Nat.ne_of_lt lt)]
    exact (hf it (List.mem_singleton.mpr rfl)).1
  done := by
    intro X hP hw hK hc i pins s σ H E I hf st hg
    subst hP hw hK
    obtain ⟨hd, hi⟩ := hg
    obtain ⟨g0, g1, g2, g3, g4, g5⟩ := hf it (List.mem_singleton.mpr rfl)
    obtain ⟨_, _, _, es2, ep2, dt, sz, raw, ent⟩ := dicM_raw I hd
    obtain ⟨rfl, rfl⟩ := epM od dt
    obtain ⟨a1, a2, he⟩ := st
    exact wpAny_pyNext_items_end_raw (I.ok.hd hc) he raw (by omega) fun h' eb => ⟨rfl, I.turned (t' := s.toks) (fun c oc hc z => eb c oc hc z) g0 g1 g3 g4 g5⟩
  self := fun A i s Q E st h => let ⟨_, _, e⟩ := st; PySem.W.kcp_self e h
end
def iKeyM (w : World) (td : TE) : TI := fun σ H R => td σ H fun x H1 => ∃ d o l, x = .ref d ∧ H1 d = some (.frz o (DicM w d l)) ∧ R (ItkM w d o l) H1
def iItemM (w : World) (td : TE) : TI := fun σ H R => td σ H fun x H1 => ∃ d o l, x = .ref d ∧ H1 d = some (.frz o (DicM w d l)) ∧ R (ItiM w d o l) H1
section
variable {X : Cx} {tg e : Expr} {td : TE} {apos cpos : Pos}
theorem pi_keyM (he : PE X e td) : PI X tg e (iKeyM X.w td) := by
  refine ⟨fun pins s σ H R I h => ?_⟩
  refine thn (he.run pins s σ H _ I h) fun u s1 ⟨x, H1, J, rx, d, o, l, ex, hd, q⟩ => ?_
  subst ex
  obtain rfl : u = Value.ref d := rx
  obtain ⟨hs, hgd, hx, es, ep, dt, sz, raw, ent⟩ := dicM_raw J hd
  refine iter_keys hs hgd hx dt (pi_one (tk := s1.toks) J _ (turn_keysM _ dt sz) ⟨_, Heap.get?_push_size _ rfl, rfl, rfl⟩ q)
theorem pi_itemM {elts : List Expr} {kk : Nat} {tpos : Pos} (he : PE X e td) (hbase : attributeBase e "items" X.env (eval e X.env) = eval e X.env := by rfl) (hline : (apos.endLine == cpos.line) = true := by rfl) :
    PI X (.Tuple elts kk tpos) (.Call (.Attribute e "items" apos) [] [] cpos) (iItemM X.w td) := by
  refine ⟨fun pins s σ H R I h => ?_⟩
  refine wpAny_Call_method (T := "dict") (id := "dict.items") hbase rfl hline F.plainAttrs_dict F.slot_dict_items F.type_dict_items (thn (he.run pins s σ H _ I h) fun u s1 ⟨x, H1, J, rx, d, o, l, ex, hd, q⟩ => ?_)
  subst ex
  obtain rfl : u = Value.ref d := rx
  obtain ⟨hs, hgd, hx, es, ep, dt, sz, raw, ent⟩ := dicM_raw J hd
  refine ⟨raw.typeIs, fun a e => by cases e; exact ⟨o, hgd, hx.2.1⟩, ?_⟩
  have J2 : Inv X pins σ H1 { s1 with heap := s1.heap.push { cls := .type "dict_items", data := .fields #[.ref d] } } := J.kept (t' := s1.toks) fun c oc z => Heap.get?_push_of_some _ z
  have fin : wpAny (model X.prog X.w) X.A (pyIter (.ref s1.heap.objs.size)) (PIE X pins σ (.Tuple elts kk tpos) R) X.xe { s1 with heap := s1.heap.push { cls := .type "dict_items", data := .fields #[.ref d] } } := by
    refine wpAny_pyIter_items_raw (d := d) (es := es) (ep := ep) ⟨_, Heap.get?_push_size _ rfl, rfl, rfl⟩ (raw.at fun oc z => Heap.get?_push_of_some _ z) (pi_one (tk := s1.toks) J2 _ (turn_itemsM _ dt sz) ⟨.none, .none, Heap.get?_push_size _ rfl⟩ q)
  show wpAny _ _ (callWith cpos (.builtin "dict.items") [.ref d] [] []) _ X.xe s1
  exact method_meetsIn F.slot_dict_items F.entry_dict_items rfl (PySem.evalArgs_none ⟨rfl, raw.typeIs, F.args_dict_items_1 _, _, meets_dict_items_raw d hs, ⟨es, ep, raw⟩, fin⟩)
end
/-! ### k not in d, where d's keys are texts -/
def nkOf : Key → NK
  | .inl i => .num i
  | .inr x => .text x
theorem nkOf_inj {a b : Key} (h : nkOf a = nkOf b) : a = b := by
  cases a <;> cases b <;> first | (cases h; rfl) | cases h
section
variable {X : Cx} {pins : List (Addr × Obj)} {σ : L2.St} {H : Hp} {s : Shared}
theorem pairs_mix {P : Program} {w : World} {h : Heap} {es : List DictEntry} {vs : List (Key × Value)} (r : Pairs (mixKind P w) es vs) (hk : ∀ e ∈ es, ∃ k, (mixKind P w).is k e.key = true ∧ e.hash = (mixKind P w).hash k) :
    ∃ xs : List EnM, es = xs.map (entM w) ∧ (xs.map fun x => x.1) = (vs.map fun v => nkOf v.1) ∧ (xs.map fun x => x.2.2) = (vs.map fun v => v.2) ∧ ∀ x ∈ xs, KeyM h x := by
  induction r with
  | nil => exact ⟨[], rfl, rfl, rfl, fun _ z => nomatch z⟩
  | @cons e kv es vs h1 h2 _ ih =>
    obtain ⟨xs, e1, e2, e3, e4⟩ := ih fun e he => hk e (List.mem_cons_of_mem _ he)
    obtain ⟨k, i1, i2⟩ := hk e (List.mem_cons_self ..)
    have ek : k = kv.1 := (mixKind P w).inj _ _ _ i1 h1
    subst ek
    have eh : e.hash = (nkOf kv.1).hash w := by
      rw [i2]
      cases kv.1 <;> rfl
    refine ⟨(nkOf kv.1, e.key, e.val) :: xs, ?_, ?_, ?_, fun x hx => ?_⟩
    · rw [List.map_cons, ← e1]
      congr 1
      show e = ⟨(nkOf kv.1).hash w, e.key, e.val⟩
      rw [← eh]
    · rw [List.map_cons, List.map_cons, e2]
    · rw [List.map_cons, List.map_cons, e3, h2]
    · rcases List.mem_cons.mp hx with rfl | hx
      · rcases keyIs_shape (show keyIs kv.1 e.key = true from h1) with ⟨i, t, q1, q2⟩ | ⟨x, t, q1, q2⟩
        · unfold KeyM
          dsimp only
          rw [q1, q2]
          exact ⟨.int i t, Nat.zero_le _⟩
        · unfold KeyM
          dsimp only
          rw [q1, q2]
          exact ⟨.text x t, Nat.zero_le _⟩
      · exact e4 x hx
theorem dk_mix {P : Program} {w : World} {h : Heap} {p : Addr} {vs : List (Key × Value)} (m : h.DictOf (mixKind P w) p vs) : ∃ xs : List EnM, DictM w h p xs ∧ (xs.map fun x => x.1) = vs.map fun v => nkOf v.1 := by
  obtain ⟨o, es, ep, h1, h2, h3, h4, h5, h6⟩ := m
  obtain ⟨xs, e1, e2, _, e4⟩ := pairs_mix (h := h) h5 fun e he => h4 e (Array.mem_toList_iff.mp he)
  refine ⟨xs, ⟨o, es, ep, h1, h2, h3, e1, e4, ?_⟩, e2⟩
  rw [e2]
  have : (vs.map fun v => nkOf v.1) = (vs.map fun v => v.1).map nkOf := by rw [List.map_map]; rfl
  rw [this]
  exact List.Pairwise.map _ (fun a b ne q => ne (nkOf_inj q)) h6
theorem atM_isSome {xs : List EnM} {k : NK} : (atM xs k).isSome = decide (k ∈ xs.map fun x => x.1) := by
  induction xs with
  | nil => exact (decide_eq_false (by simp)).symm
  | cons x r ih =>
    unfold atM at ih ⊢
    rw [List.find?_cons]
    by_cases q : x.1 = k
    · rw [decide_eq_true q]
      exact (decide_eq_true (by rw [List.map_cons, q]; exact List.mem_cons_self ..)).symm
    · rw [decide_eq_false q]
      dsimp only
      rw [ih]
      exact decide_eq_decide.mpr ⟨fun h => by rw [List.map_cons]; exact List.mem_cons_of_mem _ h, fun h => by rw [List.map_cons] at h; exact (List.mem_cons.mp h).resolve_left fun z => q z.symm⟩
/-- k not in d, d a dict of texts and numbers -/
def rNotInDK (K : PySem.W.Frag) : R2 := fun x y H Q => ∃ (k : NK) (d : Addr) (kvs : List (Key × V)), y = .ref d ∧ KVM K H k x ∧ Rd H d (.dK kvs) ∧ Q (.bl (!decide (k ∈ kvs.map fun v => nkOf v.1))) H
theorem op_notinDK (hu : X.A.units + 64 < cLine) : OpR X (compareOp .NotIn) (rNotInDK X.K) := by
  intro pins s σ H x y v u Q I r1 r2 ⟨k, d, kvs, e, hk, hd, q⟩
  subst e
  obtain rfl : u = Value.ref d := r2
  obtain ⟨_, hs, vs, kv, m⟩ := dk_rd (P := X.prog) (w := X.w) I.hok hd
  obtain ⟨xs, dm, e1⟩ := dk_mix m
  refine notInM (by show X.A.units + 1 + 8 < cLine; omega) (nest_of I hk r1) hs dm ?_
  rw [atM_isSome, e1]
  have e2 : (vs.map fun v => nkOf v.1) = kvs.map fun v => nkOf v.1 := by
    have := kv.keys
    have h2 := congrArg (List.map nkOf) this
    rw [List.map_map, List.map_map] at h2
    exact h2.symm
  rw [e2]
  exact ⟨.bl (!decide (k ∈ kvs.map fun (v : Key × V) => nkOf v.1)), H, I.tok _, rfl, q⟩
end
end Ts

set_option maxRecDepth 100000
set_option maxHeartbeats 4000000
namespace Ts
open PySem L2
open LamX (ExtN Tabs TabB)
/-! ### ranges of any sort -/
def rangeB : List V → Bool
  | [a, b] => numB 0 a && (match b with
    | .non => true
    | x => match a with
      | .int i => numB i x
      | _ => false)
  | _ => false
def spIsRangeG : Sp := fun vs H Q _ => ∃ (y : V) (cs : List V), vs = [y] ∧ ThAt H y cs ∧ ∀ H', Same H H' → Q (.bl (rangeB cs)) H'
/-- a key with a range that can stand there -/
def GoodE (rs : List Row) (H : Hp) (y : EnV) : Prop := ∃ (z : Str) (r : Row) (cs : List V), y.kv = .str z ∧ rowOf rs z = some r ∧ r.ki = ("shut" : Str) ∧ ThAt H y.v cs ∧ rangeB cs = true
def BadE (rs : List Row) (H : Hp) (y : EnV) : Prop := NoBx H rs y.kv ∨ ∃ (z : Str) (r : Row), y.kv = .str z ∧ rowOf rs z = some r ∧ (r.ki ≠ ("shut" : Str) ∨ (r.ki = ("shut" : Str) ∧ ∃ cs, ThAt H y.v cs ∧ rangeB cs = false))
theorem GoodE.ext {rs : List Row} {H H' : Hp} {y : EnV} (h : GoodE rs H y) (s : ExtN H H') : GoodE rs H' y := let ⟨z, r, cs, h1, h2, h3, h4, h5⟩ := h; ⟨z, r, cs, h1, h2, h3, h4.ext s, h5⟩
theorem BadE.ext {rs : List Row} {H H' : Hp} {y : EnV} (h : BadE rs H y) (s : ExtN H H') : BadE rs H' y := by
  rcases h with h | ⟨z, r, h1, h2, h3⟩
  · exact .inl (h.ext s)
  · exact .inr ⟨z, r, h1, h2, h3.imp id fun ⟨h4, cs, h5, h6⟩ => ⟨h4, cs, h5.ext s, h6⟩⟩
def spCheckRgX (w : World) (C CR : Addr) : Sp := fun vs H _ E => ∃ (t d : Addr) (o : Obj) (rs : List Row) (l : List EnV) (i : Nat) (y : EnV), vs = [.ref t, .ref d] ∧ TreeAt C H t rs ∧ H d = some (.frz o (DicM w d l)) ∧ l[i]? = some y ∧
  (∀ (j : Nat) (x : EnV), j < i → l[j]? = some x → GoodE rs H x) ∧ BadE rs H y ∧ ∀ e H', H e = none → Same H H' → H' e = some (.xd [("box", y.kv)]) → E (.ref CR) (some e) H'
def spCountsX (w : World) (C CC CR : Addr) : Sp := fun vs H _ E => ∃ (c dx t d : Addr) (o : Obj) (rs : List Row) (l : List EnV) (i : Nat) (y : EnV), vs = [.ref c, .ref t, .ref d] ∧ H c = some (.ins CC dx []) ∧ TreeAt C H t rs ∧ H d = some (.frz o (DicM w d l)) ∧ l[i]? = some y ∧
  (∀ (j : Nat) (x : EnV), j < i → l[j]? = some x → GoodE rs H x) ∧ BadE rs H y ∧ ∀ e H', H e = none → Same H H' → H' e = some (.xd [("box", y.kv)]) → E (.ref CR) (some e) H'
theorem walk_itemM {w : World} {d : Addr} {o : Obj} {l : List EnV} : Walk (ItiM w d o l) l.length (fun H => H d = some (.frz o (DicM w d l))) fun i H x H' => ∃ T y, l[i]? = some y ∧ x = .ref T ∧ H T = none ∧ H' = upd H T (.tup [y.kv, y.v]) :=
  ⟨fun i H hi g => ⟨g, hi⟩, fun H g => ⟨g, Nat.le_refl _⟩, fun i H x H' hi g y => y⟩
theorem walk_keyM {w : World} {d : Addr} {o : Obj} {l : List EnV} : Walk (ItkM w d o l) l.length (fun H => H d = some (.frz o (DicM w d l))) fun i H x H' => H' = H ∧ ∃ y, l[i]? = some y ∧ x = y.kv :=
  ⟨fun i H hi g => ⟨g, hi⟩, fun H g => ⟨g, Nat.le_refl _⟩, fun i H x H' hi g y => y⟩
section
variable {P : Program} {w : World} {K : PySem.W.Frag} {mg : Str → Option Value} {base : Heap} {C CM CC CN CU CR : Addr}
theorem ok_is_rangeG (D : DefAt K mg "is_range" s_is_range ["thing"]) (B : TxB mg) (TC : TxC K mg) : FnOk P w K mg base CX0 2 D.f D.fd ["thing"] spIsRangeG := by
  have Gn : FnOk P w K mg base CX0 1 TC.num.f TC.num.fd ["thing", "least"] spIsNumberG := ok_is_numberG TC.num B
  refine D.F.ok sc_is_range (fun vs H Q E h => ?_) (fun cdv A outer s H vs Q E hr h => ?_)
  · obtain ⟨y, cs, rfl, _⟩ := h
    rfl
  · obtain ⟨y, cs, rfl, hy, hq⟩ := h
    refine ⟨_, pss_cons (ps_if (PW.pt (pw_or (pt_not (pt_val (pe_callB call_isiT (by rfl) B.isinstance (by decide +kernel) (pa_cons (pv 0) (pa_cons (pe_tup (pa_cons (pe_bltn (by rfl) B.list (by decide +kernel) (v := .ty "list") rfl) (pa_cons (pe_bltn (by rfl) B.tuple (by decide +kernel) (v := .ty "tuple") rfl) pa_nil))) pa_nil)))))
        (pw_or1 (pt_cmpR op_ne (pe_callB call_len_seq (by rfl) B.len PySem.boot_len (pa_cons (pv 0) pa_nil)) pe_int (nomark _))))) (pss_one (ps_ret pe_bl)) pss_nil)
      (C8.pss_cut (ps_asg (pv 0) (pg_or (pg_tup rfl (pgs_cons (pg_name (i := 1) sc_is_range.nd rfl (.inl rfl)) (pgs_cons (pg_name (i := 2) sc_is_range.nd rfl (.inl rfl)) pgs_nil)))
          (pg_unl rfl (pgs_cons (pg_name (i := 1) sc_is_range.nd rfl (.inl rfl)) (pgs_cons (pg_name (i := 2) sc_is_range.nd rfl (.inl rfl)) pgs_nil)))))
      (pss_one (ps_ret (pe_and (pe_call Gn hr rfl TC.num.g TC.num.F.kp TC.num.b .nil pass0 (pa_cons (pv 1) (pa_cons pe_int pa_nil))) (pe_one (pe_or (pe_cmpR op_isN (pv 2) pe_non (nomark _)) (pe_one (pe_call Gn hr rfl TC.num.g TC.num.F.kp TC.num.b .nil pass0 (pa_cons (pv 2) (pa_cons (pv 1) pa_nil)))))))))) , ?_⟩
    refine ⟨_, rfl, (by show 2 ≤ sizeLine; decide), fun tp htp => ?_⟩
    have s1 : Same H (upd H tp (.tup [.ty "list", .ty "tuple"])) := Same.new htp
    rcases hy with ⟨hn, rfl⟩ | ⟨a, rfl, ha, l10, hcell⟩
    · obtain ⟨ty0, ty, kk⟩ := (hn.ext (Same.x s1)).ty (K := K)
      exact ⟨_, tp, _, ty0, _, false, rfl, upd_same, .cons (.ty "list") (.cons (.ty "tuple") .nil), ty, kk, _, rfl, iteT (hq _ s1)⟩
    obtain ⟨t, ty, kk⟩ := (ha.same s1).ty (K := K)
    refine ⟨_, tp, _, t, _, true, rfl, upd_same, .cons (.ty "list") (.cons (.ty "tuple") .nil), ty, kk, _, rfl, iteF ?_⟩
    refine ⟨_, rfl, a, _, rfl, (ha.same s1).or, rfl, _, rfl, ?_⟩
    have e2 : (!decide (V.int (cs.length : Nat) = V.int 2)) = decide (cs.length ≠ 2) := by
      by_cases h : cs.length = 2
      · rw [h]; rfl
      · rw [decide_eq_true h, decide_eq_false (fun e => h (by have := V.int.inj e; omega))]; rfl
    rw [e2]
    by_cases h2 : cs.length = 2
    · rw [decide_eq_false (fun h => h h2)]
      refine iteF ?_
      obtain ⟨c1, c2, rfl⟩ : ∃ c1 c2, cs = [c1, c2] := by
        match cs, h2 with
        | [c1, c2], _ => exact ⟨_, _, rfl⟩
      have un : SqT K (upd H tp (.tup [.ty "list", .ty "tuple"])) a [c1, c2] ∨ SqL K (upd H tp (.tup [.ty "list", .ty "tuple"])) a [c1, c2] := (ha.same s1).or.symm
      refine ⟨fun σ' H' => σ' = [some (.ref a), some c1, some c2] ∧ H' = upd H tp (.tup [.ty "list", .ty "tuple"]), ?_, ?_⟩
      · refine ⟨_, rfl, ?_⟩
        rcases un with un | un
        · exact .inl ⟨a, _, rfl, un, rfl, _, _, rfl, _, _, rfl, rfl, rfl, rfl⟩
        · exact .inr ⟨a, _, rfl, un, rfl, _, _, rfl, _, _, rfl, rfl, rfl, rfl⟩
      rintro σ' H' ⟨rfl, rfl⟩
      have hx1 := (hcell c1 (by simp)).ext (Same.x s1)
      have hx2 := (hcell c2 (by simp)).ext (Same.x s1)
      refine ⟨_, rfl, c1, 0, rfl, hx1, _, rfl, ?_⟩
      have hq1 := hq _ s1
      cases b1 : numB 0 c1 with
      | false =>
        have : rangeB [c1, c2] = false := by simp [rangeB, b1]
        rw [this] at hq1
        exact iteF hq1
      | true =>
        refine iteT ?_
        obtain ⟨i, rfl⟩ : ∃ i, c1 = .int i := by
          cases c1 <;> first | exact ⟨_, rfl⟩ | cases b1
        refine ⟨_, rfl, rfl, _, rfl, ?_⟩
        by_cases e : c2 = .non
        · subst e
          have : rangeB [.int i, .non] = true := by simp [rangeB, b1]
          rw [this] at hq1
          rw [decide_eq_true (show V.non = V.non from rfl)]
          exact iteT hq1
        · have : rangeB [.int i, c2] = numB i c2 := by
            cases c2 <;> first | exact absurd rfl e | (show (numB 0 (.int i) && _) = _; rw [b1]; rfl)
          rw [this] at hq1
          exact iteF' (decide_eq_false e) ⟨_, rfl, _, rfl, c2, i, rfl, hx2, hq1⟩
    · rw [decide_eq_true h2]
      have : rangeB cs = false := by
        unfold rangeB
        split
        · exact absurd rfl h2
        · rfl
      have hq1 := hq _ s1
      rw [this] at hq1
      exact iteT hq1
theorem ok_check_rangesX {fR : Addr} {fdR : FuncData} (D : DefAt K mg "check_ranges" s_check_ranges ["tree", "ranges"]) (B : TxB mg) (TC : TxC K mg) (T : TxT K mg C) (TQ : TxQ K mg)
    (M : MethAt K C "__contains__" "Tree.__contains__" s_Tree_contains ["self", "x"]) (mK : MethAt K C "kind" "Tree.kind" s_Tree_kind ["self", "box"]) (GK : FnOk P w K mg base CX0 4 mK.f mK.fd ["self", "box"] (spGet C fun r => .str r.ki))
    (Dr : DefAt K mg "is_range" s_is_range ["thing"])
    (TR : ErrT K mg CR "BadRange" "box") (iR : PySem.W.findIn K (.ref CR) "__init__" = some (some (.ref fR))) (tR : PySem.W.typeIn K (.ref fR) = some (.type "function")) (GR : FnOk P w K mg base CX0 2 fR fdR ["self", "box"] (spErr1 CR "box")) (bR : Binds K fdR ["self", "box"] []) :
    FnOk P w K mg base (L2.CX P w) 5 D.f D.fd ["tree", "ranges"] (spCheckRgX w C CR) := by
  have Gr : FnOk P w K mg base CX0 2 Dr.f Dr.fd ["thing"] spIsRangeG := ok_is_rangeG Dr B TC
  have G : FnOk P w K mg base CX0 2 M.f M.fd ["self", "x"] (spContains K C) := ok_Tree_contains M.F B T
  obtain ⟨t3, gS⟩ := TQ.shut
  refine D.F.okX sc_check_ranges (fun vs H Q E h => ?_) (fun cdv A outer s H vs Q E hr h => ?_)
  · obtain ⟨t, d, o, rs, l, i, y, rfl, _⟩ := h
    rfl
  · obtain ⟨t, d, o, rs, l, i0, y0, rfl, ht, hd, hy0, hgood, hbad, hE⟩ := h
    have r2 : Room 2 _ := hr.mono (by decide)
    have r3 : Room 3 _ := hr.mono (by decide)
    have hi0 := (List.getElem?_eq_some_iff.mp hy0).1
    obtain ⟨tdx, tq, tfo, tk, tp, tqs, g1, _⟩ := id ht.ex
    have noK : (tf tq tfo tk tp).lookup ("kind" : Str) = none := tf_no _ _ _ _ (by decide +kernel) (by decide +kernel) (by decide +kernel) (by decide +kernel)
    refine ⟨_, pss_one (ps_for PassesOwn.leaving rfl (pi_itemM (pv 1)) (pg_tup rfl (pgs_cons (pg_name (i := 2) sc_check_ranges.nd rfl (.inl rfl)) (pgs_cons (pg_name (i := 3) sc_check_ranges.nd rfl (.inl rfl)) pgs_nil)))
        (pss_one (ps_if (PW.pt (pw_or (pt_cmpR (op_notinC G M.m r2 M.b pass0) (pv 2) (pv 0) (by rfl)) (pw_or (pt_cmpR op_ne (pe_meth (pv 0) T.cl mK.m GK hr mK.b .nil pass0 (pa_cons (pv 2) pa_nil)) (pe_glob (by rfl) gS (v := .str ("shut" : Str)) ⟨_, rfl⟩) (nomark _)) (pw_or1 (pt_not (pt_val (pe_call Gr r2 rfl Dr.g Dr.F.kp Dr.b .nil pass0 (pa_cons (pv 3) pa_nil))))))))
          (pss_one (ps_raise rfl (takes_of rfl rfl rfl rfl) (pmk_oex TR.O iR tR GR r3 bR .nil pass0 rfl TR.g (by exact pa_cons (pv 2) pa_nil)))) pss_nil))), ?_⟩
    refine ⟨_, rfl, d, o, l, rfl, hd, ?_⟩
    refine for_it (walk_itemM (w := w) (d := d) (o := o) (l := l)) (fun i σ H' => i ≤ i0 ∧ ∃ v1 v2 : Option V, σ = [some (.ref t), some (.ref d), v1, v2] ∧ Same H H') ⟨Nat.zero_le _, none, none, rfl, Same.refl _⟩ (fun i σ H' _ ⟨_, _, _, _, s⟩ => s _ _ hd) ?_ ?_
    · rintro i x σ H2 H3 hi ⟨hle, v1, v2, rfl, s2⟩ ⟨Tq, y, hy, rfl, hT, rfl⟩
      have sT : Same H2 (upd H2 Tq (.tup [y.kv, y.v])) := Same.new hT
      have eT : (upd H2 Tq (.tup [y.kv, y.v])) Tq = some (.tup [y.kv, y.v]) := upd_same
      show gTup K 2 _ _ _ (upd H2 Tq (.tup [y.kv, y.v])) _
      generalize upd H2 Tq (.tup [y.kv, y.v]) = H4 at sT eT
      have s4 : Same H H4 := s2.trans sT
      refine ⟨Tq, _, rfl, sqT eT, rfl, _, _, rfl, _, _, rfl, rfl, ?_⟩
      have ht4 := ht.same s4
      have out : ∀ H5, Same H H5 → ∀ e, H5 e = none → E (.ref CR) (some e) (upd H5 e (.xd [("box", y0.kv)])) := fun H5 s5 e he => hE e _ (s5.free he) (s5.trans (Same.new he)) upd_same
      rcases Nat.lt_or_ge i i0 with hlt | hge
      · obtain ⟨z, r, cs, e1, hro, hki, hth, hrg⟩ := hgood i y hlt hy
        rw [e1]
        refine ⟨_, rfl, _, rfl, t, tdx, _, rfl, s4 _ _ g1, t, _, rs, rfl, ht4, .inl ⟨z, rfl, _, rfl, _, rfl, ?_⟩⟩
        rw [decide_eq_true (rowOf_in hro)]
        refine iteF ⟨_, rfl, t, tdx, _, rfl, s4 _ _ g1, noK, _, rfl, t, z, rs, r, rfl, ht4, hro, rfl, _, rfl, ?_⟩
        rw [show (!decide (V.str r.ki = V.str ("shut" : Str))) = false from by rw [hki]; rfl]
        refine iteF ⟨_, rfl, y.v, cs, rfl, hth.ext (Same.x s4), fun H5 s5 => ⟨_, rfl, ?_⟩⟩
        rw [hrg]
        exact iteF ⟨by omega, _, _, rfl, s4.trans s5⟩
      · obtain rfl : i = i0 := by omega
        rw [hy0] at hy
        cases hy
        rcases hbad with hno | ⟨z, r, e1, hro, hk⟩
        · exact ⟨_, rfl, _, rfl, t, tdx, _, rfl, s4 _ _ g1, odd_contains ht4 (hno.ext (Same.x s4)).o ⟨_, rfl, _, rfl, iteT ⟨_, rfl, rd_err1 (out H4 s4)⟩⟩⟩
        · have out2 := out
          rw [e1] at out2
          rw [e1]
          refine ⟨_, rfl, _, rfl, t, tdx, _, rfl, s4 _ _ g1, t, _, rs, rfl, ht4, .inl ⟨z, rfl, _, rfl, _, rfl, ?_⟩⟩
          rw [decide_eq_true (rowOf_in hro)]
          refine iteF ⟨_, rfl, t, tdx, _, rfl, s4 _ _ g1, noK, _, rfl, t, z, rs, r, rfl, ht4, hro, rfl, _, rfl, ?_⟩
          rcases hk with hki | ⟨hki, cs, hth, hrg⟩
          · rw [show (!decide (V.str r.ki = V.str ("shut" : Str))) = true from by rw [decide_eq_false (fun e => hki (V.str.inj e))]; rfl]
            exact iteT ⟨_, rfl, rd_err1 (out2 H4 s4)⟩
          · rw [show (!decide (V.str r.ki = V.str ("shut" : Str))) = false from by rw [hki]; rfl]
            refine iteF ⟨_, rfl, y0.v, cs, rfl, hth.ext (Same.x s4), fun H5 s5 => ⟨_, rfl, ?_⟩⟩
            rw [hrg]
            exact iteT ⟨_, rfl, rd_err1 (out2 H5 (s4.trans s5))⟩
    · rintro σ H2 ⟨hi, _⟩
      exact absurd (show l.length ≤ i0 from hi) (by omega)
theorem ok_Counts_initX {f : Addr} {fd : FuncData} {dvs : List V} (F : FunD K "__init__" "Counts.__init__" (defArgs s_Counts_init) (defBody s_Counts_init) (defScope s_Counts_init) dvs [] f fd)
    (Dc : DefAt K mg "check_ranges" s_check_ranges ["tree", "ranges"]) (Xc : FnOk P w K mg base (L2.CX P w) 5 Dc.f Dc.fd ["tree", "ranges"] (spCheckRgX w C CR)) : FnOk P w K mg base (L2.CX P w) 6 f fd ["self", "tree", "ranges"] (spCountsX w C CC CR) := by
  refine F.ok sc_Counts_init (fun vs H Q E h => ?_) (fun cdv A outer s H vs Q E hr h => ?_)
  · obtain ⟨c, dx, t, d, o, rs, l, i, y, rfl, _⟩ := h
    rfl
  · obtain ⟨c, dx, t, d, o, rs, l, i, y, rfl, hc, ht, hd, h⟩ := h
    refine ⟨_, pss_cons (ps_set (i := 3) sc_Counts_init.nd rfl (.inl rfl) (pe_ifExp (pt_cmpR op_isN (pv 2) pe_non (nomark _)) pe_dnewK (pv 2)))
      (pss_cons (ps_expr (pe_call Xc hr rfl Dc.g Dc.F.kp Dc.b .nil (passes_call (takes_of rfl rfl rfl rfl) (fun _ _ _ _ h => h)) (pa_cons (pv 1) (pa_cons (pv 3) pa_nil)))) pss_never), ?_⟩
    refine ⟨_, rfl, rfl, _, rfl, iteF' (decide_eq_false (fun e => by cases e)) ⟨_, rfl, ?_⟩⟩
    exact ⟨_, rfl, _, rfl, t, d, o, rs, l, i, y, rfl, ht, hd, h⟩
end
end Ts

set_option maxRecDepth 100000
set_option maxHeartbeats 4000000
namespace L2
open PySem PySem.Spec PyProof.Rows
/-! ### several clauses, each with a name: except A as e: .. except B as e: .. -/
abbrev AsClause := Value × Option Nat × (Addr → Value → Option Addr → TS)
/-- behind its suite the clause's name is gone -/
def unAs1 (i : Nat) (D : Ends) : Ends where
  nx := fun u v => D.nx (u.set i none) v
  rt := D.rt
  bk := fun u v => D.bk (u.set i none) v
  ct := fun u v => D.ct (u.set i none) v
def unAs : Option Nat → Ends → Ends
  | none, D => D
  | some i, D => unAs1 i D
def putAs : Option Nat → Addr → St → St
  | none, _, u => u
  | some i, p, u => u.set i (some (.ref p))
def wAsM (K : PySem.W.Frag) (W0 : WX) (D : Ends) : List AsClause → WX
  | [] => W0
  | q :: rest => fun cl od u v => ∃ y, PySem.W.exmOne K cl q.1 = some y ∧ (y = true → ∀ p, v p = none → q.2.2 p cl od (unAs q.2.1 D) (putAs q.2.1 p u) v) ∧ (y = false → wAsM K W0 D rest cl od u v)
inductive AsOk (X : Cx) : List ExceptHandler → List AsClause → Prop
  | nil : AsOk X [] []
  | cons {cn en : Str} {cv : Value} {k : Nat} {act : Addr → Value → Option Addr → TS} {st : Stmt} {sts : List Stmt} {p1 p2 : Pos} {more : List ExceptHandler} {l : List AsClause}
      (slot : X.N[k]? = some en) (own : X.env.kindOf en = some .local) (nm : Names X cn cv)
      (run : ∀ (p : Addr) (ob : Obj) (cl : Value) (od : Option Addr) (pn : List (Addr × Obj)), Zc cl od ob → (∃ fs, ob.data = .fields fs) → PSs (X.suite p ((p, ob) :: pn)) (st :: sts) (act p cl od))
      (rest : AsOk X more l) : AsOk X (.ExceptHandler (some (.Name cn p1)) (some en) (st :: sts) p2 :: more) ((cv, some k, act) :: l)
  | bare {cn : Str} {cv : Value} {act : Addr → Value → Option Addr → TS} {st : Stmt} {sts : List Stmt} {p1 p2 : Pos} {more : List ExceptHandler} {l : List AsClause} (nm : Names X cn cv)
      (run : ∀ (p : Addr) (ob : Obj) (cl : Value) (od : Option Addr) (pn : List (Addr × Obj)), Zc cl od ob → (∃ fs, ob.data = .fields fs) → PSs (X.suite p ((p, ob) :: pn)) (st :: sts) (act p cl od))
      (rest : AsOk X more l) : AsOk X (.ExceptHandler (some (.Name cn p1)) none (st :: sts) p2 :: more) ((cv, none, act) :: l)
section
variable {X : Cx} {ss : List Stmt} {hd : ExceptHandler} {hs : List ExceptHandler} {cls : List AsClause} {pos : Pos} {tb : WX → TS} {W0 : WX}
theorem ps_try_asm (st1 : X.stack = X.env :: X.outer) (fr1 : X.env.frame = some X.env.locals) (nd : X.N.Nodup) (take : Takes X W0)
    (try_ : ∀ (V : WX) (ps : List (Addr × Obj)) (ex : Value → Shared → Prop), Takes (X.tr ps ex) V → PassesOwn (model X.prog X.w) X.A X.env ex → PSs (X.tr ps ex) ss (tb V))
    (all : AsOk X (hd :: hs) cls) : PS X (.Try ss (hd :: hs) [] [] pos) (fun D u v => tb (wAsM X.K W0 D cls) D u v) := by
  refine ⟨fun pins s0 u0 v0 D inv want => ?_⟩
  have rdy := inv.ok
  have frames_ : X.A.frames = some (X.env :: X.outer) := by rw [rdy.frames, st1]
  refine wpAny_Try_except ?_
  refine wpAny_mono ((try_ (wAsM X.K W0 D cls) (X.pn ++ pins)
      (fun er z1 => wpAny (model X.prog X.w) X.A (noteFrame er X.env)
        (fun _ z2 => wpAny (model X.prog X.w) X.A (setFlight er none)
          (fun _ z3 => wpAny (model X.prog X.w) X.A (handleBy er X.env (hd :: hs)) (SP X pins D) X.xe z3) X.xe z2) X.xe z1)
      (fun er z1 caught => ?_) PassesOwn.looking).run [] s0 u0 v0 D (inv.toTry _) want) (fun fl z1 went => ?_) (fun _ _ z => z)
  · -- an error of the body
    obtain ⟨p, B, sX, pinsX, u1, v1, cl, od, rfl, invT, nb, grew, sky0, np, os0, ag0, wish⟩ := caught
    have invJ : Inv X pins u1 v1 sX := invT.ofTry rdy
    have sky1 : Sky B (X.env :: X.outer) p (Zc cl od) X.env.locals z1.heap := by
      rw [← st1]
      exact sky0
    show wpAny (model X.prog X.w) X.A (noteFrame (.ref p) X.env) _ _ _
    refine Sky.land Zc.steady frames_ fr1 sky1 fun g3 lands3 grew3 => ?_
    have inv3 : Inv X pins u1 v1 { z1 with heap := g3 } := invJ.landed nb lands3.1 (grew.trans grew3) os0 ag0
    obtain ⟨ob3, fs3, get3, zc3, dat3⟩ := lands3.there
    have away : ∀ {h : Heap} {o : Obj} {w : Array Value}, h.FunFrames B (X.env :: X.outer) → h.get? p = some o → o.data = .fields w → p ∉ frs (X.env :: X.outer) := by
      intro h o w ff ge da mem
      obtain ⟨_, o1, ge1, no1⟩ := ff.mem mem
      rw [ge] at ge1
      cases ge1
      exact no1 _ da
    have offAll := away lands3.2.2.1 get3 dat3
    have offL : p ≠ X.env.locals := by
      intro same
      exact offAll (List.mem_filterMap.mpr ⟨X.env, List.mem_cons_self, by rw [fr1, same]⟩)
    have offF : p ∉ X.fs := by
      intro mem
      obtain ⟨en, hen, qen⟩ := List.mem_filterMap.mp mem
      exact offAll (List.mem_filterMap.mpr ⟨en, List.mem_cons_of_mem _ hen, qen⟩)
    have invS := inv3.suite get3 dat3 np offL offF
    have each : ∀ {hh : List ExceptHandler} {ll : List AsClause}, AsOk X hh ll → wAsM X.K W0 D ll cl od u1 v1 → wpAny (model X.prog X.w) X.A (handleBy (.ref p) X.env hh) (SP X pins D) X.xe { z1 with heap := g3 } := by
      intro hh ll ok
      induction ok with
      | nil =>
        intro last
        refine wpAny_handleBy_nil ?_
        obtain ⟨_, _, _, ob, fs, T, oT, tk1, g1, g2, g4, g5, _⟩ := id lands3
        unfold PySem.passOn
        refine wpAny_bind (wpAny_field g1 g4 g5 ?_)
        rw [if_neg (show ¬ ((Value.ref T == Value.none) = true) by simp)]
        have done_ : wpAny (model X.prog X.w) X.A (setFlight (.ref p) X.env.frame)
            (fun _ z4 => wpAny (model X.prog X.w) X.A (throw (.ref p) : Sem Flow) (SP X pins D) X.xe z4) X.xe { z1 with heap := g3 } := by
          rw [fr1]
          refine HandSPX.setFlight_upZ lands3 fun g6 land6 grew6 => wpAny_throw (take _ _ ?_)
          exact ⟨p, B, sX, pins, u1, v1, cl, od, rfl, invJ, nb, (grew.trans grew3).trans grew6, .inr (.inr (by rw [st1]; exact land6)), np, os0, ag0, last⟩
        first
          | exact wpAny_bind (wpAny_pure (wpAny_bind done_))
          | exact wpAny_bind done_
      | @cons cn en cv k act st sts p1 p2 more l slot own nm run rest ih =>
        intro wants
        obtain ⟨y, is_, yes, no⟩ := wants
        refine wpAny_handleBy_cons (codeAny_handlers_test ?_) (by intro q; cases q)
        have looks : PySem.W.Looks (model X.prog X.w) g3 (typeOf (.ref p)) cl := fun A Q E z keep q => wpAny_typeOf_ref (keep _ _ get3) (by rw [zc3.1]; exact q)
        have meets_ := PySem.W.exm_one (M := model X.prog X.w) (inv3.kIn) looks is_
        have ask : ∀ {Q E : Value → Shared → Prop}, Q cv { z1 with heap := g3 } → wpAny (model X.prog X.w) (X.A.mark (some (.ref p))) (eval (.Name cn p1) X.env) Q E { z1 with heap := g3 } := by
          intro Q E q
          obtain ⟨isG, dbg, atM | ⟨atM, atB, notN⟩⟩ := nm
          · exact ld_glob (X := X.suite p ((p, ob3) :: (X.pn ++ pins))) invS isG atM q dbg
          · exact ld_blt (X := X.suite p ((p, ob3) :: (X.pn ++ pins))) invS isG atM atB q notN dbg
        refine ask (meets_.here ?_)
        cases y with
        | false =>
          show wpAny _ X.A (handleBy (.ref p) X.env more) _ _ _
          exact ih (no rfl)
        | true =>
          refine codeAny_handlers_suite_as ?_
          refine HandSPX.lands_againZ lands3 fun g4 lands4 grew4 => ?_
          have inv4 : Inv X pins u1 v1 { z1 with heap := g4 } := invJ.landed nb lands4.1 ((grew.trans grew3).trans grew4) os0 ag0
          obtain ⟨ob4, fs4, get4, zc4, dat4⟩ := lands4.there
          have invS4 := inv4.suite get4 dat4 np offL offF
          refine store_ok (X := X.suite p ((p, ob4) :: (X.pn ++ pins))) (v := .ref p) invS4 nd slot (.inl own) rfl (fun z5 inv5 => ?_) (.inr own)
          refine wpAny_mono ((run p ob4 cl od (X.pn ++ pins) zc4 ⟨_, dat4⟩).run [] z5 _ v1 _ inv5 (yes rfl p np)) (fun fl z6 went => ?_) (fun _ _ z => False.elim z)
          have gone : ∀ {u6 : St} {v6 : Hp} {Q : Shared → Prop}, Inv (X.suite p ((p, ob4) :: (X.pn ++ pins))) [] u6 v6 z6 → (∀ z7, Inv X pins (u6.set k none) v6 z7 → Q z7) →
              wpAny (model X.prog X.w) X.A (do bindName X.env en .none; unbindBehindTheSuite X.env en p2) (fun _ z7 => Q z7) X.xe z6 := by
            intro u6 v6 Q i6 q6
            exact gone_ok (i6.unsuite rdy) nd slot own q6
          cases fl with
          | next =>
            obtain ⟨u6, v6, i6, q6⟩ := went
            exact gone i6 fun z7 i7 => ⟨_, _, i7, q6⟩
          | brk =>
            obtain ⟨u6, v6, i6, q6⟩ := went
            exact gone i6 fun z7 i7 => ⟨_, _, i7, q6⟩
          | cont =>
            obtain ⟨u6, v6, i6, q6⟩ := went
            exact gone i6 fun z7 i7 => ⟨_, _, i7, q6⟩
          | ret rv =>
            obtain ⟨w6, u6, v6, i6, r6, q6⟩ := went
            exact gone i6 fun z7 i7 => ⟨_, _, _, i7, r6, q6⟩
      | @bare cn cv act st sts p1 p2 more l nm run rest ih =>
        intro wants
        obtain ⟨y, is_, yes, no⟩ := wants
        refine wpAny_handleBy_cons (codeAny_handlers_test ?_) (by intro q; cases q)
        have looks : PySem.W.Looks (model X.prog X.w) g3 (typeOf (.ref p)) cl := fun A Q E z keep q => wpAny_typeOf_ref (keep _ _ get3) (by rw [zc3.1]; exact q)
        have meets_ := PySem.W.exm_one (M := model X.prog X.w) (inv3.kIn) looks is_
        have ask : ∀ {Q E : Value → Shared → Prop}, Q cv { z1 with heap := g3 } → wpAny (model X.prog X.w) (X.A.mark (some (.ref p))) (eval (.Name cn p1) X.env) Q E { z1 with heap := g3 } := by
          intro Q E q
          obtain ⟨isG, dbg, atM | ⟨atM, atB, notN⟩⟩ := nm
          · exact ld_glob (X := X.suite p ((p, ob3) :: (X.pn ++ pins))) invS isG atM q dbg
          · exact ld_blt (X := X.suite p ((p, ob3) :: (X.pn ++ pins))) invS isG atM atB q notN dbg
        refine ask (meets_.here ?_)
        cases y with
        | false =>
          show wpAny _ X.A (handleBy (.ref p) X.env more) _ _ _
          exact ih (no rfl)
        | true =>
          refine codeAny_handlers_suite ?_
          refine HandSPX.lands_againZ lands3 fun g4 lands4 grew4 => ?_
          have inv4 : Inv X pins u1 v1 { z1 with heap := g4 } := invJ.landed nb lands4.1 ((grew.trans grew3).trans grew4) os0 ag0
          obtain ⟨ob4, fs4, get4, zc4, dat4⟩ := lands4.there
          have invS4 := inv4.suite get4 dat4 np offL offF
          refine wpAny_mono ((run p ob4 cl od (X.pn ++ pins) zc4 ⟨_, dat4⟩).run [] _ _ v1 _ invS4 (yes rfl p np)) (fun fl z6 went => ?_) (fun _ _ z => False.elim z)
          cases fl with
          | next =>
            obtain ⟨u6, v6, i6, q6⟩ := went
            exact ⟨_, _, i6.unsuite rdy, q6⟩
          | brk =>
            obtain ⟨u6, v6, i6, q6⟩ := went
            exact ⟨_, _, i6.unsuite rdy, q6⟩
          | cont =>
            obtain ⟨u6, v6, i6, q6⟩ := went
            exact ⟨_, _, i6.unsuite rdy, q6⟩
          | ret rv =>
            obtain ⟨w6, u6, v6, i6, r6, q6⟩ := went
            exact ⟨_, _, _, i6.unsuite rdy, r6, q6⟩
    exact each all wish
  · cases fl with
    | next =>
      obtain ⟨u6, v6, i6, q6⟩ := went
      exact wpAny_execs_nil ⟨u6, v6, i6.ofTry rdy, q6⟩
    | brk =>
      obtain ⟨u6, v6, i6, q6⟩ := went
      exact ⟨u6, v6, i6.ofTry rdy, q6⟩
    | cont =>
      obtain ⟨u6, v6, i6, q6⟩ := went
      exact ⟨u6, v6, i6.ofTry rdy, q6⟩
    | ret rv =>
      obtain ⟨w6, u6, v6, i6, r6, q6⟩ := went
      exact ⟨w6, u6, v6, i6.ofTry rdy, r6, q6⟩
end
end L2

set_option maxRecDepth 100000
set_option maxHeartbeats 4000000
namespace Ts
open PySem L2
open LamX (ExtN Tabs TabB)
structure ErrsQ (K : PySem.W.Frag) (mg : Str → Option Value) (CS CL CN CB CU : Addr) : Prop where
  S : ErrT K mg CS "NotSure" "box"
  L : ErrT K mg CL "Locked" "box"
  N : ErrT K mg CN "NoBox" "box"
  B : ErrT K mg CB "BadTable" "word"
  U : Err0 K mg CU "UnlikeTrees"
  ls : PySem.W.exmOne K (.ref CL) (.ref CS) = some false
  ns : PySem.W.exmOne K (.ref CN) (.ref CS) = some false
  nl : PySem.W.exmOne K (.ref CN) (.ref CL) = some false
  bs : PySem.W.exmOne K (.ref CB) (.ref CS) = some false
  bl : PySem.W.exmOne K (.ref CB) (.ref CL) = some false
  bn : PySem.W.exmOne K (.ref CB) (.ref CN) = some false
  us : PySem.W.exmOne K (.ref CU) (.ref CS) = some false
  ul : PySem.W.exmOne K (.ref CU) (.ref CL) = some false
  un : PySem.W.exmOne K (.ref CU) (.ref CN) = some false
  ub : PySem.W.exmOne K (.ref CU) (.ref CB) = some false
def RefQ (CS CL CN CB CU : Addr) (H' : Hp) (cls : Value) (d : Option Addr) (xs : List V) : Prop :=
   (cls = .ref CS ∧ ∃ dd v, d = some dd ∧ H' dd = some (.xd [("box", v)]) ∧ xs = [.str ("unsure" : Str), v]) ∨
   (cls = .ref CL ∧ ∃ dd v, d = some dd ∧ H' dd = some (.xd [("box", v)]) ∧ xs = [.str ("locked" : Str), v]) ∨
   (cls = .ref CN ∧ ∃ dd v, d = some dd ∧ H' dd = some (.xd [("box", v)]) ∧ xs = [.str ("box" : Str), v]) ∨
   (cls = .ref CB ∧ ∃ dd v, d = some dd ∧ H' dd = some (.xd [("word", v)]) ∧ xs = [.str ("table" : Str), v]) ∨
   (cls = .ref CU ∧ xs = [.str ("unlike" : Str)])
def TClk (CS CL CN CB CU : Addr) : (XK → Hp → VK → Prop) → Hp → VK → Prop := fun tl H Q =>
  tl (fun cls d H' => ∃ xs, RefQ CS CL CN CB CU H' cls d xs ∧ ∀ p, H' p = none → Q (.ref p) (upd H' p (.tup xs))) H (fun v H' => ([V.str ("told" : Str), v] : List V).length ≤ sizeLine ∧ ∀ p, H' p = none → Q (.ref p) (upd H' p (.tup [.str ("told" : Str), v])))
abbrev nRf : List Str := ["_law_ask", "e"]
theorem sc_Rf : FnScope nRf ["_law_ask"] (defScope s_L_clicked) := ⟨rfl, rfl, rfl, by decide +kernel, rfl, by decide +kernel, by decide +kernel⟩
theorem pss_len {X : Cx} {ss : List Stmt} {t : TS} (h : PSs X ss t) : PSs X ss (fun D σ H => σ.length = X.N.length → t D σ H) := ⟨fun pins s σ H D I q => h.run pins s σ H D I (q I.len)⟩
abbrev tRf0 (wd : Str) : TS := tRet (tTup (tCons (tC (.str wd)) tNil))
abbrev tRf (a : Addr) (cls : Value) (d : Option Addr) (wd : Str) (C : Addr) (f : Str) : TS := fun D σ H => σ.length = nRf.length → tRet (tTup (tCons (tC (.str wd)) (tCons (tXf a cls d C f (tVar 1)) tNil))) D σ H
theorem clicked_gives {X : Cx} {g CS CL CN CB CU : Addr} {cdg : Value} {q : Str} (T : ErrsQ X.K X.mg CS CL CN CB CU) : LamX.GivesTo X nRf "_law_clicked" (defScope s_L_clicked) g cdg (defBody s_L_clicked) "_law_ask" q (TClk CS CL CN CB CU) := by
  intro f c' s H Q tl act hc h
  refine ⟨_, pss_one (ps_try_asm (X := (cxOf C8.CX0 X.prog X.w X.K X.mg X.base nRf "_law_clicked" (defScope s_L_clicked) g cdg X.A X.stack s H C8.E0).nox)
      (tb := fun W D σ H => ∃ Ech : XK, (∀ cls d σ' H', Ech cls d H' → W cls d σ' H') ∧ σ[0]? = some (some (.ref f)) ∧ H c' = some (LamX.CodeO c' q) ∧ tl Ech H (fun v H1 => ([V.str ("told" : Str), v] : List V).length ≤ sizeLine ∧ ∀ p, H1 p = none → D.rt (.ref p) (upd H1 p (.tup [.str ("told" : Str), v]))))
      (W0 := fun _ _ _ _ => False)
      (cls := [(.ref CS, some 1, fun a cls d => tRf a cls d "unsure" CS "box"), (.ref CL, some 1, fun a cls d => tRf a cls d "locked" CL "box"), (.ref CN, some 1, fun a cls d => tRf a cls d "box" CN "box"), (.ref CB, some 1, fun a cls d => tRf a cls d "table" CB "word"), (.ref CU, none, fun _ _ _ => tRf0 "unlike")])
      rfl rfl sc_Rf.nd LamX.takes0 (fun W pn xe tk _ => ?_)
      (.cons rfl rfl ⟨rfl, by decide, .inl T.S.g⟩ (fun a oe cls d pn hz hf => pss_len (pss_one (ps_ret (by exact pe_tup (pa_cons pe_str (pa_cons (pe_xf T.S.X T.S.nb hz hf (pv 1)) pa_nil))))))
        (.cons rfl rfl ⟨rfl, by decide, .inl T.L.g⟩ (fun a oe cls d pn hz hf => pss_len (pss_one (ps_ret (by exact pe_tup (pa_cons pe_str (pa_cons (pe_xf T.L.X T.L.nb hz hf (pv 1)) pa_nil))))))
        (.cons rfl rfl ⟨rfl, by decide, .inl T.N.g⟩ (fun a oe cls d pn hz hf => pss_len (pss_one (ps_ret (by exact pe_tup (pa_cons pe_str (pa_cons (pe_xf T.N.X T.N.nb hz hf (pv 1)) pa_nil))))))
        (.cons rfl rfl ⟨rfl, by decide, .inl T.B.g⟩ (fun a oe cls d pn hz hf => pss_len (pss_one (ps_ret (by exact pe_tup (pa_cons pe_str (pa_cons (pe_xf T.B.X T.B.nb hz hf (pv 1)) pa_nil))))))
        (.bare ⟨rfl, by decide, .inl T.U.g⟩ (fun a oe cls d pn hz hf => pss_one (ps_ret (by exact pe_tup (pa_cons pe_str pa_nil)))) .nil)))))), ?_⟩
  · refine ⟨fun pins s' σ H' D I h' => ?_⟩
    obtain ⟨Ech, hW, h1, h2, h3⟩ := h'
    exact PSs.run (pss_one (ps_ret (pe_tup (pa_cons pe_str (pa_cons (act W pn xe Ech _ _ tk hW) pa_nil))))) pins s' σ H' D I ⟨h1, h2, h3⟩
  · refine ⟨_, fun cls d σ' H' z => ?_, rfl, hc, h⟩
    have no : ∀ {P : Prop}, (false = true) → P := fun q => Bool.noConfusion q
    have no2 : ∀ {P : Prop}, (true = false) → P := fun q => Bool.noConfusion q
    have lk : ∀ a : Addr, (σ'.set 1 (some (V.ref a))).length = nRf.length → (σ'.set 1 (some (V.ref a)))[1]? = some (some (V.ref a)) := fun a hl => List.getElem?_set_self (by rw [List.length_set] at hl; rw [hl]; decide)
    obtain ⟨xs, c, k⟩ := z
    have out : ∀ (a : Addr) (dd : Addr) (v : V) (wd fn : Str) (CC : Addr), H' dd = some (.xd [(fn, v)]) → H' a = none → xs = [.str wd, v] → tRf a (.ref CC) (some dd) wd CC fn (unAs (some 1) { nx := fun _ H' => Q .non H', rt := Q }) (putAs (some 1) a σ') H' := by
      intro a dd v wd fn CC e ha ex hl
      subst ex
      exact ⟨_, lk a hl, rfl, rfl, dd, _, v, rfl, e, (by simp [List.lookup]), (by show 2 ≤ sizeLine; decide), fun p hp => k p hp⟩
    rcases c with ⟨rfl, dd, v, rfl, e, ex⟩ | ⟨rfl, dd, v, rfl, e, ex⟩ | ⟨rfl, dd, v, rfl, e, ex⟩ | ⟨rfl, dd, v, rfl, e, ex⟩ | ⟨rfl, ex⟩
    · exact ⟨true, T.S.te, fun _ a ha => out a dd v _ _ _ e ha ex, no2⟩
    · exact ⟨false, T.ls, no, fun _ => ⟨true, T.L.te, fun _ a ha => out a dd v _ _ _ e ha ex, no2⟩⟩
    · exact ⟨false, T.ns, no, fun _ => ⟨false, T.nl, no, fun _ => ⟨true, T.N.te, fun _ a ha => out a dd v _ _ _ e ha ex, no2⟩⟩⟩
    · exact ⟨false, T.bs, no, fun _ => ⟨false, T.bl, no, fun _ => ⟨false, T.bn, no, fun _ => ⟨true, T.B.te, fun _ a ha => out a dd v _ _ _ e ha ex, no2⟩⟩⟩⟩
    · exact ⟨false, T.us, no, fun _ => ⟨false, T.ul, no, fun _ => ⟨false, T.un, no, fun _ => ⟨false, T.ub, no, fun _ => ⟨true, T.U.te, fun _ a ha => by subst ex; exact ⟨(by show 1 ≤ sizeLine; decide), fun p hp => k p hp⟩, no2⟩⟩⟩⟩⟩
/-! ### a def whose code object is known -/
structure FunC (K : PySem.W.Frag) (x q : Str) (st : Stmt) (f : Addr) (fd : FuncData) (c : Addr) : Prop where
  ex : ∃ (oc : Value) (od : Option Addr) (kV doc pm : Value) (an : Option Addr) (ct : Value) (osl : Array (Option Value)),
    fd = PySem.W.fnOf x q (defArgs st) (defBody st) (defScope st) .none kV doc pm an (.ref c) ct ∧ K.lookup f = some ⟨oc, od, .func fd, osl⟩ ∧ PySem.W.codeIn K (.ref c) q = true
  kp : PySem.W.keepIn K (.ref f) = true
section
variable {P : Program} {w : World} {K : PySem.W.Frag} {mg : Str → Option Value} {base : Heap} {C : Addr}
theorem FunC.ok {x qual : Str} {st : Stmt} {f c : Addr} {fd : FuncData} {N ps : List Str} {k : Nat} {sp : Sp} (F : FunC K x qual st f fd c) (S : FnScope N ps (defScope st)) (len : ∀ vs H Q E, sp vs H Q E → vs.length = ps.length)
    (hbody : ∀ (A : Around) (outer : List Env) (s : Shared) (H : Hp) (vs : List V) (Q : VK) (E : XK), Room k (A.deeper (PyProof.Rows.envOfC qual (defScope st) s.heap.objs.size f (.ref c))) → sp vs H Q E →
      ∃ t, PSs (cxOf CX0 P w K mg base N qual (defScope st) f (.ref c) A outer s H E).nox (defBody st) t ∧ t { nx := fun _ H' => Q .non H', rt := Q } (L2.start N vs) H) : FnOk P w K mg base CX0 (k + 1) f fd ps sp := by
  obtain ⟨oc, od, kV, doc, pm, an, ct, osl, rfl, lk, hcd⟩ := F.ex
  refine fn_of lk hcd S len fun A outer s H vs Q E hr hsp => ?_
  obtain ⟨t, h, q⟩ := hbody A outer s H vs Q E hr hsp
  exact ⟨t, h.nox, q⟩
structure DefC (K : PySem.W.Frag) (mg : Str → Option Value) (x : Str) (st : Stmt) (ps : List Str) where
  f : Addr
  fd : FuncData
  c : Addr
  F : FunC K x x st f fd c
  b : Binds K fd ps []
  g : mg x = some (.ref f)
theorem pe_clicked {X : Cx} {T : List (Addr × Str)} {c P : Addr} {k : Nat} {params : Arguments} {body : Expr} {scope : Scope} {t : XK → TE} {p lpos pos : Pos} (D : DefAt X.K X.mg "_law_clicked" s_L_clicked ["_law_ask"]) {CS CL CN CB CU : Addr} (TN : ErrsQ X.K X.mg CS CL CN CB CU)
    (hg : Gl X "_law_clicked") (TB : TabB X.base X.mg c P) (hcode : X.env.code = .ref c) (hmT : (P, X.env.qual ++ "<lambda>") ∈ T) (hu : ∀ p ∈ T, p.1 = P → p.2 = X.env.qual ++ "<lambda>") (hr : Room (k + 2) X.A) (L : LamX.LamS X.env.scope scope) (hdef : defaultsOf params X.env = ([], []))
    (hbind : ∀ (q : Str) (cl : List (Str × Addr)) (pm cv ctv : Value), bindArgs (PySem.W.kla_fn "<lambda>" q params body scope cl pm cv ctv) ⟨[], []⟩ = pure [])
    (hbody : ∀ (A : Around) (outer : List Env) (s : Shared) (H : Hp) (E : XK) (f c' : Addr), Room k (A.deeper (LamX.lamEnv X scope s.heap.objs.size f c')) → PE (LamX.lamCx X A outer s H E scope f c') body (t E)) :
    PE X (.Call (.Name "_law_clicked" p) [.Lambda params body scope lpos] [] pos) (LamX.tLam T (TClk CS CL CN CB CU) t) := by
  obtain ⟨f, fd, F, b, g⟩ := D
  have kp := F.kp
  obtain ⟨oc, od, kV, doc, pm, an, cdv, ct, osl, rfl, lk, hcd⟩ := F.ex
  exact LamX.pe_lamcall hg g kp lk hcd b sc_Rf rfl (.inl rfl) (clicked_gives TN) TB hcode hmT hu hr L hdef hbind hbody
end
theorem tabs_put {T : List (Addr × Str)} {H : Hp} {D : Addr} {xs ys : List V} (h : Tabs T H) (e : H D = some (.lst xs)) : Tabs T (upd H D (.lst ys)) := fun p hp => by
  obtain ⟨ps, h1, h2, h3⟩ := h p hp
  have n1 : p.1 ≠ D := fun q => by rw [q, e] at h1; cases h1
  refine ⟨ps, by rw [upd_ne n1]; exact h1, h2, fun pos cv hc => ?_⟩
  obtain ⟨c, e1, e2⟩ := h3 pos cv hc
  refine ⟨c, e1, ?_⟩
  rw [upd_ne fun q => by rw [q, e] at e2; unfold LamX.CodeO at e2; cases e2]
  exact e2
theorem tabs_sb {T : List (Addr × Str)} {H H' : Hp} {a : Addr} {n : Int} (h : Tabs T H) (st : Stm H a n) (s : SB a H H') : Tabs T H' := fun p hp => by
  obtain ⟨ps, h1, h2, h3⟩ := h p hp
  obtain ⟨x, y, z, ea, _⟩ := st
  have n1 : p.1 ≠ a := fun q => by rw [q, ea] at h1; cases h1
  refine ⟨ps, s _ _ n1 h1, h2, fun pos cv hc => ?_⟩
  obtain ⟨c, e1, e2⟩ := h3 pos cv hc
  exact ⟨c, e1, s _ _ (fun q => by rw [q, ea] at e2; unfold LamX.CodeO at e2; cases e2) e2⟩
theorem sq_ext {K : PySem.W.Frag} {H H' : Hp} {a : Addr} {xs : List V} (h : SqL K H a xs) (s : ExtN H H') : SqL K H' a xs := by
  rcases h with (h | ⟨o, h⟩) | h
  · exact .inl (.inl (s _ _ h nofun))
  · exact .inl (.inr ⟨o, s _ _ h nofun⟩)
  · exact .inr h
theorem Stm.ext {H H' : Hp} {a : Addr} {n : Int} (h : Stm H a n) (s : ExtN H H') : Stm H' a n := let ⟨x, y, z, e, k⟩ := h; ⟨x, y, z, s _ _ e nofun, k⟩
end Ts

set_option maxRecDepth 100000
set_option maxHeartbeats 4000000
namespace Ts
open PySem L2 PySem.Spec PyProof.Rows
open LamX (ExtN Tabs TabB CodeO LamS lamEnv lamCx)
/-! A lambda as a value: it may stand in a list, and a comprehension may hand it to a def that calls it. -/
/-- the words of a lambda without parameters, with what it captured and its code object -/
structure LW where
  q : Str
  params : Arguments
  body : Expr
  scope : Scope
  cl : List (Str × Addr)
  c : Addr
abbrev LW.ob (L : LW) (pm ctv : Value) : Obj := PySem.W.kla_obj "<lambda>" L.q L.params L.body L.scope L.cl pm L.c ctv
/-- the object at f is this lambda -/
def LamO (f : Addr) (L : LW) : HO := .ext fun h => ∃ pm ctv : Value, h.get? f = some (L.ob pm ctv)
theorem lamO_at {P : Program} {w : World} {H : Hp} {h : Heap} {f : Addr} {L : LW} (ok : HOk P w H h) (e : H f = some (LamO f L)) : ∃ pm ctv : Value, h.get? f = some (L.ob pm ctv) := (ok f _ e).1
theorem lamO_tbl {f : Addr} {L : LW} (ps : Array Value) : LamO f L ≠ .tbl ps := by unfold LamO; exact fun z => nomatch z
section
variable {X : Cx} {pins : List (Addr × Obj)} {σ : L2.St} {H : Hp} {s : Shared}
theorem lam_laid {L : LW} {t : Nat} {pm ctv : Value} (I : Inv X pins σ H s) :
    Inv X pins σ (upd H s.heap.objs.size (LamO s.heap.objs.size L)) { s with heap := s.heap.push (L.ob pm ctv), toks := t } := by
  have e : (s.heap.push (L.ob pm ctv)).get? s.heap.objs.size = some (L.ob pm ctv) := Heap.get?_push_size _ rfl
  exact I.laid (a := s.heap.objs.size) (fun _ _ k => Heap.get?_push_of_some _ k) (Nat.le_refl _) ⟨⟨pm, ctv, e⟩, ⟨_, e⟩, fun _ _ ⟨p, c, z⟩ st => ⟨p, c, st _ z⟩⟩
/-- what the making of a lambda tells -/
def tLamV (T : List (Addr × Str)) (mk : Addr → LW) : TE := fun σ H Q => Tabs T H ∧ ∀ (f c' : Addr) (H1 : Hp), ExtN H H1 → Tabs T H1 → H f = none → H1 f = some (LamO f (mk c')) → H1 c' = some (CodeO c' (mk c').q) → Q (.ref f) H1
theorem pe_lamV {T : List (Addr × Str)} {c P : Addr} {params : Arguments} {body : Expr} {scope : Scope} {pos : Pos} (TB : TabB X.base X.mg c P) (hcode : X.env.code = .ref c) (hm : (P, X.env.qual ++ "<lambda>") ∈ T) (hu : ∀ p ∈ T, p.1 = P → p.2 = X.env.qual ++ "<lambda>")
    (L : LamS X.env.scope scope) (hdef : defaultsOf params X.env = ([], [])) : PE X (.Lambda params body scope pos) (tLamV T fun c' => ⟨X.env.qual ++ "<lambda>", params, body, scope, cloFrom X.env.cells scope.names [], c'⟩) := by
  refine ⟨fun pins s σ H Q I h => ?_⟩
  obtain ⟨hT, h⟩ := h
  obtain ⟨ps, hP, hps, among⟩ := hT _ hm
  have tabAt := I.hok P _ hP
  have ne : ∀ {b o}, H b = some o → (∀ q, o ≠ .tbl q) → b ≠ P := fun {b o} e no z => no ps (by rw [← Option.some.injEq, ← e, z, hP])
  -- all that is told behind it, of any state in which the code object stands
  have close : ∀ (h' : Heap) (tk : Nat) (c' : Addr) (pm ctv : Value) (H1 : Hp), Inv X pins σ H1 { s with heap := h', toks := tk } → ExtN H H1 → Tabs T H1 → s.heap.objs.size ≤ h'.objs.size → H1 c' = some (CodeO c' (X.env.qual ++ "<lambda>")) →
      EP X pins σ Q (.ref h'.objs.size) { s with heap := h'.push (PySem.W.kla_obj "<lambda>" (X.env.qual ++ "<lambda>") params body scope (cloFrom X.env.cells scope.names []) pm c' ctv), toks := tk } := by
    intro h' tk c' pm ctv H1 I1 x1 T1 sz hc
    have fr := I1.hok.fresh (Nat.le_refl h'.objs.size)
    have up : ∀ b o, H1 b = some o → upd H1 h'.objs.size (LamO h'.objs.size ⟨X.env.qual ++ "<lambda>", params, body, scope, cloFrom X.env.cells scope.names [], c'⟩) b = some o := fun b o e => by
      rw [upd_ne (ne_of_none e fr)]; exact e
    refine ⟨.ref h'.objs.size, _, lam_laid (L := ⟨X.env.qual ++ "<lambda>", params, body, scope, cloFrom X.env.cells scope.names [], c'⟩) (t := tk) (pm := pm) (ctv := ctv) I1, rfl, ?_⟩
    exact h _ c' _ (fun b o e n => up _ _ (x1 b o e n)) (T1.ext up) (I.hok.fresh sz) upd_same (up _ _ hc)
  refine PySem.W.kla_eval hdef ?_
  cases hc : codeAmong pos ps.toList with
  | some cv =>
    obtain ⟨c', rfl, hco⟩ := among pos cv hc
    refine PySem.W.kla_makeFunctionHit (mg := X.mg) (c := c) (P := P) (ps := ps) (closure_ok (L.has I.ok)) I.ok.glob (I.mod.glob.keeps I.bk) hcode (TB.code.keeps I.bk) tabAt hps hc (TB.bm.keeps I.bk) ?_
    intro ctv h' tk keep sz
    exact close h' tk c' _ ctv H (I.kept keep) (ExtN.refl H) hT sz hco
  | none =>
    refine PySem.W.kla_makeFunction (mg := X.mg) (c := c) (P := P) (ps := ps) (closure_ok (L.has I.ok)) I.ok.glob (I.mod.glob.keeps I.bk) hcode (TB.code.keeps I.bk) tabAt hps hc TB.gP (TB.bm.keeps I.bk) ?_
    intro c' ctv h' tk keep above below rec_ tab
    obtain ⟨c2, oc, vs, t, ec, h1, h2, h3⟩ := rec_
    cases ec
    have cn : H c' = none := I.hok.fresh above
    have I1 := LamX.inv_table (t' := tk) (more := #[rawInt pos.line, rawInt pos.col, .ref c']) (h' := h') I hP (fun b o nb e => keep b o nb e) tab above ⟨oc, vs, t, h1, h2, h3⟩
    have grow : ExtN H (upd (upd H P (.tbl (ps ++ #[rawInt pos.line, rawInt pos.col, .ref c']))) c' (CodeO c' (X.env.qual ++ "<lambda>"))) := fun b o e n => by
      rw [upd_ne (ne_of_none e cn), upd_ne (ne e n)]; exact e
    refine close h' tk c' _ ctv _ I1 grow (fun p hp => ?_) (Nat.le_trans above (Nat.le_of_lt below)) upd_same
    by_cases hb : p.1 = P
    · rw [hu p hp hb, hb]
      refine ⟨ps ++ #[rawInt pos.line, rawInt pos.col, .ref c'], by rw [upd_ne (ne_of_none hP cn), upd_same], ?_, ?_⟩
      · rw [Array.toList_append]; exact PySem.TriplesOk_snoc _ _ _ _ hps
      · intro p' cv z
        rw [Array.toList_append] at z
        rcases LamX.among_app _ hps z with y | y
        · obtain ⟨c0, y1, y2⟩ := among p' cv y
          exact ⟨c0, y1, grow _ _ y2 LamX.codeO_ne⟩
        · exact ⟨c', y, upd_same⟩
    · obtain ⟨ps', y1, y2, y3⟩ := hT p hp
      refine ⟨ps', by rw [upd_ne (ne_of_none y1 cn), upd_ne hb]; exact y1, y2, fun p' cv z => ?_⟩
      obtain ⟨c0, y4, y5⟩ := y3 p' cv z
      exact ⟨c0, y4, grow _ _ y5 LamX.codeO_ne⟩
end
/-! ### one that is called in a def that got it -/
/-- what is proved of a lambda's body in X; t: its reading, by the error's wish -/
structure LamD (X : Cx) (k : Nat) where
  params : Arguments
  body : Expr
  scope : Scope
  t : XK → TE
  names : LamS X.env.scope scope
  dflt : defaultsOf params X.env = ([], [])
  bind : ∀ (q : Str) (cl : List (Str × Addr)) (pm cv ctv : Value), bindArgs (PySem.W.kla_fn "<lambda>" q params body scope cl pm cv ctv) ⟨[], []⟩ = pure []
  ok : ∀ (A : Around) (outer : List Env) (s : Shared) (H : Hp) (E : XK) (f c' : Addr), Room k (A.deeper (lamEnv X scope s.heap.objs.size f c')) → PE (lamCx X A outer s H E scope f c') body (t E)
abbrev LamD.lw {X : Cx} {k : Nat} (d : LamD X k) (c' : Addr) : LW := ⟨X.env.qual ++ "<lambda>", d.params, d.body, d.scope, cloFrom X.env.cells d.scope.names [], c'⟩
section
variable {X : Cx} {pins : List (Addr × Obj)} {σ : L2.St} {H : Hp} {s : Shared}
theorem pe_actV {CXg : CXT} {Eg : XK} {Ng : List Str} {qg : Str} {sg : Scope} {g f c' : Addr} {cdg : Value} {k i : Nat} {a : Str} {pn : List (Addr × Obj)} {xe : Value → Shared → Prop} {W : WX} {E : XK} {p1 p2 : Pos} (d : LamD X k) (I : Inv X pins σ H s)
    (tk : Takes ((cxOf CXg X.prog X.w X.K X.mg X.base Ng qg sg g cdg X.A X.stack s H Eg).tr pn xe) W) (hW : ∀ cls e σ' H', E cls e H' → W cls e σ' H') (hr : Room (k + 1) (X.A.deeper (envOfC qg sg s.heap.objs.size g cdg)))
    (hN : Ng[i]? = some a) (hv : Vis sg a) (hd : (a == ("__debug__" : Str)) = false := by decide) (hcd : (a == ("__classdict__" : Str)) = false := by decide) :
    PE ((cxOf CXg X.prog X.w X.K X.mg X.base Ng qg sg g cdg X.A X.stack s H Eg).tr pn xe) (.Call (.Name a p1) [] [] p2)
      (fun (τ : L2.St) (G : Hp) (Q : VK) => τ[i]? = some (some (.ref f)) ∧ G c' = some (CodeO c' (X.env.qual ++ "<lambda>")) ∧ G f = some (LamO f (d.lw c')) ∧ d.t E σ G Q) := by
  refine ⟨fun pinsZ sZ τ GZ Q IZ h => ?_⟩
  obtain ⟨h1, h2, h3, h4⟩ := h
  have name := (pe_var (X := (cxOf CXg X.prog X.w X.K X.mg X.base Ng qg sg g cdg X.A X.stack s H Eg).tr pn xe) (pos := p1) (i := i) hN hv hd hcd).run pinsZ sZ τ GZ (fun v G' => v = .ref f ∧ G' = GZ) IZ ⟨.ref f, h1, rfl, rfl⟩
  refine wpAny_Call_Name_kw (thn name ?_)
  rintro u s1 ⟨v1, G1, I1, r1, ev, eG⟩
  subst ev
  rw [eG] at I1
  obtain rfl : u = Value.ref f := r1
  obtain ⟨pm, ctv, fat⟩ := lamO_at I1.hok h3
  obtain ⟨⟨oc, vs, t, co, cd, cn⟩, _, _⟩ := I1.hok c' _ h2
  refine PySem.W.callWith_F0 ⟨_, _, _, _, fat⟩ ?_
  have whole : codeAny (model X.prog X.w) (X.A.deeper (envOfC qg sg s.heap.objs.size g cdg)) (.call (.ref f) ⟨[], []⟩) (CR (L2.CX X.prog X.w) (envOfC qg sg s.heap.objs.size g cdg :: X.stack) X.prog X.w GZ s1 Q E) s1 := by
    refine PySem.W.kla_callFunE hr.depth fat rfl d.names.co d.names.gen rfl ⟨c', oc, vs, t, rfl, co, cd, cn⟩ ?_
    rw [d.bind]
    refine wpAny_pure (wpAny_newFunctionEnv (fun y hy => (d.names.own y hy).2) (fun y hy => nomatch hy) (fun h₁ ns same => ⟨I1.nolimit.fresh _ same, ?_⟩) d.names.kind)
    have keep : ∀ b o, s1.heap.get? b = some o → h₁.get? b = some o := fun b o e => same.extBut b o (Nat.ne_of_lt (Heap.lt_size e)) (Heap.get?_push_of_some _ e)
    have J := LamX.lam_start2 (c' := c') (f := f) (tk := s1.toks + ([] : List (Str × Value)).length) (E := E) I d.names I1.env0 hr.hd I1.base ns keep
    refine PySem.W.kla_codeExpr (wpAny_mono ((d.ok _ _ s1 GZ E f c' (hr.deeper _)).run [] _ σ GZ Q J h4) ?_ fun _ _ z => z)
    rintro v s' ⟨w', G', J', rv, q⟩
    exact ⟨w', G', J'.os, J'.bare, J'.base, J'.hok, rv, q⟩
  refine wpAny_call (codeAny_mono whole fun r s' z => ?_)
  match r, z with
  | .error e, z => exact passes_call tk (fun cls e σ' H' => hW cls e σ' H') pinsZ τ GZ s1 e s' I1 z
  | .ok (.ret u), z => exact I1.after z
  | .ok .next, z => exact z.elim
  | .ok .brk, z => exact z.elim
  | .ok .cont, z => exact z.elim
end
/-! ### a comprehension whose element knows the state around it -/
section
variable {X : Cx}
theorem pe_lcI {elt tg iter : Expr} {scope : Scope} {own : List (Str × Nat)} {pos : Pos} {wi : TI} {g : TG} {te : L2.St → TE} (hc : X.calm = true) (hN : X.N.Nodup) (hi : PI X tg iter wi) (ok : BlkOk X.N X.env.scope scope own)
    (hg : ∀ (s : Shared) (H : Hp) (C : Addr) (cl : List (Str × Addr)) (fp : List Addr), PG (X.blk s H scope (compEnvC scope cl C X.env) fp) tg g)
    (he : ∀ (pins : List (Addr × Obj)) (σ : L2.St) (s : Shared) (H : Hp) (C : Addr) (cl : List (Str × Addr)) (fp : List Addr), Inv X pins σ H s → (∀ b ∈ fp, FpOk X pins H b) → PE (X.blk s H scope (compEnvC scope cl C X.env) fp) elt (te σ)) (hs : ∀ x, foldedSetIterable iter X.env x = pure x := by intro _; rfl) :
    PE X (.ListComp elt [⟨tg, iter, [], 0⟩] scope pos) (fun σ H Q => tLc wi g tYes (te σ) (own.map (·.2)) σ H Q) := by
  refine ⟨fun pins s σ H Q I h => ?_⟩
  rw [eval_ListComp]
  have caps : ∀ y ∈ scope.names, y.2 = .free → ∃ c, X.env.cells.lookup y.1 = some c := fun y hy e => I.ok.has _ ((ok.free y hy e).imp id id)
  refine wpAny_comprehension_free (use := none) rfl hs (closure_ok caps) ok.kind (fun y hy e => (ok.uniq y hy).trans (congrArg some e)) ?_
  refine thn (hi.run pins s σ H _ I h) fun _ _ hx => thn hx ?_
  rintro _ s2 ⟨it, fp, tn, J, H2, rfl, I2, T, tn2, fpo, q⟩
  refine wpAny_newObj_type (newEnv_comp ?_) (Nat.zero_le _)
  obtain ⟨W, ⟨m0, w0⟩, turn⟩ := q s2.heap.objs.size (I2.hok.fresh (Nat.le_refl _))
  obtain ⟨s3, e3⟩ : ∃ s3 : Shared, s3 = { s2 with heap := s2.heap.push { cls := .type "list", data := .seq ([] : List Value).toArray } } := ⟨_, rfl⟩
  obtain ⟨D, eD⟩ : ∃ D, D = s2.heap.objs.size := ⟨_, rfl⟩
  obtain ⟨H3, eH⟩ : ∃ H3, H3 = upd H2 D (.lst []) := ⟨_, rfl⟩
  rw [← eD, ← eH] at w0
  rw [← eD] at turn
  have lt2 : ∀ b ∈ fp, b < s2.heap.objs.size := fun b hb => let ⟨_, e, _⟩ := T.obj _ _ tn2 b hb; Heap.lt_size e
  have I3 : Inv X pins σ H3 s3 := by
    rw [e3, eH, eD]
    exact I2.laid (a := s2.heap.objs.size) (t' := s2.toks) (fun _ _ k => Heap.get?_push_of_some _ k) (Nat.le_refl _) ⟨Nat.zero_le _, [], 0, .nil, Heap.get?_push_size _ rfl⟩
  have fp3 : ∀ b ∈ fp, FpOk X pins H3 b := fun b hb => ⟨by rw [eH, upd_ne (by rw [eD]; exact Nat.ne_of_lt (lt2 b hb))]; exact (fpo b hb).1, (fpo b hb).2⟩
  have lt3 : ∀ b ∈ fp, b < s3.heap.objs.size := fun b hb => by rw [e3]; exact Nat.lt_of_lt_of_le (lt2 b hb) (by rw [Heap.size_push]; exact Nat.le_succ _)
  have tn3 : tn 0 s3.heap := T.keep _ _ _ tn2 fun b _ o e => by rw [e3]; exact Heap.get?_push_of_some _ e
  have I4 := block_start I3 ok hN fun b hb => ⟨fp3 b hb, lt3 b hb⟩
  show codeAny _ _ (.compStart (.ListComp elt [⟨tg, iter, [], 0⟩] scope pos) 0 (.ref it) (.ref s2.heap.objs.size) (compEnvC scope (cellsFrom (({ s2 with heap := s2.heap.push { cls := .type "list", data := .seq ([] : List Value).toArray } } : Shared).heap.objs.size + 1) scope.names (cloFrom X.env.cells scope.names [])) ({ s2 with heap := s2.heap.push { cls := .type "list", data := .seq ([] : List Value).toArray } } : Shared).heap.objs.size X.env)) (compPost (model X.prog X.w) X.A X.xe none (EP X pins σ Q) (.ref s2.heap.objs.size) ({ s2 with heap := s2.heap.push { cls := .type "list", data := .seq ([] : List Value).toArray } } : Shared).heap.objs.size) { ({ s2 with heap := s2.heap.push { cls := .type "list", data := .seq ([] : List Value).toArray } } : Shared) with heap := pushCells (({ s2 with heap := s2.heap.push { cls := .type "list", data := .seq ([] : List Value).toArray } } : Shared).heap.push { cls := .type "dict", data := .dict #[] }) scope.names }
  rw [← e3, ← eD]
  have tn4 : tn 0 (pushCells (s3.heap.push { cls := .type "dict", data := .dict #[] }) scope.names) := T.keep _ _ _ tn3 fun _ _ _ e => pushCells_keeps _ _ _ _ (Heap.get?_push_of_some _ e)
  obtain ⟨ce, ece⟩ : ∃ ce, ce = compEnvC scope (cellsFrom (s3.heap.objs.size + 1) scope.names (cloFrom X.env.cells scope.names [])) s3.heap.objs.size X.env := ⟨_, rfl⟩
  have locC : ce.locals = s3.heap.objs.size := by rw [ece]; rfl
  have pg := hg s3 H3 s3.heap.objs.size (cellsFrom (s3.heap.objs.size + 1) scope.names (cloFrom X.env.cells scope.names [])) fp
  have pe := he pins σ s3 H3 s3.heap.objs.size (cellsFrom (s3.heap.objs.size + 1) scope.names (cloFrom X.env.cells scope.names [])) fp I3 fp3
  rw [← ece] at I4 pg pe ⊢
  have mine : ∀ {pl : List (Addr × Obj)} {τ : L2.St} {G : Hp} {r : Shared}, Inv (X.blk s3 H3 scope ce fp) pl τ G r → pl = [] → (∀ b ∈ fp, G b = none) → ∀ b ∈ fp, FpOk (X.blk s3 H3 scope ce fp) pl G b := by
    rintro pl τ G r Ib rfl none_ b hb
    exact ⟨none_ b hb, (Ib.ok.exf b hb).1, Ib.ok.exfs b hb, .inl hb, (Ib.ok.exf b hb).2, fun p hp => nomatch (show p ∈ ([] : List (Addr × Obj)) ++ [] from hp)⟩
  have loop : codeAny (model X.prog X.w) X.A (.compLoop (.ListComp elt [⟨tg, iter, [], 0⟩] scope pos) 0 (.ref it) (.ref D) ce) (compPost (model X.prog X.w) X.A X.xe none (EP X pins σ Q) (.ref D) s3.heap.objs.size)
      { s3 with heap := pushCells (s3.heap.push { cls := .type "dict", data := .dict #[] }) scope.names } := by
    refine compLoop_any (fun n r => ∃ i G, Inv (X.blk s3 H3 scope ce fp) [] (wipe σ (own.map (·.2))) G r ∧ tn i r.heap ∧ (∀ b ∈ fp, G b = none) ∧ W i n G) ?_ m0 ⟨0, H3, I4, tn4, fun b hb => (fp3 b hb).1, w0⟩
    rintro n r ⟨i, G, Ib, tnb, nb, wb⟩
    rcases turn i n G wb with ⟨stop, done⟩ | ⟨go, Nx, less, step⟩
    · refine thnF (T.done (X.blk s3 H3 scope ce fp) rfl rfl rfl hc i [] r _ G (fun _ _ => False) Ib (mine Ib rfl nb) tnb stop) ?_
      rintro _ r6 ⟨rfl, I6⟩
      have I7 : Inv X pins σ G r6 := I3.call' (ch := fp) I6.os I6.base I6.hok I6.bare fun b hb => ⟨(fp3 b hb).2.2.2.1, (fp3 b hb).2.1, (fp3 b hb).2.2.2.2.1, (fp3 b hb).2.2.2.2.2⟩
      obtain ⟨m, ns, _⟩ := I6.loc
      have fr : G s3.heap.objs.size = none := by rw [← locC]; exact I6.free
      have ns : r6.heap.Ns s3.heap.objs.size m := by rw [← locC]; exact ns
      refine ⟨m, ns, fun h'' sb => ?_⟩
      obtain ⟨f0, f1, f2, f3, f4, f5⟩ := I3.fpOk (Nat.le_refl _) fr
      exact ⟨.ref D, G, I7.turned (t' := r6.toks) (fun b o hb e => (sb.2 b hb).trans e) f0 f1 f3 f4 f5, rfl, done⟩
    · refine thnF (T.item (X.blk s3 H3 scope ce fp) rfl rfl rfl hc i [] r _ G (fun _ _ => False) Ib (mine Ib rfl nb) tnb go) ?_
      rintro _ r6 ⟨u, rfl, h6⟩
      refine thnF h6 ?_
      rintro _ r7 ⟨x, G7, I7, rx, yl, tn7, n7⟩
      have P7 := I7.pinned (mine I7 rfl n7) (T.obj _ _ tn7)
      refine thnF (pg.run _ r7 _ G7 x u _ P7 rx (step x G7 yl)) ?_
      rintro _ r8 ⟨τ, G8, I8, same, yes⟩
      refine wpAny_tests_nil ?_
      show wpAny _ _ (eval elt ce) _ _ r8
      refine thnF (pe.run _ r8 τ G8 _ I8 (by simpa [tYes] using yes)) ?_
      rintro z r9 ⟨y, G9, I9, ry, acc, accAt, room, nx⟩
      refine app_ok (X := X.blk s3 H3 scope ce fp) I9 accAt room ry fun r10 I10 => ?_
      obtain ⟨m', lt, w'⟩ := less _ nx
      have kept : ∀ b ∈ fp, ∀ o, r7.heap.get? b = some o → r10.heap.get? b = some o ∧ upd G9 D (.lst (acc ++ [y])) b = none := fun b hb o e =>
        let z := I10.pin (b, o) (List.mem_append_right _ (List.mem_append_right _ (mem_pinsAt hb e)))
        ⟨z.1, z.2.1⟩
      refine ⟨m', lt, i + 1, _, (I10.unpinned (pins := [])).weak (by rw [← same, wipe_length]) (fun j v e => ?_), T.keep _ _ _ tn7 (fun b hb o e => (kept b hb o e).1), fun b hb => ?_, w'⟩
      · rw [← same] at e
        exact (wipe_some e).1
      · obtain ⟨o, e, _⟩ := T.obj _ _ tn7 b hb
        exact (kept b hb o e).2
  exact codeAny_compStart_list loop (T.self X.A 0 _ _ _ tn4 loop)
theorem PA.imp {es : List Expr} {t : TA} (h : PA X es t) : PA X es (fun σ H Q => ∃ R : List V → Hp → Prop, t σ H R ∧ ∀ vs H', R vs H' → Q vs H') :=
  ⟨fun pos pins s σ H Q I ⟨R, h1, h2⟩ => thn (h.run pos pins s σ H R I h1) fun us s1 ⟨vs, H1, I1, r, q⟩ => ⟨vs, H1, I1, r, h2 _ _ q⟩⟩
/-- x(e) within such a comprehension, where e tells a lambda of the state around: x calls it -/
theorem pe_gotV {pins0 : List (Addr × Obj)} {σ0 : L2.St} {s0 : Shared} {H0 : Hp} {C0 : Addr} {cl0 : List (Str × Addr)} {fp : List Addr} {scope0 : Scope} {TT : (XK → Hp → VK → Prop) → Hp → VK → Prop} {x a : Str} {g : Addr} {k : Nat} {pg : Arguments} {bg : List Stmt} {sg : Scope} {dV kV doc pm cdv ct oc : Value} {an od : Option Addr} {osl : Array (Option Value)} {Ng : List Str}
    {e : Expr} {t : TA} {p pos : Pos} (I0 : Inv X pins0 σ0 H0 s0) (fp0 : ∀ b ∈ fp, FpOk X pins0 H0 b) (hg : Gl (X.blk s0 H0 scope0 (compEnvC scope0 cl0 C0 X.env) fp) x) (hm : X.mg x = some (.ref g)) (hk : PySem.W.keepIn X.K (.ref g) = true)
    (lk : X.K.lookup g = some ⟨oc, od, .func (PySem.W.fnOf x x pg bg sg dV kV doc pm an cdv ct), osl⟩) (hcg : PySem.W.codeIn X.K cdv x = true) (hb : L2.Binds X.K (PySem.W.fnOf x x pg bg sg dV kV doc pm an cdv ct) [a] []) (Sg : FnScope Ng [a] sg) (hNg : Ng[0]? = some a) (hva : Vis sg a)
    (hG : LamX.GivesTo (X.blk s0 H0 scope0 (compEnvC scope0 cl0 C0 X.env) fp) Ng x sg g cdv bg a (X.env.qual ++ "<lambda>") TT) (hr : Room (k + 2) X.A) (ha : PA (X.blk s0 H0 scope0 (compEnvC scope0 cl0 C0 X.env) fp) [e] t)
    (he : starEach [e] (compEnvC scope0 cl0 C0 X.env) = (false, eval e (compEnvC scope0 cl0 C0 X.env)) :: starEach [] (compEnvC scope0 cl0 C0 X.env) := by rfl) (hpl : (backTo pos (starEach [] (compEnvC scope0 cl0 C0 X.env))).any (·.1) = false := by rfl)
    (hdb : (x == ("__debug__" : Str)) = false := by decide) (hd : (a == ("__debug__" : Str)) = false := by decide) (hcd : (a == ("__classdict__" : Str)) = false := by decide) :
    PE (X.blk s0 H0 scope0 (compEnvC scope0 cl0 C0 X.env) fp) (.Call (.Name x p) [e] [] pos)
      (fun τ H Q => t τ H fun vs H1 => ∃ (d : LamD X k) (f c' : Addr), vs = [.ref f] ∧ H1 f = some (LamO f (d.lw c')) ∧ H1 c' = some (CodeO c' (X.env.qual ++ "<lambda>")) ∧ TT (fun E H' Q' => H' f = some (LamO f (d.lw c')) ∧ d.t E σ0 H' Q') H1 Q) := by
  refine ⟨fun pins s τ H Q IY h => ?_⟩
  refine wpAny_Call_Name_kw (ld_glob IY hg hm ?_ hdb)
  refine PySem.W.callWith_K (h₀ := X.base) IY.ok.mod.kin hk (thn (ha.run pos pins s τ H _ IY h) ?_) he hpl
  rintro us s1 ⟨vs, H1, I1, r, d, f, c', rfl, hf, hc, ht⟩
  refine ⟨I1.kIn, ?_⟩
  obtain rfl : us = [Value.ref f] := by
    cases r with
    | cons r1 r2 => cases r2; cases r1; rfl
  have IX : Inv X pins0 σ0 H1 s1 := I0.call' (ch := fp) I1.os I1.base I1.hok I1.bare fun b hb => ⟨(fp0 b hb).2.2.2.1, (fp0 b hb).2.1, (fp0 b hb).2.2.2.2.1, (fp0 b hb).2.2.2.2.2⟩
  have whole : codeAny (model X.prog X.w) X.A (.call (.ref g) ⟨[.ref f], []⟩) (CR C8.CX0 X.stack X.prog X.w H1 s1 Q C8.E0) s1 := by
    refine LamX.run_ofS (N := Ng) (ps := [a]) (us := [.ref f]) (vs := [.ref f]) lk hcg Sg hr I1.env0 (hb s1 [.ref f] I1.kIn rfl) (.cons rfl .nil) rfl fun hr' => ?_
    obtain ⟨t', ht', hq'⟩ := hG f c' s1 H1 Q (fun E H' Q' => H' f = some (LamO f (d.lw c')) ∧ d.t E σ0 H' Q') (fun W pn xe E p1 p2 tk hW => pe_actV (f := f) (c' := c') (i := 0) d IX tk hW hr' hNg hva hd hcd) hc ht
    exact ⟨t', ht'.nox, hq'⟩
  refine wpAny_call (codeAny_mono whole fun r s' z => ?_)
  match r, z with
  | .error e, z => exact (show False from z).elim
  | .ok (.ret u), z => exact I1.after z
  | .ok .next, z => exact z.elim
  | .ok .brk, z => exact z.elim
  | .ok .cont, z => exact z.elim
/-- at f stands a lambda of X that reads t -/
def LamAt (X : Cx) (k : Nat) (t : XK → TE) (H : Hp) (f : Addr) : Prop := ∃ (d : LamD X k) (c' : Addr), d.t = t ∧ H f = some (LamO f (d.lw c')) ∧ H c' = some (CodeO c' (X.env.qual ++ "<lambda>"))
theorem LamAt.ext {k : Nat} {t : XK → TE} {H H' : Hp} {f : Addr} (h : LamAt X k t H f) (e : ExtN H H') : LamAt X k t H' f := let ⟨d, c', h1, h2, h3⟩ := h; ⟨d, c', h1, e _ _ h2 lamO_tbl, e _ _ h3 LamX.codeO_ne⟩
theorem LamAt.same {k : Nat} {t : XK → TE} {H H' : Hp} {f : Addr} (h : LamAt X k t H f) (e : ∀ b o, H b = some o → H' b = some o) : LamAt X k t H' f := h.ext (ExtN.of e)
theorem LamAt.put {k : Nat} {t : XK → TE} {H : Hp} {f D : Addr} {xs ys : List V} (h : LamAt X k t H f) (e : H D = some (.lst xs)) : LamAt X k t (upd H D (.lst ys)) f := by
  obtain ⟨d, c', h1, h2, h3⟩ := h
  refine ⟨d, c', h1, ?_, ?_⟩
  · rw [upd_ne (ne_of h2 e (by unfold LamO; exact fun z => nomatch z))]; exact h2
  · rw [upd_ne (ne_of h3 e (by unfold LamX.CodeO; exact fun z => nomatch z))]; exact h3
def tLamD (X : Cx) (k : Nat) (T : List (Addr × Str)) (t : XK → TE) : TE := fun _ H Q => Tabs T H ∧ ∀ (f : Addr) (H1 : Hp), ExtN H H1 → Tabs T H1 → H f = none → LamAt X k t H1 f → Q (.ref f) H1
theorem pe_lamD {T : List (Addr × Str)} {c P : Addr} {params : Arguments} {body : Expr} {scope : Scope} {pos : Pos} {k : Nat} {t : XK → TE} (TB : TabB X.base X.mg c P) (hcode : X.env.code = .ref c) (hm : (P, X.env.qual ++ "<lambda>") ∈ T) (hu : ∀ p ∈ T, p.1 = P → p.2 = X.env.qual ++ "<lambda>")
    (names : LamS X.env.scope scope) (dflt : defaultsOf params X.env = ([], [])) (bind : ∀ (q : Str) (cl : List (Str × Addr)) (pm cv ctv : Value), bindArgs (PySem.W.kla_fn "<lambda>" q params body scope cl pm cv ctv) ⟨[], []⟩ = pure [])
    (ok : ∀ (A : Around) (outer : List Env) (s : Shared) (H : Hp) (E : XK) (f c' : Addr), Room k (A.deeper (lamEnv X scope s.heap.objs.size f c')) → PE (lamCx X A outer s H E scope f c') body (t E)) : PE X (.Lambda params body scope pos) (tLamD X k T t) := by
  refine ⟨fun pins s σ H Q I h => ?_⟩
  refine (pe_lamV TB hcode hm hu names dflt).run pins s σ H Q I ⟨h.1, fun f c' H1 x1 T1 hf h2 h3 => h.2 f H1 x1 T1 hf ⟨⟨params, body, scope, t, names, dflt, bind, ok⟩, c', rfl, h2, h3⟩⟩
theorem pe_gotD {pins0 : List (Addr × Obj)} {σ0 : L2.St} {s0 : Shared} {H0 : Hp} {C0 : Addr} {cl0 : List (Str × Addr)} {fp : List Addr} {scope0 : Scope} {TT : (XK → Hp → VK → Prop) → Hp → VK → Prop} {x a : Str} {g : Addr} {k : Nat} {pg : Arguments} {bg : List Stmt} {sg : Scope} {dV kV doc pm cdv ct oc : Value} {an od : Option Addr} {osl : Array (Option Value)} {Ng : List Str}
    {e : Expr} {t : TA} {p pos : Pos} (I0 : Inv X pins0 σ0 H0 s0) (fp0 : ∀ b ∈ fp, FpOk X pins0 H0 b) (hg : Gl (X.blk s0 H0 scope0 (compEnvC scope0 cl0 C0 X.env) fp) x) (hm : X.mg x = some (.ref g)) (hk : PySem.W.keepIn X.K (.ref g) = true)
    (lk : X.K.lookup g = some ⟨oc, od, .func (PySem.W.fnOf x x pg bg sg dV kV doc pm an cdv ct), osl⟩) (hcg : PySem.W.codeIn X.K cdv x = true) (hb : L2.Binds X.K (PySem.W.fnOf x x pg bg sg dV kV doc pm an cdv ct) [a] []) (Sg : FnScope Ng [a] sg) (hNg : Ng[0]? = some a) (hva : Vis sg a)
    (hG : LamX.GivesTo (X.blk s0 H0 scope0 (compEnvC scope0 cl0 C0 X.env) fp) Ng x sg g cdv bg a (X.env.qual ++ "<lambda>") TT) (hr : Room (k + 2) X.A) (ha : PA (X.blk s0 H0 scope0 (compEnvC scope0 cl0 C0 X.env) fp) [e] t)
    (he : starEach [e] (compEnvC scope0 cl0 C0 X.env) = (false, eval e (compEnvC scope0 cl0 C0 X.env)) :: starEach [] (compEnvC scope0 cl0 C0 X.env) := by rfl) (hpl : (backTo pos (starEach [] (compEnvC scope0 cl0 C0 X.env))).any (·.1) = false := by rfl)
    (hdb : (x == ("__debug__" : Str)) = false := by decide) (hd : (a == ("__debug__" : Str)) = false := by decide) (hcd : (a == ("__classdict__" : Str)) = false := by decide) :
    PE (X.blk s0 H0 scope0 (compEnvC scope0 cl0 C0 X.env) fp) (.Call (.Name x p) [e] [] pos)
      (fun τ H Q => t τ H fun vs H1 => ∃ (f : Addr) (tl : XK → TE), vs = [.ref f] ∧ LamAt X k tl H1 f ∧ TT (fun E H' Q' => H' f = H1 f ∧ tl E σ0 H' Q') H1 Q) := by
  refine ⟨fun pins s τ H Q IY h => ?_⟩
  refine (pe_gotV I0 fp0 hg hm hk lk hcg hb Sg hNg hva hG hr (PA.imp ha) he hpl hdb hd hcd).run pins s τ H Q IY ⟨_, h, ?_⟩
  rintro vs H1 ⟨f, tl, rfl, ⟨d, c', e1, hf, hc⟩, ht⟩
  refine ⟨d, f, c', rfl, hf, hc, ?_⟩
  have same : (fun (E : XK) (H' : Hp) (Q' : VK) => H' f = H1 f ∧ tl E σ0 H' Q') = fun E H' Q' => H' f = some (LamO f (d.lw c')) ∧ d.t E σ0 H' Q' := by
    funext E H' Q'
    rw [hf, e1]
  rw [← same]
  exact ht
end
end Ts

set_option maxRecDepth 100000
set_option maxHeartbeats 8000000
namespace Ts
open PySem L2
open LamX (ExtN Tabs TabB)
abbrev pAs : List Str := ["_law_counts", "_law_meaning_here", "_law_box", "_law_table"]
abbrev nAs : List Str := ["_law_counts", "_law_meaning_here", "_law_box", "_law_table", "_law_asks_here", "_law_ask"]
abbrev qAs : Str := "_law_asks.<locals>.<lambda>"
theorem sc_As : FnScope nAs pAs (defScope s_L_asks) := ⟨rfl, rfl, rfl, by decide +kernel, rfl, by decide +kernel, by decide +kernel⟩
def InsC (CC : Addr) (H : Hp) (c : Addr) : Prop := ∃ dx t k : Addr, H c = some (.ins CC dx (cf t k))
abbrev spShY (K : PySem.W.Frag) (C CC CN CU : Addr) : Sp := fun vs H Q E => spRefY K C CN CU 0 vs H Q E ∧ ∃ (c dx t k : Addr) (r : List V), vs = .ref c :: r ∧ H c = some (.ins CC dx (cf t k))
/-- what each of the six asks comes to -/
def DueY (K : PySem.W.Frag) (C : Addr) (H : Hp) (c m : Addr) (x : V) (xs : List V) : Prop := (Far K C H c m ∧ xs = [.str ("unlike" : Str)]) ∨ (NoPlc K C H c m x ∧ xs = [.str ("box" : Str), x])
theorem DueY.ext {K : PySem.W.Frag} {C : Addr} {H H' : Hp} {c m : Addr} {x : V} {xs : List V} (h : DueY K C H c m x xs) (s : ExtN H H') : DueY K C H' c m x xs := h.imp (fun ⟨a, b⟩ => ⟨a.ext s, b⟩) fun ⟨a, b⟩ => ⟨a.ext s, b⟩
theorem due_ref {K : PySem.W.Frag} {C CS CL CN CB CU : Addr} {H : Hp} {c m : Addr} {x : V} {xs : List V} {Q : VK} {E : XK} (h : DueY K C H c m x xs) (hE : ∀ cls d H' ys, RefQ CS CL CN CB CU H' cls d ys → (∀ p, H' p = none → Q (.ref p) (upd H' p (.tup ys))) → E cls d H')
    (k : ∀ H2 p, Same H H2 → H2 p = none → Q (.ref p) (upd H2 p (.tup xs))) : RefY K C CN CU H c m x E := by
  rcases h with ⟨h, rfl⟩ | ⟨h, rfl⟩
  · exact .inl ⟨h, fun H' s => hE _ _ _ _ (.inr (.inr (.inr (.inr ⟨rfl, rfl⟩)))) fun p hp => k H' p s hp⟩
  · exact .inr ⟨h, fun d H' hd s e => hE _ _ _ _ (.inr (.inr (.inl ⟨rfl, d, x, rfl, e, rfl⟩))) fun p hp => k H' p s hp⟩
def spLAsks (K : PySem.W.Frag) (C CC : Addr) (T : List (Addr × Str)) : Sp := fun vs H Q _ => ∃ (c m td : Addr) (x : V) (xs : List V), vs = [.ref c, .ref m, x, .ref td] ∧ InsC CC H c ∧ DueY K C H c m x xs ∧ Tabs T H ∧
  ∀ (D : Addr) (H' : Hp) (ts : List Addr), ts.length = 6 → ExtN H H' → Tabs T H' → H' D = some (.lst (ts.map V.ref)) → (∀ t ∈ ts, H' t = some (.tup xs)) → Q (.ref D) H'
/-- an ask that refuses what does not go together -/
def GoodT (K : PySem.W.Frag) (C CC CN CU c m td : Addr) (x : V) (tl : XK → TE) : Prop := ∀ (v4 : V) (E : XK) (H' : Hp) (Q' : VK), InsC CC H' c → RefY K C CN CU H' c m x E → tl E [some (.ref c), some (.ref m), some x, some (.ref td), some v4, none] H' Q'
section
variable {P : Program} {w : World} {K : PySem.W.Frag} {mg : Str → Option Value} {base : Heap} {C CM CC CS CL CN CB CU : Addr} {T : List (Addr × Str)} {P2 : Addr}
theorem ok_asksL {fk : Addr} {fdk : FuncData} (D : DefC K mg "_law_asks" s_L_asks pAs) (Dcl : DefAt K mg "_law_clicked" s_L_clicked ["_law_ask"]) (TQE : ErrsQ K mg CS CL CN CB CU) (TK : TxK K mg CC)
    (TB : TabB base mg D.c P2) (hm : (P2, qAs) ∈ T) (hu : ∀ p ∈ T, p.1 = P2 → p.2 = qAs)
    (mOn : MethAt K CC "on" "Counts.on" s_Counts_on pOn) (XOn : FnOk P w K mg base (L2.CX P w) 6 mOn.f mOn.fd pOn (spRefY K C CN CU 0))
    (mOf : MethAt K CC "off" "Counts.off" s_Counts_off pOn) (XOf : FnOk P w K mg base (L2.CX P w) 6 mOf.f mOf.fd pOn (spRefY K C CN CU 0))
    (mSh : MethAt K CC "shows" "Counts.shows" s_Counts_shows pOn) (XSh : FnOk P w K mg base (L2.CX P w) 7 mSh.f mSh.fd pOn (spShY K C CC CN CU))
    (mAs : MethAt K CC "asks" "Counts.asks" s_Counts_asks pOn) (XAs : FnOk P w K mg base (L2.CX P w) 7 mAs.f mAs.fd pOn (spShY K C CC CN CU))
    (gk : mg "click" = some (.ref fk)) (kk : PySem.W.keepIn K (.ref fk) = true) (bk : Binds K fdk pCk [.none]) (Xk : FnOk P w K mg base (L2.CX P w) 6 fk fdk pCk (spRefY K C CN CU 2))
    (Dun : DefAt K mg "unseen" s_unseen pCk) (XU : FnOk P w K mg base (L2.CX P w) 6 Dun.f Dun.fd pCk (spRefY K C CN CU 2)) :
    FnOk P w K mg base CX0 10 D.f D.fd pAs (spLAsks K C CC T) := by
  refine D.F.ok sc_As (fun vs H Q E h => ?_) (fun A outer s H vs Q E hr h => ?_)
  · obtain ⟨c, m, td, x, xs, rfl, _⟩ := h
    rfl
  · obtain ⟨c, m, td, x, xs, rfl, hins, hdue, hT, hq⟩ := h
    refine ⟨_, pss_cons (ps_set (i := 4) sc_As.nd rfl (.inl rfl) (pe_lst (pa_cons (pe_lamD (k := 7) (t := fun E => tMeth CC "on" (spRefY K C CN CU 0) [] E (tVar 0) (tCons (tVar 1) (tCons (tVar 2) tNil))) TB rfl hm hu (LamX.lamS_by (show LamX.lamSB (defScope s_L_asks) _ = true by decide +kernel)) rfl (fun _ _ _ _ _ => rfl)
              (fun A outer s H E f c' hr2 => pe_meth (pv 0) TK.cl mOn.m XOn (hr2.mono (by decide)) mOn.b .nil (passes_call (takes_of rfl rfl rfl rfl) (fun _ _ _ _ h => h)) (pa_cons (pv 1) (pa_cons (pv 2) pa_nil)))) pa_nil)))
      (pss_cons (ps_expr (pe_bm PySem.F.plainAttrs_list PySem.F.slot_list_append PySem.F.type_list_append mt_append (pv 4) (pa_cons (pe_lamD (k := 7) (t := fun E => tMeth CC "off" (spRefY K C CN CU 0) [] E (tVar 0) (tCons (tVar 1) (tCons (tVar 2) tNil))) TB rfl hm hu (LamX.lamS_by (show LamX.lamSB (defScope s_L_asks) _ = true by decide +kernel)) rfl (fun _ _ _ _ _ => rfl)
              (fun A outer s H E f c' hr2 => pe_meth (pv 0) TK.cl mOf.m XOf (hr2.mono (by decide)) mOf.b .nil (passes_call (takes_of rfl rfl rfl rfl) (fun _ _ _ _ h => h)) (pa_cons (pv 1) (pa_cons (pv 2) pa_nil)))) pa_nil)))
      (pss_cons (ps_expr (pe_bm PySem.F.plainAttrs_list PySem.F.slot_list_append PySem.F.type_list_append mt_append (pv 4) (pa_cons (pe_lamD (k := 7) (t := fun E => tMeth CC "shows" (spShY K C CC CN CU) [] E (tVar 0) (tCons (tVar 1) (tCons (tVar 2) tNil))) TB rfl hm hu (LamX.lamS_by (show LamX.lamSB (defScope s_L_asks) _ = true by decide +kernel)) rfl (fun _ _ _ _ _ => rfl)
              (fun A outer s H E f c' hr2 => pe_meth (pv 0) TK.cl mSh.m XSh hr2 mSh.b .nil (passes_call (takes_of rfl rfl rfl rfl) (fun _ _ _ _ h => h)) (pa_cons (pv 1) (pa_cons (pv 2) pa_nil)))) pa_nil)))
      (pss_cons (ps_expr (pe_bm PySem.F.plainAttrs_list PySem.F.slot_list_append PySem.F.type_list_append mt_append (pv 4) (pa_cons (pe_lamD (k := 7) (t := fun E => tMeth CC "asks" (spShY K C CC CN CU) [] E (tVar 0) (tCons (tVar 1) (tCons (tVar 2) tNil))) TB rfl hm hu (LamX.lamS_by (show LamX.lamSB (defScope s_L_asks) _ = true by decide +kernel)) rfl (fun _ _ _ _ _ => rfl)
              (fun A outer s H E f c' hr2 => pe_meth (pv 0) TK.cl mAs.m XAs hr2 mAs.b .nil (passes_call (takes_of rfl rfl rfl rfl) (fun _ _ _ _ h => h)) (pa_cons (pv 1) (pa_cons (pv 2) pa_nil)))) pa_nil)))
      (pss_cons (ps_expr (pe_bm PySem.F.plainAttrs_list PySem.F.slot_list_append PySem.F.type_list_append mt_append (pv 4) (pa_cons (pe_lamD (k := 7) (t := fun E => tCall (spRefY K C CN CU 2) [.non] E (tCons (tVar 0) (tCons (tVar 1) (tCons (tVar 2) (tCons (tVar 3) tNil))))) TB rfl hm hu (LamX.lamS_by (show LamX.lamSB (defScope s_L_asks) _ = true by decide +kernel)) rfl (fun _ _ _ _ _ => rfl)
              (fun A outer s H E f c' hr2 => pe_call Xk (hr2.mono (by decide)) rfl gk kk bk (dvs := [.non]) (.cons rfl .nil) (passes_call (takes_of rfl rfl rfl rfl) (fun _ _ _ _ h => h)) (pa_cons (pv 0) (pa_cons (pv 1) (pa_cons (pv 2) (pa_cons (pv 3) pa_nil)))))) pa_nil)))
      (pss_cons (ps_expr (pe_bm PySem.F.plainAttrs_list PySem.F.slot_list_append PySem.F.type_list_append mt_append (pv 4) (pa_cons (pe_lamD (k := 7) (t := fun E => tCall (spRefY K C CN CU 2) [] E (tCons (tVar 0) (tCons (tVar 1) (tCons (tVar 2) (tCons (tVar 3) (tCons (tLst (tCons (tC .non) tNil)) tNil)))))) TB rfl hm hu (LamX.lamS_by (show LamX.lamSB (defScope s_L_asks) _ = true by decide +kernel)) rfl (fun _ _ _ _ _ => rfl)
              (fun A outer s H E f c' hr2 => pe_call XU (hr2.mono (by decide)) rfl Dun.g Dun.F.kp Dun.b .nil (passes_call (takes_of rfl rfl rfl rfl) (fun _ _ _ _ h => h)) (pa_cons (pv 0) (pa_cons (pv 1) (pa_cons (pv 2) (pa_cons (pv 3) (pa_cons (pe_lst (pa_cons pe_non pa_nil)) pa_nil))))))) pa_nil)))
      (pss_one (ps_ret (pe_lcI (own := [("_law_ask", 5)]) (g := gName 5) (te := fun σ0 => (fun τ G Q => tCons (tVar 5) tNil τ G fun vs G1 => ∃ (f : Addr) (tl : XK → TE), vs = [.ref f] ∧ LamAt _ 7 tl G1 f ∧ TClk CS CL CN CB CU (fun E' H' Q' => H' f = G1 f ∧ tl E' σ0 H' Q') G1 Q)) rfl sc_As.nd (pi_list (pv 4)) (blkOk_by (N := nAs) (sc := defScope s_L_asks) (by decide +kernel))
              (fun _ _ _ _ _ => pg_name (i := 5) sc_As.nd rfl (Or.inl rfl)) (fun pins0 σ0 s0 H0 C0 cl0 fp I0 fp0 => by
                  have D0 := Dcl
                  obtain ⟨fG, fdG, FG, bG, gG⟩ := D0
                  have kpG := FG.kp
                  obtain ⟨oc, od, kV, doc, pm, an, cdvG, ct, osl, rfl, lkG, hcdG⟩ := FG.ex
                  exact pe_gotD (k := 7) I0 fp0 rfl gG kpG lkG hcdG bG sc_Rf rfl (.inl rfl) (clicked_gives TQE) (hr.mono (by decide)) (pa_cons (pv 5) pa_nil)))))))))), ?_⟩
    refine ⟨hT, fun f1 H1 x1 T1 hf1 lam1 => ⟨(by show 1 ≤ sizeLine; decide), fun ql hql => ?_⟩⟩
    have g1 : GoodT K C CC CN CU c m td x (fun E => tMeth CC "on" (spRefY K C CN CU 0) [] E (tVar 0) (tCons (tVar 1) (tCons (tVar 2) tNil))) := fun v4 E H' Q' ⟨dx, t, k, hc⟩ h => ⟨_, rfl, c, dx, _, rfl, hc, rfl, _, rfl, _, rfl, c, m, x, [], rfl, rfl, h⟩
    have g2 : GoodT K C CC CN CU c m td x (fun E => tMeth CC "off" (spRefY K C CN CU 0) [] E (tVar 0) (tCons (tVar 1) (tCons (tVar 2) tNil))) := fun v4 E H' Q' ⟨dx, t, k, hc⟩ h => ⟨_, rfl, c, dx, _, rfl, hc, rfl, _, rfl, _, rfl, c, m, x, [], rfl, rfl, h⟩
    have g3 : GoodT K C CC CN CU c m td x (fun E => tMeth CC "shows" (spShY K C CC CN CU) [] E (tVar 0) (tCons (tVar 1) (tCons (tVar 2) tNil))) := fun v4 E H' Q' ⟨dx, t, k, hc⟩ h => ⟨_, rfl, c, dx, _, rfl, hc, rfl, _, rfl, _, rfl, ⟨c, m, x, [], rfl, rfl, h⟩, c, dx, t, k, _, rfl, hc⟩
    have g4 : GoodT K C CC CN CU c m td x (fun E => tMeth CC "asks" (spShY K C CC CN CU) [] E (tVar 0) (tCons (tVar 1) (tCons (tVar 2) tNil))) := fun v4 E H' Q' ⟨dx, t, k, hc⟩ h => ⟨_, rfl, c, dx, _, rfl, hc, rfl, _, rfl, _, rfl, ⟨c, m, x, [], rfl, rfl, h⟩, c, dx, t, k, _, rfl, hc⟩
    have g5 : GoodT K C CC CN CU c m td x (fun E => tCall (spRefY K C CN CU 2) [.non] E (tCons (tVar 0) (tCons (tVar 1) (tCons (tVar 2) (tCons (tVar 3) tNil))))) := fun v4 E H' Q' _ h => ⟨_, rfl, _, rfl, _, rfl, _, rfl, c, m, x, [.ref td, .non], rfl, rfl, h⟩
    have g6 : GoodT K C CC CN CU c m td x (fun E => tCall (spRefY K C CN CU 2) [] E (tCons (tVar 0) (tCons (tVar 1) (tCons (tVar 2) (tCons (tVar 3) (tCons (tLst (tCons (tC .non) tNil)) tNil)))))) := fun v4 E H' Q' _ h => ⟨_, rfl, _, rfl, _, rfl, _, rfl, (by show 1 ≤ sizeLine; decide), fun p hp => ⟨c, m, x, [.ref td, .ref p], rfl, rfl, h.same (Same.new hp)⟩⟩
    have nq : ∀ b o, H b = some o → (∀ ps, o ≠ .tbl ps) → b ≠ ql := fun b o e no => ne_of_none (x1 _ _ e no) hql
    let LG : Hp → Addr → Prop := fun Ha f => ∃ tl, LamAt (cxOf C8.CX0 P w K mg base nAs "_law_asks" (defScope s_L_asks) D.f (.ref D.c) A outer s H E).nox 7 tl Ha f ∧ GoodT K C CC CN CU c m td x tl
    have lgx : ∀ {Ha Hb f}, LG Ha f → ExtN Ha Hb → LG Hb f := fun ⟨tl, l, g⟩ e => ⟨tl, l.ext e, g⟩
    let St : List Addr → Hp → Prop := fun fs Ha => Ha ql = some (.lst (fs.map V.ref)) ∧ (∀ f ∈ fs, LG Ha f) ∧ ExtN H Ha ∧ Tabs T Ha
    have step : ∀ {fs : List Addr} {Ha Hb : Hp} {f : Addr}, St fs Ha → ExtN Ha Hb → Tabs T Hb → LG Hb f → St (fs ++ [f]) (upd Hb ql (.lst (fs.map V.ref ++ [V.ref f]))) := by
      rintro fs Ha Hb f ⟨e1, l1, xa, _⟩ xb Tb lf
      have eb := xb _ _ e1 nofun
      refine ⟨by rw [upd_same, List.map_append]; rfl, fun y hy => ?_, fun b o e no => ?_, tabs_put Tb eb⟩
      · have put : ∀ y, LG Hb y → LG (upd Hb ql (.lst (fs.map V.ref ++ [V.ref f]))) y := fun y ⟨tl, l, g⟩ => ⟨tl, l.put eb, g⟩
        rcases List.mem_append.mp hy with h | h
        · exact put y (lgx (l1 y h) xb)
        · cases List.mem_singleton.mp h
          exact put _ lf
      · rw [upd_ne (nq b o e no)]
        exact xb _ _ (xa _ _ e no) no
    have S1 : St [f1] (upd H1 ql (.lst [V.ref f1])) := by
      have sm : Same H1 (upd H1 ql (.lst [V.ref f1])) := Same.new hql
      refine ⟨upd_same, fun y hy => ?_, x1.trans (Same.x sm), T1.ext sm⟩
      cases List.mem_singleton.mp hy
      exact ⟨_, lam1.same sm, g1⟩
    generalize upd H1 ql (.lst [V.ref f1]) = Ha at S1
    refine ⟨_, rfl, .inl ⟨rfl, _, SqL.of S1.1⟩, S1.2.2.2, fun f2 Hb xb Tb hf2 lam2 => ⟨ql, _, _, rfl, rfl, xb _ _ S1.1 nofun, small1000 (by show 1 ≤ 1000; decide), ?_⟩⟩
    have S2 := step S1 xb Tb ⟨_, lam2, g2⟩
    generalize upd Hb ql (.lst ([f1].map V.ref ++ [V.ref f2])) = Hc at S2
    clear S1 xb Tb lam2 hf2
    refine ⟨_, rfl, .inl ⟨rfl, _, SqL.of S2.1⟩, S2.2.2.2, fun f3 Hd xd Td hf3 lam3 => ⟨ql, _, _, rfl, rfl, xd _ _ S2.1 nofun, small1000 (by show 2 ≤ 1000; decide), ?_⟩⟩
    have S3 := step S2 xd Td ⟨_, lam3, g3⟩
    generalize upd Hd ql (.lst (([f1] ++ [f2]).map V.ref ++ [V.ref f3])) = He at S3
    clear S2 xd Td lam3 hf3
    refine ⟨_, rfl, .inl ⟨rfl, _, SqL.of S3.1⟩, S3.2.2.2, fun f4 Hf xf Tf hf4 lam4 => ⟨ql, _, _, rfl, rfl, xf _ _ S3.1 nofun, small1000 (by show 3 ≤ 1000; decide), ?_⟩⟩
    have S4 := step S3 xf Tf ⟨_, lam4, g4⟩
    generalize upd Hf ql (.lst (([f1] ++ [f2] ++ [f3]).map V.ref ++ [V.ref f4])) = Hg at S4
    clear S3 xf Tf lam4 hf4
    refine ⟨_, rfl, .inl ⟨rfl, _, SqL.of S4.1⟩, S4.2.2.2, fun f5 Hh xh Th hf5 lam5 => ⟨ql, _, _, rfl, rfl, xh _ _ S4.1 nofun, small1000 (by show 4 ≤ 1000; decide), ?_⟩⟩
    have S5 := step S4 xh Th ⟨_, lam5, g5⟩
    generalize upd Hh ql (.lst (([f1] ++ [f2] ++ [f3] ++ [f4]).map V.ref ++ [V.ref f5])) = Hi at S5
    clear S4 xh Th lam5 hf5
    refine ⟨_, rfl, .inl ⟨rfl, _, SqL.of S5.1⟩, S5.2.2.2, fun f6 Hj xj Tj hf6 lam6 => ⟨ql, _, _, rfl, rfl, xj _ _ S5.1 nofun, small1000 (by show 5 ≤ 1000; decide), ?_⟩⟩
    have S6 := step S5 xj Tj ⟨_, lam6, g6⟩
    generalize upd Hj ql (.lst (([f1] ++ [f2] ++ [f3] ++ [f4] ++ [f5]).map V.ref ++ [V.ref f6])) = Hk at S6
    clear S5 xj Tj lam6 hf6
    obtain ⟨fs, hfs⟩ : ∃ fs, fs = [f1] ++ [f2] ++ [f3] ++ [f4] ++ [f5] ++ [f6] := ⟨_, rfl⟩
    rw [← hfs] at S6
    have l6 : fs.length = 6 := by rw [hfs]; rfl
    obtain ⟨eq, lg, xk, Tk⟩ := S6
    refine ⟨_, rfl, ql, rfl, ⟨_, SqL.of eq⟩, fun Dc hDc => ?_⟩
    refine lc_list (K := K) (a := ql) (xs := fs.map V.ref) (g := gName 5) (tt := tYes) (vs := [5]) (σ := [some (.ref c), some (.ref m), some x, some (.ref td), some (.ref ql), none]) (te := fun τ G Q => tCons (tVar 5) tNil τ G fun vs G1 => ∃ (f : Addr) (tl : XK → TE), vs = [.ref f] ∧ LamAt (cxOf C8.CX0 P w K mg base nAs "_law_asks" (defScope s_L_asks) D.f (.ref D.c) A outer s H E).nox 7 tl G1 f ∧ TClk CS CL CN CB CU (fun E' H' Q' => H' f = G1 f ∧ tl E' [some (.ref c), some (.ref m), some x, some (.ref td), some (.ref ql), none] H' Q') G1 Q) (fun i H' => ∃ ts : List Addr, ts.length = i ∧ Same Hk H' ∧ H' Dc = some (.lst (ts.map V.ref)) ∧ ∀ t ∈ ts, H' t = some (.tup xs)) ⟨[], rfl, Same.new hDc, upd_same, fun t ht => by cases ht⟩ (fun i H' _ ⟨_, _, m, _⟩ => SqL.of (m _ _ eq)) ?_ ?_
    · rintro i y Hl hy ⟨ts, hl, sl, el, all⟩
      rw [List.getElem?_map] at hy
      obtain ⟨f, hf, rfl⟩ := Option.map_eq_some_iff.mp hy
      have hi : i < 6 := by rw [← l6]; exact (List.getElem?_eq_some_iff.mp hf).1
      obtain ⟨tl, lam, good⟩ := lgx (lg f (List.mem_of_getElem? hf)) (Same.x sl)
      refine ⟨rfl, tYes_if ⟨_, rfl, f, _, rfl, lam, rfl, ?_⟩⟩
      have due := (hdue.ext xk).ext (Same.x sl)
      have ins : InsC CC Hl c := let ⟨dx, t, k, hc⟩ := hins; ⟨dx, t, k, sl _ _ (xk _ _ hc nofun)⟩
      refine good _ _ _ _ ins (due_ref (Q := fun y H4 => ∃ acc, H4 Dc = some (.lst acc) ∧ acc.length < sizeLine ∧ ∃ ts : List Addr, ts.length = i + 1 ∧ Same Hk (upd H4 Dc (.lst (acc ++ [y]))) ∧ (upd H4 Dc (.lst (acc ++ [y]))) Dc = some (.lst (ts.map V.ref)) ∧ ∀ t ∈ ts, (upd H4 Dc (.lst (acc ++ [y]))) t = some (.tup xs)) due (fun cls d H' ys hr k => ⟨ys, hr, k⟩) fun H2 p s2 hp => ?_)
      have eD := s2 _ _ el
      have sp : Same H2 (upd H2 p (.tup xs)) := Same.new hp
      have eD2 := sp _ _ eD
      have ep : (upd H2 p (.tup xs)) p = some (.tup xs) := upd_same
      generalize upd H2 p (.tup xs) = H3 at sp eD2 ep
      refine ⟨_, eD2, small1000 (by rw [List.length_map]; omega), ts ++ [p], by rw [List.length_append, hl]; rfl, fun b o eb => ?_, by rw [upd_same, List.map_append]; rfl, fun t ht => ?_⟩
      · rw [upd_ne (fun q => by rw [q, hDc] at eb; cases eb)]
        exact sp _ _ (s2 _ _ (sl _ _ eb))
      · have nD : ∀ {t}, H3 t = some (.tup xs) → t ≠ Dc := fun e q => by rw [q, eD2] at e; cases e
        rcases List.mem_append.mp ht with h | h
        · have := sp _ _ (s2 _ _ (all t h))
          rw [upd_ne (nD this)]; exact this
        · cases List.mem_singleton.mp h
          rw [upd_ne (nD ep)]; exact ep
    · rintro Hl ⟨ts, hl, sl, el, all⟩
      exact hq Dc Hl ts (by rw [hl, List.length_map, l6]) (xk.trans (Same.x sl)) (Tk.ext sl) el all
end
end Ts

set_option maxRecDepth 100000
set_option maxHeartbeats 4000000
namespace Ts
open PySem L2
open LamX (ExtN Tabs TabB)
abbrev pMd : List Str := ["_law_tree", "_law_ranges"]
abbrev nMd : List Str := ["_law_tree", "_law_ranges", "e"]
theorem sc_Md : FnScope nMd pMd (defScope s_L_made) := ⟨rfl, rfl, rfl, by decide +kernel, rfl, by decide +kernel, by decide +kernel⟩
/-- ranges that can stand there -/
def RgFine (H : Hp) (d : Addr) (rs : List Row) : Prop := ∃ (L : List Str) (g : Str → Rg), RgsAt H d L g ∧ L.length ≤ 100 ∧ ∀ z ∈ L, (g z).ok ∧ ∃ r, rowOf rs z = some r ∧ r.ki = ("shut" : Str)
/-- a dict whose first entry that cannot stand there has the key x -/
def RgBad (w : World) (H : Hp) (d : Addr) (rs : List Row) (x : V) : Prop := ∃ (o : Obj) (l : List EnV) (i : Nat) (y : EnV), H d = some (.frz o (DicM w d l)) ∧ l[i]? = some y ∧ (∀ (j : Nat) (x : EnV), j < i → l[j]? = some x → GoodE rs H x) ∧ BadE rs H y ∧ x = y.kv
def spLMade (w : World) (C : Addr) : Sp := fun vs H Q _ => ∃ (t d : Addr) (rs : List Row), vs = [.ref t, .ref d] ∧ TreeAt C H t rs ∧ ((RgFine H d rs ∧ ∀ H', Same H H' → Q .non H') ∨ ∃ x, RgBad w H d rs x ∧ ∀ p H', Same H H' → H' p = some (.tup [x]) → Q (.ref p) H')
abbrev spCInit (w : World) (K : PySem.W.Frag) (C CC CR : Addr) : Sp := fun vs H Q E => spCountsInit K C CC vs H Q E0 ∨ spCountsX w C CC CR vs H Q E
section
variable {P : Program} {w : World} {K : PySem.W.Frag} {mg : Str → Option Value} {base : Heap} {C CM CC CR : Addr}
theorem ok_made {fC : Addr} {fdC : FuncData} {dsC : List Value} (D : DefAt K mg "_law_made" s_L_made pMd) (TK : TxK K mg CC) (TR : ErrT K mg CR "BadRange" "box")
    (MC : Mk K CC fC) (bC : Binds K fdC ["self", "tree", "ranges"] []) (XC : FnOk P w K mg base (L2.CX P w) 7 fC fdC ["self", "tree", "ranges"] (spCInit w K C CC CR)) : FnOk P w K mg base CX0 9 D.f D.fd pMd (spLMade w C) := by
  refine D.F.ok sc_Md (fun vs H Q E h => ?_) (fun cdv A outer s H vs Q E hr h => ?_)
  · obtain ⟨t, d, rs, rfl, _⟩ := h
    rfl
  · obtain ⟨t, d, rs, rfl, ht, h⟩ := h
    have r8 : Room 8 _ := hr
    refine ⟨_, pss_cons (ps_try_as (i := 2) (tb := fun W => tDrop (tMake CC (spCInit w K C CC CR) [] (fun cls d H' => ∀ σ', W cls d σ' H') (tCons (tVar 0) (tCons (tVar 1) tNil)))) (ts := fun a cls d D σ H => σ.length = nMd.length → tRet (tTup (tCons (tXf a cls d CR "box" (tVar 2)) tNil)) D σ H) (Wout := fun _ _ _ _ => False) rfl rfl sc_Md.nd rfl rfl ⟨rfl, by decide, Or.inl TR.g⟩ takes0
          (fun W pn xe tk _ => pss_one (ps_expr (by exact pe_make (E := fun cls d H' => ∀ σ', W cls d σ' H') MC XC r8 rfl TK.g bC .nil (passes_call tk (fun cls d σ' H' h => h σ')) (pa_cons (pv 0) (pa_cons (pv 1) pa_nil)))))
          (fun a oe cls d pn hz hf => pss_len (pss_one (ps_ret (by exact pe_tup (pa_cons (pe_xf TR.X TR.nb hz hf (pv 2)) pa_nil))))))
      (pss_one (ps_ret pe_non)), ?_⟩
    refine ⟨_, rfl, _, rfl, fun x dx nx ndx ne => ?_⟩
    have s0 : Same H (upd (upd H dx (.own x)) x (.ins CC dx [])) := mk_same0 (C := CC) nx ndx
    have hx : (upd (upd H dx (.own x)) x (.ins CC dx [])) x = some (.ins CC dx []) := upd_same
    rcases h with ⟨⟨L, g, hg, hl, hok⟩, hq⟩ | ⟨v, ⟨o, l, i, y, hd, hy, hgood, hbad, rfl⟩, hq⟩
    · refine .inl ⟨x, dx, t, d, rs, L, g, rfl, hx, ht.same s0, hg.same s0, hl, hok, fun H' sb _ => ⟨rfl, ?_⟩⟩
      exact hq H' (mk_same nx ndx sb)
    · refine .inr ⟨x, dx, t, d, o, rs, l, i, y, rfl, hx, ht.same s0, s0 _ _ hd, hy, fun j z hj hz => (hgood j z hj hz).ext (Same.x s0), hbad.ext (Same.x s0), fun e H' he s1 ee σ' => ?_⟩
      refine ⟨true, TR.te, fun _ a ha hlen => ?_, fun q => Bool.noConfusion q⟩
      have l3 : σ'.length = 3 := by rw [List.length_set] at hlen; exact hlen
      match σ', l3 with
      | [b0, b1, b2], _ =>
        exact ⟨_, rfl, rfl, rfl, e, _, y.kv, rfl, ee, rfl, (by show 1 ≤ sizeLine; decide), fun p hp => hq p _ ((s0.trans s1).trans (Same.new hp)) upd_same⟩
end
end Ts

set_option maxRecDepth 100000
set_option maxHeartbeats 4000000
namespace Ts
open PySem L2
open LamX (ExtN Tabs TabB)
def intB : V → Bool
  | .int _ => true
  | _ => false
def spLInt : Sp := fun vs H Q _ => ∃ x, vs = [x] ∧ CellV H x ∧ Q (.bl (intB x)) H
section
variable {P : Program} {w : World} {K : PySem.W.Frag} {mg : Str → Option Value} {base : Heap}
theorem sc_Lint : FnScope ["_law_thing"] ["_law_thing"] (defScope s_L_is_integer) := ⟨rfl, rfl, rfl, by decide +kernel, rfl, by decide +kernel, by decide +kernel⟩
theorem ok_Lint (D : DefAt K mg "_law_is_integer" s_L_is_integer ["_law_thing"]) (B : TxB mg) : FnOk P w K mg base CX0 1 D.f D.fd ["_law_thing"] spLInt := by
  refine D.F.ok sc_Lint (fun vs H Q E h => ?_) (fun cdv A outer s H vs Q E hr h => ?_)
  · obtain ⟨x, rfl, _⟩ := h
    rfl
  · obtain ⟨x, rfl, hx, hq⟩ := h
    refine ⟨_, (pss_one (ps_ret (pe_and (pe_callB call_isi (by rfl) B.isinstance (by decide +kernel) (pa_cons (pv 0) (pa_cons (pe_bltn (by rfl) B.int (by decide +kernel) (v := .ty "int") rfl) pa_nil)))
        (pe_one (pe_not (pe_callB call_isi (by rfl) B.isinstance (by decide +kernel) (pa_cons (pv 0) (pa_cons (pe_bltn (by rfl) B.bool (by decide +kernel) (v := .ty "bool") rfl) pa_nil)))))))), ?_⟩
    obtain ⟨ty, hty, _, k2, k3⟩ := hx.ty (K := K)
    refine ⟨_, rfl, _, _, _, _, isI x, rfl, .ty "int", hty, k2, _, rfl, ?_⟩
    rcases hx with ⟨z, rfl, lz⟩ | rfl | ⟨i, rfl⟩ | ⟨b, rfl⟩ | ⟨a, xs, rfl, _⟩ | ⟨a, xs, rfl, _⟩ | ⟨a, xs, rfl, _⟩
    · exact iteF hq
    · exact iteF hq
    · exact iteT ⟨_, rfl, _, _, _, _, false, rfl, .ty "bool", hty, k3, _, rfl, hq⟩
    · exact iteT ⟨_, rfl, _, _, _, _, true, rfl, .ty "bool", hty, k3, _, rfl, hq⟩
    · exact iteF hq
    · exact iteF hq
    · exact iteF hq
theorem sc_Ir : FnScope ["_law_thing"] ["_law_thing"] (defScope s_L_is_range) := ⟨rfl, rfl, rfl, by decide +kernel, rfl, by decide +kernel, by decide +kernel⟩
theorem int_num {x : V} (h : intB x = false) (n : Int) : numB n x = false := by cases x <;> first | rfl | cases h
theorem ok_Ir (D : DefAt K mg "_law_is_range" s_L_is_range ["_law_thing"]) (B : TxB mg) (Di : DefAt K mg "_law_is_integer" s_L_is_integer ["_law_thing"]) : FnOk P w K mg base CX0 2 D.f D.fd ["_law_thing"] spIsRangeG := by
  have Gi : FnOk P w K mg base CX0 1 Di.f Di.fd ["_law_thing"] spLInt := ok_Lint Di B
  refine D.F.ok sc_Ir (fun vs H Q E h => ?_) (fun cdv A outer s H vs Q E hr h => ?_)
  · obtain ⟨y, cs, rfl, _⟩ := h
    rfl
  · obtain ⟨y, cs, rfl, hy, hq⟩ := h
    refine ⟨_, pss_cons (ps_if (PW.pt (pw_or (pt_not (pt_val (pe_callB call_isiT (by rfl) B.isinstance (by decide +kernel) (pa_cons (pv 0) (pa_cons (pe_tup (pa_cons (pe_bltn (by rfl) B.list (by decide +kernel) (v := .ty "list") rfl) (pa_cons (pe_bltn (by rfl) B.tuple (by decide +kernel) (v := .ty "tuple") rfl) pa_nil))) pa_nil)))))
        (pw_or1 (pt_cmpR op_ne (pe_callB call_len_seq (by rfl) B.len PySem.boot_len (pa_cons (pv 0) pa_nil)) pe_int (nomark _))))) (pss_one (ps_ret pe_bl)) pss_nil)
      (pss_cons (ps_if (PW.pt (pw_or (pt_not (pt_val (pe_call Gi hr rfl Di.g Di.F.kp Di.b .nil pass0 (pa_cons (pe_ix ix_seq (pv 0) pe_int (fun _ _ => rfl)) pa_nil)))) (pw_or1 (pt_cmpR op_lt (pe_ix ix_seq (pv 0) pe_int (fun _ _ => rfl)) pe_int (nomark _))))) (pss_one (ps_ret pe_bl)) pss_nil)
      (pss_one (ps_ret (pe_or (pe_cmpR op_isN (pe_ix ix_seq (pv 0) pe_int (fun _ _ => rfl)) pe_non (nomark _)) (pe_one (pe_and (pe_call Gi hr rfl Di.g Di.F.kp Di.b .nil pass0 (pa_cons (pe_ix ix_seq (pv 0) pe_int (fun _ _ => rfl)) pa_nil)) (pe_one (pe_cmpR op_ge (pe_ix ix_seq (pv 0) pe_int (fun _ _ => rfl)) (pe_ix ix_seq (pv 0) pe_int (fun _ _ => rfl)) (nomark _))))))))), ?_⟩
    refine ⟨_, rfl, (by show 2 ≤ sizeLine; decide), fun tp htp => ?_⟩
    have s1 : Same H (upd H tp (.tup [.ty "list", .ty "tuple"])) := Same.new htp
    rcases hy with ⟨hn, rfl⟩ | ⟨a, rfl, ha, l10, hcell⟩
    · obtain ⟨ty0, ty, kk⟩ := (hn.ext (Same.x s1)).ty (K := K)
      exact ⟨_, tp, _, ty0, _, false, rfl, upd_same, .cons (.ty "list") (.cons (.ty "tuple") .nil), ty, kk, _, rfl, iteT (hq _ s1)⟩
    obtain ⟨t, ty, kk⟩ := (ha.same s1).ty (K := K)
    refine ⟨_, tp, _, t, _, true, rfl, upd_same, .cons (.ty "list") (.cons (.ty "tuple") .nil), ty, kk, _, rfl, iteF ?_⟩
    refine ⟨_, rfl, a, _, rfl, (ha.same s1).or, rfl, _, rfl, ?_⟩
    have e2 : (!decide (V.int (cs.length : Nat) = V.int 2)) = decide (cs.length ≠ 2) := by
      by_cases h : cs.length = 2
      · rw [h]; rfl
      · rw [decide_eq_true h, decide_eq_false (fun e => h (by have := V.int.inj e; omega))]; rfl
    rw [e2]
    by_cases h2 : cs.length = 2
    · rw [decide_eq_false (fun h => h h2)]
      refine iteF ?_
      obtain ⟨c1, c2, rfl⟩ : ∃ c1 c2, cs = [c1, c2] := by
        match cs, h2 with
        | [c1, c2], _ => exact ⟨_, _, rfl⟩
      have hq1 := hq _ s1
      have un : SqL K (upd H tp (.tup [.ty "list", .ty "tuple"])) a [c1, c2] ∨ SqT K (upd H tp (.tup [.ty "list", .ty "tuple"])) a [c1, c2] := (ha.same s1).or
      have hx1 := (hcell c1 (by simp)).ext (Same.x s1)
      have hx2 := (hcell c2 (by simp)).ext (Same.x s1)
      generalize upd H tp (.tup [.ty "list", .ty "tuple"]) = H1 at hq1 un hx1 hx2
      have at0 : ∀ {Q : VK}, Q c1 H1 → rIx K (.ref a) (.int 0) H1 Q := fun q => un.elim (fun u => .inl ⟨a, _, 0, c1, rfl, rfl, u, rfl, q⟩) fun u => .inr (.inl ⟨a, _, 0, c1, rfl, rfl, u, rfl, q⟩)
      have at1 : ∀ {Q : VK}, Q c2 H1 → rIx K (.ref a) (.int 1) H1 Q := fun q => un.elim (fun u => .inl ⟨a, _, 1, c2, rfl, rfl, u, rfl, q⟩) fun u => .inr (.inl ⟨a, _, 1, c2, rfl, rfl, u, rfl, q⟩)
      refine ⟨_, rfl, at0 ⟨c1, rfl, hx1, _, rfl, ?_⟩⟩
      cases b1 : intB c1 with
      | false =>
        have : rangeB [c1, c2] = false := by simp [rangeB, int_num b1]
        rw [this] at hq1
        exact iteT hq1
      | true =>
        obtain ⟨i, rfl⟩ : ∃ i, c1 = .int i := by cases c1 <;> first | exact ⟨_, rfl⟩ | cases b1
        refine iteF ⟨_, rfl, at0 ⟨i, 0, rfl, rfl, _, rfl, ?_⟩⟩
        by_cases h0 : i < 0
        · rw [decide_eq_true h0]
          have : rangeB [.int i, c2] = false := by simp [rangeB, numB, show ¬ (0 ≤ i) by omega]
          rw [this] at hq1
          exact iteT hq1
        rw [decide_eq_false h0]
        refine iteF ⟨_, rfl, at1 ⟨rfl, _, rfl, ?_⟩⟩
        have n0 : numB 0 (.int i) = true := decide_eq_true (by omega)
        by_cases e : c2 = .non
        · subst e
          have : rangeB [.int i, .non] = true := by show (numB 0 (.int i) && true) = true; rw [n0]; rfl
          rw [this] at hq1
          rw [decide_eq_true (show V.non = V.non from rfl)]
          exact iteT hq1
        · have : rangeB [.int i, c2] = numB i c2 := by
            cases c2 <;> first | exact absurd rfl e | (show (numB 0 (.int i) && _) = _; rw [n0]; rfl)
          rw [this] at hq1
          rw [decide_eq_false e]
          refine iteF ⟨_, rfl, at1 ⟨c2, rfl, hx2, _, rfl, ?_⟩⟩
          cases b2 : intB c2 with
          | false =>
            rw [int_num b2] at hq1
            exact iteF hq1
          | true =>
            obtain ⟨j, rfl⟩ : ∃ j, c2 = .int j := by cases c2 <;> first | exact ⟨_, rfl⟩ | cases b2
            exact iteT ⟨_, rfl, at1 ⟨_, rfl, at0 ⟨j, i, rfl, rfl, hq1⟩⟩⟩
    · rw [decide_eq_true h2]
      have : rangeB cs = false := by
        unfold rangeB
        split
        · exact absurd rfl h2
        · rfl
      have hq1 := hq _ s1
      rw [this] at hq1
      exact iteT hq1
end
end Ts

set_option maxRecDepth 100000
set_option maxHeartbeats 4000000
namespace Ts
open PySem L2
/-- what stands between two turns -/
structure RowsJ (a p fl nl : Addr) (H0 H : Hp) (ks : List Str) (ps : List (Option Int)) (m : Int) (i : Nat) (as : List Addr) (rs : List Row) (fs : List Str) : Prop where
  hp : H p = some (.lst (as.map V.ref))
  hf : H fl = some (.lst ((("top" : Str) :: fs).map V.str))
  fsub : ∀ z ∈ fs, z ∈ folderNames rs
  flen : fs.length ≤ i
  hn : H nl = some (.lst ((("top" : Str) :: rs.map (·.nm)).map V.str))
  rows : RowsAt H as rs
  val : Valid rs
  len : rs.length ≤ i
  mem : ∀ r ∈ rs, r.ki ∈ ks ∧ r.pr ∈ ps ∧ Drawn r.nm
  sb : SB a H0 H
  st : Stm H a m
theorem RowsJ.step {a p fl nl : Addr} {H0 H H' : Hp} {ks : List Str} {ps : List (Option Int)} {m m' : Int} {i j : Nat} {as : List Addr} {rs : List Row} {fs : List Str} (h : RowsJ a p fl nl H0 H ks ps m i as rs fs) (np : p ≠ a) (nf : fl ≠ a) (nn : nl ≠ a) (s : SB a H H') (hs : Stm H' a m') (hj : i ≤ j) :
    RowsJ a p fl nl H0 H' ks ps m' j as rs fs := by
  obtain ⟨x, y, z, e, _⟩ := id h.st
  exact ⟨s _ _ np h.hp, s _ _ nf h.hf, h.fsub, Nat.le_trans h.flen hj, s _ _ nn h.hn, h.rows.sb e s, h.val, Nat.le_trans h.len hj, h.mem, h.sb.trans s, hs⟩
section
variable {P : Program} {w : World} {K : PySem.W.Frag} {mg : Str → Option Value} {base : Heap}
theorem ok_rows (Dw : DefAt K mg "_law_way" s_L_way ["_law_rows_here", "_law_box"]) (D : DefAt K mg "_law_rows" s_L_rows ["_law_stream_here", "_law_many", "_law_kinds", "_law_prices"]) (Dn : DefAt K mg "_law_name" s_L_name ["_law_stream_here"]) (Dp : DefAt K mg "_law_pick" s_L_pick ["_law_stream_here", "_law_things"]) (Dd : DefAt K mg "_law_draw" s_L_draw ["_law_stream_here", "_law_many"]) (B : TxB mg) :
    FnOk P w K mg base CX0 5 D.f D.fd ["_law_stream_here", "_law_many", "_law_kinds", "_law_prices"] (spRows K) := by
  have Gp : FnOk P w K mg base CX0 3 Dp.f Dp.fd ["_law_stream_here", "_law_things"] (spPick K) := ok_pick Dp Dd B
  have Gn : FnOk P w K mg base CX0 4 Dn.f Dn.fd ["_law_stream_here"] spName := ok_name Dn Dp Dd B
  have Gw : FnOk P w K mg base CX0 2 Dw.f Dw.fd ["_law_rows_here", "_law_box"] spWay := ok_way Dw B
  refine D.F.ok sc_rows (fun vs H Q E h => ?_) (fun cdv A outer s H vs Q E hr h => ?_)
  · obtain ⟨a, kl, pl, many, n, ks, ps, rfl, _⟩ := h
    rfl
  · obtain ⟨a, kl, pl, many, n, ks, ps, rfl, hs, hn, hm0, hm1, hka, hpa, hks, hps, k1, k2, p1, p2, hkok, hpok, hq⟩ := h
    have hr2 : Room 3 _ := hr.mono (by decide)
    have hr1 : Room 2 _ := hr.mono (by decide)
    refine ⟨_, pss_cons (ps_par3 (i := 4) (j := 5) (l := 6) rfl sc_rows.nd rfl rfl rfl (by decide) (by decide) (by decide) rfl rfl rfl (pa_cons (pe_lst pa_nil) (pa_cons (pe_lst (pa_cons pe_str pa_nil)) (pa_cons (pe_lst (pa_cons pe_str pa_nil)) pa_nil))) (by rfl))
      (pss_cons (ps_for PassesOwn.never rfl (pi_range1 (by rfl) B.range (pa_cons (pv 1) pa_nil)) (pg_name (i := 7) sc_rows.nd rfl (Or.inl rfl))
        (pss_cons (ps_set (i := 8) sc_rows.nd rfl (.inl rfl) (pe_call Gn hr rfl Dn.g Dn.F.kp Dn.b .nil pass0 (pa_cons (pv 0) pa_nil)))
        (C8.pss_cut (ps_if (pt_cmpR op_in_seq (pv 8) (pv 6) (by rfl)) (pss_one (ps_set (i := 8) sc_rows.nd rfl (.inl rfl) (pe_op op_add_str (pe_op op_add_str pe_str (pe_item_str pe_str (pe_op op_mod (pv 7) pe_int) (fun _ _ => rfl))) (pe_item_str pe_str (pe_op op_mod (pe_op op_fdiv (pv 7) pe_int) pe_int) (fun _ _ => rfl))))) pss_nil)
        (pss_cons (ps_par (i := 9) (j := 10) rfl sc_rows.nd rfl rfl (by decide) rfl rfl (pa_cons (pe_call Gp hr2 rfl Dp.g Dp.F.kp Dp.b .nil pass0 (pa_cons (pv 0) (pa_cons (pv 2) pa_nil))) (pa_cons (pe_call Gp hr2 rfl Dp.g Dp.F.kp Dp.b .nil pass0 (pa_cons (pv 0) (pa_cons (pe_op op_cat (pe_slice sl_list (pv 5) (po_some (pe_un un_neg pe_int)) po_none) (pe_lst (pa_cons pe_str pa_nil))) pa_nil))) pa_nil)) (by rfl))
        (pss_one (ps_if (pt_cmpR op_notIn_seq (pv 8) (pv 6) (by rfl))
          (pss_cons (ps_expr (pe_bm PySem.F.plainAttrs_list PySem.F.slot_list_append PySem.F.type_list_append mt_append (pv 6) (pa_cons (pv 8) pa_nil)))
          (pss_cons (ps_expr (pe_bm PySem.F.plainAttrs_list PySem.F.slot_list_append PySem.F.type_list_append mt_append (pv 4) (pa_cons (pe_tup (pa_cons (pv 8) (pa_cons (pv 10) (pa_cons (pv 9) (pa_cons (pe_call Gp hr2 rfl Dp.g Dp.F.kp Dp.b .nil pass0 (pa_cons (pv 0) (pa_cons (pv 3) pa_nil))) pa_nil))))) pa_nil)))
          (pss_one (ps_if (PW.pt (pw_and (pt_cmpR op_eq (pv 9) pe_str (nomark _)) (pw_and1 (pt_cmpR op_lt (pe_callB call_len_seq (by rfl) B.len PySem.boot_len (pa_cons (pe_call Gw hr1 rfl Dw.g Dw.F.kp Dw.b .nil pass0 (pa_cons (pv 4) (pa_cons (pv 8) pa_nil))) pa_nil)) pe_int (nomark _))))) (pss_one (ps_expr (pe_bm PySem.F.plainAttrs_list PySem.F.slot_list_append PySem.F.type_list_append mt_append (pv 5) (pa_cons (pv 8) pa_nil)))) pss_nil)))) pss_nil))))))
      (pss_one (ps_ret (pv 4)))), ?_⟩
    refine ⟨Nat.zero_le _, fun p hp => ⟨(by show 1 ≤ sizeLine; decide), fun fl hfl => ⟨(by show 1 ≤ sizeLine; decide), fun nl hnl => ⟨_, _, _, rfl, ?_⟩⟩⟩⟩
    have hpf : p ≠ fl := fun q => by rw [← q, upd_same] at hfl; cases hfl
    have hfn : fl ≠ nl := fun q => by rw [← q, upd_same] at hnl; cases hnl
    have hpn : p ≠ nl := fun q => by rw [← q, upd_ne hpf, upd_same] at hnl; cases hnl
    have sp : Same H (upd (upd (upd H p (.lst [])) fl (.lst [V.str ("top" : Str)])) nl (.lst [V.str ("top" : Str)])) := (Same.new hp).trans ((Same.new hfl).trans (Same.new hnl))
    have pa : p ≠ a := (hs.ne hp).symm
    have fa : fl ≠ a := ((hs.upd hp).ne hfl).symm
    have na : nl ≠ a := (((hs.upd hp).upd hfl).ne hnl).symm
    refine ⟨_, rfl, many, rfl, by omega, by omega, ?_⟩
    refine for_range (lo := 0) (n := many.toNat) (fun i σ H' => ∃ (as : List Addr) (rs : List Row) (fs : List Str) (vk vn vki vf : Option V), σ = [some (.ref a), some (.int many), some (.ref kl), some (.ref pl), some (.ref p), some (.ref fl), some (.ref nl), vk, vn, vki, vf] ∧ RowsJ a p fl nl H H' ks ps (n + 13 * i) i as rs fs) ?_ ?_ ?_
    · refine ⟨[], [], [], none, none, none, none, rfl, ⟨?_, ?_, (fun z hz => by cases hz), Nat.le_refl _, upd_same, RowsAt.nil, Valid.nil, Nat.le_refl _, (fun r hr => by cases hr), SB.of sp, by simpa using hs.same sp⟩⟩
      · rw [upd_ne hpn, upd_ne hpf, upd_same]; rfl
      · rw [upd_ne hfn, upd_same]; rfl
    · rintro i σ H1 hi ⟨as, rs, fs, vk, vn, vki, vf, rfl, R⟩
      have hi40 : i < 40 := by omega
      have hrl := R.len
      refine ⟨_, rfl, a, _, rfl, R.st, by omega, fun z H2 hz hs2 sb2 => ?_⟩
      have R2 := R.step pa fa na sb2 hs2 (Nat.le_refl i)
      refine ⟨fun σ' H' => ∃ (z : Str), Drawn z ∧ σ' = [some (.ref a), some (.int many), some (.ref kl), some (.ref pl), some (.ref p), some (.ref fl), some (.ref nl), some (.int (0 + i)), some (.str z), vki, vf] ∧ H' = H2, ?_, ?_⟩
      · refine ⟨_, rfl, _, rfl, nl, _, rfl, .inl (SqL.of R2.hn), rfl, flat_strs _, _, rfl, ?_⟩
        refine ite2 (fun _ => ?_) (fun _ => ?_)
        · obtain ⟨c, hc, lc⟩ := sign_at low_aj (r := (0 + (i : Int)) % 10) (by omega) (by rw [len_aj]; omega)
          obtain ⟨d, hd, ld⟩ := sign_at low_kp (r := ((0 + (i : Int)) / 10) % 6) (by omega) (by rw [len_kp]; omega)
          refine ⟨_, rfl, _, _, rfl, rfl, (by show (0 : Int) < 10; decide), _, _, c, rfl, rfl, by omega, by omega, by rw [len_aj]; omega, hc, _, _, rfl, rfl, (by show 2 ≤ sizeLine; decide), ?_⟩
          refine ⟨_, rfl, _, _, rfl, rfl, ⟨by decide, by decide⟩, _, _, rfl, rfl, (by show (0 : Int) < 6; decide), _, _, d, rfl, rfl, by omega, by omega, by rw [len_kp]; omega, hd, _, _, rfl, rfl, (by show 3 ≤ sizeLine; decide), ?_⟩
          exact ⟨_, ⟨.inr (.inr (.inl (by rw [len_cat, len_cat, len_q]; rfl))), low_cat (low_cat low_q lc) ld⟩, rfl, rfl⟩
        · exact ⟨z, hz, rfl, rfl⟩
      · rintro σ' H' ⟨z, hz, rfl, rfl⟩
        refine ⟨_, rfl, _, rfl, .inl ⟨a, kl, _, _, rfl, R2.st, by omega, hka, R2.sb.seqL hka hks, by simpa using k1, by simp; omega, fun v H3 hv hs3 sb3 _ => ?_⟩⟩
        obtain ⟨ki, hki, rfl⟩ := List.mem_map.mp hv
        have R3 := R2.step pa fa na sb3 hs3 (Nat.le_refl i)
        refine ⟨_, rfl, _, rfl, _, rfl, _, rfl, fl, _, rfl, SqL.of R3.hf, fun q1 hq1 => ⟨(by show 1 ≤ sizeLine; decide), fun q2 hq2 => ?_⟩⟩
        have q12 : q1 ≠ q2 := fun e => by rw [← e, upd_same] at hq2; cases hq2
        have hcl := cutV_length ((("top" : Str) :: fs).map V.str) (some (-4)) none
        have hfle : fs.length ≤ rs.length + 40 := by have := R.flen; omega
        refine ⟨q1, q2, _, _, rfl, rfl, by rw [upd_ne q12]; exact upd_same, upd_same, ?_, fun q3 hq3 => ?_⟩
        · refine szl ?_
          rw [List.length_map, List.length_cons] at hcl
          show _ + 1 ≤ 1000
          omega
        have s4 := (Same.new (o := .lst (cutV ((("top" : Str) :: fs).map V.str) (some (-4)) none)) hq1).trans ((Same.new (o := .lst [V.str ("top" : Str)]) hq2).trans (Same.new (o := .lst (cutV ((("top" : Str) :: fs).map V.str) (some (-4)) none ++ [V.str ("top" : Str)])) hq3))
        have R4 := R3.step pa fa na (SB.of s4) (hs3.same s4) (Nat.le_refl i)
        have q3a : q3 ≠ a := (((hs3.upd hq1).upd hq2).ne hq3).symm
        refine .inl ⟨a, q3, _, _, rfl, R4.st, by omega, q3a, SqL.of upd_same, by simp, ?_, fun v2 H5 hv2 hs5 sb5 _ => ?_⟩
        · rw [List.length_append]
          rw [List.length_map, List.length_cons] at hcl
          show _ + 1 ≤ 1000000
          omega
        obtain ⟨fo, hfo, rfl⟩ : ∃ fo : Str, (fo = ("top" : Str) ∨ fo ∈ fs) ∧ v2 = .str fo := by
          rcases List.mem_append.mp hv2 with h | h
          · obtain ⟨fo, h1, rfl⟩ := List.mem_map.mp (mem_cutV h)
            exact ⟨fo, List.mem_cons.mp h1, rfl⟩
          · exact ⟨_, .inl rfl, List.mem_singleton.mp h⟩
        have R5 := R4.step pa fa na sb5 hs5 (Nat.le_refl i)
        refine ⟨_, _, rfl, _, rfl, _, rfl, nl, _, rfl, .inl (SqL.of R5.hn), rfl, flat_strs _, _, rfl, ?_⟩
        have hin : (if true = true then !inV (.str z) ((("top" : Str) :: rs.map (·.nm)).map V.str) else inV (.str z) ((("top" : Str) :: rs.map (·.nm)).map V.str)) = !decide (z ∈ (("top" : Str) :: rs.map (·.nm))) := by
          rw [if_pos rfl, inV_strs]
        refine ite2 (fun hc => ?_) (fun _ => ?_)
        · have hc' : (if true = true then !inV (.str z) ((("top" : Str) :: rs.map (·.nm)).map V.str) else inV (.str z) ((("top" : Str) :: rs.map (·.nm)).map V.str)) = true := hc
          rw [hin] at hc'
          have hz' : z ∉ (("top" : Str) :: rs.map (·.nm)) := by simpa using hc'
          have l41 : ((("top" : Str) :: rs.map (·.nm)).map V.str).length ≤ 1000 := by rw [List.length_map, List.length_cons, List.length_map]; omega
          refine ⟨_, rfl, .inl ⟨rfl, _, SqL.of R5.hn⟩, _, rfl, nl, _, _, rfl, rfl, R5.hn, small1000 l41, ?_⟩
          have n1 : ∀ {b : Addr}, b ≠ nl → (upd H5 nl (.lst ((("top" : Str) :: rs.map (·.nm)).map V.str ++ [V.str z]))) b = H5 b := fun h => upd_ne h
          have st6 : Stm (upd H5 nl (.lst ((("top" : Str) :: rs.map (·.nm)).map V.str ++ [V.str z]))) a (n + 13 * (i : Int) + 9 + 1 + 1) := by
            obtain ⟨x, y, u, e, r⟩ := R5.st
            exact ⟨x, y, u, by rw [n1 na.symm]; exact e, r⟩
          have sb6 : SB a H (upd H5 nl (.lst ((("top" : Str) :: rs.map (·.nm)).map V.str ++ [V.str z]))) := fun b o hb e => by
            rw [n1 (fun q => by rw [q] at e; have := sp _ _ e; rw [upd_same] at this; have h2 := (Same.new (o := .lst []) hp).trans (Same.new (o := .lst [V.str ("top" : Str)]) hfl); have h3 := h2.free hnl; rw [h3] at e; cases e)]
            exact R5.sb b o hb e
          refine ⟨_, rfl, .inl ⟨rfl, _, SqL.of (by rw [n1 hpn]; exact R5.hp)⟩, _, rfl, _, rfl, _, rfl, _, rfl, _, rfl, .inl ⟨a, pl, _, _, rfl, st6, by omega, hpa, sb6.seqL hpa hps, by simpa using p1, by simp; omega, fun v3 H7 hv3 hs7 sb7 _ => ?_⟩⟩
          obtain ⟨pr, hpr, rfl⟩ := List.mem_map.mp hv3
          refine ⟨(by show 4 ≤ sizeLine; decide), fun t ht => ?_⟩
          have hp7 : H7 p = some (.lst (as.map V.ref)) := sb7 _ _ pa (by rw [n1 hpn]; exact R5.hp)
          have hf7 : H7 fl = some (.lst ((("top" : Str) :: fs).map V.str)) := sb7 _ _ fa (by rw [n1 hfn]; exact R5.hf)
          have hn7 : H7 nl = some (.lst ((("top" : Str) :: rs.map (·.nm)).map V.str ++ [V.str z])) := sb7 _ _ na upd_same
          have tp : p ≠ t := ne_of_none hp7 ht
          have tf : fl ≠ t := ne_of_none hf7 ht
          have tn : nl ≠ t := ne_of_none hn7 ht
          have ta : a ≠ t := hs7.ne ht
          have rows7 : RowsAt H7 as rs := ⟨R5.rows.len, fun j b r hb hr => sb7 _ _ (fun q => by
            obtain ⟨x, y, u, e, _⟩ := R5.st
            have e2 := R5.rows.at_ j b r hb hr
            rw [q, e] at e2; cases e2) (by rw [n1 (fun q => by have e2 := R5.rows.at_ j b r hb hr; rw [q, R5.hn] at e2; cases e2)]; exact R5.rows.at_ j b r hb hr)⟩
          have al : (as.map V.ref).length ≤ 1000 := by rw [List.length_map, R5.rows.len]; omega
          refine ⟨p, _, _, rfl, rfl, by rw [upd_ne tp]; exact hp7, small1000 al, ?_⟩
          have g : ∀ {b : Addr}, b ≠ p → b ≠ t → (upd (upd H7 t (.tup [V.str z, V.str fo, V.str ki, prV pr])) p (.lst (as.map V.ref ++ [V.ref t]))) b = H7 b := fun h1 h2 => by rw [upd_ne h1, upd_ne h2]
          have fits : Fits rs ⟨z, fo, ki, pr⟩ := ⟨hz.shape, fun q => hz' (List.mem_cons.mpr (.inl q)), fun q => hz' (List.mem_cons.mpr (.inr q)), hfo.imp id (fun h => mem_folders (R5.fsub _ h)), hkok ki hki, hpok pr hpr⟩
          have valS := R5.val.snoc fits
          have rowsT : ∀ {b : Addr} {xs : List V}, H7 b = some (.tup xs) → (upd (upd H7 t (.tup [V.str z, V.str fo, V.str ki, prV pr])) p (.lst (as.map V.ref ++ [V.ref t]))) b = some (.tup xs) := fun {b xs} h => by
            rw [g (fun y => by rw [y, hp7] at h; cases h) (ne_of_none h ht)]; exact h
          have rows8 : RowsAt (upd (upd H7 t (.tup [V.str z, V.str fo, V.str ki, prV pr])) p (.lst (as.map V.ref ++ [V.ref t]))) (as ++ [t]) (rs ++ [⟨z, fo, ki, pr⟩]) := RowsAt.snoc ⟨rows7.len, fun j b r hb hr => rowsT (rows7.at_ j b r hb hr)⟩ (Eq.trans (upd_ne tp.symm) upd_same)
          have ep8 : (upd (upd H7 t (.tup [V.str z, V.str fo, V.str ki, prV pr])) p (.lst (as.map V.ref ++ [V.ref t]))) p = some (.lst ((as ++ [t]).map V.ref)) := by rw [upd_same, List.map_append]; rfl
          have ef8 := Eq.trans (g hpf.symm tf) hf7
          have en8 := Eq.trans (g hpn.symm tn) hn7
          have ea8 : ∀ {b : Addr} {o : HO}, b ≠ a → H b = some o → (upd (upd H7 t (.tup [V.str z, V.str fo, V.str ki, prV pr])) p (.lst (as.map V.ref ++ [V.ref t]))) b = some o := fun {b o} hb eb => by
            have e0 := sb7 b o hb (sb6 b o hb eb)
            rw [g (fun x => by rw [x, hp] at eb; cases eb) (ne_of_none e0 ht)]
            exact e0
          have st8 := hs7
          have es8 : (upd (upd H7 t (.tup [V.str z, V.str fo, V.str ki, prV pr])) p (.lst (as.map V.ref ++ [V.ref t]))) a = H7 a := g pa.symm ta
          generalize upd (upd H7 t (.tup [V.str z, V.str fo, V.str ki, prV pr])) p (.lst (as.map V.ref ++ [V.ref t])) = H8 at rows8 ep8 ef8 en8 ea8 es8
          have nfl : ∀ {b : Addr} {o : HO}, H b = some o → b ≠ fl := fun {b o} eb x => by rw [x, (Same.new (o := .lst []) hp).free hfl] at eb; cases eb
          have fin : ∀ (fs' : List Str) (H9 : Hp), (∀ y ∈ fs', y ∈ folderNames (rs ++ [⟨z, fo, ki, pr⟩])) → fs'.length ≤ i + 1 → (∀ b o, b ≠ fl → H8 b = some o → H9 b = some o) → H9 fl = some (.lst ((("top" : Str) :: fs').map V.str)) →
              RowsJ a p fl nl H H9 ks ps (n + 13 * ((i + 1 : Nat) : Int)) (i + 1) (as ++ [t]) (rs ++ [⟨z, fo, ki, pr⟩]) fs' := by
            intro fs' H9 hsub hlen hk hf9
            refine ⟨hk _ _ hpf ep8, hf9, hsub, hlen, ?_, ⟨rows8.len, fun j b r hb hr => hk _ _ (fun x => by have := rows8.at_ j b r hb hr; rw [x, ef8] at this; cases this) (rows8.at_ j b r hb hr)⟩, valS, by simp; omega, fun r hr => ?_, fun b o hb eb => hk _ _ (nfl eb) (ea8 hb eb), ?_⟩
            · rw [hk _ _ hfn.symm en8]; simp
            · rcases List.mem_append.mp hr with h | h
              · exact R5.mem r h
              · rw [List.mem_singleton.mp h]; exact ⟨hki, hpr, hz⟩
            · obtain ⟨x1, y1, u1, e1, r1⟩ := st8
              exact ⟨x1, y1, u1, hk _ _ fa.symm (es8.trans e1), r1.1, r1.2.1, r1.2.2.1, r1.2.2.2.1, by have := r1.2.2.2.2; push_cast; omega⟩
          have sub0 : ∀ y ∈ fs, y ∈ folderNames (rs ++ [⟨z, fo, ki, pr⟩]) := fun y hy => by
            rw [folders_snoc]
            exact List.mem_append_left _ (R5.fsub y hy)
          have flen5 := R5.flen
          refine ⟨_, rfl, rfl, _, rfl, ?_⟩
          refine ite2 (fun hk => ?_) (fun hk => ?_)
          · have hk' : ki = ("folder" : Str) := V.str.inj (of_decide_eq_true hk)
            refine ⟨_, rfl, _, rfl, p, z, _, rfl, ⟨_, ep8, rows8⟩, valS, by rw [List.length_append]; show _ + 1 ≤ 100; omega, .inr (List.mem_map.mpr ⟨⟨z, fo, ki, pr⟩, List.mem_append_right _ (List.mem_singleton.mpr rfl), rfl⟩), fun Dw H9 hDw s9 e9 => ?_⟩
            refine ⟨Dw, _, rfl, .inl (SqL.of e9), _, _, rfl, rfl, _, rfl, ?_⟩
            have ef9 := s9 _ _ ef8
            refine ite2 (fun _ => ?_) (fun _ => ?_)
            · refine ⟨_, rfl, .inl ⟨rfl, _, SqL.of ef9⟩, _, rfl, fl, _, _, rfl, rfl, ef9, small1000 (by rw [List.length_map, List.length_cons]; omega), ?_⟩
              refine ⟨_, _, fs ++ [z], _, _, _, _, rfl, fin (fs ++ [z]) _ (fun y hy => ?_) (by rw [List.length_append]; show _ + 1 ≤ _; omega) (fun b o nb e => by rw [upd_ne nb]; exact s9 _ _ e) ?_⟩
              · rcases List.mem_append.mp hy with hy | hy
                · exact sub0 y hy
                · rw [folders_snoc, List.mem_singleton.mp hy]
                  exact List.mem_append_right _ (by rw [if_pos hk']; exact List.mem_singleton.mpr rfl)
              · rw [upd_same]; simp
            · exact ⟨_, _, fs, _, _, _, _, rfl, fin fs H9 sub0 (by omega) (fun b o _ e => s9 _ _ e) ef9⟩
          · exact ⟨_, _, fs, _, _, _, _, rfl, fin fs H8 sub0 (by omega) (fun b o _ e => e) ef8⟩
        · exact ⟨as, rs, fs, _, _, _, _, rfl, R5.step pa fa na (SB.refl _ _) (R5.st.mono (by push_cast; omega)) (Nat.le_succ i)⟩
    · rintro σ H1 ⟨as, rs, fs, vk, vn, vki, vf, rfl, R⟩
      have e : ((many.toNat : Nat) : Int) = many := by omega
      exact ⟨_, rfl, hq p as rs H1 hp pa R.hp R.rows R.val (by have := R.len; omega) R.mem R.sb (by have := R.st; rw [e] at this; exact this)⟩
end
end Ts

set_option maxRecDepth 100000
set_option maxHeartbeats 4000000
namespace Ts
open PySem L2
/-! ### a name that no box has -/
def abc26 : List Nat := [97, 98, 99, 100, 101, 102, 103, 104, 105, 106, 107, 108, 109, 110, 111, 112, 113, 114, 115, 116, 117, 118, 119, 120, 121, 122]
def spares : List Str := abc26.map (fun c => ("y" : Str) ++ ⟨#[c]⟩) ++ (["yyyyyyyy"] : List Str)
theorem spares_nodup : spares.Nodup := by decide +kernel
theorem spares_shape : ∀ z ∈ spares, (z.length = 2 ∨ z.length = 8) ∧ ∀ c ∈ z.cps.toList, 97 ≤ c ∧ c ≤ 122 := by decide +kernel
theorem spares_top : ("top" : Str) ∉ spares := by decide +kernel
theorem abc_sub : ∀ (c : Nat) (i : Nat), ("abcdefghijklmnopqrstuvwxyz" : Str).cps[i]? = some c → abc26[i]? = some c := by
  intro c i h
  have e : ("abcdefghijklmnopqrstuvwxyz" : Str).cps.toList = abc26 := by decide +kernel
  rw [← e, Array.getElem?_toList]
  exact h
theorem nodup_len : ∀ (l m : List Str), l.Nodup → (∀ x ∈ l, x ∈ m) → l.length ≤ m.length
  | [], _, _, _ => Nat.zero_le _
  | x :: l, m, h, hs => by
    have hx := hs x (.head _)
    have h2 := List.nodup_cons.mp h
    have ih := nodup_len l (m.erase x) h2.2 fun y hy => (List.mem_erase_of_ne (fun e => h2.1 (by rw [← e]; exact hy))).mpr (hs y (.tail _ hy))
    rw [List.length_erase_of_mem hx] at ih
    have : 0 < m.length := List.length_pos_of_mem hx
    rw [List.length_cons]
    omega
theorem spare_some {rs : List Row} (h : rs.length ≤ 20) : ∃ z r, spares.filter (fun z => decide (z ∉ names rs)) = z :: r := by
  cases e : spares.filter (fun z => decide (z ∉ names rs)) with
  | cons z r => exact ⟨z, r, rfl⟩
  | nil =>
    have hs : ∀ z ∈ spares, z ∈ names rs := fun z hz => by
      have := List.filter_eq_nil_iff.mp e z hz
      simpa using this
    have l1 : spares.length ≤ (names rs).length := nodup_len _ _ spares_nodup hs
    have l2 : spares.length = 27 := by decide +kernel
    unfold names at l1
    rw [List.length_map] at l1
    omega
def spSpare : Sp := fun vs H Q _ => ∃ (p : Addr) (rs : List Row), vs = [.ref p] ∧ RowsL H p rs ∧ rs.length ≤ 20 ∧ ∀ (z : Str) (H' : Hp), z ∉ names rs → z ≠ ("top" : Str) → NameShape z → Same H H' → Q (.str z) H'
section
variable {P : Program} {w : World} {K : PySem.W.Frag} {mg : Str → Option Value} {base : Heap} {C : Addr}
abbrev nSr : List Str := ["_law_rows_here", "_law_names", "_law_spare_here", "_law_row", "_law_letter", "_law_name_here"]
theorem sc_spare : FnScope nSr ["_law_rows_here"] (defScope s_L_spare) := ⟨rfl, rfl, rfl, by decide +kernel, rfl, by decide +kernel, by decide +kernel⟩
theorem ok_spare (D : DefAt K mg "_law_spare" s_L_spare ["_law_rows_here"]) : FnOk P w K mg base CX0 1 D.f D.fd ["_law_rows_here"] spSpare := by
  refine D.F.ok sc_spare (fun vs H Q E h => ?_) (fun cdv A outer s H vs Q E hr h => ?_)
  · obtain ⟨p, rs, rfl, _⟩ := h
    rfl
  · obtain ⟨p, rs, rfl, hL, hl, hq⟩ := h
    obtain ⟨as, hp, hrows⟩ := id hL.ex
    refine ⟨_, pss_cons (ps_asg (pe_tup (pa_cons (pe_lc (own := [("_law_row", 3)]) (g := gName 3) (tt := tYes) (te := tOp (rIxT K) (tVar 3) (tC (.int 0))) rfl sc_spare.nd (pi_list (pv 0)) (blkOk_by (N := nSr) (sc := defScope s_L_spare) (by decide +kernel))
            (fun _ _ _ _ _ => pg_name (i := 3) sc_spare.nd rfl (Or.inl rfl)) (fun _ _ _ _ _ => pts_nil) (fun _ _ _ _ _ => by exact pe_ix ix_tup (pv 3) pe_int (fun _ _ => rfl)))
          (pa_cons (pe_lc (own := [("_law_letter", 4)]) (g := gName 4) (tt := tYes) (te := tOp (fun x y H Q => ∃ i j, x = .str i ∧ y = .str j ∧ i.length + j.length ≤ sizeLine ∧ Q (.str (i ++ j)) H) (tC (.str ("y" : Str))) (tVar 4)) rfl sc_spare.nd (pi_str pe_str) (blkOk_by (N := nSr) (sc := defScope s_L_spare) (by decide +kernel))
            (fun _ _ _ _ _ => pg_name (i := 4) sc_spare.nd rfl (Or.inl rfl)) (fun _ _ _ _ _ => pts_nil) (fun _ _ _ _ _ => by exact pe_op op_add_str pe_str (pv 4))) pa_nil))) (pg_tup rfl (pgs_cons (pg_name (i := 1) sc_spare.nd rfl (.inr rfl)) (pgs_cons (pg_name (i := 2) sc_spare.nd rfl (.inl rfl)) pgs_nil))))
      (pss_one (ps_ret (pe_ix ix_list (pe_lc (own := [("_law_name_here", 5)]) (g := gName 5) (tt := tTest (tOp (rIn K true) (tVar 5) (tVar 1))) (te := tVar 5) rfl sc_spare.nd (pi_list (pe_op op_cat (pv 2) (pe_lst (pa_cons pe_str pa_nil)))) (blkOk_by (N := nSr) (sc := defScope s_L_spare) (by decide +kernel))
            (fun _ _ _ _ _ => pg_name (i := 5) sc_spare.nd rfl (Or.inl rfl)) (fun _ _ _ _ _ => by exact pts_one (pt_cmpR op_notIn_seq (pv 5) (pv 1) (by rfl))) (fun _ _ _ _ _ => pv 5)) pe_int (fun _ _ => rfl)))), ?_⟩
    refine ⟨_, rfl, p, rfl, ⟨_, SqL.of hp⟩, fun Dn hDn => ?_⟩
    refine lc_list (K := K) (a := p) (xs := as.map V.ref) (fun i H' => Same H H' ∧ H' Dn = some (.lst ((names (rs.take i)).map V.str))) ⟨Same.new hDn, upd_same⟩ (fun i H' _ m => SqL.of (m.1 _ _ hp)) ?_ ?_
    · rintro i x H3 hx ⟨s3, e3⟩
      obtain ⟨ra, r, rfl, hra, hr', e0⟩ := rows_at hrows hx
      refine ⟨rfl, tYes_if ⟨_, rfl, ra, _, _, _, rfl, rfl, sqT (s3 _ _ e0), atI0 _ _ _ _, _, e3, small1000 (by unfold names; rw [List.length_map, List.length_map, List.length_take]; omega), fun b o eb => ?_, ?_⟩⟩
      · rw [upd_ne (fun y => by rw [y, hDn] at eb; cases eb)]
        exact s3 _ _ eb
      · unfold names
        rw [upd_same, take_more hr', List.map_append, List.map_append]; rfl
    rintro H1 ⟨s1, e1⟩
    rw [List.length_map, hrows.len, List.take_length] at e1
    refine ⟨_, rfl, fun Ds hDs => ?_⟩
    refine lc_it (walk_str (z := ("abcdefghijklmnopqrstuvwxyz" : Str))) (fun i H' => Same H1 H' ∧ H' Ds = some (.lst ((abc26.take i).map fun c => V.str (("y" : Str) ++ ⟨#[c]⟩)))) ⟨Same.new hDs, upd_same⟩ (fun _ _ _ _ => trivial) ?_ ?_
    · rintro i x H8 H9 hi ⟨m, e⟩ ⟨rfl, c, hc, rfl⟩
      have hc' := abc_sub c i hc
      refine ⟨rfl, tYes_if ⟨_, rfl, ("y" : Str), ⟨#[c]⟩, rfl, rfl, szl (by rw [show ("y" : Str).length = 1 from by decide +kernel]; show 1 + 1 ≤ 1000; decide), _, e, small1000 (by rw [List.length_map, List.length_take]; have : abc26.length = 26 := rfl; omega), fun b o eb => ?_, ?_⟩⟩
      · rw [upd_ne (fun q => by rw [q, hDs] at eb; cases eb)]
        exact m _ _ eb
      · rw [upd_same, take_more hc', List.map_append]
        rfl
    rintro H2 ⟨s2, e2⟩
    rw [show ("abcdefghijklmnopqrstuvwxyz" : Str).cps.size = 26 from by decide +kernel] at e2
    have e2 : H2 Ds = some (.lst (abc26.map fun c => V.str (("y" : Str) ++ ⟨#[c]⟩))) := e2
    refine ⟨(by show 2 ≤ sizeLine; decide), fun tq htq => ⟨tq, _, rfl, sqT upd_same, rfl, _, _, rfl, _, _, rfl, rfl, ?_⟩⟩
    have s3 : Same H2 (upd H2 tq (.tup [.ref Dn, .ref Ds])) := Same.new htq
    generalize upd H2 tq (.tup [V.ref Dn, V.ref Ds]) = H3 at s3
    have eDn := s3 _ _ (s2 _ _ e1)
    have eDs := s3 _ _ e2
    refine ⟨_, rfl, (by show 1 ≤ sizeLine; decide), fun l1 hl1 => ?_⟩
    have s4 : Same H3 (upd H3 l1 (.lst [V.str ("yyyyyyyy" : Str)])) := Same.new hl1
    have e4 : (upd H3 l1 (.lst [V.str ("yyyyyyyy" : Str)])) l1 = some (.lst [V.str ("yyyyyyyy" : Str)]) := upd_same
    generalize upd H3 l1 (.lst [V.str ("yyyyyyyy" : Str)]) = H4 at s4 e4
    refine ⟨Ds, l1, _, _, rfl, rfl, s4 _ _ eDs, e4, (by show 27 ≤ sizeLine; decide), fun l2 hl2 => ?_⟩
    have s5 : Same H4 (upd H4 l2 (.lst ((abc26.map fun c => V.str (("y" : Str) ++ ⟨#[c]⟩)) ++ [V.str ("yyyyyyyy" : Str)]))) := Same.new hl2
    have e5 : (upd H4 l2 (.lst ((abc26.map fun c => V.str (("y" : Str) ++ ⟨#[c]⟩)) ++ [V.str ("yyyyyyyy" : Str)]))) l2 = some (.lst (spares.map V.str)) := upd_same
    generalize upd H4 l2 (.lst ((abc26.map fun c => V.str (("y" : Str) ++ ⟨#[c]⟩)) ++ [V.str ("yyyyyyyy" : Str)])) = H5 at s5 e5
    have eDn5 := s5 _ _ (s4 _ _ eDn)
    have S5 := s1.trans (s2.trans (s3.trans (s4.trans s5)))
    refine ⟨l2, rfl, ⟨_, SqL.of e5⟩, fun D3 hD3 => ?_⟩
    refine lc_list (K := K) (a := l2) (xs := spares.map V.str) (fun i H' => Same H5 H' ∧ H' D3 = some (.lst (((spares.take i).filter fun z => decide (z ∉ names rs)).map V.str))) ⟨Same.new hD3, upd_same⟩ (fun i H' _ m => SqL.of (m.1 _ _ e5)) ?_ ?_
    · rintro i x H8 hx ⟨m, e⟩
      rw [List.getElem?_map] at hx
      obtain ⟨z, hz, rfl⟩ := Option.map_eq_some_iff.mp hx
      refine ⟨rfl, _, rfl, _, rfl, Dn, _, rfl, .inl (SqL.of (m _ _ eDn5)), rfl, flat_strs _, _, rfl, ?_⟩
      show if (!inV (V.str z) ((names rs).map V.str)) = true then _ else _
      rw [inV_strs]
      by_cases hm : z ∈ names rs
      · rw [decide_eq_true hm]
        refine iteF ⟨m, ?_⟩
        rw [take_more hz, List.filter_append, List.filter_cons_of_neg (by simpa using hm), List.filter_nil, List.append_nil]
        exact e
      · rw [decide_eq_false hm]
        refine iteT ⟨_, rfl, _, e, small1000 (by
          rw [List.length_map]
          have h1 := List.length_filter_le (fun z => decide (z ∉ names rs)) (spares.take i)
          rw [List.length_take] at h1
          have : spares.length = 27 := by decide +kernel
          omega), fun b o eb => ?_, ?_⟩
        · rw [upd_ne (fun q => by rw [q, hD3] at eb; cases eb)]
          exact m _ _ eb
        · rw [upd_same, take_more hz, List.filter_append, List.filter_cons_of_pos (by simpa using hm), List.filter_nil, List.map_append]
          rfl
    rintro H6 ⟨m6, e6⟩
    rw [List.length_map, List.take_length] at e6
    obtain ⟨z, r, ez⟩ := spare_some hl
    rw [ez] at e6
    have hzm : z ∈ spares.filter (fun z => decide (z ∉ names rs)) := by rw [ez]; exact .head _
    obtain ⟨z1, z2⟩ := List.mem_filter.mp hzm
    refine ⟨D3, _, _, .str z, rfl, rfl, SqL.of e6, atI_nat (j := 0) rfl, ?_⟩
    have sh := spares_shape z z1
    exact hq z H6 (of_decide_eq_true z2) (fun q => spares_top (by rw [← q]; exact z1)) ⟨.inl (by omega), sh.2⟩ (S5.trans m6)
end
end Ts

set_option maxRecDepth 100000
set_option maxHeartbeats 4000000
namespace Ts
open PySem L2
def spLOpen : Sp := fun vs H Q _ => ∃ (p : Addr) (rs : List Row), vs = [.ref p] ∧ RowsL H p rs ∧ rs.length ≤ 100 ∧ ∀ D H', H D = none → Same H H' → H' D = some (.lst (((rs.filter fun r => decide (r.pr ≠ none)).map (·.nm)).map V.str)) → Q (.ref D) H'
section
variable {P : Program} {w : World} {K : PySem.W.Frag} {mg : Str → Option Value} {base : Heap} {C CM : Addr}
abbrev nLOpen : List Str := ["_law_rows_here", "_law_row"]
theorem sc_Lopen : FnScope nLOpen ["_law_rows_here"] (defScope s_L_open) := ⟨rfl, rfl, rfl, by decide +kernel, rfl, by decide +kernel, by decide +kernel⟩
theorem ok_Lopen (D : DefAt K mg "_law_open" s_L_open ["_law_rows_here"]) : FnOk P w K mg base CX0 2 D.f D.fd ["_law_rows_here"] spLOpen := by
  refine D.F.ok sc_Lopen (fun vs H Q E h => ?_) (fun cdv A outer s H vs Q E hr h => ?_)
  · obtain ⟨p, rs, rfl, _⟩ := h
    rfl
  · obtain ⟨p, rs, rfl, hL, hl, hq⟩ := h
    obtain ⟨as, hp, hrows⟩ := id hL.ex
    refine ⟨_, pss_one (ps_ret (pe_lc (own := [("_law_row", 1)]) (g := gName 1) (tt := tTest (tOp (fun x y H Q => y = .non ∧ Q (.bl (!decide (x = .non))) H) (tOp (rIxT K) (tVar 1) (tC (.int 3))) (tC .non))) (te := tOp (rIxT K) (tVar 1) (tC (.int 0))) rfl sc_Lopen.nd (pi_list (pv 0)) (blkOk_by (N := nLOpen) (sc := defScope s_L_open) (by decide +kernel))
        (fun _ _ _ _ _ => pg_name (i := 1) sc_Lopen.nd rfl (Or.inl rfl)) (fun _ _ _ _ _ => by exact pts_one (pt_cmpR op_notN (pe_ix ix_tup (pv 1) pe_int (fun _ _ => rfl)) pe_non (nomark _))) (fun _ _ _ _ _ => by exact pe_ix ix_tup (pv 1) pe_int (fun _ _ => rfl)))), ?_⟩
    refine ⟨_, rfl, p, rfl, ⟨_, SqL.of hp⟩, fun D hD => ?_⟩
    refine lc_list (K := K) (a := p) (xs := as.map V.ref) (fun i H' => Same H H' ∧ H' D = some (.lst ((((rs.take i).filter fun r => decide (r.pr ≠ none)).map (·.nm)).map V.str))) ⟨Same.new hD, upd_same⟩ (fun i H' _ m => m.1.seq (SqL.of hp)) ?_ ?_
    · rintro i x H3 hx ⟨s3, hD3⟩
      rw [List.getElem?_map] at hx
      obtain ⟨ra, hra, rfl⟩ := Option.map_eq_some_iff.mp hx
      obtain ⟨r, hr'⟩ : ∃ r, rs[i]? = some r := ⟨rs[i]'(by rw [← hrows.len]; exact (List.getElem?_eq_some_iff.mp hra).1), List.getElem?_eq_getElem _⟩
      have e0 := s3 _ _ (hrows.at_ i ra r hra hr')
      have szD : (((rs.take i).filter fun r => decide (r.pr ≠ none)).map (·.nm)).length ≤ 1000 := by
        rw [List.length_map]
        have h1 := List.length_filter_le (fun r : Row => decide (r.pr ≠ none)) (rs.take i)
        rw [List.length_take] at h1
        omega
      refine ⟨rfl, _, rfl, ra, _, _, _, rfl, rfl, sqT e0, atI3 _ _ _ _, rfl, _, rfl, ?_⟩
      have e : (!decide (prV r.pr = V.non)) = decide (r.pr ≠ none) := by
        cases h : r.pr with
        | none => rfl
        | some c => rw [show decide (prV (some c) = V.non) = false from decide_eq_false (fun h => by cases h)]; rfl
      rw [e]
      refine ite2 (fun hi => ?_) (fun hi => ?_)
      · refine ⟨_, rfl, ra, _, _, _, rfl, rfl, sqT e0, atI0 _ _ _ _, _, hD3, by rw [List.length_map]; exact small1000 szD, fun b o eb => ?_, ?_⟩
        · rw [upd_ne (fun y => by rw [y, hD] at eb; cases eb)]
          exact s3 _ _ eb
        · rw [upd_same, filter_take hr', if_pos hi, List.map_append]; rfl
      · refine ⟨s3, ?_⟩
        rw [filter_take hr', if_neg hi, List.append_nil]
        exact hD3
    · rintro H3 ⟨s3, hD3⟩
      rw [List.length_map, hrows.len, List.take_length] at hD3
      exact hq D H3 hD s3 hD3
end
end Ts

set_option maxRecDepth 100000
set_option maxHeartbeats 4000000
namespace Ts
open PySem L2
def spLSome : Sp := fun vs H Q _ => ∃ (a l : Addr) (n : Int) (xs : List Str), vs = [.ref a, .ref l] ∧ Stm H a n ∧ n ≤ 1000000000 ∧ l ≠ a ∧ H l = some (.lst (xs.map V.str)) ∧ xs.length ≤ 100 ∧
  ∀ (D : Addr) (H' : Hp) (ys : List Str), H D = none → D ≠ a → H' D = some (.lst (ys.map V.str)) → ys.Sublist xs → SB a H H' → Stm H' a (n + xs.length) → Q (.ref D) H'
section
variable {P : Program} {w : World} {K : PySem.W.Frag} {mg : Str → Option Value} {base : Heap} {C CM : Addr}
abbrev nLSome : List Str := ["_law_stream_here", "_law_things", "_law_thing"]
theorem sc_Lsome : FnScope nLSome ["_law_stream_here", "_law_things"] (defScope s_L_some) := ⟨rfl, rfl, rfl, by decide +kernel, rfl, by decide +kernel, by decide +kernel⟩
theorem ok_Lsome (D : DefAt K mg "_law_some" s_L_some ["_law_stream_here", "_law_things"]) (Dd : DefAt K mg "_law_draw" s_L_draw ["_law_stream_here", "_law_many"]) (Gd : FnOk P w K mg base CX0 2 Dd.f Dd.fd ["_law_stream_here", "_law_many"] spDraw) : FnOk P w K mg base CX0 3 D.f D.fd ["_law_stream_here", "_law_things"] spLSome := by
  refine D.F.ok sc_Lsome (fun vs H Q E h => ?_) (fun cdv A outer s H vs Q E hr h => ?_)
  · obtain ⟨a, l, n, xs, rfl, _⟩ := h
    rfl
  · obtain ⟨a, l, n, xs, rfl, hst, hn, nla, hl, hx, hq⟩ := h
    refine ⟨_, pss_one (ps_ret (pe_lc (own := [("_law_thing", 2)]) (g := gName 2) (tt := tTest (tOp rEq (tCall spDraw [] E0 (tCons (tVar 0) (tCons (tC (.int 2)) tNil))) (tC (.int 0)))) (te := tVar 2) rfl sc_Lsome.nd (pi_list (pv 1)) (blkOk_by (N := nLSome) (sc := defScope s_L_some) (by decide +kernel))
        (fun _ _ _ _ _ => pg_name (i := 2) sc_Lsome.nd rfl (Or.inl rfl)) (fun _ _ _ _ _ => by exact pts_one (pt_cmpR op_eq (pe_call Gd hr rfl Dd.g Dd.F.kp Dd.b .nil pass0 (pa_cons (pv 0) (pa_cons pe_int pa_nil))) pe_int (nomark _))) (fun _ _ _ _ _ => pv 2))), ?_⟩
    refine ⟨_, rfl, l, rfl, ⟨_, SqL.of hl⟩, fun D hD => ?_⟩
    have Da : D ≠ a := (hst.ne hD).symm
    refine lc_list (K := K) (a := l) (xs := xs.map V.str) (fun i H' => SB a H H' ∧ Stm H' a (n + i) ∧ ∃ ys : List Str, H' D = some (.lst (ys.map V.str)) ∧ ys.Sublist (xs.take i)) ⟨SB.upd hD, by simpa using hst.upd (o := .lst []) hD, [], upd_same, by simp⟩ (fun i H' _ m => SqL.of (m.1 _ _ nla hl)) ?_ ?_
    · rintro i x H2 hxi ⟨sb, st, ys, hD2, hsub⟩
      rw [List.getElem?_map] at hxi
      obtain ⟨z, hz, rfl⟩ := Option.map_eq_some_iff.mp hxi
      have hi : i < xs.length := (List.getElem?_eq_some_iff.mp hz).1
      refine ⟨rfl, _, rfl, a, 2, _, rfl, st, by omega, by decide, by decide, fun r H3 r0 r1 st3 he3 => ?_⟩
      have sb3 := sb.trans (sb_eq he3)
      have hD3 : H3 D = some (.lst (ys.map V.str)) := by rw [he3 D Da]; exact hD2
      have ly := hsub.length_le
      rw [List.length_take] at ly
      refine ⟨rfl, _, rfl, ?_⟩
      refine ite2 (fun _ => ?_) (fun _ => ?_)
      · refine ⟨_, rfl, _, hD3, small1000 (by rw [List.length_map]; omega), fun b o nb e => ?_, ?_, ys ++ [z], by rw [upd_same, List.map_append]; rfl, ?_⟩
        · rw [upd_ne (fun y => by rw [y, hD] at e; cases e)]
          exact sb3 b o nb e
        · obtain ⟨x1, y1, z1, e1, k1⟩ := st3
          exact ⟨x1, y1, z1, by rw [upd_ne Da.symm]; exact e1, k1.1, k1.2.1, k1.2.2.1, k1.2.2.2.1, by have := k1.2.2.2.2; push_cast; omega⟩
        · rw [take_more hz]
          exact List.Sublist.append hsub (List.Sublist.refl _)
      · refine ⟨sb3, st3.mono (by push_cast; omega), ys, hD3, ?_⟩
        rw [take_more hz]
        exact hsub.trans (List.sublist_append_left _ _)
    · rintro H2 ⟨sb, st, ys, hD2, hsub⟩
      rw [List.length_map] at st hsub
      rw [List.take_length] at hsub
      exact hq D H2 ys hD Da hD2 hsub sb st
end
end Ts

set_option maxRecDepth 100000
set_option maxHeartbeats 4000000
namespace Ts
open PySem L2
def RgsT (H : Hp) (d : Addr) (L : List Str) (g : Str → Rg) : Prop := ∃ ad : Str → Addr, H d = some (.dK (kvX (fun z => .ref (ad z)) L)) ∧ ∀ z ∈ L, H (ad z) = some (.tup (rgV (g z)))
theorem RgsT.same {H H' : Hp} {d : Addr} {L : List Str} {g : Str → Rg} (h : RgsT H d L g) (s : Same H H') : RgsT H' d L g := let ⟨ad, h1, h2⟩ := h; ⟨ad, s _ _ h1, fun z hz => s _ _ (h2 z hz)⟩
theorem RgsT.at_ {H : Hp} {d : Addr} {L : List Str} {g : Str → Rg} (h : RgsT H d L g) : RgsAt H d L g := let ⟨ad, h1, h2⟩ := h; ⟨ad, h1, fun z hz => .inl (h2 z hz)⟩
def big9 : Int := 10 ^ (9 : Int).toNat
theorem big9_pos : (10 : Int) ≤ big9 := by decide +kernel
theorem merge_kvX {f : Str → V} : ∀ (l m : List Str), (m ++ l).Nodup → mergeK (kvX f m) (kvX f l) = kvX f (m ++ l)
  | [], m, _ => by rw [List.append_nil]; rfl
  | x :: l, m, h => by
    have hx : x ∉ m := fun hm => (List.nodup_append.mp h).2.2 x hm x (List.mem_cons_self ..) rfl
    have e1 : mergeK (kvX f m) (kvX f (x :: l)) = mergeK (putK (kvX f m) (.inr x) (f x)) (kvX f l) := rfl
    have e2 : putK (kvX f m) (.inr x) (f x) = kvX f (m ++ [x]) := by
      rw [putK_new _ (valV_kvX_none hx)]
      unfold kvX
      rw [List.map_append]
      rfl
    rw [e1, e2, merge_kvX l (m ++ [x]) (by rw [List.append_assoc]; exact h), List.append_assoc]
    rfl
theorem sqT_sb {K : PySem.W.Frag} {H H' : Hp} {a q : Addr} {n : Int} {xs : List V} (h : SqT K H q xs) (st : Stm H a n) (s : SB a H H') : SqT K H' q xs := by
  obtain ⟨x, y, z, e, _⟩ := st
  rcases h with (h | ⟨o, h⟩) | h
  · exact .inl (.inl (s _ _ (fun q => by rw [q, e] at h; cases h) h))
  · exact .inl (.inr ⟨o, s _ _ (fun q => by rw [q, e] at h; cases h) h⟩)
  · exact .inr h
def spLRange : Sp := fun vs H Q _ => ∃ (a : Addr) (n : Int), vs = [.ref a] ∧ Stm H a n ∧ n ≤ 1000000000 ∧ ∀ (l : Addr) (q : Rg) (H' : Hp), H l = none → l ≠ a → H' l = some (.tup (rgV q)) → q.ok → SB a H H' → Stm H' a (n + 3) → Q (.ref l) H'
section
variable {P : Program} {w : World} {K : PySem.W.Frag} {mg : Str → Option Value} {base : Heap} {C CM CC CL CS : Addr}
abbrev pSm : List Str := ["_law_stream_here", "_law_things"]
abbrev pDw : List Str := ["_law_stream_here", "_law_many"]
abbrev nLRg : List Str := ["_law_stream_here", "_law_least"]
theorem sc_LRg : FnScope nLRg ["_law_stream_here"] (defScope s_L_range) := ⟨rfl, rfl, rfl, by decide +kernel, rfl, by decide +kernel, by decide +kernel⟩
theorem ok_LRg (D : DefAt K mg "_law_range" s_L_range ["_law_stream_here"]) (B : TxB mg) (Dd : DefAt K mg "_law_draw" s_L_draw pDw) (Dp : DefAt K mg "_law_pick" s_L_pick pSm) (Gp : FnOk P w K mg base CX0 3 Dp.f Dp.fd pSm (spPick K)) : FnOk P w K mg base CX0 4 D.f D.fd ["_law_stream_here"] spLRange := by
  have Gd : FnOk P w K mg base CX0 2 Dd.f Dd.fd pDw spDraw := ok_draw Dd B
  refine D.F.ok sc_LRg (fun vs H Q E h => ?_) (fun cdv A outer s H vs Q E hr h => ?_)
  · obtain ⟨a, n, rfl, _⟩ := h
    rfl
  · obtain ⟨a, n, rfl, hst, hn, hq⟩ := h
    have r2 : Room 2 _ := hr.mono (by decide)
    refine ⟨_, pss_cons (ps_if (pt_cmpR op_eq (pe_call Gd r2 rfl Dd.g Dd.F.kp Dd.b .nil pass0 (pa_cons (pv 0) (pa_cons pe_int pa_nil))) pe_int (nomark _)) (pss_one (ps_ret (pe_tup (pa_cons (pe_op op_pow pe_int pe_int) (pa_cons (pe_call Gp hr rfl Dp.g Dp.F.kp Dp.b .nil pass0 (pa_cons (pv 0) (pa_cons (pe_lst (pa_cons (pe_op op_pow pe_int pe_int) (pa_cons pe_non pa_nil))) pa_nil))) pa_nil))))) pss_nil)
      (pss_cons (ps_set (i := 1) sc_LRg.nd rfl (.inl rfl) (pe_call Gp hr rfl Dp.g Dp.F.kp Dp.b .nil pass0 (pa_cons (pv 0) (pa_cons (pe_lst (pa_cons pe_int (pa_cons pe_int (pa_cons pe_int (pa_cons pe_int (pa_cons pe_int pa_nil)))))) pa_nil))))
      (pss_one (ps_ret (pe_tup (pa_cons (pv 1) (pa_cons (pe_call Gp hr rfl Dp.g Dp.F.kp Dp.b .nil pass0 (pa_cons (pv 0) (pa_cons (pe_lst (pa_cons (pv 1) (pa_cons (pe_op op_add (pv 1) pe_int) (pa_cons (pe_op op_add (pv 1) pe_int) (pa_cons (pe_op op_pow pe_int pe_int) (pa_cons pe_non pa_nil)))))) pa_nil))) pa_nil)))))), ?_⟩
    refine ⟨_, rfl, a, 9, n, rfl, hst, by omega, by decide, by decide, fun r H1 r0 r1 st1 he1 => ⟨rfl, _, rfl, ?_⟩⟩
    have sb1 := sb_eq (H := H) he1
    have fin : ∀ (lo : Int) (o : Option Int) (H2 : Hp), SB a H H2 → Stm H2 a (n + 3) → (∀ b, H b = none → b ≠ a → True) → (⟨lo, o⟩ : Rg).ok → ∀ l, H2 l = none → (∀ b oo, H b = some oo → b ≠ l) → Q (.ref l) (upd H2 l (.tup (rgV ⟨lo, o⟩))) := by
      intro lo o H2 sb st _ ok l hl nl
      have nla : l ≠ a := (st.ne hl).symm
      have hl0 : H l = none := by
        cases e : H l with
        | none => rfl
        | some oo => exact absurd rfl (nl l oo e)
      exact hq l ⟨lo, o⟩ _ hl0 nla upd_same ok (sb.trans (SB.of (Same.new hl))) (st.upd hl)
    have fresh : ∀ (H2 : Hp), SB a H H2 → Stm H2 a (n + 3) → ∀ l, H2 l = none → ∀ b oo, H b = some oo → b ≠ l := fun H2 sb st l hl b oo e q => by
      by_cases qa : b = a
      · rw [q] at qa
        exact (st.ne hl) qa.symm
      · rw [← q] at hl
        rw [sb b oo qa e] at hl
        cases hl
    refine ite2 (fun _ => ?_) (fun _ => ?_)
    · refine ⟨_, _, rfl, rfl, ⟨by decide, by decide, by decide⟩, ?_⟩
      refine ⟨_, rfl, _, _, rfl, rfl, ⟨by decide, by decide, by decide⟩, (by show 2 ≤ sizeLine; decide), fun pl hpl => ?_⟩
      have np : pl ≠ a := (st1.ne hpl).symm
      refine .inl ⟨a, pl, n + 1, [V.int ((10 : Int) ^ (9 : Int).toNat), V.non], rfl, st1.same (Same.new hpl), by omega, np, SqL.of upd_same, (by show 1 ≤ 2; decide), (by show 2 ≤ 1000000; decide), fun v H3 hv st3 sb3 _ => ?_⟩
      have sb : SB a H H3 := (sb1.trans (SB.of (Same.new hpl))).trans sb3
      have st : Stm H3 a (n + 3) := st3.mono (by omega)
      obtain ⟨o, rfl, ho⟩ : ∃ o, v = prV o ∧ (⟨(10 : Int) ^ (9 : Int).toNat, o⟩ : Rg).ok := by
        simp only [List.mem_cons, List.not_mem_nil, or_false] at hv
        rcases hv with rfl | rfl
        · exact ⟨some _, rfl, ⟨by decide +kernel, fun h e => by cases e; exact Int.le_refl _⟩⟩
        · exact ⟨none, rfl, ⟨by decide +kernel, fun h e => by cases e⟩⟩
      exact ⟨(by show 2 ≤ sizeLine; decide), fun l hl => fin _ o H3 sb st (fun _ _ _ => trivial) ho l hl (fresh H3 sb st l hl)⟩
    · refine ⟨_, rfl, (by show 5 ≤ sizeLine; decide), fun pl hpl => ?_⟩
      have np : pl ≠ a := (st1.ne hpl).symm
      refine .inl ⟨a, pl, n + 1, [V.int 0, V.int 0, V.int 0, V.int 1, V.int 3], rfl, st1.same (Same.new hpl), by omega, np, SqL.of upd_same, (by show 1 ≤ 5; decide), (by show 5 ≤ 1000000; decide), fun v H3 hv st3 sb3 _ => ?_⟩
      have sb : SB a H H3 := (sb1.trans (SB.of (Same.new hpl))).trans sb3
      obtain ⟨lo, rfl, h0, h3⟩ : ∃ lo : Int, v = .int lo ∧ 0 ≤ lo ∧ lo ≤ 3 := by
        simp only [List.mem_cons, List.not_mem_nil, or_false] at hv
        rcases hv with rfl | rfl | rfl | rfl | rfl <;> exact ⟨_, rfl, by decide, by decide⟩
      refine ⟨_, rfl, _, rfl, _, rfl, _, rfl, _, _, rfl, rfl, _, rfl, _, _, rfl, rfl, _, _, rfl, rfl, ⟨by decide, by decide, by decide⟩, (by show 5 ≤ sizeLine; decide), fun p2 hp2 => ?_⟩
      have np2 : p2 ≠ a := (st3.ne hp2).symm
      refine .inl ⟨a, p2, n + 1 + 1, [V.int lo, V.int (lo + 1), V.int (lo + 4), V.int ((10 : Int) ^ (9 : Int).toNat), V.non], rfl, st3.same (Same.new hp2), by omega, np2, SqL.of upd_same, (by show 1 ≤ 5; decide), (by show 5 ≤ 1000000; decide), fun v H4 hv2 st4 sb4 _ => ?_⟩
      have sbb : SB a H H4 := (sb.trans (SB.of (Same.new hp2))).trans sb4
      have st : Stm H4 a (n + 3) := st4.mono (by omega)
      have big := big9_pos
      obtain ⟨o, rfl, ho⟩ : ∃ o, v = prV o ∧ (⟨lo, o⟩ : Rg).ok := by
        simp only [List.mem_cons, List.not_mem_nil, or_false] at hv2
        rcases hv2 with rfl | rfl | rfl | rfl | rfl
        · exact ⟨some _, rfl, ⟨h0, fun h e => by cases e; exact Int.le_refl _⟩⟩
        · exact ⟨some _, rfl, ⟨h0, fun h e => by cases e; show lo ≤ lo + 1; omega⟩⟩
        · exact ⟨some _, rfl, ⟨h0, fun h e => by cases e; show lo ≤ lo + 4; omega⟩⟩
        · exact ⟨some _, rfl, ⟨h0, fun h e => by cases e; show lo ≤ big9; omega⟩⟩
        · exact ⟨none, rfl, ⟨h0, fun h e => by cases e⟩⟩
      exact ⟨(by show 2 ≤ sizeLine; decide), fun l hl => fin lo o H4 sbb st (fun _ _ _ => trivial) ho l hl (fresh H4 sbb st l hl)⟩
end
end Ts

set_option maxRecDepth 100000
set_option maxHeartbeats 4000000
namespace Ts
open PySem L2
def kinds6 : List Str := ["folder", "folder", "item", "item", "item", "shut"]
def prices4 : List (Option Int) := [some 1, some 2, some 5, none]
theorem kinds6_ok : ∀ k ∈ kinds6, k ∈ kinds3 := by decide +kernel
theorem prices4_ok : ∀ q ∈ prices4, PriceOk q := by
  intro q hq
  simp [prices4] at hq
  rcases hq with rfl | rfl | rfl | rfl <;> simp [PriceOk]
theorem sIx_nat (n d k : Nat) : HT.sIx n d (some (k : Int)) = min k n := by
  show (if (k : Int) < 0 then ((k : Int) + (n : Int)).toNat else min (k : Int).toNat n) = _
  rw [if_neg (by omega)]
  simp
theorem cutV_take (xs : List V) (k : Nat) : cutV xs none (some (k : Int)) = xs.take k := by
  unfold cutV
  rw [HT.sIx_none, List.drop_zero, sIx_nat, Nat.sub_zero, List.take_eq_take_iff]
  omega
theorem cutV_drop (xs : List V) (k : Nat) : cutV xs (some (k : Int)) none = xs.drop k := by
  unfold cutV
  rw [HT.sIx_none, sIx_nat]
  rcases Nat.le_total k xs.length with h | h
  · rw [Nat.min_eq_left h, List.take_of_length_le (by rw [List.length_drop]; exact Nat.le_refl _)]
  · rw [Nat.min_eq_right h, List.drop_of_length_le (Nat.le_refl _), List.drop_of_length_le h]
    simp
def shutL (rs : List Row) : List Str := (rs.filter fun r => decide (r.ki = ("shut" : Str))).map (·.nm)
def keepP (rs : List Row) (r : Row) : Bool := !decide (r.nm ∈ (shutL rs).drop 4)
theorem valid_keep {rs : List Row} (hv : Valid rs) : Valid (rs.filter (keepP rs)) := by
  refine hv.filter fun r hr hp q hq e => ?_
  unfold keepP
  rw [decide_eq_false]
  · rfl
  intro hm
  obtain ⟨q2, hq2, e2⟩ := List.mem_map.mp (List.mem_of_mem_drop hm)
  obtain ⟨h1, h2⟩ := List.mem_filter.mp hq2
  have hsh : q2.ki = ("shut" : Str) := of_decide_eq_true h2
  obtain ⟨i, hi, ei⟩ := List.mem_iff_getElem.mp hr
  have fit := hv i r (by rw [← ei]; exact List.getElem?_eq_getElem hi)
  rcases fit.home with h | ⟨q3, hq3, e3, k3⟩
  · rw [← e] at h
    obtain ⟨j, hj, ej⟩ := List.mem_iff_getElem.mp hq
    exact (hv j q (by rw [← ej]; exact List.getElem?_eq_getElem hj)).top h
  · have hm3 : q3 ∈ rs := List.mem_of_mem_take hq3
    have : q2 = q3 := names_inj hv h1 hm3 (by rw [e2, e3, e])
    rw [this, k3] at hsh
    exact absurd hsh (by decide +kernel)
theorem cut_four (l : List Str) : (l.filter fun z => !decide (z ∈ l.drop 4)).length ≤ 4 := by
  have h : ∀ m : List Str, (∀ z ∈ m, z ∈ l.drop 4) → (m.filter fun z => !decide (z ∈ l.drop 4)) = [] := fun m hm => List.filter_eq_nil_iff.mpr fun z hz => by simp [hm z hz]
  have e : (l.filter fun z => !decide (z ∈ l.drop 4)) = ((l.take 4).filter fun z => !decide (z ∈ l.drop 4)) ++ ((l.drop 4).filter fun z => !decide (z ∈ l.drop 4)) := by
    rw [← List.filter_append, List.take_append_drop]
  rw [e, h _ fun z hz => hz, List.append_nil]
  have h1 := List.length_filter_le (fun z => !decide (z ∈ l.drop 4)) (l.take 4)
  rw [List.length_take] at h1
  omega
theorem shut_four (rs : List Row) : (shutL (rs.filter (keepP rs))).length ≤ 4 := by
  have e : shutL (rs.filter (keepP rs)) = (shutL rs).filter fun z => !decide (z ∈ (shutL rs).drop 4) := by
    unfold shutL keepP
    rw [List.filter_map, List.filter_filter, List.filter_filter]
    congr 1
    refine List.filter_congr fun r _ => ?_
    rw [Bool.and_comm]
    rfl
  rw [e]
  exact cut_four _
theorem names_inj2 {rs : List Row} (h : Valid rs) {r : Row} (hr : r ∈ rs) : rowOf rs r.nm = some r := by
  obtain ⟨i, hi, e⟩ := List.mem_iff_getElem.mp hr
  exact rowOf_at h (by rw [← e]; exact List.getElem?_eq_getElem hi)
def spLCounted (K : PySem.W.Frag) : Sp := fun vs H Q _ => ∃ (a : Addr) (n : Int), vs = [.ref a] ∧ Stm H a n ∧ n ≤ 10000000 ∧ ∀ (tq p d : Addr) (as : List Addr) (rs : List Row) (L : List Str) (g : Str → Rg) (H' : Hp), p ≠ a → H' tq = some (.tup [.ref p, .ref d]) → H' p = some (.lst (as.map V.ref)) → RowsAt H' as rs → Valid rs → rs.length ≤ 13 → (shutL rs).length ≤ 4 → RgsT H' d L g →
  (∀ z ∈ L, (g z).ok ∧ ∃ r, rowOf rs z = some r ∧ r.ki = ("shut" : Str)) → L.length ≤ 4 → L.Nodup → SB a H H' → Stm H' a (n + 300) → Q (.ref tq) H'
section
variable {P : Program} {w : World} {K : PySem.W.Frag} {mg : Str → Option Value} {base : Heap} {C CM CC CL CS : Addr}
abbrev pRw : List Str := ["_law_stream_here", "_law_many", "_law_kinds", "_law_prices"]
abbrev nLCo : List Str := ["_law_stream_here", "_law_kinds", "_law_ranges", "_law_rows_here", "_law_shut", "_law_name_here", "_law_row"]
theorem sc_LCo : FnScope nLCo ["_law_stream_here"] (defScope s_L_counted) := ⟨rfl, rfl, rfl, by decide +kernel, rfl, by decide +kernel, by decide +kernel⟩
theorem ok_LCo (D : DefAt K mg "_law_counted" s_L_counted ["_law_stream_here"]) (B : TxB mg) (Dd : DefAt K mg "_law_draw" s_L_draw pDw) (Dr : DefAt K mg "_law_rows" s_L_rows pRw) (Gr : FnOk P w K mg base CX0 5 Dr.f Dr.fd pRw (spRows K))
    (Dso : DefAt K mg "_law_some" s_L_some pSm) (Gso : FnOk P w K mg base CX0 3 Dso.f Dso.fd pSm spLSome) (Drg : DefAt K mg "_law_range" s_L_range ["_law_stream_here"]) (Grg : FnOk P w K mg base CX0 4 Drg.f Drg.fd ["_law_stream_here"] spLRange) : FnOk P w K mg base CX0 6 D.f D.fd ["_law_stream_here"] (spLCounted K) := by
  have Gd : FnOk P w K mg base CX0 2 Dd.f Dd.fd pDw spDraw := ok_draw Dd B
  refine D.F.ok sc_LCo (fun vs H Q E h => ?_) (fun cdv A outer s H vs Q E hr h => ?_)
  · obtain ⟨a, n, rfl, _⟩ := h
    rfl
  · obtain ⟨a, n, rfl, hst, hn, hq⟩ := h
    have hu := hu_of hr
    have r2 : Room 2 _ := hr.mono (by decide)
    have r3 : Room 3 _ := hr.mono (by decide)
    have r4 : Room 4 _ := hr.mono (by decide)
    refine ⟨_, pss_cons (ps_par (i := 1) (j := 2) rfl sc_LCo.nd rfl rfl (by decide) rfl rfl (pa_cons (pe_lst (pa_cons pe_str (pa_cons pe_str (pa_cons pe_str (pa_cons pe_str (pa_cons pe_str (pa_cons pe_str pa_nil))))))) (pa_cons pe_dnewK pa_nil)) (by rfl))
      (pss_cons (ps_set (i := 3) sc_LCo.nd rfl (.inl rfl) (pe_call Gr hr rfl Dr.g Dr.F.kp Dr.b .nil pass0 (pa_cons (pv 0) (pa_cons (pe_call Gd r2 rfl Dd.g Dd.F.kp Dd.b .nil pass0 (pa_cons (pv 0) (pa_cons pe_int pa_nil))) (pa_cons (pv 1) (pa_cons (pe_lst (pa_cons pe_int (pa_cons pe_int (pa_cons pe_int (pa_cons pe_non pa_nil))))) pa_nil))))))
      (pss_cons (ps_set (i := 4) sc_LCo.nd rfl (.inr rfl) (pe_lc (own := [("_law_row", 6)]) (g := gName 6) (tt := tTest (tOp rEq (tOp (rIxT K) (tVar 6) (tC (.int 2))) (tC (.str ("shut" : Str))))) (te := tOp (rIxT K) (tVar 6) (tC (.int 0))) rfl sc_LCo.nd (pi_list (pv 3)) (blkOk_by (N := nLCo) (sc := defScope s_L_counted) (by decide +kernel))
        (fun _ _ _ _ _ => pg_name (i := 6) sc_LCo.nd rfl (Or.inl rfl)) (fun _ _ _ _ _ => by exact pts_one (pt_cmpR op_eq (pe_ix ix_tup (pv 6) pe_int (fun _ _ => rfl)) pe_str (nomark _))) (fun _ _ _ _ _ => by exact pe_ix ix_tup (pv 6) pe_int (fun _ _ => rfl))))
      (pss_cons (ps_for PassesOwn.never rfl (pi_list (pe_call Gso r3 rfl Dso.g Dso.F.kp Dso.b .nil pass0 (pa_cons (pv 0) (pa_cons (pe_slice sl_list (pv 4) po_none (po_some pe_int)) pa_nil)))) (pg_name (i := 5) sc_LCo.nd rfl (.inl rfl))
        (pss_one (ps_dput hu (pv 2) (pv 5) (pe_call Grg r4 rfl Drg.g Drg.F.kp Drg.b .nil pass0 (pa_cons (pv 0) pa_nil)) rfl)))
      (pss_one (ps_ret (pe_tup (pa_cons (pe_lc (own := [("_law_row", 6)]) (g := gName 6) (tt := tTest (tOp (rIn K true) (tOp (rIxT K) (tVar 6) (tC (.int 0))) (tSl (rSlL K) (tVar 4) (tPart (tC (.int 4))) tNoPart))) (te := tVar 6) rfl sc_LCo.nd (pi_list (pv 3)) (blkOk_by (N := nLCo) (sc := defScope s_L_counted) (by decide +kernel))
        (fun _ _ _ _ _ => pg_name (i := 6) sc_LCo.nd rfl (Or.inl rfl)) (fun _ _ _ _ _ => by exact pts_one (pt_cmpR op_notIn_seq (pe_ix ix_tup (pv 6) pe_int (fun _ _ => rfl)) (pe_slice sl_list (pv 4) (po_some pe_int) po_none) (by rfl))) (fun _ _ _ _ _ => pv 6)) (pa_cons (pv 2) pa_nil)))))))), ?_⟩
    refine ⟨(by show 6 ≤ sizeLine; decide), fun kl hkl => ?_⟩
    have s1 : Same H (upd H kl (.lst [V.str ("folder" : Str), V.str ("folder" : Str), V.str ("item" : Str), V.str ("item" : Str), V.str ("item" : Str), V.str ("shut" : Str)])) := Same.new hkl
    have e1 : (upd H kl (.lst [V.str ("folder" : Str), V.str ("folder" : Str), V.str ("item" : Str), V.str ("item" : Str), V.str ("item" : Str), V.str ("shut" : Str)])) kl = some (.lst [V.str ("folder" : Str), V.str ("folder" : Str), V.str ("item" : Str), V.str ("item" : Str), V.str ("item" : Str), V.str ("shut" : Str)]) := upd_same
    have nk : kl ≠ a := (hst.ne hkl).symm
    generalize upd H kl (.lst [V.str ("folder" : Str), V.str ("folder" : Str), V.str ("item" : Str), V.str ("item" : Str), V.str ("item" : Str), V.str ("shut" : Str)]) = H1 at s1 e1
    refine fun d hd => ⟨_, _, rfl, ?_⟩
    have s2 := s1.trans (Same.new (o := .dK []) hd)
    have e12 := (Same.new (o := .dK []) hd) _ _ e1
    have ed2 : (upd H1 d (.dK [])) d = some (.dK []) := upd_same
    have nda : d ≠ a := ((hst.same s1).ne hd).symm
    have hd0 := s1.free hd
    generalize upd H1 d (.dK []) = H2 at s2 e12 ed2
    have st2 := hst.same s2
    refine ⟨_, rfl, _, rfl, a, 13, n, rfl, st2, by omega, by decide, by decide, fun q H3 q0 q1 st3 he3 => ?_⟩
    have sb3 := sb_eq (H := H2) he3
    refine ⟨_, rfl, (by show 4 ≤ sizeLine; decide), fun pl hpl => ?_⟩
    have npl : pl ≠ a := (st3.ne hpl).symm
    have s4 : Same H3 (upd H3 pl (.lst [V.int 1, V.int 2, V.int 5, V.non])) := Same.new hpl
    have e4 : (upd H3 pl (.lst [V.int 1, V.int 2, V.int 5, V.non])) pl = some (.lst [V.int 1, V.int 2, V.int 5, V.non]) := upd_same
    generalize upd H3 pl (.lst [V.int 1, V.int 2, V.int 5, V.non]) = H4 at s4 e4
    have e14 := s4 _ _ (sb3 _ _ nk e12)
    refine ⟨a, kl, pl, q, n + 1, kinds6, prices4, rfl, st3.same s4, by omega, by omega, by omega, nk, npl, SqL.of e14, SqL.of e4, by decide, by decide, by decide, by decide, kinds6_ok, prices4_ok, fun p as rs H5 hp0 np hp hrows hv hl _ sb5 st5 => ?_⟩
    have sb25 : SB a H2 H5 := (sb3.trans (SB.of s4)).trans sb5
    have ed5 := sb25 _ _ nda ed2
    have hl12 : rs.length ≤ 12 := by omega
    have st5 : Stm H5 a (n + 200) := st5.mono (by omega)
    have npd : p ≠ d := fun e => by rw [e, ed5] at hp; cases hp
    have SB5 : SB a H H5 := (SB.of s2).trans sb25
    clear e14 e4 s4 sb5 sb3 he3 st3 hpl e12 hkl e1 s1 st2 ed2 sb25 s2
    -- the shut ones
    refine ⟨_, rfl, p, rfl, ⟨_, SqL.of hp⟩, fun D2 hD2 => ?_⟩
    refine lc_list (K := K) (a := p) (xs := as.map V.ref) (fun i H' => Same H5 H' ∧ H' D2 = some (.lst ((((rs.take i).filter fun r => decide (r.ki = ("shut" : Str))).map (·.nm)).map V.str))) ⟨Same.new hD2, upd_same⟩ (fun i H' _ m => SqL.of (m.1 _ _ hp)) ?_ ?_
    · rintro i x H8 hx ⟨s8, hD8⟩
      obtain ⟨ra, r, rfl, hra, hr', e0⟩ := rows_at hrows hx
      have e8 := s8 _ _ e0
      have szD : (((rs.take i).filter fun r => decide (r.ki = ("shut" : Str))).map (·.nm)).length ≤ 1000 := by
        rw [List.length_map]
        have h1 := List.length_filter_le (fun r => decide (r.ki = ("shut" : Str))) (rs.take i)
        rw [List.length_take] at h1
        omega
      refine ⟨rfl, _, rfl, ra, _, _, _, rfl, rfl, sqT e8, atI2 _ _ _ _, rfl, _, rfl, ?_⟩
      refine ite2 (fun hc => ?_) (fun hc => ?_)
      · have hc' : r.ki = ("shut" : Str) := V.str.inj (of_decide_eq_true hc)
        refine ⟨_, rfl, ra, _, _, _, rfl, rfl, sqT e8, atI0 _ _ _ _, _, hD8, by rw [List.length_map]; exact small1000 szD, fun b o eb => ?_, ?_⟩
        · rw [upd_ne (fun y => by rw [y, hD2] at eb; cases eb)]
          exact s8 _ _ eb
        · rw [upd_same, filter_take hr', if_pos (decide_eq_true hc'), List.map_append]; rfl
      · have hc' : ¬ r.ki = ("shut" : Str) := fun e => hc (decide_eq_true (by rw [e]))
        refine ⟨s8, ?_⟩
        rw [filter_take hr', if_neg (fun y => hc' (of_decide_eq_true y)), List.append_nil]
        exact hD8
    rintro H6 ⟨s6, e6⟩
    rw [List.length_map, hrows.len, List.take_length] at e6
    have e6 : H6 D2 = some (.lst ((shutL rs).map V.str)) := e6
    have n2 : D2 ≠ a := (st5.ne hD2).symm
    have n2d : D2 ≠ d := fun e => by rw [e, ed5] at hD2; cases hD2
    have hsl : (shutL rs).length ≤ 12 := by
      unfold shutL
      rw [List.length_map]
      exact Nat.le_trans (List.length_filter_le _ _) hl12
    -- some of the first four
    refine ⟨_, rfl, _, rfl, _, rfl, D2, _, rfl, SqL.of e6, fun u hu' => ?_⟩
    have ecut : cutV ((shutL rs).map V.str) none (some 4) = ((shutL rs).take 4).map V.str := by
      rw [show (some (4 : Int)) = some ((4 : Nat) : Int) from rfl, cutV_take, List.map_take]
    rw [ecut]
    have s7 := s6.trans (Same.new (o := .lst (((shutL rs).take 4).map V.str)) hu')
    have e7 : (upd H6 u (.lst (((shutL rs).take 4).map V.str))) u = some (.lst (((shutL rs).take 4).map V.str)) := upd_same
    have nua : u ≠ a := ((st5.same s6).ne hu').symm
    have e67 := (Same.new (o := .lst (((shutL rs).take 4).map V.str)) hu') _ _ e6
    generalize upd H6 u (.lst (((shutL rs).take 4).map V.str)) = H7 at s7 e7 e67
    have st7 := st5.same s7
    refine ⟨a, u, n + 200, (shutL rs).take 4, rfl, st7, by omega, nua, e7, by rw [List.length_take]; omega, fun D3 H8 ys hD3 n3 e8 hsub sb8 st8 => ?_⟩
    have l4 : ((shutL rs).take 4).length ≤ 4 := by rw [List.length_take]; omega
    have ly := hsub.length_le
    have ed8 := sb8 _ _ nda (s7 _ _ ed5)
    have n3d : D3 ≠ d := fun e => by rw [e, s7 _ _ ed5] at hD3; cases hD3
    have SB8 : SB a H H8 := (SB5.trans (SB.of s7)).trans sb8
    have hp8 := sb8 _ _ np (s7 _ _ hp)
    have e28 := sb8 _ _ n2 e67
    have rows8 := (hrows.same s7).kl (KL.sb st7 sb8)
    have hnd : ys.Nodup := List.Nodup.sublist hsub (List.Nodup.sublist (List.take_sublist _ _) (List.Nodup.sublist (List.Sublist.map _ List.filter_sublist) hv.nodup))
    refine ⟨D3, rfl, ⟨_, SqL.of e8⟩, ?_⟩
    refine for_list (K := K) (a := D3) (xs := ys.map V.str) (fun i σ H' => ∃ v5 : Option V, σ = [some (.ref a), some (.ref kl), some (.ref d), some (.ref p), some (.ref D2), v5, none] ∧ ∃ (g : Str → Rg) (ad : Str → Addr), H' d = some (.dK (kvX (fun z => V.ref (ad z)) (ys.take i))) ∧ (∀ z ∈ ys.take i, H' (ad z) = some (.tup (rgV (g z))) ∧ (g z).ok) ∧ (∀ b o, b ≠ a → b ≠ d → H8 b = some o → H' b = some o) ∧ Stm H' a (n + 212 + 3 * i)) ⟨_, rfl, fun _ => noI, fun _ => a, ed8, (fun z hz => by simp at hz), (fun _ _ _ _ e => e), st8.mono (by omega)⟩ (fun i σ H' _ ⟨_, _, _, _, _, _, k, _⟩ => SqL.of (k _ _ n3 n3d e8)) ?_ ?_
    · rintro i x σ H9 hx ⟨v5, rfl, g, ad, ed9, hg, keep, st9⟩
      rw [List.getElem?_map] at hx
      obtain ⟨y, hy, rfl⟩ := Option.map_eq_some_iff.mp hx
      have hi : i < ys.length := (List.getElem?_eq_some_iff.mp hy).1
      have hnew : y ∉ ys.take i := fun h => by
        obtain ⟨j, hj, ej⟩ := List.mem_take_iff_getElem.mp h
        have e3 : ys[i] = y := (List.getElem?_eq_some_iff.mp hy).2
        exact List.pairwise_iff_getElem.mp hnd j i (by omega) hi (by omega) (by rw [ej, e3])
      refine ⟨_, rfl, a, _, rfl, st9, by omega, fun l q H10 hl nl el hok sb10 st10 => ?_⟩
      have ed10 := sb10 _ _ nda ed9
      have nld : l ≠ d := fun e => by rw [e, ed9] at hl; cases hl
      refine ⟨_, rfl, _, rfl, d, _, rfl, DPut.k (k := Sum.inr y) ed10 (small1000 (by unfold kvX; rw [List.length_map, List.length_take]; omega)), _, rfl, fun u => if u = y then q else g u, fun u => if u = y then l else ad u, ?_, fun z hz => ?_, fun b o na nd e => by rw [upd_ne nd]; exact sb10 _ _ na (keep b o na nd e), ?_⟩
      · rw [upd_same, kvX_put hnew, take_more hy]
        congr 3
        funext u
        by_cases e : u = y
        · simp [e]
        · simp [e]
      · show (upd H10 d _) (if z = y then l else ad z) = some (.tup (rgV (if z = y then q else g z))) ∧ (if z = y then q else g z).ok
        by_cases e : z = y
        · rw [if_pos e, if_pos e, upd_ne nld]
          exact ⟨el, hok⟩
        · rw [if_neg e, if_neg e]
          rw [take_more hy] at hz
          have hz' : z ∈ ys.take i := by
            rcases List.mem_append.mp hz with h | h
            · exact h
            · exact absurd (List.mem_singleton.mp h) e
          obtain ⟨g1, g2⟩ := hg z hz'
          have n1 : ad z ≠ a := fun e => by
            obtain ⟨x9, y9, z9, ea9, _⟩ := st9
            rw [e, ea9] at g1
            cases g1
          have n2 : ad z ≠ d := fun e => by rw [e, ed9] at g1; cases g1
          exact ⟨by rw [upd_ne n2]; exact sb10 _ _ n1 g1, g2⟩
      · obtain ⟨x9, y9, z9, e9, k9⟩ := st10
        refine ⟨x9, y9, z9, by rw [upd_ne nda.symm]; exact e9, ?_⟩
        have en : n + 212 + 3 * ((i + 1 : Nat) : Int) = n + 212 + 3 * (i : Int) + 3 := by push_cast; omega
        rw [en]
        exact k9
    rintro σ H9 ⟨v5, rfl, g, ad, ed9, hg, keep, st9⟩
    rw [List.length_map, List.take_length] at ed9 hg
    have hp9 := keep _ _ np npd hp8
    have e29 := keep _ _ n2 n2d e28
    have rows9 : RowsAt H9 as rs := ⟨rows8.len, fun i b r hb hr' => by
      have h := rows8.at_ i b r hb hr'
      refine keep _ _ (fun e => ?_) (fun e => ?_) h
      · obtain ⟨x9, y9, z9, ea9, _⟩ := st8
        rw [e, ea9] at h
        cases h
      · rw [e, ed8] at h
        cases h⟩
    have st9 : Stm H9 a (n + 300) := st9.mono (by rw [List.length_map]; omega)
    have SB9 : SB a H H9 := fun b o nb e => keep b o nb (ne_of_none e hd0) (SB8 b o nb e)
    clear keep st8 rows8 e28 hp8 SB8 ed8 e8 sb8 e7 e67 s7 st7 SB5 ed5 hp hrows st5 e6 s6
    -- the rows that stay
    refine ⟨_, rfl, p, rfl, ⟨_, SqL.of hp9⟩, fun D4 hD4 => ?_⟩
    refine lc_list (K := K) (a := p) (xs := as.map V.ref) (fun i H' => ∃ qs : List Addr, Same H9 H' ∧ H' D4 = some (.lst (qs.map V.ref)) ∧ RowsAt H' qs ((rs.take i).filter (keepP rs))) ⟨[], Same.new hD4, upd_same, RowsAt.nil⟩ (fun i H' _ ⟨_, m, _⟩ => SqL.of (m _ _ hp9)) ?_ ?_
    · rintro i x H10 hx ⟨qs, s10, e10, r10⟩
      obtain ⟨ra, r, rfl, hra, hr', e0⟩ := rows_at rows9 hx
      refine ⟨rfl, _, rfl, ra, _, _, _, rfl, rfl, sqT (s10 _ _ e0), atI0 _ _ _ _, _, rfl, _, rfl, D2, _, rfl, SqL.of (s10 _ _ e29), fun w hw => ?_⟩
      have ecut : cutV ((shutL rs).map V.str) (some 4) none = ((shutL rs).drop 4).map V.str := by
        rw [show (some (4 : Int)) = some ((4 : Nat) : Int) from rfl, cutV_drop, List.map_drop]
      rw [ecut]
      have sw : Same H10 (upd H10 w (.lst (((shutL rs).drop 4).map V.str))) := Same.new hw
      have ew : (upd H10 w (.lst (((shutL rs).drop 4).map V.str))) w = some (.lst (((shutL rs).drop 4).map V.str)) := upd_same
      generalize upd H10 w (.lst (((shutL rs).drop 4).map V.str)) = H11 at sw ew
      refine ⟨w, _, rfl, .inl (SqL.of ew), rfl, flat_strs _, _, rfl, ?_⟩
      rw [if_pos rfl, inV_strs]
      have e11 := sw _ _ e10
      have r11 := r10.same sw
      have s11 := s10.trans sw
      have lq := r11.len
      have lt : ((rs.take i).filter (keepP rs)).length ≤ 200 := by
        have h1 := List.length_filter_le (keepP rs) (rs.take i)
        rw [List.length_take] at h1
        omega
      refine ite2 (fun hk => ?_) (fun hk => ?_)
      · refine ⟨_, rfl, _, e11, small1000 (by rw [List.length_map]; omega), qs ++ [ra], fun b o eb => ?_, by rw [upd_same, List.map_append]; rfl, ?_⟩
        · rw [upd_ne (fun y => by rw [y, hD4] at eb; cases eb)]
          exact s11 _ _ eb
        · rw [filt_more hr', if_pos (show keepP rs r = true from hk)]
          exact (r11.snoc (s11 _ _ e0)).kl (KL.upd e11)
      · refine ⟨qs, s11, e11, ?_⟩
        rw [filt_more hr', if_neg (show ¬ keepP rs r = true from hk), List.append_nil]
        exact r11
    rintro H10 ⟨qs, s10, e10, r10⟩
    rw [List.length_map, rows9.len, List.take_length] at r10
    have nD4 : D4 ≠ a := (st9.ne hD4).symm
    refine ⟨_, rfl, (by show 2 ≤ sizeLine; decide), fun tq htq => ?_⟩
    have st : Same H10 (upd H10 tq (.tup [V.ref D4, V.ref d])) := Same.new htq
    have s9t := s10.trans st
    refine hq tq D4 d qs (rs.filter (keepP rs)) ys g _ nD4 upd_same (st _ _ e10) (r10.same st) (valid_keep hv) ?_ (shut_four rs) ⟨ad, s9t _ _ ed9, fun z hz => s9t _ _ (hg z hz).1⟩ (fun z hz => ⟨(hg z hz).2, ?_⟩) (by omega) hnd (SB9.trans (SB.of s9t)) (st9.same s9t)
    · exact Nat.le_trans (List.length_filter_le _ _) (by omega)
    · have hz4 := hsub.subset hz
      obtain ⟨r, hr1, hr2⟩ := List.mem_map.mp (List.mem_of_mem_take hz4)
      obtain ⟨h1, h2⟩ := List.mem_filter.mp hr1
      have hk : keepP rs r = true := by
        unfold keepP
        rw [hr2, decide_eq_false]
        · rfl
        intro hd4
        have hnds : (shutL rs).Nodup := List.Nodup.sublist (List.Sublist.map _ List.filter_sublist) hv.nodup
        rw [← List.take_append_drop 4 (shutL rs)] at hnds
        exact (List.nodup_append.mp hnds).2.2 z hz4 z hd4 rfl
      refine ⟨r, ?_, of_decide_eq_true h2⟩
      rw [← hr2]
      exact names_inj2 (valid_keep hv) (List.mem_filter.mpr ⟨h1, hk⟩)
end
end Ts

set_option maxRecDepth 100000
set_option maxHeartbeats 4000000
namespace Ts
open PySem L2
def openN (rs : List Row) : List Str := (rs.filter fun r => decide (r.pr ≠ none)).map (·.nm)
theorem openN_free {rs : List Row} (hv : Valid rs) : ∀ z ∈ openN rs, Free rs z := fun z hz => by
  obtain ⟨r, hr', rfl⟩ := List.mem_map.mp hz
  rw [List.mem_filter, decide_eq_true_eq] at hr'
  obtain ⟨i, hi, e⟩ := List.mem_iff_getElem.mp hr'.1
  exact ⟨r, rowOf_at hv (by rw [← e]; exact List.getElem?_eq_getElem hi), hr'.2⟩
theorem openN_len {rs : List Row} (h : rs.length ≤ 100) : (openN rs).length ≤ 100 := by
  unfold openN
  rw [List.length_map]
  exact Nat.le_trans (List.length_filter_le _ _) h
def spLMeaning (C CM : Addr) : Sp := fun vs H Q _ => ∃ (a p t : Addr) (n : Int) (rs : List Row), vs = [.ref a, .ref p, .ref t] ∧ Stm H a n ∧ n ≤ 500000000 ∧ RowsL H p rs ∧ p ≠ a ∧ TreeAt C H t rs ∧ ∀ m v H', MV C CM H' m t rs v → SB a H H' → (∀ b, H b = none → H' b ≠ none → True) → Stm H' a (n + 200) → Q (.ref m) H'
section
variable {P : Program} {w : World} {K : PySem.W.Frag} {mg : Str → Option Value} {base : Heap} {C CM : Addr}
abbrev pMng : List Str := ["_law_stream_here", "_law_rows_here", "_law_tree"]
theorem sc_mng : FnScope pMng pMng (defScope s_L_meaning) := ⟨rfl, rfl, rfl, by decide +kernel, rfl, by decide +kernel, by decide +kernel⟩
theorem ok_mng {fM : Addr} {fdM : FuncData} (D : DefAt K mg "_law_meaning" s_L_meaning pMng) (M : TxM K mg CM) (Dd : DefAt K mg "_law_draw" s_L_draw ["_law_stream_here", "_law_many"]) (Gd : FnOk P w K mg base CX0 2 Dd.f Dd.fd ["_law_stream_here", "_law_many"] spDraw)
    (Do : DefAt K mg "_law_open" s_L_open ["_law_rows_here"]) (Go : FnOk P w K mg base CX0 2 Do.f Do.fd ["_law_rows_here"] spLOpen)
    (Dso : DefAt K mg "_law_some" s_L_some ["_law_stream_here", "_law_things"]) (Gso : FnOk P w K mg base CX0 3 Dso.f Dso.fd ["_law_stream_here", "_law_things"] spLSome)
    (MM : Mk K CM fM) (bM : Binds K fdM ["self", "tree", "default", "turns"] []) (GM : FnOk P w K mg base CX0 7 fM fdM ["self", "tree", "default", "turns"] (spMeaningInit K C CM)) :
    FnOk P w K mg base CX0 9 D.f D.fd pMng (spLMeaning C CM) := by
  refine D.F.ok sc_mng (fun vs H Q E h => ?_) (fun cdv A outer s H vs Q E hr h => ?_)
  · obtain ⟨a, p, t, n, rs, rfl, _⟩ := h
    rfl
  · obtain ⟨a, p, t, n, rs, rfl, hst, hn, hL, np, ht, hq⟩ := h
    have hr2 : Room 3 _ := hr.mono (by decide)
    have hr1 : Room 2 _ := hr.mono (by decide)
    have hv := ht.val
    have hl := ht.len
    refine ⟨_, pss_one (ps_ret (pe_make MM GM hr rfl M.g bM .nil pass0 (pa_cons (pv 2) (pa_cons (pe_cmpR op_eq (pe_call Gd hr1 rfl Dd.g Dd.F.kp Dd.b .nil pass0 (pa_cons (pv 0) (pa_cons pe_int pa_nil))) pe_int (nomark _)) (pa_cons (pe_call Gso hr2 rfl Dso.g Dso.F.kp Dso.b .nil pass0 (pa_cons (pv 0) (pa_cons (pe_call Go hr1 rfl Do.g Do.F.kp Do.b .nil pass0 (pa_cons (pv 1) pa_nil)) pa_nil))) pa_nil))))), ?_⟩
    refine ⟨_, rfl, _, rfl, a, 2, n, rfl, hst, by omega, by decide, by decide, fun r H1 r0 r1 st1 he1 => ⟨rfl, ?_⟩⟩
    have sb1 := sb_eq (H := H) he1
    have L1 := hL.sbk np hst sb1
    have t1 := ht.kl (KL.sb hst sb1)
    refine ⟨_, rfl, _, rfl, p, rs, rfl, L1, hl, fun D2 H2 hD2 s2 e2 => ?_⟩
    have lo := openN_len hl
    refine ⟨a, D2, _, _, rfl, st1.same s2, by omega, (st1.ne hD2).symm, e2, lo, fun u H3 ts hu3 nu eu hsub sb3 st3 => ?_⟩
    have t3 := (t1.same s2).kl (KL.sb (st1.same s2) sb3)
    have fr : ∀ z ∈ ts, Free rs z := fun z hz => openN_free hv z (hsub.subset hz)
    have hnorm : turnsL rs ts = ts := turnsL_sub hv (hsub.trans (List.Sublist.map _ List.filter_sublist))
    refine fun m dm nm nd _ => ⟨m, dm, t, u, _, ts, rs, rfl, upd_same, t3.same (mk_same0 nm nd), SqX.same (.inl (SqL.of eu)) (mk_same0 nm nd), fr, fun H4 sb4 hm => ⟨rfl, ?_⟩⟩
    rw [hnorm] at hm
    have s4 := mk_same nm nd sb4
    refine hq m _ H4 (MV.of hm fr) ((sb1.trans (SB.of s2)).trans (sb3.trans (SB.of s4))) (fun _ _ _ => trivial) ((st3.same s4).mono ?_)
    have e : ((rs.filter fun r => decide (r.pr ≠ none)).map (·.nm)).length ≤ 100 := lo
    omega
end
end Ts

set_option maxRecDepth 100000
set_option maxHeartbeats 4000000
namespace Ts
open PySem PySem.Spec PyProof.Rows L2
open LamX (TabB)
/-! The law is called where no guard stands: what is known of its call there is enough. -/
section
variable {P : Program} {w : World} {K : PySem.W.Frag} {mg mb : Str → Option Value} {fa a : Addr} {cs : List (Addr × Addr)} {s₁ : Shared} {vs : List Value} {ns : List Int}
/-- the script and the tables, as they are known at the call -/
def hpG (K : PySem.W.Frag) (cs : List (Addr × Addr)) (a : Addr) (vs : List Value) (ns : List Int) : Hp := fun b =>
  if b ∈ cs.map (·.2) then some (.tbl #[]) else if b = a ∧ K.lookup a = none then some (.frz { cls := .type "list", data := .seq vs.toArray } (.lst (ns.map V.int))) else none
theorem law_callG (inK : K.In s₁.heap) (glob : s₁.heap.Ns mainGlobals mg) (blt : s₁.heap.Ns builtinsNs mb) (blt2 : ∀ x : Str, x ≠ "__name__" → mb x = bootBuiltins x) (lim : s₁.heap.NoLimit) (gens : s₁.gens = #[])
    (tabs : ∀ p ∈ cs, s₁.heap.get? p.2 = some { cls := .none, data := .fields #[] }) (noK : ∀ p ∈ cs, K.lookup p.2 = none) (codes : ∀ p ∈ cs, PySem.W.CodeHd s₁.heap p.1 p.2)
    (modB : ∃ (bm : Addr) (ob : Obj), mg "__builtins__" = some (.ref bm) ∧ bm ≠ builtinsNs ∧ s₁.heap.get? bm = some ob ∧ ob.cls = .type "module" ∧ ob.dict = some builtinsNs ∧ ob.data = .plain)
    (scr : s₁.heap.get? a = some { cls := .type "list", data := .seq vs.toArray }) (isInts : IntsAre vs ns) (few : ns.length ≤ sizeLine)
    (run : ∀ (base : Heap) (H : Hp), K.In base → base.Ns mainGlobals mg → (∀ p ∈ cs, TabB base mg p.1 p.2) → Env0 P w K mg base callerA [] s₁ H → (∀ p ∈ cs, H p.2 = some (.tbl #[])) → SqL K H a (ns.map V.int) →
      codeAny (model P w) callerA (.call (.ref fa) ⟨[.ref a], []⟩) (CR C8.CX0 [] P w H s₁ (fun v _ => v = .bl true) C8.E0) s₁) :
    codeAny (model P w) callerA (.call (.ref fa) ⟨[.ref a], []⟩) (fun r s' => r = .ok (.ret (.bool true)) ∧ OldK s₁.heap s'.heap ∧ s'.os = s₁.os ∧ AllBare s'.gens) s₁ := by
  have rv := vals_ints isInts
  have tabAt : ∀ b, b ∈ cs.map (·.2) → s₁.heap.get? b = some { cls := .none, data := .fields #[] } := fun b hb => by
    obtain ⟨p, hp, rfl⟩ := List.mem_map.mp hb
    exact tabs p hp
  have aNo : a ∉ cs.map (·.2) := fun z => by
    have q := (tabAt a z).symm.trans scr
    exact nomatch congrArg (fun o : Option Obj => o.map Obj.data) q
  obtain ⟨H, hH⟩ : ∃ H, H = hpG K cs a vs ns := ⟨_, rfl⟩
  have onTab : ∀ b, b ∈ cs.map (·.2) → H b = some (.tbl #[]) := fun b hb => by rw [hH]; exact if_pos hb
  have onScr : K.lookup a = none → H a = some (.frz { cls := .type "list", data := .seq vs.toArray } (.lst (ns.map V.int))) := fun e => by
    rw [hH]; exact (if_neg aNo).trans (if_pos ⟨rfl, e⟩)
  have off : ∀ b, b ∉ cs.map (·.2) → ¬ (b = a ∧ K.lookup a = none) → H b = none := fun b h1 h2 => by rw [hH]; exact (if_neg h1).trans (if_neg h2)
  -- what is neither a list nor an empty table is not known
  have free : ∀ {b : Addr} {o : Obj}, s₁.heap.get? b = some o → (∀ l n, o.data ≠ .seq l n) → o.data ≠ .fields #[] → H b = none := fun {b o} e n1 n2 => by
    refine off b (fun z => n2 ?_) (fun z => n1 vs.toArray 0 ?_)
    · have q := (tabAt b z).symm.trans e
      cases q; rfl
    · have q := scr
      rw [← z.1, e] at q
      cases q; rfl
  have known : HOk P w H s₁.heap := fun b u e => by
    by_cases hb : b ∈ cs.map (·.2)
    · rw [onTab b hb] at e
      cases e
      exact tabAt b hb
    · by_cases hc : b = a ∧ K.lookup a = none
      · obtain ⟨rfl, hn⟩ := hc
        rw [onScr hn] at e
        cases e
        exact ⟨scr, by rw [List.length_map]; exact few, vs, _, rv, scr⟩
      · rw [off b hb hc] at e
        cases e
  have dicts : ∀ {b : Addr} {m : Str → Option Value}, s₁.heap.Ns b m → (hidT s₁.heap H).Ns b m := by
    rintro b m ⟨o, es, ep, e, d, r⟩
    exact ⟨o, es, ep, hidT_get e (free e (fun _ _ z => nomatch d.symm.trans z) fun z => nomatch d.symm.trans z), d, r⟩
  have inB : K.In (hidT s₁.heap H) := fun b o e => by
    refine hidT_get (inK b o e) (off b (fun z => ?_) fun z => ?_)
    · obtain ⟨p, hp, rfl⟩ := List.mem_map.mp z
      exact nomatch (noK p hp).symm.trans e
    · rw [z.1, z.2] at e
      cases e
  have md : L2.Mod K mg (hidT s₁.heap H) := by
    obtain ⟨m, l1, l2⟩ := lim
    exact ⟨inB, dicts glob, ⟨mb, dicts blt, blt2⟩, m, dicts l1, l2⟩
  have tabB : ∀ p ∈ cs, TabB (hidT s₁.heap H) mg p.1 p.2 := fun p hp => by
    refine ⟨?_, ?_, fun z => ?_⟩
    · obtain ⟨o, us, file, tf, flags, tg, inF, text, tt, e, r1, r2, r3, r⟩ := codes p hp
      exact ⟨o, us, file, tf, flags, tg, inF, text, tt, hidT_get e (free e (fun _ _ z => nomatch r2.symm.trans z) fun z => by rw [r2] at z; cases z; simp at r3), r1, r2, r3, r⟩
    · obtain ⟨bm, ob, m1, m2, m3, m4, m5, m6⟩ := modB
      refine ⟨bm, ob, m1, m2, fun q => ?_, fun q => ?_, hidT_get m3 (free m3 (fun _ _ z => nomatch m6.symm.trans z) fun z => nomatch m6.symm.trans z), m4, m5, m6⟩
      · obtain ⟨o, es, ep, e, d, _⟩ := glob
        rw [← q, m3] at e
        cases e
        exact nomatch m6.symm.trans d
      · rw [q, tabs p hp] at m3
        cases m3
        cases m6
    · obtain ⟨o, es, ep, e, d, _⟩ := glob
      rw [z, tabs p hp] at e
      cases e
      cases d
  have scrQ : SqL K H a (ns.map V.int) := by
    cases e : K.lookup a with
    | none => exact .inl (.inr ⟨_, onScr e⟩)
    | some o =>
      have q := inK a o e
      rw [scr] at q
      cases q
      exact .inr ⟨_, vs.toArray, _, e, rfl, rfl, rfl, by rw [List.size_toArray, isInts.length]; exact few, by simpa using rv⟩
  refine codeAny_mono (run _ H inB (dicts glob) tabB ⟨rfl, md, fun b o e => of_hidT e, Nat.le_of_eq (hidT_size _ _), trivial, fun b hb => (nomatch hb), known, .of_eq gens⟩ (fun p hp => onTab _ (List.mem_map.mpr ⟨p, hp, rfl⟩)) scrQ) ?_
  intro r s' z
  match r, z with
  | .error e, z => exact z.elim
  | .ok .next, z => exact z.elim
  | .ok .brk, z => exact z.elim
  | .ok .cont, z => exact z.elim
  | .ok (.ret u), ⟨v, H', os, bare, un, known', rel, q⟩ =>
    cases (show v = .bl true from q)
    cases (show u = Value.bool true from rel)
    have still : ∀ b o, b ∉ cs.map (·.2) → s₁.heap.get? b = some o → s'.heap.get? b = some o := fun b o nb e => by
      by_cases hc : b = a ∧ K.lookup a = none
      · obtain ⟨rfl, hn⟩ := hc
        have k1 := (known b _ (onScr hn)).1
        have k2 := (known' b _ (un.frzs b _ _ (onScr hn))).1
        rw [k1] at e
        rw [k2, e]
      · exact un.keep b o e (off b nb hc) (fun z => nomatch z) fun z => nomatch z
    have more : ∀ p ∈ cs, ∃ ps : Array Value, s'.heap.get? p.2 = some { cls := .none, data := .fields ps } := fun p hp => by
      obtain ⟨m, e⟩ := un.tbls p.2 #[] (onTab _ (List.mem_map.mpr ⟨p, hp, rfl⟩))
      exact ⟨_, known' p.2 _ e⟩
    refine ⟨rfl, ⟨fun b o e => ?_, fun b o e => ?_⟩, os, bare⟩
    · by_cases hb : b ∈ cs.map (·.2)
      · obtain ⟨p, hp, rfl⟩ := List.mem_map.mp hb
        obtain ⟨ps, hps⟩ := more p hp
        have q := (tabs p hp).symm.trans e
        cases q
        exact .inr (.inl ⟨((codes p hp).tab (tabs p hp)).isCodeTable, rfl, #[], ps, rfl, by rw [Array.empty_append]; exact hps⟩)
      · exact .inl (still b o hb e)
    · by_cases hb : b ∈ cs.map (·.2)
      · obtain ⟨p, hp, rfl⟩ := List.mem_map.mp hb
        obtain ⟨ps, hps⟩ := more p hp
        exact ⟨_, hps⟩
      · exact ⟨o, still b o hb e⟩
end
/-- what is known of the law's call at the heap h, where no guard stands -/
def LawAtG (l : PySem.W.OpenLaw) (w : World) (K : PySem.W.Frag) (n : Nat) (mg : Str → Option Value) (fa : Addr) (h : Heap) : Prop :=
  ∃ cs : List (Addr × Addr), (∀ p ∈ cs, h.get? p.2 = some { cls := .none, data := .fields #[] }) ∧ (∀ p ∈ cs, K.lookup p.2 = none) ∧ (∀ p ∈ cs, PySem.W.CodeHd h p.1 p.2) ∧
    ∀ (base : Heap) (H : Hp) (s₁ : Shared) (a : Addr) (ns : List Int), ns.length ≤ n → (∀ p ∈ cs, TabB base mg p.1 p.2) → Env0 l.prog w K mg base callerA [] s₁ H → (∀ p ∈ cs, H p.2 = some (.tbl #[])) → SqL K H a (ns.map V.int) →
      codeAny (model l.prog w) callerA (.call (.ref fa) ⟨[.ref a], []⟩) (CR C8.CX0 [] l.prog w H s₁ (fun v _ => v = .bl true) C8.E0) s₁
theorem walkG {l : PySem.W.OpenLaw} {n : Nat} {q : Program} {loose : List Str} {XP : (Str → Option Value) → Heap → Prop} {YP : World → Heap → Prop} {d : DefRec} {K : Params → PySem.W.Frag} (hn : l.most = some n) (hn2 : n ≤ sizeLine) (hdf : d.params.defaults = [])
    (hY : ∀ (w : World) (h : Heap), YP w h → (K w.params).In h)
    (F : ∀ (w : World) (mg : Str → Option Value) (fa : Addr) (h : Heap), YP w h → (K w.params).In h → h.Ns mainGlobals mg → mg d.name = some (.ref fa) → LawAtG l w (K w.params) n mg fa h) :
    PySem.W.WalkO q loose XP YP l.row.toRowW d [] (fun f vs => PySem.call f vs) := by
  refine Att.attach_callB hn hdf fun w _ s₁ mg mb fa _ _ _ _ a vs ns G Y _ _ _ named script isInts few _ gens => ?_
  obtain ⟨cs, tabs, noK, codes, run⟩ := F w mg fa _ Y (hY w _ Y) G.T.g named
  exact law_callG (hY w _ Y) G.T.g G.T.b G.T.builtins G.T.nolimit gens tabs noK codes G.T.bmain script isInts (Nat.le_trans few hn2) fun base H _ _ tb e0 tl sq => run base H s₁ a ns few tb e0 tl sq
/-! ### repr of lists and tuples -/
section
variable {X : Cx}
theorem cr_reprD (hg : X.A.guards = some []) (hu : X.A.units + 64 < cLine) : CallR X (.builtin "repr") (fun vs H Q => ∃ (a : Addr) (d : PyData), vs = [.ref a] ∧ Dp X.K H (.ref a) d ∧ PyData.layable0 d = true ∧ d.intsShort 13 = true ∧ d.showable = true ∧ d.depth ≤ 60 ∧ Q (.str d.shown) H) := by
  intro pins s σ H vs us Q I r h
  obtain ⟨a, d, rfl, hd, lay, short, show_, dep, q⟩ := h
  rw [Vals.ref1 r]
  obtain ⟨as, rd⟩ := Dp.reads I d _ _ hd rfl
  have can : PyData.canLay0 d = true := by
    have h1 : (PyData.canLay0 d && decide (PyData.depth d ≤ 64) && decide (PyData.weight d ≤ 2 ^ 20)) = true := lay
    simp only [Bool.and_eq_true] at h1
    exact h1.1.1
  have small : d.shown.length ≤ sizeLine := Nat.le_trans (shown_le13 lay short) (by decide)
  refine repr_of_reads' (prog := X.prog) (w := X.w) rd show_ (PyData.noDict_hsm (PyData.hasDict_of_canLay d can)) hg (by omega) (fun _ _ e => e) (fun h' u tk hk => ?_) small
  exact ⟨.str d.shown, H, I.kept hk, ⟨u, rfl⟩, q⟩
end
end Ts

set_option maxRecDepth 100000
set_option maxHeartbeats 4000000
namespace Ts
open PySem PySem.Spec PyProof.Rows L2
/-! ### repr of what may hold an empty dict: ("box", {}) and lists of it, None -/
def boxD : PyData := .tuple [.str "box", .dict []]
def boxL : PyData := .list (List.replicate 6 boxD)
def BoxAt (K : PySem.W.Frag) (H : Hp) (p : Addr) : Prop := ∃ e, SqT K H p [.str ("box" : Str), .ref e] ∧ Rd H e (.dK [])
def Shw (K : PySem.W.Frag) (H : Hp) (v : V) (d : PyData) : Prop :=
  (∃ a, v = .ref a ∧ Dp K H (.ref a) d ∧ PyData.layable0 d = true ∧ d.intsShort 13 = true ∧ d.showable = true ∧ d.depth ≤ 60) ∨ (v = .non ∧ d = .none) ∨
  (∃ a, v = .ref a ∧ BoxAt K H a ∧ d = boxD) ∨ ∃ (l : Addr) (ps : List Addr), v = .ref l ∧ SqL K H l (ps.map V.ref) ∧ ps.length = 6 ∧ (∀ p ∈ ps, BoxAt K H p) ∧ d = boxL
section
variable {X : Cx} {pins : List (Addr × Obj)} {σ : L2.St} {H : Hp} {s : Shared}
theorem box_reads (I : Inv X pins σ H s) {p : Addr} (h : BoxAt X.K H p) : ∃ as, Reads s.heap (.ref p) boxD as ∧ sysModules ∉ as := by
  obtain ⟨e, ht, hd⟩ := h
  obtain ⟨its, rv, ⟨o, ho, hc, n, hdat⟩, _⟩ := I.tuple ht
  obtain ⟨u, y, ei, ru, ry⟩ := vals2 rv
  subst ei
  obtain ⟨t, rfl⟩ := ru
  obtain rfl : y = Value.ref e := ry
  obtain ⟨_, hs, vs, kv, o2, es, ep, h1, h2, h3, _, h5, _⟩ := dk_rd (P := X.prog) (w := X.w) I.hok hd
  cases kv
  have ee : es.toList = [] := by
    generalize es.toList = l at h5
    cases h5
    rfl
  have r : Reads s.heap (.ref e) (.dict []) (e :: [] ++ []) := Reads.dict h1 h2.1 h3 (by rw [ee]; exact .nil) (by rw [ee]; exact .nil)
  refine ⟨_, Reads.tuple ho hc hdat (ReadsAll.cons (Reads.str _ t) (ReadsAll.cons r .nil)), ?_⟩
  intro z
  simp only [List.nil_append, List.append_nil, List.mem_cons, List.not_mem_nil, or_false] at z
  rw [← z] at hs
  exact absurd hs (by decide)
theorem boxes_read (I : Inv X pins σ H s) : ∀ {ps : List Addr}, (∀ p ∈ ps, BoxAt X.K H p) → ∃ as, ReadsAll s.heap (ps.map Value.ref) (List.replicate ps.length boxD) as ∧ sysModules ∉ as
  | [], _ => ⟨[], .nil, by simp⟩
  | p :: ps, h => by
    obtain ⟨as, r1, n1⟩ := box_reads I (h p (List.mem_cons_self ..))
    obtain ⟨bs, r2, n2⟩ := boxes_read I fun q hq => h q (List.mem_cons_of_mem _ hq)
    exact ⟨_, .cons r1 r2, fun z => (List.mem_append.mp z).elim n1 n2⟩
theorem cr_reprE (hg : X.A.guards = some []) (hu : X.A.units + 64 < cLine) : CallR X (.builtin "repr") (fun vs H Q => ∃ (v : V) (d : PyData), vs = [v] ∧ Shw X.K H v d ∧ Q (.str d.shown) H) := by
  intro pins s σ H vs us Q I r h
  obtain ⟨v, d, rfl, hd, q⟩ := h
  obtain ⟨u0, eu, rx⟩ := vals1 r
  subst eu
  rcases hd with ⟨a, rfl, hd, lay, short, show_, dep⟩ | ⟨rfl, rfl⟩ | ⟨a, rfl, hb, rfl⟩ | ⟨l, ps, rfl, hl, h6, hb, rfl⟩
  · cases rx
    obtain ⟨as, rd⟩ := Dp.reads I d _ _ hd rfl
    have can : PyData.canLay0 d = true := by
      have h1 : (PyData.canLay0 d && decide (PyData.depth d ≤ 64) && decide (PyData.weight d ≤ 2 ^ 20)) = true := lay
      simp only [Bool.and_eq_true] at h1
      exact h1.1.1
    exact repr_of_reads' (prog := X.prog) (w := X.w) rd show_ (PyData.noDict_hsm (PyData.hasDict_of_canLay d can)) hg (by omega) (fun _ _ e => e) (fun h' u tk hk => ⟨.str d.shown, H, I.kept hk, ⟨u, rfl⟩, q⟩) (Nat.le_trans (shown_le13 lay short) (by decide))
  · cases rx
    exact P.repr_of_none ⟨.str "None", H, I.kept (fun _ _ e => e), ⟨_, rfl⟩, q⟩
  · cases rx
    obtain ⟨as, rd, no⟩ := box_reads I hb
    exact repr_of_reads' (prog := X.prog) (w := X.w) rd (by decide +kernel) (fun _ => no) hg (by rw [show PyData.depth boxD = 2 by decide +kernel]; omega) (fun _ _ e => e) (fun h' u tk hk => ⟨.str boxD.shown, H, I.kept hk, ⟨u, rfl⟩, q⟩) (by decide +kernel)
  · cases rx
    obtain ⟨its, rv, ⟨o, n, ho, hc, _, hdat⟩, _⟩ := I.list hl
    have ei := refs_at rv
    subst ei
    obtain ⟨as, rd, no⟩ := boxes_read I hb
    rw [h6] at rd
    obtain ⟨bs, b1, b2⟩ := ReprAllK.of_readsAll (prog := X.prog) (w := X.w) rd (by decide +kernel) (fun _ => no) (by decide +kernel)
    have na : l ∉ bs := not_mem_of_deeper (.list ho hc hdat rd) (by decide +kernel) b1
    match ps, h6 with
    | p :: ps, h6 =>
      refine call_repr_slot (T := "list") (idr := "list.__repr__") (by omega) ⟨o, ho, hc⟩ F.slot_list_repr.toG ?_
      refine call_list_reprK ho hc hdat na (by simpa using b2.length_eq) (fun i y e => b2.item i y (by simpa using e)) hg (fun b _ => Clear.nil b) ?_ (fun _ _ e => e) (fun h' u tk hk => ⟨_, _, rfl, .str boxL.shown, H, I.kept hk, ?_, q⟩) ?_
      · show X.A.units + 1 + (PyData.depthAll (List.replicate 6 boxD) + 1) < cLine
        rw [show PyData.depthAll (List.replicate 6 boxD) = 2 by decide +kernel]
        omega
      · refine ⟨u, ?_⟩
        congr 1
      · decide +kernel
end
end Ts

set_option maxRecDepth 100000
set_option maxHeartbeats 4000000
namespace PySem.SeqAt
open AutoSeq1 (wpAny_loadPart')
open MeetsSeq MeetsSeq2 MeetsSeq3 SeqRoads2
section
variable {prog : Program} {w : World}
/-- the walk of list != over lists all of whose items are equal in this model -/
theorem neP_walk {l b : Addr} {xs ys : Array Value} {n m : Nat} {d1 d2 : Option Addr} {z1 z2 : Array (Option Value)} (same : xs.size = ys.size) (k : Nat) : ∀ i : Nat, xs.size - i = k →
    MeetsIn prog w (Builtin.«list.__eq__.loop» ⟨[.ref l, .ref b, rawInt i, rawInt 3], []⟩) (fun A R s => s.heap.get? l = some { cls := .type "list", dict := d1, data := .seq xs n, slots := z1 } ∧
      s.heap.get? b = some { cls := .type "list", dict := d2, data := .seq ys m, slots := z2 } ∧ (∀ j (p : j < xs.size) (q : j < ys.size), EqP prog w A.in1 s xs[j] ys[j] true) ∧ R (.ok (.ret (.bool false))) s) := by
  induction k with
  | zero =>
    rintro i hk A R ⟨hp, g, d, tk, os⟩ ⟨at1, at2, items, fin⟩
    have out1 : xs[((i : Nat) : Int).toNat]? = none := by simp; omega
    have out2 : ys[((i : Nat) : Int).toNat]? = none := by simp; omega
    wp_walk using wpAny_loadPart' at1, wpAny_loadPart' at2
    rw [out1, out2]
    wp_walk using wpAny_loadPart' at1, wpAny_loadPart' at2
    show R (.ok (.ret (.bool (xs.size != ys.size)))) _
    rw [same]
    simpa using fin
  | succ k ih =>
    rintro i hk A R ⟨hp, g, d, tk, os⟩ ⟨at1, at2, items, fin⟩
    have in1 : i < xs.size := by omega
    have in2 : i < ys.size := by omega
    have get1 : xs[((i : Nat) : Int).toNat]? = some xs[i] := by simp [in1]
    have get2 : ys[((i : Nat) : Int).toNat]? = some ys[i] := by simp [in2]
    have nxt : ((i : Int) + 1) = ((i + 1 : Nat) : Int) := by push_cast; rfl
    wp_walk using wpAny_loadPart' at1, wpAny_loadPart' at2
    rw [get1, get2]
    refine wpAny_bind (items i in1 in2 _ _ ?_)
    wp_walk
    rw [nxt]
    refine ⟨plainId_quiet plain_eq_loop _, codeAny_builtin entry_eq_loop ?_⟩
    rw [Around.under_plainId plain_eq_loop _]
    exact ih (i + 1) (by omega) A R _ ⟨at1, at2, items, fin⟩
theorem neP_list {l b : Addr} {xs ys : Array Value} {n m : Nat} {d1 d2 : Option Addr} {z1 z2 : Array (Option Value)} (same : xs.size = ys.size) :
    MeetsIn prog w (Builtin.«list.__ne__» ⟨[.ref l, .ref b], []⟩) (fun A R s => s.heap.get? l = some { cls := .type "list", dict := d1, data := .seq xs n, slots := z1 } ∧
      s.heap.get? b = some { cls := .type "list", dict := d2, data := .seq ys m, slots := z2 } ∧ (∀ j (p : j < xs.size) (q : j < ys.size), EqP prog w A.in1 s xs[j] ys[j] true) ∧ R (.ok (.ret (.bool false))) s) := by
  rintro A R ⟨hp, g, d, tk, os⟩ ⟨at1, at2, items, fin⟩
  have sub := AutoSeq1.sub_list_list
  have nolen : ¬ (xs.size != ys.size) = true := by simp [same]
  wp_walk using wpAny_loadPart' at1, wpAny_loadPart' at2
  refine ⟨plainId_quiet plain_eq_loop _, codeAny_builtin entry_eq_loop ?_⟩
  rw [Around.under_plainId plain_eq_loop _]
  exact neP_walk same _ 0 rfl A R _ ⟨at1, at2, items, fin⟩
theorem rcP_neLists {A : Around} {s : Shared} {l b : Addr} {xs ys : Array Value} (hl : s.heap.IsList l xs) (hb : s.heap.IsList b ys) (same : xs.size = ys.size) (room : A.units < cLine)
    (items : ∀ j (p : j < xs.size) (q : j < ys.size), EqP prog w A.in1 s xs[j] ys[j] true) (E Q : Value → Shared → Prop) (fin : Q (.bool false) s) : wpAny (model prog w) A (richCompare .NotEq (.ref l) (.ref b)) Q E s := by
  obtain ⟨⟨_, d1, _, z1⟩, o1, rfl, n, rfl⟩ := hl
  obtain ⟨⟨_, d2, _, z2⟩, o2, rfl, m, rfl⟩ := hb
  exact wpAny_richCompare_same_room (op := .NotEq) ⟨_, o1, rfl⟩ ⟨_, o2, rfl⟩ F.slot_list_ne (call_meetsIn F.slot_list_ne ⟨_, o1, rfl⟩ F.entry_list_ne (F.args_list_ne_2 _ _) (neP_list (d1 := d1) (d2 := d2) (z1 := z1) (z2 := z2) (n := n) (m := m) same)
    ⟨o1, o2, items, show Value.bool false ≠ Value.notImplemented ∧ Q (.bool false) s from ⟨(fun x => nomatch x), fin⟩⟩) room
/-- == of tuples all of whose items are equal in this model -/
theorem eqP_tup {l b : Addr} {xs ys : Array Value} {n m : Nat} {d1 d2 : Option Addr} {z1 z2 : Array (Option Value)} (same : xs.size = ys.size) :
    MeetsIn prog w (Builtin.«tuple.__eq__» ⟨[.ref l, .ref b], []⟩) (fun A R s => s.heap.get? l = some { cls := .type "tuple", dict := d1, data := .seq xs n, slots := z1 } ∧
      s.heap.get? b = some { cls := .type "tuple", dict := d2, data := .seq ys m, slots := z2 } ∧ (∀ j (p : j < xs.size) (q : j < ys.size), EqP prog w A.in1 s xs[j] ys[j] true) ∧ R (.ok (.ret (.bool true))) s) :=
  .of_wp fun A R s h => by
    obtain ⟨hp, g, d, tk, os⟩ := s
    obtain ⟨at1, at2, items, fin⟩ := h
    have sub := AutoSeq1.sub_tuple_tuple
    have long : (xs.toList.zip ys.toList).length = xs.size := by simp [same]
    wp_walk using wpAny_loadPart' at1, wpAny_loadPart' at2, wpAny_forIn_list _ (fun rest b s' => b.1 = none ∧ s' = ⟨hp, g, d, tk, os⟩ ∧ ∃ i, rest = (xs.toList.zip ys.toList).drop i) _
    case turn =>
      rintro ⟨y, x⟩ rest b s' ⟨hb', rfl, i, hz⟩
      have lt : i < (xs.toList.zip ys.toList).length := Nat.lt_of_not_le fun ge => by rw [List.drop_of_length_le ge] at hz; cases hz
      have in1 : i < xs.size := long ▸ lt
      have in2 : i < ys.size := same ▸ in1
      rw [List.drop_eq_getElem_cons lt] at hz
      obtain ⟨hyx, hrest⟩ := List.cons.inj hz
      obtain rfl : y = xs[i] := by simpa using congrArg Prod.fst hyx
      obtain rfl : x = ys[i] := by simpa using congrArg Prod.snd hyx
      refine wpAny_bind (items i in1 in2 _ _ ?_)
      wp_walk
      exact ⟨rfl, rfl, i + 1, hrest⟩
    case fin =>
      rintro ⟨b1, b2⟩ s' ⟨hb', rfl, i, hz⟩
      simp only at hb'
      subst hb'
      wp_walk
      have e : Builtin.Tuple.tupleCompareSizes CmpOp.Eq xs.size ys.size = .bool true := by
        rw [same]
        show Value.bool (ys.size == ys.size) = _
        simp
      refine ⟨_, rfl, ?_⟩
      rw [e]
      exact fin
    exact ⟨rfl, rfl, 0, rfl⟩
theorem rcP_tuples {A : Around} {s : Shared} {l b : Addr} {xs ys : Array Value} (hl : s.heap.IsTuple l xs) (hb : s.heap.IsTuple b ys) (same : xs.size = ys.size) (room : A.units < cLine)
    (items : ∀ j (p : j < xs.size) (q : j < ys.size), EqP prog w A.in1 s xs[j] ys[j] true) (E Q : Value → Shared → Prop) (fin : Q (.bool true) s) : wpAny (model prog w) A (richCompare .Eq (.ref l) (.ref b)) Q E s := by
  obtain ⟨⟨_, d1, _, z1⟩, o1, rfl, n, rfl⟩ := hl
  obtain ⟨⟨_, d2, _, z2⟩, o2, rfl, m, rfl⟩ := hb
  exact wpAny_richCompare_same_room (op := .Eq) ⟨_, o1, rfl⟩ ⟨_, o2, rfl⟩ F.slot_tuple_eq (call_meetsIn F.slot_tuple_eq ⟨_, o1, rfl⟩ F.entry_tuple_eq (F.args_tuple_eq_2 _ _) (eqP_tup (d1 := d1) (d2 := d2) (z1 := z1) (z2 := z2) (n := n) (m := m) same)
    ⟨o1, o2, items, show Value.bool true ≠ Value.notImplemented ∧ Q (.bool true) s from ⟨(fun x => nomatch x), fin⟩⟩) room
end
end PySem.SeqAt
namespace Ts
open PySem PySem.Spec PyProof.Rows L2
/-! ### things alike: lists and tuples of the same things, dicts of the same keys with equal flat values -/
def AlP (K : PySem.W.Frag) (H : Hp) : Nat → V → V → Prop
  | 0, x, y => (x = y ∧ (flatB x = true ∨ ∃ c, x = .ref c)) ∨ ∃ (a b : Addr) (f g : Str → V) (l : List Str), x = .ref a ∧ y = .ref b ∧ H a = some (.dK (kvX f l)) ∧ H b = some (.dK (kvX g l)) ∧ (∀ z ∈ l, flatV (f z) = true ∧ flatV (g z) = true) ∧ allE f g l = true
  | n + 1, x, y => AlP K H n x y ∨ ∃ (a b : Addr) (xs ys : List V), x = .ref a ∧ y = .ref b ∧ ((SqL K H a xs ∧ SqL K H b ys) ∨ (SqT K H a xs ∧ SqT K H b ys)) ∧ xs.length = ys.length ∧ ∀ (i : Nat) (u v : V), xs[i]? = some u → ys[i]? = some v → AlP K H n u v
theorem vals_at2 {xs : List V} {us : List Value} (r : Vals xs us) {j : Nat} (h : j < us.length) : ∃ x, xs[j]? = some x ∧ RelV x us[j] := by
  have hj : j < xs.length := by rw [r.length]; exact h
  obtain ⟨z, hz, rz⟩ := Vals.get (i := j) (x := xs[j]) r (List.getElem?_eq_getElem hj)
  rw [List.getElem?_eq_getElem h] at hz
  cases hz
  exact ⟨_, List.getElem?_eq_getElem hj, rz⟩
section
variable {X : Cx} {pins : List (Addr × Obj)} {σ : L2.St} {H : Hp} {s : Shared}
theorem alP_eq (I : Inv X pins σ H s) : ∀ (n : Nat) {A : Around} {x y : V} {u v : Value}, AlP X.K H n x y → RelV x u → RelV y v → A.units + n < cLine → SeqAt.EqP X.prog X.w A s u v true
  | 0, A, x, y, u, v, h, rx, ry, hu => by
    rcases h with ⟨rfl, f | ⟨c, rfl⟩⟩ | ⟨a, b, f, g, l, rfl, rfl, ea, eb, hf, e⟩
    · exact (eqAt_same rx ry f).eqP
    · cases (show u = Value.ref c from rx)
      cases (show v = Value.ref c from ry)
      exact (SeqAt.EqAt.same _).eqP
    · cases (show u = Value.ref a from rx)
      cases (show v = Value.ref b from ry)
      have := eqP_dicts I (A := A) (by omega) ea eb hf (fun _ => e)
      rw [e] at this
      exact this
  | n + 1, A, x, y, u, v, h, rx, ry, hu => by
    rcases h with h | ⟨a, b, xs, ys, rfl, rfl, hs, hl, he⟩
    · exact alP_eq I n h rx ry (by omega)
    · cases (show u = Value.ref a from rx)
      cases (show v = Value.ref b from ry)
      by_cases e : a = b
      · rw [e]; exact (SeqAt.EqAt.same _).eqP
      refine SeqAt.eqP_refs e fun E Q q => ?_
      have deeper : A.in1.units + n < cLine := by show A.units + 1 + n < cLine; omega
      rcases hs with ⟨h1, h2⟩ | ⟨h1, h2⟩
      · obtain ⟨us, r1, p1, _⟩ := I.list h1
        obtain ⟨ws, r2, p2, _⟩ := I.list h2
        have l1 := r1.length
        have l2 := r2.length
        refine SeqAt.rcP_lists (e := fun _ => true) p1.isList p2.isList (by rw [List.size_toArray, List.size_toArray]; omega) (by omega) (fun j h3 h4 => ?_) E Q ?_
        · obtain ⟨x1, e1, q1⟩ := vals_at2 r1 (show j < us.length by simpa using h3)
          obtain ⟨x2, e2, q2⟩ := vals_at2 r2 (show j < ws.length by simpa using h4)
          exact alP_eq I n (he j x1 x2 e1 e2) (by simpa using q1) (by simpa using q2) deeper
        · rw [show ((List.range us.toArray.size).all fun _ => true) = true from List.all_eq_true.mpr fun _ _ => rfl]
          exact q
      · obtain ⟨us, r1, p1, _⟩ := I.tuple h1
        obtain ⟨ws, r2, p2, _⟩ := I.tuple h2
        have l1 := r1.length
        have l2 := r2.length
        refine SeqAt.rcP_tuples p1 p2 (by rw [List.size_toArray, List.size_toArray]; omega) (by omega) (fun j h3 h4 => ?_) E Q q
        obtain ⟨x1, e1, q1⟩ := vals_at2 r1 (show j < us.length by simpa using h3)
        obtain ⟨x2, e2, q2⟩ := vals_at2 r2 (show j < ws.length by simpa using h4)
        exact alP_eq I n (he j x1 x2 e1 e2) (by simpa using q1) (by simpa using q2) deeper
/-- != of two lists alike -/
def rNeAP (K : PySem.W.Frag) : R2 := fun x y H Q => (∃ (a b : Addr) (xs ys : List V), x = .ref a ∧ y = .ref b ∧ SqL K H a xs ∧ SqL K H b ys ∧ xs.length = ys.length ∧ ∀ (i : Nat) (u v : V), xs[i]? = some u → ys[i]? = some v → AlP K H 8 u v) ∧ Q (.bl false) H
end
section
variable {X : Cx}
theorem op_neAP (hu : X.A.units + 64 < cLine) : OpR X (compareOp .NotEq) (rNeAP X.K) := by
  intro pins s σ H x y v w Q I rx ry h
  obtain ⟨⟨a, b, xs, ys, rfl, rfl, h1, h2, hl, he⟩, q⟩ := h
  cases (show v = Value.ref a from rx)
  cases (show w = Value.ref b from ry)
  obtain ⟨us, r1, p1, _⟩ := I.list h1
  obtain ⟨ws, r2, p2, _⟩ := I.list h2
  have l1 := r1.length
  have l2 := r2.length
  refine SeqAt.rcP_neLists (prog := X.prog) (w := X.w) p1.isList p2.isList (by rw [List.size_toArray, List.size_toArray]; omega) (by omega) (fun j h3 h4 => ?_) _ _ ⟨.bl false, H, I, rfl, q⟩
  obtain ⟨x1, e1, q1⟩ := vals_at2 r1 (show j < us.length by simpa using h3)
  obtain ⟨x2, e2, q2⟩ := vals_at2 r2 (show j < ws.length by simpa using h4)
  exact alP_eq I 8 (he j x1 x2 e1 e2) (by simpa using q1) (by simpa using q2) (by show X.A.units + 1 + 8 < cLine; omega)
end
end Ts

set_option maxRecDepth 100000
set_option maxHeartbeats 1000000
namespace Ts
open PySem PySem.Spec PyProof.Rows L2 SeqAt
/-- a list != [] -/
def rNeNil (K : PySem.W.Frag) : R2 := fun x y H Q => ∃ (a b : Addr) (xs : List V), x = .ref a ∧ y = .ref b ∧ SqL K H a xs ∧ SqL K H b [] ∧ Q (.bl !xs.isEmpty) H
theorem op_neNil {X : Cx} (hu : X.A.units < cLine) : OpR X (compareOp .NotEq) (rNeNil X.K) := by
  intro pins s σ H x y v u Q I rx ry h
  obtain ⟨a, b, xs, rfl, rfl, ha, hb, q⟩ := h
  cases (show v = Value.ref a from rx)
  cases (show u = Value.ref b from ry)
  obtain ⟨us, r1, p1, _⟩ := I.list ha
  obtain ⟨ws, r2, p2, _⟩ := I.list hb
  have l1 := r1.length
  have l2 := r2.length
  cases xs with
  | nil =>
    refine rcP_neLists p1.isList p2.isList (by rw [List.size_toArray, List.size_toArray, ← l1, ← l2]) hu (fun j h1 h2 => ?_) _ _ ⟨.bl false, H, I, rfl, q⟩
    rw [List.size_toArray, ← l1] at h1
    exact absurd h1 (by simp)
  | cons c cs =>
    refine RcNeAt.lists_lengths p1.isList p2.isList ?_ hu _ _ _ _ ⟨.bl true, H, I, rfl, q⟩
    rw [List.size_toArray, List.size_toArray, ← l1, ← l2]
    simp
end Ts

set_option maxRecDepth 100000
set_option maxHeartbeats 4000000
namespace Ts
open PySem L2
open LamX (ExtN Tabs TabB)
/-- a key of a pair, as it stands -/
inductive KVH (H : Hp) : NK → V → Prop
  | non : KVH H .none .non
  | int : KVH H (.num 5) (.int 5)
  | str {x : Str} : PyData.strOk x = true → x.length ≤ 8 → KVH H (.text x) (.str x)
  | tup {a : Addr} : H a = some (.tup [.str ("a" : Str)]) → KVH H (.tup [.text ("a" : Str)]) (.ref a)
theorem KVH.ext {H H' : Hp} {k : NK} {v : V} (h : KVH H k v) (s : ExtN H H') : KVH H' k v := by
  cases h with
  | non => exact .non
  | int => exact .int
  | str h1 h2 => exact .str h1 h2
  | tup h => exact .tup (s _ _ h nofun)
theorem KVH.put {H : Hp} {q : Addr} {xs ys : List V} {k : NK} {v : V} (h : KVH H k v) (e : H q = some (.lst xs)) : KVH (upd H q (.lst ys)) k v := by
  cases h with
  | non => exact .non
  | int => exact .int
  | str h1 h2 => exact .str h1 h2
  | tup h => exact .tup (by rw [upd_ne (fun z => by rw [z, e] at h; cases h)]; exact h)
theorem KVH.m {K : PySem.W.Frag} {H : Hp} {k : NK} {v : V} (h : KVH H k v) : KVM K H k v := by
  cases h with
  | non => exact .non
  | int => exact .int 5
  | str h1 h2 => exact .str _
  | tup h => exact .tup _ (sqT h)
theorem KVH.dp {K : PySem.W.Frag} {H : Hp} {k : NK} {v : V} (h : KVH H k v) : Dp K H v k.data := by
  cases h with
  | non => exact .non
  | int => exact .int 5
  | str h1 h2 => exact .str _
  | tup h => exact .tup (sqT h) (.cons (.str _) .nil)
theorem KVH.shaped {H : Hp} {k : NK} {v : V} (h : KVH H k v) : SeqAt.shaped k.data = true := by
  cases h with
  | non => decide +kernel
  | int => decide +kernel
  | str h1 h2 =>
    unfold SeqAt.shaped
    rw [Bool.and_eq_true]
    exact ⟨by simp only [NestedKey.data, PyData.canLay0, h1], by simp only [NestedKey.data, PyData.depth]; decide⟩
  | tup h => decide +kernel
/-- the tuple of one key alone can be shown -/
theorem KVH.shw {K : PySem.W.Frag} {H : Hp} {k : NK} {v : V} {p : Addr} (h : KVH H k v) (e : H p = some (.tup [v])) : Shw K H (.ref p) (.tuple [k.data]) := by
  refine .inl ⟨p, rfl, .tup (sqT e) (.cons h.dp .nil), ?_⟩
  cases h with
  | non => exact ⟨by decide +kernel, by decide +kernel, by decide +kernel, by decide +kernel⟩
  | int => exact ⟨by decide +kernel, by decide +kernel, by decide +kernel, by decide +kernel⟩
  | @str x h1 h2 =>
    have hl' : x.cps.size ≤ 8 := h2
    refine ⟨?_, ?_, ?_, ?_⟩
    · unfold PyData.layable0
      rw [Bool.and_eq_true, Bool.and_eq_true, decide_eq_true_eq, decide_eq_true_eq]
      refine ⟨⟨?_, ?_⟩, ?_⟩
      · simp only [NestedKey.data, PyData.canLay0, PyData.canLayAll0, h1, Bool.and_self]
      · simp only [NestedKey.data, PyData.depth, PyData.depthAll]; decide
      · simp only [NestedKey.data, PyData.weight, PyData.weightAll]; omega
    · simp only [NestedKey.data, PyData.intsShort, PyData.intsShortAll, Bool.and_self]
    · simp only [NestedKey.data, PyData.showable, PyData.showableAll, Bool.and_self]
    · simp only [NestedKey.data, PyData.depth, PyData.depthAll]; decide
  | tup h => exact ⟨by decide +kernel, by decide +kernel, by decide +kernel, by decide +kernel⟩
theorem KVH.ne {H : Hp} {k k2 : NK} {v v2 : V} (h : KVH H k v) (h2 : KVH H k2 v2) : PyData.eqv k.data k2.data = decide (k = k2) := by
  rw [NestedKey.decide_eq]
  cases h <;> cases h2 <;> first
    | rfl
    | (simp only [NestedKey.data, NestedKey.datas, PyData.eqv, NestedKey.beq]; done)
    | (simp only [NestedKey.data, PyData.eqv, NestedKey.beq]
       rename_i x _ _ y _ _
       by_cases e : x = y
       · subst e; simp
       · rw [decide_eq_false e]; exact beq_eq_false_iff_ne.mpr e)
    | decide +kernel
theorem KVH.odd {H : Hp} {k : NK} {v : V} (h : KVH H k v) : (∃ x, k = .text x ∧ v = .str x) ∨ ((∀ x, k ≠ .text x) ∧ OddH H v) := by
  cases h with
  | non => exact .inr ⟨nofun, .inl rfl⟩
  | int => exact .inr ⟨nofun, .inr (.inl ⟨5, rfl⟩)⟩
  | str h1 h2 => exact .inl ⟨_, rfl, rfl⟩
  | tup h => exact .inr ⟨nofun, .inr (.inr (.inr (.inr (.inl ⟨_, _, rfl, h⟩))))⟩
/-- an entry with what its value holds -/
structure EnL where
  e : EnV
  cs : List V
structure EnOk (H : Hp) (x : EnL) : Prop where
  key : KVH H x.e.k x.e.kv
  val : ThAt H x.e.v x.cs
  flat : ∀ c ∈ x.cs, ∀ a, c ≠ V.ref a
theorem EnOk.ext {H H' : Hp} {x : EnL} (h : EnOk H x) (s : ExtN H H') : EnOk H' x := ⟨h.key.ext s, h.val.ext s, h.flat⟩
/-- another list is written -/
theorem EnOk.put {H : Hp} {q : Addr} {xs ys : List V} {x : EnL} (h : EnOk H x) (e : H q = some (.lst xs)) (ap : ∀ a, x.e.v = V.ref a → a ≠ q) : EnOk (upd H q (.lst ys)) x := by
  obtain ⟨hk, hv, hf⟩ := h
  have cellK : ∀ c ∈ x.cs, CellV H c → CellV (upd H q (.lst ys)) c := fun c hc z => by
    rcases z with z | z | z | z | ⟨a, _, ez, _⟩ | ⟨a, _, ez, _⟩ | ⟨a, _, ez, _⟩
    · exact .inl z
    · exact .inr (.inl z)
    · exact .inr (.inr (.inl z))
    · exact .inr (.inr (.inr (.inl z)))
    all_goals exact absurd ez (hf c hc a)
  refine ⟨?_, ?_, hf⟩
  · exact hk.put e
  · rcases hv with ⟨hn, hc⟩ | ⟨a, ea, hs, hl, hc⟩
    · refine .inl ⟨?_, hc⟩
      rcases hn with z | z | z | ⟨a, kvs, ez, hz⟩
      · exact .inl z
      · exact .inr (.inl z)
      · exact .inr (.inr (.inl z))
      · exact .inr (.inr (.inr ⟨a, kvs, ez, by rw [upd_ne (fun z => by rw [z, e] at hz; cases hz)]; exact hz⟩))
    · have na : a ≠ q := ap a ea
      refine .inr ⟨a, ea, ?_, hl, fun c hc' => cellK c hc' (hc c hc')⟩
      rcases hs with hs | hs
      · exact .inl (by rw [upd_ne na]; exact hs)
      · exact .inr (by rw [upd_ne na]; exact hs)
def inKey (S : List Str) : NK → Bool
  | .text z => decide (z ∈ S)
  | _ => false
def goodB (S : List Str) (x : EnL) : Bool := inKey S x.e.k && rangeB x.cs
theorem shut_row {rs : List Row} (hv : Valid rs) {z : Str} : z ∈ shutL rs ↔ ∃ r, rowOf rs z = some r ∧ r.ki = ("shut" : Str) := by
  unfold shutL
  constructor
  · intro h
    obtain ⟨r, hr, rfl⟩ := List.mem_map.mp h
    obtain ⟨h1, h2⟩ := List.mem_filter.mp hr
    exact ⟨r, names_inj2 hv h1, of_decide_eq_true h2⟩
  · rintro ⟨r, hr, hk⟩
    have h1 := List.mem_of_find?_eq_some hr
    have h2 := List.find?_some hr
    exact List.mem_map.mpr ⟨r, List.mem_filter.mpr ⟨h1, decide_eq_true hk⟩, of_decide_eq_true h2⟩
theorem good_of {H : Hp} {rs : List Row} (hv : Valid rs) {x : EnL} (h : EnOk H x) (g : goodB (shutL rs) x = true) : GoodE rs H x.e := by
  unfold goodB at g
  rw [Bool.and_eq_true] at g
  obtain ⟨g1, g2⟩ := g
  rcases h.key.odd with ⟨z, e1, e2⟩ | ⟨no, _⟩
  · rw [e1] at g1
    obtain ⟨r, h1, h2⟩ := (shut_row hv).mp (of_decide_eq_true g1)
    exact ⟨z, r, x.cs, e2, h1, h2, h.val, g2⟩
  · cases e : x.e.k with
    | text z => exact absurd e (no z)
    | _ => rw [e] at g1; cases g1
theorem bad_of {H : Hp} {rs : List Row} (hv : Valid rs) {x : EnL} (h : EnOk H x) (g : goodB (shutL rs) x = false) : BadE rs H x.e := by
  rcases h.key.odd with ⟨z, e1, e2⟩ | ⟨_, ho⟩
  · cases hr : rowOf rs z with
    | none =>
      refine .inl (.inl ⟨z, e2, fun hz => ?_⟩)
      obtain ⟨r, hr1, hr2⟩ := List.mem_map.mp hz
      have := names_inj2 hv hr1
      rw [hr2, hr] at this
      cases this
    | some r =>
      refine .inr ⟨z, r, e2, hr, ?_⟩
      by_cases hk : r.ki = ("shut" : Str)
      · refine .inr ⟨hk, x.cs, h.val, ?_⟩
        unfold goodB at g
        rw [e1] at g
        have : inKey (shutL rs) (.text z) = true := decide_eq_true ((shut_row hv).mpr ⟨r, hr, hk⟩)
        rw [this, Bool.true_and] at g
        exact g
      · exact .inl hk
  · exact .inl (.inr ho)
/-- the pairs, as the law holds them -/
structure PairsOk (H : Hp) (q : Addr) (l : List EnL) : Prop where
  ex : ∃ ts : List Addr, H q = some (.lst (ts.map V.ref)) ∧ Paired (fun (t : Addr) (x : EnL) => H t = some (.tup [x.e.kv, x.e.v])) ts l
  ok : ∀ x ∈ l, EnOk H x
  nd : (l.map fun x => x.e.k).Nodup
  len : l.length ≤ 8
  ap : ∀ x ∈ l, ∀ a, x.e.v = V.ref a → a ≠ q
theorem PairsOk.ext {H H' : Hp} {q : Addr} {l : List EnL} (h : PairsOk H q l) (s : ExtN H H') : PairsOk H' q l := by
  obtain ⟨ts, h1, h2⟩ := h.ex
  exact ⟨⟨ts, s _ _ h1 nofun, L2.Paired.mapP h2 fun a b e => s _ _ e nofun⟩, fun x hx => (h.ok x hx).ext s, h.nd, h.len, h.ap⟩
end Ts

set_option maxRecDepth 100000
set_option maxHeartbeats 4000000
namespace Ts
open PySem L2
open LamX (ExtN Tabs TabB)
theorem pairedApp {α β : Type} {F : α → β → Prop} : ∀ {a : List α} {b : List β} {c : List α} {d : List β}, Paired F a b → Paired F c d → Paired F (a ++ c) (b ++ d)
  | _, _, _, _, .nil, h => h
  | _, _, _, _, .cons x t, h => .cons x (pairedApp t h)
theorem pairedTake {α β : Type} {F : α → β → Prop} : ∀ {a : List α} {b : List β} (i : Nat), Paired F a b → Paired F (a.take i) (b.take i)
  | _, _, 0, _ => by rw [List.take_zero, List.take_zero]; exact .nil
  | _, _, i + 1, .nil => .nil
  | _, _, i + 1, .cons x t => .cons x (pairedTake i t)
theorem pairedDrop {α β : Type} {F : α → β → Prop} : ∀ {a : List α} {b : List β} (i : Nat), Paired F a b → Paired F (a.drop i) (b.drop i)
  | _, _, 0, h => h
  | _, _, i + 1, .nil => .nil
  | _, _, i + 1, .cons x t => pairedDrop i t
theorem pairedLen {α β : Type} {F : α → β → Prop} : ∀ {a : List α} {b : List β}, Paired F a b → a.length = b.length
  | _, _, .nil => rfl
  | _, _, .cons _ t => by rw [List.length_cons, List.length_cons, pairedLen t]
theorem pairedAt {α β : Type} {F : α → β → Prop} : ∀ {a : List α} {b : List β}, Paired F a b → ∀ {i : Nat} {x : α}, a[i]? = some x → ∃ y, b[i]? = some y ∧ F x y
  | _, _, .nil, i, x, e => by simp at e
  | _, _, .cons h t, i, x, e => by
    cases i with
    | zero => cases e; exact ⟨_, rfl, h⟩
    | succ i => exact pairedAt t e
/-- a new pair is put in, its key being no other's -/
theorem PairsOk.put {H : Hp} {q t : Addr} {ts : List Addr} {l : List EnL} {x : EnL} (i : Nat) (h1 : H q = some (.lst (ts.map V.ref))) (h2 : Paired (fun (t : Addr) (x : EnL) => H t = some (.tup [x.e.kv, x.e.v])) ts l) (ok : ∀ y ∈ l, EnOk H y) (nd : (l.map fun y => y.e.k).Nodup) (hl : l.length ≤ 7)
    (ap : ∀ y ∈ l, ∀ a, y.e.v = V.ref a → a ≠ q) (ht : H t = some (.tup [x.e.kv, x.e.v])) (hx : EnOk H x) (apx : ∀ a, x.e.v = V.ref a → a ≠ q) (new : x.e.k ∉ l.map fun y => y.e.k) :
    PairsOk (upd H q (.lst ((ts.map V.ref).take i ++ [.ref t] ++ (ts.map V.ref).drop i))) q (l.take i ++ [x] ++ l.drop i) := by
  have keepT : ∀ {b : Addr} {xs : List V}, H b = some (.tup xs) → (upd H q (.lst ((ts.map V.ref).take i ++ [.ref t] ++ (ts.map V.ref).drop i))) b = some (.tup xs) := fun {b xs} e => by
    rw [upd_ne (fun z => by rw [z, h1] at e; cases e)]; exact e
  have mem : ∀ y ∈ l.take i ++ [x] ++ l.drop i, y = x ∨ y ∈ l := fun y hy => by
    rcases List.mem_append.mp hy with hy | hy
    · rcases List.mem_append.mp hy with hy | hy
      · exact .inr (List.mem_of_mem_take hy)
      · exact .inl (List.mem_singleton.mp hy)
    · exact .inr (List.mem_of_mem_drop hy)
  refine ⟨⟨ts.take i ++ [t] ++ ts.drop i, ?_, ?_⟩, fun y hy => ?_, ?_, ?_, fun y hy => ?_⟩
  · rw [upd_same, List.map_append, List.map_append, List.map_take, List.map_drop]; rfl
  · have h3 := L2.Paired.mapP h2 fun a b e => keepT e
    exact pairedApp (pairedApp (pairedTake i h3) (.cons (keepT ht) .nil)) (pairedDrop i h3)
  · rcases mem y hy with rfl | hy
    · exact hx.put h1 apx
    · exact (ok y hy).put h1 (ap y hy)
  · rw [List.map_append, List.map_append, List.map_take, List.map_drop]
    have e : (l.map fun y => y.e.k) = (l.map fun y => y.e.k).take i ++ (l.map fun y => y.e.k).drop i := (List.take_append_drop i _).symm
    have p : ((l.map fun y => y.e.k).take i ++ [x].map (fun y => y.e.k) ++ (l.map fun y => y.e.k).drop i).Perm (x.e.k :: l.map fun y => y.e.k) := by
      rw [List.append_assoc]
      refine List.Perm.trans List.perm_middle ?_
      show (x.e.k :: ((l.map fun y => y.e.k).take i ++ (l.map fun y => y.e.k).drop i)).Perm _
      rw [← e]
    exact p.nodup_iff.mpr (List.nodup_cons.mpr ⟨new, nd⟩)
  · rw [List.length_append, List.length_append, List.length_take, List.length_drop, List.length_singleton]
    omega
  · rcases mem y hy with rfl | hy
    · exact apx
    · exact ap y hy
/-- the pairs that a dict of ranges comes to -/
theorem PairsOk.start {H : Hp} {q : Addr} {ts : List Addr} {L : List Str} {g : Str → Rg} {ad : Str → Addr} (h1 : H q = some (.lst (ts.map V.ref))) (h2 : Paired (fun (t : Addr) (x : Key × V) => H t = some (.tup [kV x.1, x.2])) ts (kvX (fun z => V.ref (ad z)) L))
    (hg : ∀ z ∈ L, H (ad z) = some (.tup (rgV (g z)))) (nd : L.Nodup) (hl : L.length ≤ 4) (hz : ∀ z ∈ L, PyData.strOk z = true ∧ z.length ≤ 8) : PairsOk H q (L.map fun z => ⟨⟨.text z, .str z, .ref (ad z)⟩, rgV (g z)⟩) := by
  refine ⟨⟨ts, h1, ?_⟩, fun x hx => ?_, ?_, by rw [List.length_map]; omega, fun x hx => ?_⟩
  · have gen : ∀ {ts : List Addr} {L : List Str}, Paired (fun (t : Addr) (x : Key × V) => H t = some (.tup [kV x.1, x.2])) ts (kvX (fun z => V.ref (ad z)) L) → Paired (fun (t : Addr) (x : EnL) => H t = some (.tup [x.e.kv, x.e.v])) ts (L.map fun z => ⟨⟨.text z, .str z, .ref (ad z)⟩, rgV (g z)⟩) := by
      intro ts L h
      induction L generalizing ts with
      | nil => cases h; exact .nil
      | cons z L ih =>
        cases h with
        | cons a b => exact .cons a (ih b)
    exact gen h2
  · obtain ⟨z, hz1, rfl⟩ := List.mem_map.mp hx
    obtain ⟨o1, o2⟩ := hz z hz1
    refine ⟨.str o1 o2, .inr ⟨ad z, rfl, .inl (hg z hz1), (by show 2 ≤ 10; decide), fun c hc => ?_⟩, fun c hc a e => ?_⟩
    · have hc : c = V.int (g z).lo ∨ c = prV (g z).hi := by simpa [rgV] using hc
      rcases hc with rfl | rfl
      · exact .inr (.inr (.inl ⟨_, rfl⟩))
      · cases (g z).hi with
        | none => exact .inr (.inl rfl)
        | some i => exact .inr (.inr (.inl ⟨i, rfl⟩))
    · have hc : c = V.int (g z).lo ∨ c = prV (g z).hi := by simpa [rgV] using hc
      rcases hc with rfl | rfl
      · cases e
      · cases hh : (g z).hi with
        | none => rw [hh] at e; cases e
        | some i => rw [hh] at e; cases e
  · rw [List.map_map]
    exact nd.map _ (fun a b ne e => ne (by injection e))
  · obtain ⟨z, hz1, rfl⟩ := List.mem_map.mp hx
    intro a e
    cases e
    exact fun z2 => by have := hg z hz1; rw [z2, h1] at this; cases this
end Ts

set_option maxRecDepth 100000
set_option maxHeartbeats 4000000
namespace Ts
open PySem L2
open LamX (ExtN Tabs TabB)
theorem KVH.sb {H H' : Hp} {q : Addr} {xs : List V} {k : NK} {v : V} (h : KVH H k v) (e : H q = some (.lst xs)) (s : SB q H H') : KVH H' k v := by
  cases h with
  | non => exact .non
  | int => exact .int
  | str h1 h2 => exact .str h1 h2
  | tup h => exact .tup (s _ _ (fun z => by rw [z, e] at h; cases h) h)
theorem EnOk.sb {H H' : Hp} {q : Addr} {xs : List V} {x : EnL} (h : EnOk H x) (e : H q = some (.lst xs)) (s : SB q H H') (ap : ∀ a, x.e.v = V.ref a → a ≠ q) : EnOk H' x := by
  obtain ⟨hk, hv, hf⟩ := h
  have cellK : ∀ c ∈ x.cs, CellV H c → CellV H' c := fun c hc z => by
    rcases z with z | z | z | z | ⟨a, _, ez, _⟩ | ⟨a, _, ez, _⟩ | ⟨a, _, ez, _⟩
    · exact .inl z
    · exact .inr (.inl z)
    · exact .inr (.inr (.inl z))
    · exact .inr (.inr (.inr (.inl z)))
    all_goals exact absurd ez (hf c hc a)
  refine ⟨hk.sb e s, ?_, hf⟩
  rcases hv with ⟨hn, hc⟩ | ⟨a, ea, hs, hl, hc⟩
  · refine .inl ⟨?_, hc⟩
    rcases hn with z | z | z | ⟨a, kvs, ez, hz⟩
    · exact .inl z
    · exact .inr (.inl z)
    · exact .inr (.inr (.inl z))
    · exact .inr (.inr (.inr ⟨a, kvs, ez, s _ _ (fun z => by rw [z, e] at hz; cases hz) hz⟩))
  · have na : a ≠ q := ap a ea
    refine .inr ⟨a, ea, ?_, hl, fun c hc' => cellK c hc' (hc c hc')⟩
    rcases hs with hs | hs
    · exact .inl (s _ _ na hs)
    · exact .inr (s _ _ na hs)
theorem EnOk.live {H : Hp} {x : EnL} (h : EnOk H x) {b : Addr} (e : x.e.v = V.ref b) : H b ≠ none := by
  intro hb
  rcases h.val with ⟨z | ⟨_, z⟩ | ⟨_, z⟩ | ⟨a, kvs, ez, hz⟩, _⟩ | ⟨a, ea, hs | hs, _⟩
  · rw [e] at z; cases z
  · rw [e] at z; cases z
  · rw [e] at z; cases z
  · rw [e] at ez; cases ez; rw [hb] at hz; cases hz
  · rw [e] at ea; cases ea; rw [hb] at hs; cases hs
  · rw [e] at ea; cases ea; rw [hb] at hs; cases hs
/-- the pairs, the stream aside -/
structure PW (H5 H : Hp) (a q : Addr) (l : List EnL) (n : Int) : Prop where
  sb : SB a H5 H
  st : Stm H a n
  q0 : H5 q = none
  qa : q ≠ a
  ok : PairsOk H q l
  na : ∀ x ∈ l, ∀ b, x.e.v = V.ref b → b ≠ a
theorem PW.more {H5 H H' : Hp} {a q : Addr} {l : List EnL} {n n' : Int} (h : PW H5 H a q l n) (s : SB a H H') (st : Stm H' a n') : PW H5 H' a q l n' := by
  obtain ⟨ts, h1, h2⟩ := h.ok.ex
  obtain ⟨x, y, z, ea, _⟩ := h.st
  refine ⟨h.sb.trans s, st, h.q0, h.qa, ⟨⟨ts, s _ _ h.qa h1, L2.Paired.mapP h2 fun b x e => s _ _ (fun z => by rw [z, ea] at e; cases e) e⟩, fun x hx => (h.ok.ok x hx).sb ea s (h.na x hx), h.ok.nd, h.ok.len, h.ok.ap⟩, h.na⟩
theorem PW.same {H5 H H' : Hp} {a q : Addr} {l : List EnL} {n : Int} (h : PW H5 H a q l n) (s : Same H H') : PW H5 H' a q l n := h.more (SB.of s) (h.st.same s)
/-- an odd thing for a range -/
structure OddR (H : Hp) (v : V) (cs : List V) : Prop where
  val : ThAt H v cs
  flat : ∀ c ∈ cs, ∀ a, c ≠ V.ref a
theorem OddR.ext {H H' : Hp} {v : V} {cs : List V} (h : OddR H v cs) (s : ExtN H H') : OddR H' v cs := ⟨h.val.ext s, h.flat⟩
theorem OddR.en {H : Hp} {v : V} {cs : List V} (h : OddR H v cs) {k : NK} {kv : V} (hk : KVH H k kv) : EnOk H ⟨⟨k, kv, v⟩, cs⟩ := ⟨hk, h.val, h.flat⟩
def smallC : V → Bool
  | .non => true
  | .int _ => true
  | .bl _ => true
  | .str z => decide (z.length ≤ 100)
  | _ => false
theorem smallC_cell {H : Hp} {c : V} (h : smallC c = true) : CellV H c ∧ ∀ a, c ≠ V.ref a := by
  cases c with
  | non => exact ⟨.inr (.inl rfl), nofun⟩
  | int i => exact ⟨.inr (.inr (.inl ⟨i, rfl⟩)), nofun⟩
  | bl b => exact ⟨.inr (.inr (.inr (.inl ⟨b, rfl⟩))), nofun⟩
  | str z => exact ⟨.inl ⟨z, rfl, of_decide_eq_true h⟩, nofun⟩
  | _ => cases h
theorem OddR.seq {H : Hp} {t : Addr} {cs : List V} (e : Seq H t cs) (hl : cs.length ≤ 10) (hc : ∀ c ∈ cs, smallC c = true) : OddR H (.ref t) cs :=
  ⟨.inr ⟨t, rfl, e, hl, fun c h => (smallC_cell (hc c h)).1⟩, fun c h => (smallC_cell (H := H) (hc c h)).2⟩
theorem OddR.non {H : Hp} : OddR H .non [] := ⟨.inl ⟨.inl rfl, rfl⟩, nofun⟩
theorem OddR.int {H : Hp} {i : Int} : OddR H (.int i) [] := ⟨.inl ⟨.inr (.inl ⟨i, rfl⟩), rfl⟩, nofun⟩
theorem name8 {rs : List Row} (hv : Valid rs) {z : Str} (h : z ∈ names rs) : z.length ≤ 8 := by
  obtain ⟨r, hr, rfl⟩ := List.mem_map.mp h
  obtain ⟨i, hi⟩ := List.mem_iff_getElem?.mp hr
  exact (hv i r hi).shape.pos.2
theorem not_name {rs : List Row} (hv : Valid rs) {z : Str} (h : ¬ NameShape z) : z ∉ names rs := fun hz => by
  obtain ⟨r, hr, rfl⟩ := List.mem_map.mp hz
  obtain ⟨i, hi⟩ := List.mem_iff_getElem?.mp hr
  exact h (hv i r hi).shape
theorem row_name {rs : List Row} {z : Str} {r : Row} (h : rowOf rs z = some r) : z ∈ names rs := by
  have h1 := List.mem_of_find?_eq_some h
  have h2 := List.find?_some h
  exact List.mem_map.mpr ⟨r, h1, of_decide_eq_true h2⟩
/-- the keys that are picked from -/
theorem keys_at {H : Hp} {rs : List Row} (hv : Valid rs) {ta : Addr} (e : H ta = some (.tup [.str ("a" : Str)])) {v : V} (h : v ∈ [V.non, V.int 5, V.str ("nobody" : Str), V.str ("top" : Str), V.ref ta] ++ (names rs).map V.str) : ∃ k, KVH H k v := by
  rcases List.mem_append.mp h with h | h
  · simp only [List.mem_cons, List.not_mem_nil, or_false] at h
    rcases h with rfl | rfl | rfl | rfl | rfl
    · exact ⟨_, .non⟩
    · exact ⟨_, .int⟩
    · exact ⟨_, .str (by decide +kernel) (by decide +kernel)⟩
    · exact ⟨_, .str (by decide +kernel) (by decide +kernel)⟩
    · exact ⟨_, .tup e⟩
  · obtain ⟨z, hz, rfl⟩ := List.mem_map.mp h
    exact ⟨_, .str (names_ok hv z hz) (name8 hv hz)⟩
end Ts

set_option maxRecDepth 100000
set_option maxHeartbeats 4000000
namespace Ts
open PySem L2
open LamX (ExtN Tabs TabB)
theorem rangeB_rg {H : Hp} {y : V} {cs : List V} (h : ThAt H y cs) (g : rangeB cs = true) : ∃ (b : Addr) (q : Rg), y = .ref b ∧ Seq H b (rgV q) ∧ q.ok ∧ cs = rgV q := by
  have sh : ∃ q : Rg, cs = rgV q ∧ q.ok := by
    match cs, g with
    | [a, b], g =>
      unfold rangeB at g
      rw [Bool.and_eq_true] at g
      obtain ⟨g1, g2⟩ := g
      cases a with
      | int lo =>
        have h0 : 0 ≤ lo := of_decide_eq_true g1
        cases b with
        | non => exact ⟨⟨lo, none⟩, rfl, h0, fun _ e => by cases e⟩
        | int hi =>
          have h1 : lo ≤ hi := of_decide_eq_true g2
          exact ⟨⟨lo, some hi⟩, rfl, h0, fun _ e => by cases e; exact h1⟩
        | _ => cases g2
      | _ => cases g1
    | [], g => cases g
    | [_], g => cases g
    | _ :: _ :: _ :: _, g => cases g
  obtain ⟨q, rfl, ok⟩ := sh
  rcases h with ⟨_, e⟩ | ⟨a, e, hs, _⟩
  · cases e
  · exact ⟨a, q, e, hs, ok, rfl⟩
theorem KVH.text {H : Hp} {k : NK} {z : Str} (h : KVH H k (.str z)) : k = .text z := by
  cases h
  rfl
/-- entries that can all stand there -/
theorem good_fine {H : Hp} {rs : List Row} (hv : Valid rs) : ∀ {ts : List Addr} {l : List EnL}, Paired (fun (t : Addr) (x : EnL) => H t = some (.tup [x.e.kv, x.e.v])) ts l → (∀ x ∈ l, EnOk H x) → (l.map fun x => x.e.k).Nodup → (∀ x ∈ l, goodB (shutL rs) x = true) →
    ∃ (L : List Str) (g : Str → Rg) (ad : Str → Addr), L.Nodup ∧ L.length = l.length ∧ (∀ z ∈ L, NestedKey.text z ∈ l.map fun x => x.e.k) ∧ Paired (fun (t : Addr) (kv : Key × V) => H t = some (.tup [kV kv.1, kv.2])) ts (kvX (fun z => V.ref (ad z)) L) ∧ ∀ z ∈ L, Seq H (ad z) (rgV (g z)) ∧ (g z).ok ∧ ∃ r, rowOf rs z = some r ∧ r.ki = ("shut" : Str)
  | _, _, .nil, _, _, _ => ⟨[], fun _ => noI, fun _ => 0, List.nodup_nil, rfl, nofun, .nil, nofun⟩
  | t :: ts, x :: l, .cons hx hp, ok, nd, hg => by
    have nd' : x.e.k ∉ (l.map fun x => x.e.k) ∧ (l.map fun x => x.e.k).Nodup := List.nodup_cons.mp nd
    obtain ⟨L, g, ad, h1, h2, h3, h4, h5⟩ := good_fine hv hp (fun y hy => ok y (List.mem_cons_of_mem _ hy)) nd'.2 fun y hy => hg y (List.mem_cons_of_mem _ hy)
    have okx := ok x (List.mem_cons_self ..)
    obtain ⟨z, r, cs, e1, e2, e3, e4, e5⟩ := good_of hv okx (hg x (List.mem_cons_self ..))
    obtain ⟨b, q, e6, e7, e8, _⟩ := rangeB_rg e4 e5
    have ek : x.e.k = .text z := by
      have := okx.key
      rw [e1] at this
      exact this.text
    have hz : z ∉ L := fun hm => nd'.1 (by rw [ek]; exact h3 z hm)
    have neq : ∀ y ∈ L, y ≠ z := fun y hy e => hz (e ▸ hy)
    refine ⟨z :: L, fun y => if y = z then q else g y, fun y => if y = z then b else ad y, List.nodup_cons.mpr ⟨hz, h1⟩, by rw [List.length_cons, List.length_cons, h2], fun y hy => ?_, ?_, fun y hy => ?_⟩
    · rcases List.mem_cons.mp hy with rfl | hy
      · rw [← ek]; exact List.mem_cons_self ..
      · exact List.mem_cons_of_mem _ (h3 y hy)
    · have er : kvX (fun y => V.ref (if y = z then b else ad y)) (z :: L) = (.inr z, V.ref b) :: kvX (fun y => V.ref (ad y)) L := by
        unfold kvX
        rw [List.map_cons]
        dsimp only
        rw [if_pos rfl]
        congr 1
        exact List.map_congr_left fun y hy => by rw [if_neg (neq y hy)]
      rw [er]
      refine .cons ?_ h4
      have : kV (.inr z : Key) = x.e.kv := e1.symm
      show H t = some (.tup [kV (.inr z : Key), V.ref b])
      rw [this, ← e6]
      exact hx
    · by_cases e : y = z
      · subst e
        dsimp only
        rw [if_pos rfl, if_pos rfl]
        exact ⟨e7, e8, r, e2, e3⟩
      · dsimp only
        rw [if_neg e, if_neg e]
        exact h5 y ((List.mem_cons.mp hy).resolve_left e)
/-- the first that cannot stand there -/
theorem first_bad {S : List Str} : ∀ {l : List EnL}, ¬ (∀ x ∈ l, goodB S x = true) → ∃ (i : Nat) (y : EnL) (ys : List EnL), l[i]? = some y ∧ goodB S y = false ∧ (∀ (j : Nat) (x : EnL), j < i → l[j]? = some x → goodB S x = true) ∧ (l.filter fun x => !goodB S x) = y :: ys
  | [], h => absurd nofun h
  | x :: l, h => by
    cases e : goodB S x with
    | false => exact ⟨0, x, l.filter fun x => !goodB S x, rfl, e, fun j y hj => by omega, List.filter_cons_of_pos (p := fun x => !goodB S x) (by rw [e]; rfl)⟩
    | true =>
      have h' : ¬ ∀ y ∈ l, goodB S y = true := fun k => h fun y hy => by
        rcases List.mem_cons.mp hy with rfl | hy
        · exact e
        · exact k y hy
      obtain ⟨i, y, ys, h1, h2, h3, h4⟩ := first_bad h'
      refine ⟨i + 1, y, ys, h1, h2, fun j x' hj hx => ?_, ?_⟩
      · cases j with
        | zero => cases hx; exact e
        | succ j => exact h3 j x' (by omega) hx
      · rw [List.filter_cons_of_neg (by rw [e]; simp)]
        exact h4
theorem KVH.oddV {K : PySem.W.Frag} {H : Hp} {k : NK} {v : V} (h : KVH H k v) : (∃ x, k = .text x ∧ v = .str x) ∨ ((∀ S, inKey S k = false) ∧ OddV K H v) := by
  cases h with
  | non => exact .inr ⟨fun _ => rfl, .inl rfl⟩
  | int => exact .inr ⟨fun _ => rfl, .inr (.inl ⟨5, rfl⟩)⟩
  | str h1 h2 => exact .inl ⟨_, rfl, rfl⟩
  | tup h => exact .inr ⟨fun _ => rfl, .inr (.inr (.inr (.inr (.inl ⟨_, _, rfl, sqT h⟩))))⟩
theorem atV_mem : ∀ {l : List EnL} {x : EnL}, (l.map fun x => x.e.k).Nodup → x ∈ l → atV (l.map fun x => x.e) x.e.k = some x.e.v
  | [], _, _, h => by cases h
  | y :: l, x, nd, h => by
    have nd' : y.e.k ∉ (l.map fun x => x.e.k) ∧ (l.map fun x => x.e.k).Nodup := List.nodup_cons.mp nd
    unfold atV
    rw [List.map_cons]
    rcases List.mem_cons.mp h with rfl | h
    · rw [List.find?_cons_of_pos (by simp)]
      rfl
    · have : y.e.k ≠ x.e.k := fun e => nd'.1 (by rw [e]; exact List.mem_map.mpr ⟨x, h, rfl⟩)
      rw [List.find?_cons_of_neg (by simpa using this)]
      exact atV_mem nd'.2 h
theorem keysM_of {K : PySem.W.Frag} {H : Hp} {l : List EnL} (h : ∀ x ∈ l, EnOk H x) : KeysM K H (l.map fun x => x.e) := fun y hy => by
  obtain ⟨x, hx, rfl⟩ := List.mem_map.mp hy
  exact (h x hx).key.m
theorem pairedMapR {α β γ : Type} {F : α → β → Prop} {G : α → γ → Prop} {f : β → γ} (k : ∀ a b, F a b → G a (f b)) : ∀ {a : List α} {b : List β}, Paired F a b → Paired G a (b.map f)
  | _, _, .nil => .nil
  | _, _, .cons h t => .cons (k _ _ h) (pairedMapR k t)
theorem rg_th {H : Hp} {b : Addr} {q : Rg} (h : Seq H b (rgV q)) : ThAt H (.ref b) (rgV q) := .inr ⟨b, rfl, h, (by show 2 ≤ 10; decide), fun c hc => by
  have hc : c = V.int q.lo ∨ c = prV q.hi := by simpa [rgV] using hc
  rcases hc with rfl | rfl
  · exact .inr (.inr (.inl ⟨_, rfl⟩))
  · cases q.hi with
    | none => exact .inr (.inl rfl)
    | some i => exact .inr (.inr (.inl ⟨i, rfl⟩))⟩
theorem rg_rangeB {q : Rg} (h : q.ok) : rangeB (rgV q) = true := by
  obtain ⟨lo, hi⟩ := q
  obtain ⟨h1, h2⟩ := h
  cases hi with
  | none => exact Bool.and_eq_true_iff.mpr ⟨decide_eq_true h1, rfl⟩
  | some i => exact Bool.and_eq_true_iff.mpr ⟨decide_eq_true h1, decide_eq_true (h2 i rfl)⟩
theorem sqT_ext {K : PySem.W.Frag} {H H' : Hp} {a : Addr} {xs : List V} (h : SqT K H a xs) (s : ExtN H H') : SqT K H' a xs := by
  rcases h with (h | ⟨o, h⟩) | h
  · exact .inl (.inl (s _ _ h nofun))
  · exact .inl (.inr ⟨o, s _ _ h nofun⟩)
  · exact .inr h
theorem sqT_kl {K : PySem.W.Frag} {H H' : Hp} {a : Addr} {xs : List V} (h : SqT K H a xs) (s : KL H H') : SqT K H' a xs := by
  rcases h with (h | ⟨o, h⟩) | h
  · exact .inl (.inl (s _ _ h (fun _ e => nomatch e)))
  · exact .inl (.inr ⟨o, s _ _ h (fun _ e => nomatch e)⟩)
  · exact .inr h
theorem CntAt.ext {K : PySem.W.Frag} {C CC : Addr} {H H' : Hp} {c t : Addr} {rs : List Row} {pr : Str → Rg} (h : CntAt K C CC H c t rs pr) (s : ExtN H H') : CntAt K C CC H' c t rs pr := let ⟨⟨dx, k, h1, ad, h2, h3⟩, ht⟩ := h; ⟨⟨dx, k, s _ _ h1 nofun, ad, s _ _ h2 nofun, fun z hz => sqT_ext (h3 z hz) s⟩, ht.ext s⟩
theorem CntAt.kl {K : PySem.W.Frag} {C CC : Addr} {H H' : Hp} {c t : Addr} {rs : List Row} {pr : Str → Rg} (h : CntAt K C CC H c t rs pr) (s : KL H H') : CntAt K C CC H' c t rs pr := let ⟨⟨dx, k, h1, ad, h2, h3⟩, ht⟩ := h; ⟨⟨dx, k, s _ _ h1 (fun _ e => nomatch e), ad, s _ _ h2 (fun _ e => nomatch e), fun z hz => sqT_kl (h3 z hz) s⟩, ht.kl s⟩
theorem RgsT.kl {H H' : Hp} {d : Addr} {L : List Str} {g : Str → Rg} (h : RgsT H d L g) (s : KL H H') : RgsT H' d L g := let ⟨ad, h1, h2⟩ := h; ⟨ad, s _ _ h1 (fun _ e => nomatch e), fun z hz => s _ _ (h2 z hz) (fun _ e => nomatch e)⟩
/-- what the dict of the pairs is -/
def FineD (H : Hp) (d : Addr) (rs : List Row) : Prop := ∃ (L : List Str) (g : Str → Rg) (ad : Str → Addr), H d = some (.dK (kvX (fun z => V.ref (ad z)) L)) ∧ L.length ≤ 8 ∧ ∀ z ∈ L, Seq H (ad z) (rgV (g z)) ∧ (g z).ok ∧ ∃ r, rowOf rs z = some r ∧ r.ki = ("shut" : Str)
def BadD (w : World) (H : Hp) (d : Addr) (rs : List Row) (l : List EnL) : Prop := (∃ o, H d = some (.frz o (DicM w d (l.map fun x => x.e)))) ∧ (∀ x ∈ l, EnOk H x) ∧ (l.map fun x => x.e.k).Nodup ∧ l.length ≤ 8 ∧ ¬ ∀ x ∈ l, goodB (shutL rs) x = true
theorem FineD.rg {H : Hp} {d : Addr} {rs : List Row} (h : FineD H d rs) : RgFine H d rs := let ⟨L, g, ad, h1, h2, h3⟩ := h; ⟨L, g, ⟨ad, h1, fun z hz => (h3 z hz).1⟩, by omega, fun z hz => (h3 z hz).2⟩
theorem FineD.same {H H' : Hp} {d : Addr} {rs : List Row} (h : FineD H d rs) (s : Same H H') : FineD H' d rs := let ⟨L, g, ad, h1, h2, h3⟩ := h; ⟨L, g, ad, s _ _ h1, h2, fun z hz => let ⟨k1, k2⟩ := h3 z hz; ⟨k1.same s, k2⟩⟩
theorem BadD.same {w : World} {H H' : Hp} {d : Addr} {rs : List Row} {l : List EnL} (h : BadD w H d rs l) (s : Same H H') : BadD w H' d rs l := let ⟨⟨o, h1⟩, h2, h3⟩ := h; ⟨⟨o, s _ _ h1⟩, fun x hx => (h2 x hx).ext (Same.x s), h3⟩
theorem BadD.bad {w : World} {H : Hp} {d : Addr} {rs : List Row} {l : List EnL} (hv : Valid rs) (h : BadD w H d rs l) : ∃ (y : EnL) (ys : List EnL), RgBad w H d rs y.e.kv ∧ KVH H y.e.k y.e.kv ∧ (l.filter fun x => !goodB (shutL rs) x) = y :: ys := by
  obtain ⟨⟨o, h1⟩, h2, h3, h4, h5⟩ := h
  obtain ⟨i, y, ys, k1, k2, k3, k4⟩ := first_bad h5
  have ym := List.mem_of_getElem? k1
  refine ⟨y, ys, ⟨o, l.map fun x => x.e, i, y.e, h1, by rw [List.getElem?_map, k1]; rfl, fun j x hj hx => ?_, bad_of hv (h2 y ym) k2, rfl⟩, (h2 y ym).key, k4⟩
  rw [List.getElem?_map] at hx
  obtain ⟨x', hx', rfl⟩ := Option.map_eq_some_iff.mp hx
  exact good_of hv (h2 x' (List.mem_of_getElem? hx')) (k3 j x' hj hx')
end Ts

set_option maxRecDepth 100000
set_option maxHeartbeats 4000000
namespace Ts
open PySem L2
open LamX (ExtN Tabs TabB)
def six (d : PyData) : PyData := .list (List.replicate 6 d)
theorem six_dp {K : PySem.W.Frag} {H : Hp} {D : Addr} {ts : List Addr} {d : PyData} (hl : ts.length = 6) (e : H D = some (.lst (ts.map V.ref))) (h : ∀ t ∈ ts, Dp K H (.ref t) d) : Dp K H (.ref D) (six d) := by
  match ts, hl with
  | [t1, t2, t3, t4, t5, t6], _ =>
    exact .lst (SqL.of e) (.cons (h t1 (by simp)) (.cons (h t2 (by simp)) (.cons (h t3 (by simp)) (.cons (h t4 (by simp)) (.cons (h t5 (by simp)) (.cons (h t6 (by simp)) .nil))))))
def unD : PyData := .tuple [.str ("unlike" : Str)]
theorem un_shaped : SeqAt.shaped (six unD) = true := by decide +kernel
theorem un_same : PyData.eqv (six unD) (six unD) = true := by decide +kernel
def boxOf (d : PyData) : PyData := .tuple [.str ("box" : Str), d]
/-- a thing that can be shown in a refusal -/
def BoxS (K : PySem.W.Frag) (H : Hp) (x : V) : Prop :=
  (∃ d : PyData, (∀ H', ExtN H H' → Dp K H' x d) ∧ PyData.layable0 (six (boxOf d)) = true ∧ (six (boxOf d)).intsShort 13 = true ∧ (six (boxOf d)).showable = true ∧ (six (boxOf d)).depth ≤ 60) ∨ ∃ e, x = .ref e ∧ H e = some (.dK [])
theorem BoxS.ext {K : PySem.W.Frag} {H H' : Hp} {x : V} (h : BoxS K H x) (s : ExtN H H') : BoxS K H' x := by
  rcases h with ⟨d, h1, h2⟩ | ⟨e, h1, h2⟩
  · exact .inl ⟨d, fun H2 s2 => h1 H2 (s.trans s2), h2⟩
  · exact .inr ⟨e, h1, s _ _ h2 nofun⟩
theorem BoxS.shw {K : PySem.W.Frag} {H : Hp} {x : V} (h : BoxS K H x) : ∃ dd, ∀ (H' : Hp) (D : Addr) (ts : List Addr), ExtN H H' → ts.length = 6 → H' D = some (.lst (ts.map V.ref)) → (∀ t ∈ ts, H' t = some (.tup [.str ("box" : Str), x])) → Shw K H' (.ref D) dd := by
  rcases h with ⟨d, h1, h2, h3, h4, h5⟩ | ⟨e, rfl, h2⟩
  · exact ⟨six (boxOf d), fun H' D ts s hl e h => .inl ⟨D, rfl, six_dp hl e fun t ht => .tup (sqT (h t ht)) (.cons (.str _) (.cons (h1 H' s) .nil)), h2, h3, h4, h5⟩⟩
  · exact ⟨boxL, fun H' D ts s hl eD h => .inr (.inr (.inr ⟨D, ts, rfl, SqL.of eD, hl, fun p hp => ⟨e, sqT (h p hp), .inl (s _ _ h2 nofun)⟩, rfl⟩))⟩
theorem boxes8 {K : PySem.W.Frag} {H : Hp} {rs : List Row} (hv : Valid rs) {ll tt ee : Addr} (e1 : H ll = some (.lst [.str ("top" : Str)])) (e2 : H tt = some (.tup [.str ("top" : Str)])) (e3 : H ee = some (.dK [])) :
    ∀ x ∈ [V.non, V.int 5, V.str ("" : Str), V.str ("nobody" : Str), V.ref ll, V.ref tt, V.bl true, V.ref ee], NoPl H rs x ∧ BoxS K H x := by
  intro x hx
  simp only [List.mem_cons, List.not_mem_nil, or_false] at hx
  rcases hx with rfl | rfl | rfl | rfl | rfl | rfl | rfl | rfl
  · exact ⟨.inr (.inl rfl), .inl ⟨.none, fun _ _ => .non, by decide +kernel, by decide +kernel, by decide +kernel, by decide +kernel⟩⟩
  · exact ⟨.inr (.inr (.inl ⟨5, rfl⟩)), .inl ⟨.int 5, fun _ _ => .int 5, by decide +kernel, by decide +kernel, by decide +kernel, by decide +kernel⟩⟩
  · exact ⟨.inl ⟨_, rfl, by decide, not_name hv fun h => by have := h.1; revert this; decide⟩, .inl ⟨.str ("" : Str), fun _ _ => .str _, by decide +kernel, by decide +kernel, by decide +kernel, by decide +kernel⟩⟩
  · exact ⟨.inl ⟨_, rfl, by decide, not_name hv fun h => by have := h.1; revert this; decide⟩, .inl ⟨.str ("nobody" : Str), fun _ _ => .str _, by decide +kernel, by decide +kernel, by decide +kernel, by decide +kernel⟩⟩
  · exact ⟨.inr (.inr (.inr (.inr (.inl ⟨_, _, rfl, e1⟩)))), .inl ⟨.list [.str ("top" : Str)], fun _ s => .lst (SqL.of (s _ _ e1 nofun)) (.cons (.str _) .nil), by decide +kernel, by decide +kernel, by decide +kernel, by decide +kernel⟩⟩
  · exact ⟨.inr (.inr (.inr (.inr (.inr (.inl ⟨_, _, rfl, e2⟩))))), .inl ⟨.tuple [.str ("top" : Str)], fun _ s => .tup (sqT (s _ _ e2 nofun)) (.cons (.str _) .nil), by decide +kernel, by decide +kernel, by decide +kernel, by decide +kernel⟩⟩
  · exact ⟨.inr (.inr (.inr (.inl ⟨true, rfl⟩))), .inl ⟨.bool true, fun _ _ => .bl true, by decide +kernel, by decide +kernel, by decide +kernel, by decide +kernel⟩⟩
  · exact ⟨.inr (.inr (.inr (.inr (.inr (.inr ⟨_, _, rfl, e3⟩))))), .inr ⟨_, rfl, e3⟩⟩
def spareR (z : Str) : Row := ⟨z, "top", "item", some 1⟩
theorem spare_fits {rs : List Row} {z : Str} (h1 : z ∉ names rs) (h2 : z ≠ ("top" : Str)) (h3 : NameShape z) : Fits rs (spareR z) :=
  ⟨h3, h2, h1, .inl rfl, by show ("item" : Str) ∈ kinds3; decide, (by decide : (1 : Int) ≤ 1)⟩
end Ts

set_option maxRecDepth 100000
set_option maxHeartbeats 16000000
namespace Ts
open PySem L2
open LamX (ExtN Tabs TabB)
def spLawT (K : PySem.W.Frag) (T : List (Addr × Str)) : Sp := fun vs H Q _ => ∃ (a : Addr) (ns : List Int), vs = [.ref a] ∧ SqL K H a (ns.map V.int) ∧ ns.length ≤ 63 ∧ Tabs T H ∧ ∀ H', Q (.bl true) H'
theorem gName_at {i : Nat} {v : V} {σ : St} {H : Hp} {Q : St → Hp → Prop} : gName i v σ H Q = Q (σ.set i (some v)) H := rfl
/-- the law runs where no guard stands -/
def RunsG (P : Program) (w : World) (K : PySem.W.Frag) (mg : Str → Option Value) (base : Heap) (k : Nat) (f : Addr) (fd : FuncData) (ps : List Str) (sp : Sp) : Prop :=
  ∀ (A : Around) (outer : List Env) (s : Shared) (H : Hp) (args : Args) (us : List Value) (vs : List V) (Q : VK) (E : XK), A.guards = some [] → Room k A → Env0 P w K mg base A outer s H → BindsTo s fd args (ps.zip us) → Vals vs us → vs.length = ps.length → sp vs H Q E →
    codeAny (model P w) A (.call (.ref f) args) (CR C8.CX0 outer P w H s Q E) s
section
variable {P : Program} {w : World} {K : PySem.W.Frag} {mg : Str → Option Value} {base : Heap} {C CM CC CR CS CL CN CB CU : Addr} {T : List (Addr × Str)}
abbrev nLaw : List Str := ["_law_script", "_law_turn", "_law_stream_here", "_law_rows_here", "_law_ranges", "_law_tree", "_law_shut", "_law_pairs", "_law_k", "_law_key", "_law_odd", "_law_given", "_law_bad", "_law_counts", "_law_meaning_here", "_law_strange", "_law_box", "_law_row", "_law_one"]
theorem sc_law : FnScope nLaw ["_law_script"] (defScope s_law) := ⟨rfl, rfl, rfl, by decide +kernel, rfl, by decide +kernel, by decide +kernel⟩
abbrev pDw2 : List Str := ["_law_stream_here", "_law_many"]
theorem ok_law {fT fC fM : Addr} {fdT fdC fdM : FuncData} {dsM : List Value} {Te : Addr} (D : DefAt K mg "law" s_law ["_law_script"]) (B : TxB mg) (hRe : mg "repr" = none) (TT : TxT K mg C) (M : TxM K mg CM) (TK : TxK K mg CC)
    (Ds : DefAt K mg "_law_stream" s_L_stream ["_law_script", "_law_k"])
    (Dd : DefAt K mg "_law_draw" s_L_draw pDw2)
    (Dp : DefAt K mg "_law_pick" s_L_pick pSm) (Gp : FnOk P w K mg base CX0 3 Dp.f Dp.fd pSm (spPick K))
    (Dco : DefAt K mg "_law_counted" s_L_counted ["_law_stream_here"]) (Gco : FnOk P w K mg base CX0 6 Dco.f Dco.fd ["_law_stream_here"] (spLCounted K))
    (Dmn : DefAt K mg "_law_meaning" s_L_meaning pMng) (Gmn : FnOk P w K mg base CX0 9 Dmn.f Dmn.fd pMng (spLMeaning C CM))
    (Dsp : DefAt K mg "_law_spare" s_L_spare ["_law_rows_here"])
    (Dir : DefAt K mg "_law_is_range" s_L_is_range ["_law_thing"]) (Gir : FnOk P w K mg base CX0 2 Dir.f Dir.fd ["_law_thing"] spIsRangeG)
    (Dmd : DefAt K mg "_law_made" s_L_made pMd) (Gmd : FnOk P w K mg base CX0 9 Dmd.f Dmd.fd pMd (spLMade w C))
    (Das : DefC K mg "_law_asks" s_L_asks pAs) (Gas : FnOk P w K mg base CX0 10 Das.f Das.fd pAs (spLAsks K C CC T))
    (MT : Mk K C fT) (bT : Binds K fdT ["self", "rows"] []) (GT : FnOk P w K mg base CX0 5 fT fdT ["self", "rows"] (spTreeInit C))
    (MC : Mk K CC fC) (bC : Binds K fdC ["self", "tree", "ranges"] []) (GC : FnOk P w K mg base CX0 7 fC fdC ["self", "tree", "ranges"] (spCountsInit K C CC))
    (MM : Mk K CM fM) (bM1 : Binds K fdM ["self", "tree", "default", "turns"] dsM) (rM1 : Vals [V.ref Te] dsM) (hTe : ∀ H, SqT K H Te []) (GM : FnOk P w K mg base CX0 7 fM fdM ["self", "tree", "default", "turns"] (spMeaningInit K C CM))
    (mMo : MethAt K C "more" "Tree.more" s_Tree_more ["self", "row"]) (GMo : FnOk P w K mg base CX0 7 mMo.f mMo.fd ["self", "row"] (spMore C)) :
    RunsG P w K mg base 12 D.f D.fd ["_law_script"] (spLawT K T) := by
  have Gs : FnOk P w K mg base CX0 2 Ds.f Ds.fd ["_law_script", "_law_k"] (spStream K) := ok_stream Ds B
  have Gd : FnOk P w K mg base CX0 2 Dd.f Dd.fd pDw spDraw := ok_draw Dd B
  have Gsp : FnOk P w K mg base CX0 1 Dsp.f Dsp.fd ["_law_rows_here"] spSpare := ok_spare Dsp
  intro A outer s H args us vs Q E hgA hrA e0 hb rv hl h
  obtain ⟨fG, fdG, FG, bG, gG⟩ := D
  obtain ⟨oc, od0, kV0, doc, pm, an, cdvG, ct, osl, rfl, lkG, hcdG⟩ := FG.ex
  refine LamX.run_ofS (N := nLaw) (ps := ["_law_script"]) (k := 11) lkG hcdG sc_law hrA e0 hb rv hl fun hr => ?_
  · obtain ⟨a0, ns, rfl, hS, hlen, hT, hq⟩ := h
    have h64 := hr.units
    have hu1 := Nat.lt_of_le_of_lt (Nat.le_add_right _ _) h64
    have hu := hu_of hr
    have r1 : Room 1 _ := hr.mono (by decide)
    have r2 : Room 2 _ := hr.mono (by decide)
    have r3 : Room 3 _ := hr.mono (by decide)
    have r6 : Room 6 _ := hr.mono (by decide)
    have r7 : Room 7 _ := hr.mono (by decide)
    have r8 : Room 8 _ := hr.mono (by decide)
    have r9 : Room 9 _ := hr.mono (by decide)
    have r10 : Room 10 _ := hr.mono (by decide)
    refine ⟨_, PSs.nox (X := cxOf CX0 P w K mg base nLaw "law" (defScope s_law) fG cdvG A outer s H E) (pss_cons (ps_for PassesOwn.never rfl (pi_range1 (by rfl) B.range (pa_cons pe_int pa_nil)) (pg_name (i := 1) sc_law.nd rfl (.inl rfl))
        (pss_cons (ps_set (i := 2) sc_law.nd rfl (.inl rfl) (pe_call Gs r2 rfl Ds.g Ds.F.kp Ds.b .nil pass0 (pa_cons (pv 0) (pa_cons (pv 1) pa_nil))))
        (pss_cons (ps_asg (pe_call Gco r6 rfl Dco.g Dco.F.kp Dco.b .nil pass0 (pa_cons (pv 2) pa_nil)) (pg_tup rfl (pgs_cons (pg_name (i := 3) sc_law.nd rfl (.inl rfl)) (pgs_cons (pg_name (i := 4) sc_law.nd rfl (.inl rfl)) pgs_nil))))
        (pss_cons (ps_asg (pe_tup (pa_cons (pe_make MT GT r6 rfl TT.g bT .nil pass0 (pa_cons (pv 3) pa_nil)) (pa_cons (pe_lc (own := [("_law_row", 17)]) (g := gName 17) (tt := tTest (tOp rEq (tOp (rIxT K) (tVar 17) (tC (.int 2))) (tC (.str ("shut" : Str))))) (te := tOp (rIxT K) (tVar 17) (tC (.int 0))) rfl sc_law.nd (pi_list (pv 3)) (blkOk_by (N := nLaw) (sc := defScope s_law) (by decide +kernel))
            (fun _ _ _ _ _ => pg_name (i := 17) sc_law.nd rfl (Or.inl rfl)) (fun _ _ _ _ _ => by exact pts_one (pt_cmpR op_eq (pe_ix ix_tup (pv 17) pe_int (fun _ _ => rfl)) pe_str (nomark _))) (fun _ _ _ _ _ => by exact pe_ix ix_tup (pv 17) pe_int (fun _ _ => rfl))) pa_nil))) (pg_tup rfl (pgs_cons (pg_name (i := 5) sc_law.nd rfl (.inl rfl)) (pgs_cons (pg_name (i := 6) sc_law.nd rfl (.inr rfl)) pgs_nil))))
        (pss_cons (ps_set (i := 7) sc_law.nd rfl (.inl rfl) (LiI.pe_listItems rfl (pv 4) (by rfl) B.list (by decide +kernel)))
        (pss_cons (ps_for PassesOwn.never rfl (pi_range1 (by rfl) B.range (pa_cons (pe_call Gd r2 rfl Dd.g Dd.F.kp Dd.b .nil pass0 (pa_cons (pv 2) (pa_cons pe_int pa_nil))) pa_nil)) (pg_name (i := 8) sc_law.nd rfl (.inl rfl))
          (pss_cons (ps_set (i := 9) sc_law.nd rfl (.inr rfl) (pe_call Gp r3 rfl Dp.g Dp.F.kp Dp.b .nil pass0 (pa_cons (pv 2) (pa_cons (pe_op op_cat (pe_lst (pa_cons pe_non (pa_cons pe_int (pa_cons pe_str (pa_cons pe_str (pa_cons (pe_tup (pa_cons pe_str pa_nil)) pa_nil)))))) (pe_lc (own := [("_law_row", 17)]) (g := gName 17) (tt := tYes) (te := tOp (rIxT K) (tVar 17) (tC (.int 0))) rfl sc_law.nd (pi_list (pv 3)) (blkOk_by (N := nLaw) (sc := defScope s_law) (by decide +kernel))
              (fun _ _ _ _ _ => pg_name (i := 17) sc_law.nd rfl (Or.inl rfl)) (fun _ _ _ _ _ => pts_nil) (fun _ _ _ _ _ => by exact pe_ix ix_tup (pv 17) pe_int (fun _ _ => rfl)))) pa_nil))))
          (pss_cons (ps_set (i := 10) sc_law.nd rfl (.inl rfl) (pe_lst (pa_cons (pe_tup (pa_cons pe_int (pa_cons pe_int pa_nil))) (pa_cons (pe_tup (pa_cons pe_int (pa_cons pe_int pa_nil))) (pa_cons (pe_tup (pa_cons (pe_op op_sub pe_int pe_int) (pa_cons pe_int pa_nil))) (pa_cons (pe_tup (pa_cons pe_int pa_nil)) (pa_cons (pe_tup (pa_cons pe_int (pa_cons pe_int (pa_cons pe_int pa_nil)))) (pa_cons pe_non (pa_cons pe_int (pa_cons (pe_tup (pa_cons pe_non (pa_cons pe_non pa_nil))) (pa_cons (pe_tup (pa_cons pe_str (pa_cons pe_int pa_nil))) pa_nil)))))))))))
          (pss_cons (ps_set (i := 10) sc_law.nd rfl (.inl rfl) (pe_op op_cat (pv 10) (pe_lst (pa_cons (pe_tup (pa_cons pe_bl (pa_cons pe_int pa_nil))) (pa_cons (pe_tup (pa_cons pe_int (pa_cons pe_bl pa_nil))) (pa_cons (pe_lst pa_nil) (pa_cons (pe_tup (pa_cons pe_int (pa_cons pe_str pa_nil))) pa_nil)))))))
          (pss_cons (ps_setLc (i := 7) (own := [("_law_one", 18)]) (g := gName 18) (tt := tTest (tOp (rNeD K) (tOp (rIxT K) (tVar 18) (tC (.int 0))) (tVar 9))) (te := tVar 18) rfl sc_law.nd rfl rfl (sw_true rfl rfl rfl (by decide +kernel)) (pi_list (pv 7)) (blkOk_by (N := nLaw) (sc := defScope s_law) (by decide +kernel))
              (fun _ _ _ _ _ => pg_name (i := 18) sc_law.nd rfl (Or.inl rfl)) (fun _ _ _ _ _ => by exact pts_one (pt_cmpR (op_neD h64) (pe_ix ix_tup (pv 18) pe_int (fun _ _ => rfl)) (pv 9) (nomark _))) (fun _ _ _ _ _ => pv 18))
          (pss_one (ps_expr (pe_bm PySem.F.plainAttrs_list PySem.F.slot_list_insert PySem.F.type_list_insert mt_insert (pv 7) (pa_cons (pe_call Gd r2 rfl Dd.g Dd.F.kp Dd.b .nil pass0 (pa_cons (pv 2) (pa_cons (pe_op op_add (pe_callB call_len_seq (by rfl) B.len PySem.boot_len (pa_cons (pv 7) pa_nil)) pe_int) pa_nil))) (pa_cons (pe_tup (pa_cons (pv 9) (pa_cons (pe_call Gp r3 rfl Dp.g Dp.F.kp Dp.b .nil pass0 (pa_cons (pv 2) (pa_cons (pv 10) pa_nil))) pa_nil))) pa_nil))))))))))
        (C8.pss_cut (ps_set (i := 11) sc_law.nd rfl (.inr rfl) (pe_callTy (call_or (call_dictP rfl) (call_dictM rfl h64)) (by rfl) B.dict (by decide +kernel) (pa_cons (pv 7) pa_nil)))
        (C8.pss_cut (ps_or (ps_lock (ps_setLc (i := 12) (own := [("_law_key", 9)]) (g := gName 9) (tt := (tOr (tTest (tOp (rInOdd K true) (tVar 9) (tVar 6))) (tNot (tB (tCall spIsRangeG [] E0 (tCons (tDGet (tVar 11) (tVar 9)) tNil)))))) (te := tVar 9) rfl sc_law.nd rfl rfl (sw_true rfl rfl rfl (by decide +kernel)) (pi_keys (pv 11)) (blkOk_by (N := nLaw) (sc := defScope s_law) (by decide +kernel))
              (fun _ _ _ _ _ => pg_name (i := 9) sc_law.nd rfl (Or.inl rfl)) (fun _ _ _ _ _ => by exact pts_one (PW.pt (pw_or (pt_cmpR (op_notinOdd hu) (pv 9) (pv 6) (by rfl)) (pw_or1 (pt_not (pt_val (pe_call Gir r2 rfl Dir.g Dir.F.kp Dir.b .nil pass0 (pa_cons (pe_dget hu (pv 11) (pv 9) (fun _ _ => rfl)) pa_nil)))))))) (fun _ _ _ _ _ => pv 9)))
            (ps_setLc (i := 12) (own := [("_law_key", 9)]) (g := gName 9) (tt := (tOr (tTest (tOp (rInOdd K true) (tVar 9) (tVar 6))) (tNot (tB (tCall spIsRangeG [] E0 (tCons (tGetM K w (tVar 11) (tVar 9)) tNil)))))) (te := tVar 9) rfl sc_law.nd rfl rfl (sw_true rfl rfl rfl (by decide +kernel)) (pi_keyM (pv 11)) (blkOk_by (N := nLaw) (sc := defScope s_law) (by decide +kernel))
              (fun _ _ _ _ _ => pg_name (i := 9) sc_law.nd rfl (Or.inl rfl)) (fun _ _ _ _ _ => by exact pts_one (PW.pt (pw_or (pt_cmpR (op_notinOdd hu) (pv 9) (pv 6) (by rfl)) (pw_or1 (pt_not (pt_val (pe_call Gir r2 rfl Dir.g Dir.F.kp Dir.b .nil pass0 (pa_cons (pe_getM h64 (pv 11) (pv 9) (fun _ _ => rfl)) pa_nil)))))))) (fun _ _ _ _ _ => pv 9)))
        (C8.pss_cut (ps_if (pt_cmpR op_ne (pe_callB (cr_reprE hgA h64) (by rfl) hRe (by decide +kernel) (pa_cons (pe_call Gmd r9 rfl Dmd.g Dmd.F.kp Dmd.b .nil pass0 (pa_cons (pv 5) (pa_cons (pv 11) pa_nil))) pa_nil)) (pe_callB (cr_reprE hgA h64) (by rfl) hRe (by decide +kernel) (pa_cons (pe_ifExp (pt_cmpR (op_neNil hu1) (pv 12) (pe_lst pa_nil) (nomark _)) (pe_tup (pa_cons (pe_ix ix_list (pv 12) pe_int (fun _ _ => rfl)) pa_nil)) pe_non) pa_nil)) (nomark _)) (pss_one (ps_ret pe_bl)) pss_nil)
        (pss_cons (ps_par (i := 13) (j := 14) rfl sc_law.nd rfl rfl (by decide) rfl rfl (pa_cons (pe_make MC GC r8 rfl TK.g bC .nil pass0 (pa_cons (pv 5) (pa_cons (pv 4) pa_nil))) (pa_cons (pe_call Gmn r9 rfl Dmn.g Dmn.F.kp Dmn.b .nil pass0 (pa_cons (pv 2) (pa_cons (pv 3) (pa_cons (pv 5) pa_nil)))) pa_nil)) (by rfl))
        (pss_cons (ps_set (i := 15) sc_law.nd rfl (.inl rfl) (pe_make (dvs := [.ref Te]) MM GM r8 rfl M.g bM1 rM1 pass0 (pa_cons (pe_meth (pv 5) TT.cl mMo.m GMo r7 mMo.b .nil pass0 (pa_cons (pe_tup (pa_cons (pe_call Gsp r1 rfl Dsp.g Dsp.F.kp Dsp.b .nil pass0 (pa_cons (pv 3) pa_nil)) (pa_cons pe_str (pa_cons pe_str (pa_cons pe_int pa_nil))))) pa_nil)) (pa_cons pe_bl pa_nil))))
        (pss_cons (ps_if (pt_cmpR (op_neD h64) (pe_call Gas r10 rfl Das.g Das.F.kp Das.b .nil pass0 (pa_cons (pv 13) (pa_cons (pv 15) (pa_cons pe_str (pa_cons pe_dnewK pa_nil))))) (pe_op op_rep (pe_lst (pa_cons (pe_tup (pa_cons pe_str pa_nil)) pa_nil)) pe_int) (nomark _)) (pss_one (ps_ret pe_bl)) pss_nil)
        (pss_one (ps_for PassesOwn.never rfl (pi_list (pe_lst (pa_cons pe_non (pa_cons pe_int (pa_cons pe_str (pa_cons pe_str (pa_cons (pe_lst (pa_cons pe_str pa_nil)) (pa_cons (pe_tup (pa_cons pe_str pa_nil)) (pa_cons pe_bl (pa_cons pe_dnewK pa_nil)))))))))) (pg_name (i := 16) sc_law.nd rfl (.inl rfl))
          (pss_one (ps_if (pt_cmpR op_ne (pe_callB (cr_reprE hgA h64) (by rfl) hRe (by decide +kernel) (pa_cons (pe_call Gas r10 rfl Das.g Das.F.kp Das.b .nil pass0 (pa_cons (pv 13) (pa_cons (pv 14) (pa_cons (pv 16) (pa_cons pe_dnewK pa_nil))))) pa_nil)) (pe_callB (cr_reprE hgA h64) (by rfl) hRe (by decide +kernel) (pa_cons (pe_op op_rep (pe_lst (pa_cons (pe_tup (pa_cons pe_str (pa_cons (pv 16) pa_nil))) pa_nil)) pe_int) pa_nil)) (nomark _)) (pss_one (ps_ret pe_bl)) pss_nil))))))))))))))))
      (pss_one (ps_ret pe_bl))), ?_⟩
    refine ⟨4, rfl, by decide, by decide, ?_⟩
    refine for_range (lo := 0) (n := (4 : Int).toNat) (fun i σ H' => ∃ v1 v2 v3 v4 v5 v6 v7 v8 v9 v10 v11 v12 v13 v14 v15 v16 v17 v18 : Option V, σ = [some (.ref a0), v1, v2, v3, v4, v5, v6, v7, v8, v9, v10, v11, v12, v13, v14, v15, v16, v17, v18] ∧ SqL K H' a0 (ns.map V.int) ∧ Tabs T H') ⟨_, _, _, _, _, _, _, _, _, _, _, _, _, _, _, _, _, _, rfl, hS, hT⟩ ?_ ?_
    rotate_left
    · rintro σ H' ⟨_, _, _, _, _, _, _, _, _, _, _, _, _, _, _, _, _, _, rfl, _⟩
      exact hq _
    rintro i_ σ H1 hi ⟨v1, v2, v3, v4, v5, v6, v7, v8, v9, v10, v11, v12, v13, v14, v15, v16, v17, v18, rfl, hS1, hT1⟩
    have hi3 : i_ < 4 := hi
    refine ⟨_, rfl, _, rfl, a0, ns, _, rfl, hS1, by omega, by omega, fun a x y ha hx hy hy1 => ?_⟩
    have st0 : Stm (upd H1 a (.lst [.int x, .int y, .int 0])) a 0 := ⟨x, y, 0, upd_same, hx, hy, hy1, by decide, by decide⟩
    have S2 : Same H1 (upd H1 a (.lst [.int x, .int y, .int 0])) := Same.new ha
    generalize upd H1 a (.lst [.int x, .int y, .int 0]) = H2 at st0 S2
    refine ⟨_, rfl, a, 0, rfl, st0, by decide, fun tq p d as rs L g H3 np etq hp hrows hv hl13 hsh hRg hok hL4 hnd sb3 st3 => ?_⟩
    refine ⟨tq, _, rfl, sqT etq, rfl, _, _, rfl, _, _, rfl, rfl, ?_⟩
    have S3 : Same H1 H3 := smb S2 ha sb3
    have hL3 : RowsL H3 p rs := ⟨as, hp, hrows⟩
    clear etq sb3 st0 S2
    -- the tree and the shut ones
    refine ⟨_, rfl, fun t dt nt ndt _ => ⟨t, dt, p, as, rs, rfl, upd_same, .inr (mk_same0 (C := C) nt ndt _ _ hp), (hrows.same (mk_same0 (C := C) nt ndt)).seq, by omega, hv, fun H4 sb4 ht => ⟨rfl, ?_⟩⟩⟩
    have s4 := mk_same nt ndt sb4
    have S4 := S3.trans s4
    have st4 := st3.same s4
    have hL4' := hL3.same s4
    have hRg4 := hRg.same s4
    have hp4 := s4 _ _ hp
    have hrows4 := hrows.same s4
    clear nt ndt sb4 s4 st3 hRg hL3 hp hrows
    refine ⟨_, rfl, p, rfl, ⟨_, SqL.of hp4⟩, fun sl hsl => ?_⟩
    refine lc_list (K := K) (a := p) (xs := as.map V.ref) (fun i H' => Same H4 H' ∧ H' sl = some (.lst ((((rs.take i).filter fun r => decide (r.ki = ("shut" : Str))).map (·.nm)).map V.str))) ⟨Same.new hsl, upd_same⟩ (fun i H' _ m => SqL.of (m.1 _ _ hp4)) ?_ ?_
    · rintro i x H8 hx ⟨s8, hD8⟩
      obtain ⟨ra, r, rfl, hra, hr', e0⟩ := rows_at hrows4 hx
      have e8 := s8 _ _ e0
      have szD : (((rs.take i).filter fun r => decide (r.ki = ("shut" : Str))).map (·.nm)).length ≤ 1000 := by
        rw [List.length_map]
        have h1 := List.length_filter_le (fun r => decide (r.ki = ("shut" : Str))) (rs.take i)
        rw [List.length_take] at h1
        omega
      refine ⟨rfl, _, rfl, ra, _, _, _, rfl, rfl, sqT e8, atI2 _ _ _ _, rfl, _, rfl, ?_⟩
      refine ite2 (fun hc => ?_) (fun hc => ?_)
      · have hc' : r.ki = ("shut" : Str) := V.str.inj (of_decide_eq_true hc)
        refine ⟨_, rfl, ra, _, _, _, rfl, rfl, sqT e8, atI0 _ _ _ _, _, hD8, small1000 (by rw [List.length_map]; exact szD), fun b o eb => ?_, ?_⟩
        · rw [upd_ne (fun y => by rw [y, hsl] at eb; cases eb)]
          exact s8 _ _ eb
        · rw [upd_same, take_more hr', List.filter_append, List.map_append, List.map_append]
          rw [show [r].filter (fun r => decide (r.ki = ("shut" : Str))) = [r] from List.filter_cons_of_pos (decide_eq_true hc')]
          rfl
      · have hc' : ¬ r.ki = ("shut" : Str) := fun e => hc (by rw [e]; rfl)
        refine ⟨s8, ?_⟩
        rw [take_more hr', List.filter_append, show [r].filter (fun r => decide (r.ki = ("shut" : Str))) = [] from by rw [List.filter_cons_of_neg (by simpa using hc')]; rfl, List.append_nil]
        exact hD8
    rintro H5 ⟨s5, e5⟩
    rw [List.length_map, hrows4.len, List.take_length] at e5
    have e5 : H5 sl = some (.lst ((shutL rs).map V.str)) := e5
    -- PAIRS
    refine ⟨(by show 2 ≤ sizeLine; decide), fun tp htp => ⟨tp, _, rfl, sqT upd_same, rfl, _, _, rfl, _, _, rfl, rfl, ?_⟩⟩
    have s6 : Same H5 (upd H5 tp (.tup [V.ref t, V.ref sl])) := Same.new htp
    generalize upd H5 tp (.tup [V.ref t, V.ref sl]) = H6 at s6
    have e6 := s6 _ _ e5
    have s46 := s5.trans s6
    have hRg6 := hRg4.same s46
    have hp6 := s46 _ _ hp4
    have hrows6 := hrows4.same s46
    have st6 := st4.same s46
    have S6 := S4.trans s46
    have ht6 := ht.same s46
    clear s5 s6 e5 htp s46 hp4 hrows4 st4 S4 ht hRg4 hsl
    obtain ⟨ad, d1, d2⟩ := id hRg6
    refine ⟨_, rfl, d, _, rfl, d1, fun H7 q0 ts k7 hq0 hts nq e7 pr7 => ?_⟩
    have tsA : ∀ z ∈ L, PyData.strOk z = true ∧ z.length ≤ 8 := fun z hz => by
      obtain ⟨_, r, hr, _⟩ := hok z hz
      exact ⟨names_ok hv z (row_name hr), name8 hv (row_name hr)⟩
    have P7 : PW H6 H7 a q0 (L.map fun z => ⟨⟨.text z, .str z, .ref (ad z)⟩, rgV (g z)⟩) (0 + 300) :=
      ⟨SB.of k7, st6.same k7, hq0, (st6.ne hq0).symm, PairsOk.start e7 pr7 (fun z hz => k7 _ _ (d2 z hz)) hnd hL4 tsA, fun x hx b e => by
        obtain ⟨z, hz, rfl⟩ := List.mem_map.mp hx
        cases e
        intro q
        obtain ⟨_, _, _, q2, _⟩ := st6
        have := d2 z hz
        rw [q, q2] at this
        cases this⟩
    have l7 : (L.map fun z => (⟨⟨.text z, .str z, .ref (ad z)⟩, rgV (g z)⟩ : EnL)).length ≤ 4 := by rw [List.length_map]; exact hL4
    generalize (L.map fun z => (⟨⟨.text z, .str z, .ref (ad z)⟩, rgV (g z)⟩ : EnL)) = l0 at P7 l7
    clear k7 hq0 hts nq e7 pr7 tsA ad d1 d2
    -- some pairs are put in
    refine ⟨_, rfl, a, 3, _, rfl, P7.st, by decide, by decide, by decide, fun nr H8 n0 n1 st8 he8 => ⟨nr, rfl, ?_, ?_, ?_⟩⟩
    · omega
    · omega
    have P8 := P7.more (sb_eq he8) st8
    clear P7 he8 st8
    refine for_range (lo := 0) (n := nr.toNat) (fun i σ H' => ∃ (v8 v9 v10 : Option V) (q : Addr) (l : List EnL), σ = [some (.ref a0), some (.int (0 + i_)), some (.ref a), some (.ref p), some (.ref d), some (.ref t), some (.ref sl), some (.ref q), v8, v9, v10, v11, v12, v13, v14, v15, v16, v17, v18] ∧ PW H6 H' a q l (301 + 9 * i) ∧ l.length ≤ 4 + i) ⟨_, _, _, _, _, rfl, P8, l7⟩ ?_ ?_
    · rintro i σ H9 hi ⟨v8', v9', v10', q, l, rfl, P9, l9⟩
      have hi3' : i < 3 := by omega
      -- the key
      have hL9 : RowsL H9 p rs := (⟨as, hp6, hrows6⟩ : RowsL H6 p rs).sbk np st6 P9.sb
      obtain ⟨as9, hp9, hrows9⟩ := id hL9.ex
      refine ⟨_, rfl, ?_⟩
      refine ⟨(by show 1 ≤ sizeLine; decide), fun ta hta => ⟨(by show 5 ≤ sizeLine; decide), fun kl hkl => ?_⟩⟩
      have s10 : Same H9 (upd H9 ta (.tup [V.str ("a" : Str)])) := Same.new hta
      have e10 : (upd H9 ta (.tup [V.str ("a" : Str)])) ta = some (.tup [V.str ("a" : Str)]) := upd_same
      generalize upd H9 ta (.tup [V.str ("a" : Str)]) = H10 at s10 e10 hkl
      have s11 : Same H10 (upd H10 kl (.lst [V.non, V.int 5, V.str ("nobody" : Str), V.str ("top" : Str), V.ref ta])) := Same.new hkl
      have e11 : (upd H10 kl (.lst [V.non, V.int 5, V.str ("nobody" : Str), V.str ("top" : Str), V.ref ta])) kl = some (.lst [V.non, V.int 5, V.str ("nobody" : Str), V.str ("top" : Str), V.ref ta]) := upd_same
      generalize upd H10 kl (.lst [V.non, V.int 5, V.str ("nobody" : Str), V.str ("top" : Str), V.ref ta]) = H11 at s11 e11
      have s911 := s10.trans s11
      have hp11 := s911 _ _ hp9
      refine ⟨_, rfl, p, rfl, ⟨_, SqL.of hp11⟩, fun D2 hD2 => ?_⟩
      refine lc_list (K := K) (a := p) (xs := as9.map V.ref) (fun i H' => Same H11 H' ∧ H' D2 = some (.lst (((rs.take i).map (·.nm)).map V.str))) ⟨Same.new hD2, upd_same⟩ (fun i H' _ m => SqL.of (m.1 _ _ hp11)) ?_ ?_
      · rintro i x H20 hx ⟨s20, e20⟩
        obtain ⟨ra, r, rfl, hra, hr', e0⟩ := rows_at hrows9 hx
        refine ⟨rfl, tYes_if ⟨_, rfl, ra, _, _, _, rfl, rfl, sqT (s20 _ _ (s911 _ _ e0)), atI0 _ _ _ _, _, e20, small1000 (by rw [List.length_map, List.length_map, List.length_take]; omega), fun b o eb => ?_, ?_⟩⟩
        · rw [upd_ne (fun y => by rw [y, hD2] at eb; cases eb)]
          exact s20 _ _ eb
        · rw [upd_same, take_more hr', List.map_append, List.map_append]; rfl
      rintro H12 ⟨s12, e12⟩
      rw [List.length_map, hrows9.len, List.take_length] at e12
      have e12 : H12 D2 = some (.lst ((names rs).map V.str)) := e12
      have hnl : (names rs).length ≤ 13 := by unfold names; rw [List.length_map]; exact hl13
      refine ⟨kl, D2, _, _, rfl, rfl, s12 _ _ e11, e12, szl (by rw [List.length_map]; show 5 + _ ≤ 1000; omega), fun bl hbl => ?_⟩
      have s13 : Same H12 (upd H12 bl (.lst ([V.non, V.int 5, V.str ("nobody" : Str), V.str ("top" : Str), V.ref ta] ++ (names rs).map V.str))) := Same.new hbl
      have e13 : (upd H12 bl (.lst ([V.non, V.int 5, V.str ("nobody" : Str), V.str ("top" : Str), V.ref ta] ++ (names rs).map V.str))) bl = some (.lst ([V.non, V.int 5, V.str ("nobody" : Str), V.str ("top" : Str), V.ref ta] ++ (names rs).map V.str)) := upd_same
      generalize upd H12 bl (.lst ([V.non, V.int 5, V.str ("nobody" : Str), V.str ("top" : Str), V.ref ta] ++ (names rs).map V.str)) = H13 at s13 e13
      have s1113 := s12.trans s13
      have s913 := s911.trans s1113
      have e10' := (s11.trans s1113) _ _ e10
      have nbl : bl ≠ a := (((P9.same s911).same s12).st.ne hbl).symm
      refine .inl ⟨a, bl, _, _, rfl, (P9.same s913).st, by omega, nbl, SqL.of e13, by rw [List.length_append]; show 1 ≤ 5 + _; omega, by rw [List.length_append, List.length_map]; show 5 + _ ≤ _; omega, fun kv O0 hkv st14 sb14 _ => ?_⟩
      have P14 := (P9.same s913).more sb14 st14
      obtain ⟨x0, y0, z0, ea13, _⟩ := (P9.same s913).st
      have nta : ta ≠ a := fun q => by rw [q, ea13] at e10'; cases e10'
      have hky := keys_at hv (sb14 _ _ nta e10') hkv
      clear hta hkl hD2 s10 e10 s11 e11 s911 hp11 s12 e12 hbl s13 e13 s1113 s913 e10' nbl st14 sb14 hkv ea13 nta hp9 hrows9 hnl P9
      -- the odd things
      refine ⟨(by show 2 ≤ sizeLine; decide), fun w0 hw0 => ?_⟩
      have sO1 : Same O0 (upd O0 w0 (HO.tup [V.int 0, V.int 0])) := Same.new hw0
      have eO1 : (upd O0 w0 (HO.tup [V.int 0, V.int 0])) w0 = some (HO.tup [V.int 0, V.int 0]) := upd_same
      generalize upd O0 w0 (HO.tup [V.int 0, V.int 0]) = O1 at sO1 eO1
      refine ⟨(by show 2 ≤ sizeLine; decide), fun w1 hw1 => ?_⟩
      have sO2 : Same O1 (upd O1 w1 (HO.tup [V.int 1, V.int 0])) := Same.new hw1
      have eO2 : (upd O1 w1 (HO.tup [V.int 1, V.int 0])) w1 = some (HO.tup [V.int 1, V.int 0]) := upd_same
      generalize upd O1 w1 (HO.tup [V.int 1, V.int 0]) = O2 at sO2 eO2
      refine ⟨_, _, rfl, rfl, (by show 2 ≤ sizeLine; decide), fun w2 hw2 => ?_⟩
      have sO3 : Same O2 (upd O2 w2 (HO.tup [V.int (0 - 1), V.int 2])) := Same.new hw2
      have eO3 : (upd O2 w2 (HO.tup [V.int (0 - 1), V.int 2])) w2 = some (HO.tup [V.int (0 - 1), V.int 2]) := upd_same
      generalize upd O2 w2 (HO.tup [V.int (0 - 1), V.int 2]) = O3 at sO3 eO3
      refine ⟨(by show 1 ≤ sizeLine; decide), fun w3 hw3 => ?_⟩
      have sO4 : Same O3 (upd O3 w3 (HO.tup [V.int 0])) := Same.new hw3
      have eO4 : (upd O3 w3 (HO.tup [V.int 0])) w3 = some (HO.tup [V.int 0]) := upd_same
      generalize upd O3 w3 (HO.tup [V.int 0]) = O4 at sO4 eO4
      refine ⟨(by show 3 ≤ sizeLine; decide), fun w4 hw4 => ?_⟩
      have sO5 : Same O4 (upd O4 w4 (HO.tup [V.int 0, V.int 1, V.int 2])) := Same.new hw4
      have eO5 : (upd O4 w4 (HO.tup [V.int 0, V.int 1, V.int 2])) w4 = some (HO.tup [V.int 0, V.int 1, V.int 2]) := upd_same
      generalize upd O4 w4 (HO.tup [V.int 0, V.int 1, V.int 2]) = O5 at sO5 eO5
      refine ⟨(by show 2 ≤ sizeLine; decide), fun w7 hw7 => ?_⟩
      have sO6 : Same O5 (upd O5 w7 (HO.tup [V.non, V.non])) := Same.new hw7
      have eO6 : (upd O5 w7 (HO.tup [V.non, V.non])) w7 = some (HO.tup [V.non, V.non]) := upd_same
      generalize upd O5 w7 (HO.tup [V.non, V.non]) = O6 at sO6 eO6
      refine ⟨(by show 2 ≤ sizeLine; decide), fun w8 hw8 => ?_⟩
      have sO7 : Same O6 (upd O6 w8 (HO.tup [V.str ("0" : Str), V.int 1])) := Same.new hw8
      have eO7 : (upd O6 w8 (HO.tup [V.str ("0" : Str), V.int 1])) w8 = some (HO.tup [V.str ("0" : Str), V.int 1]) := upd_same
      generalize upd O6 w8 (HO.tup [V.str ("0" : Str), V.int 1]) = O7 at sO7 eO7
      refine ⟨(by show 9 ≤ sizeLine; decide), fun ol1 hol1 => ?_⟩
      have sO8 : Same O7 (upd O7 ol1 (HO.lst [V.ref w0, V.ref w1, V.ref w2, V.ref w3, V.ref w4, V.non, V.int 5, V.ref w7, V.ref w8])) := Same.new hol1
      have eO8 : (upd O7 ol1 (HO.lst [V.ref w0, V.ref w1, V.ref w2, V.ref w3, V.ref w4, V.non, V.int 5, V.ref w7, V.ref w8])) ol1 = some (HO.lst [V.ref w0, V.ref w1, V.ref w2, V.ref w3, V.ref w4, V.non, V.int 5, V.ref w7, V.ref w8]) := upd_same
      generalize upd O7 ol1 (HO.lst [V.ref w0, V.ref w1, V.ref w2, V.ref w3, V.ref w4, V.non, V.int 5, V.ref w7, V.ref w8]) = O8 at sO8 eO8
      refine ⟨_, rfl, ?_⟩
      refine ⟨(by show 2 ≤ sizeLine; decide), fun z0 hz0 => ?_⟩
      have sO9 : Same O8 (upd O8 z0 (HO.tup [V.bl true, V.int 1])) := Same.new hz0
      have eO9 : (upd O8 z0 (HO.tup [V.bl true, V.int 1])) z0 = some (HO.tup [V.bl true, V.int 1]) := upd_same
      generalize upd O8 z0 (HO.tup [V.bl true, V.int 1]) = O9 at sO9 eO9
      refine ⟨(by show 2 ≤ sizeLine; decide), fun z1 hz1 => ?_⟩
      have sO10 : Same O9 (upd O9 z1 (HO.tup [V.int 0, V.bl true])) := Same.new hz1
      have eO10 : (upd O9 z1 (HO.tup [V.int 0, V.bl true])) z1 = some (HO.tup [V.int 0, V.bl true]) := upd_same
      generalize upd O9 z1 (HO.tup [V.int 0, V.bl true]) = O10 at sO10 eO10
      refine ⟨(by show 0 ≤ sizeLine; decide), fun z2 hz2 => ?_⟩
      have sO11 : Same O10 (upd O10 z2 (HO.lst [])) := Same.new hz2
      have eO11 : (upd O10 z2 (HO.lst [])) z2 = some (HO.lst []) := upd_same
      generalize upd O10 z2 (HO.lst []) = O11 at sO11 eO11
      refine ⟨(by show 2 ≤ sizeLine; decide), fun z3 hz3 => ?_⟩
      have sO12 : Same O11 (upd O11 z3 (HO.tup [V.int 2, V.str ("3" : Str)])) := Same.new hz3
      have eO12 : (upd O11 z3 (HO.tup [V.int 2, V.str ("3" : Str)])) z3 = some (HO.tup [V.int 2, V.str ("3" : Str)]) := upd_same
      generalize upd O11 z3 (HO.tup [V.int 2, V.str ("3" : Str)]) = O12 at sO12 eO12
      refine ⟨(by show 4 ≤ sizeLine; decide), fun ol2 hol2 => ?_⟩
      have sO13 : Same O12 (upd O12 ol2 (HO.lst [V.ref z0, V.ref z1, V.ref z2, V.ref z3])) := Same.new hol2
      have eO13 : (upd O12 ol2 (HO.lst [V.ref z0, V.ref z1, V.ref z2, V.ref z3])) ol2 = some (HO.lst [V.ref z0, V.ref z1, V.ref z2, V.ref z3]) := upd_same
      generalize upd O12 ol2 (HO.lst [V.ref z0, V.ref z1, V.ref z2, V.ref z3]) = O13 at sO13 eO13
      refine ⟨ol1, ol2, _, _, rfl, rfl, (sO9.trans (sO10.trans (sO11.trans (sO12.trans sO13)))) _ _ eO8, eO13, (by show 13 ≤ sizeLine; decide), fun ol hol => ?_⟩
      have sO14 : Same O13 (upd O13 ol (HO.lst ([V.ref w0, V.ref w1, V.ref w2, V.ref w3, V.ref w4, V.non, V.int 5, V.ref w7, V.ref w8] ++ [V.ref z0, V.ref z1, V.ref z2, V.ref z3]))) := Same.new hol
      have eO14 : (upd O13 ol (HO.lst ([V.ref w0, V.ref w1, V.ref w2, V.ref w3, V.ref w4, V.non, V.int 5, V.ref w7, V.ref w8] ++ [V.ref z0, V.ref z1, V.ref z2, V.ref z3]))) ol = some (HO.lst [V.ref w0, V.ref w1, V.ref w2, V.ref w3, V.ref w4, V.non, V.int 5, V.ref w7, V.ref w8, V.ref z0, V.ref z1, V.ref z2, V.ref z3]) := upd_same
      generalize upd O13 ol (HO.lst ([V.ref w0, V.ref w1, V.ref w2, V.ref w3, V.ref w4, V.non, V.int 5, V.ref w7, V.ref w8] ++ [V.ref z0, V.ref z1, V.ref z2, V.ref z3])) = O14 at sO14 eO14 ⊢
      have sO : Same O0 O14 := (sO1.trans (sO2.trans (sO3.trans (sO4.trans (sO5.trans (sO6.trans (sO7.trans (sO8.trans (sO9.trans (sO10.trans (sO11.trans (sO12.trans (sO13.trans sO14)))))))))))))
      have PO := P14.same sO
      obtain ⟨xO, yO, zO, eaO, _⟩ := PO.st
      have odd : ∀ v ∈ [V.ref w0, V.ref w1, V.ref w2, V.ref w3, V.ref w4, V.non, V.int 5, V.ref w7, V.ref w8, V.ref z0, V.ref z1, V.ref z2, V.ref z3], (∃ cs, OddR O14 v cs) ∧ ∀ b, v = V.ref b → b ≠ a := by
        intro v hm
        simp only [List.mem_cons, List.not_mem_nil, or_false] at hm
        rcases hm with rfl | rfl | rfl | rfl | rfl | rfl | rfl | rfl | rfl | rfl | rfl | rfl | rfl
        · exact ⟨⟨_, .seq (.inl ((sO2.trans (sO3.trans (sO4.trans (sO5.trans (sO6.trans (sO7.trans (sO8.trans (sO9.trans (sO10.trans (sO11.trans (sO12.trans (sO13.trans sO14)))))))))))) _ _ eO1)) (by decide) (by decide +kernel)⟩, fun b eb => by cases eb; intro q; have h := (sO2.trans (sO3.trans (sO4.trans (sO5.trans (sO6.trans (sO7.trans (sO8.trans (sO9.trans (sO10.trans (sO11.trans (sO12.trans (sO13.trans sO14)))))))))))) _ _ eO1; rw [q, eaO] at h; cases h⟩
        · exact ⟨⟨_, .seq (.inl ((sO3.trans (sO4.trans (sO5.trans (sO6.trans (sO7.trans (sO8.trans (sO9.trans (sO10.trans (sO11.trans (sO12.trans (sO13.trans sO14))))))))))) _ _ eO2)) (by decide) (by decide +kernel)⟩, fun b eb => by cases eb; intro q; have h := (sO3.trans (sO4.trans (sO5.trans (sO6.trans (sO7.trans (sO8.trans (sO9.trans (sO10.trans (sO11.trans (sO12.trans (sO13.trans sO14))))))))))) _ _ eO2; rw [q, eaO] at h; cases h⟩
        · exact ⟨⟨_, .seq (.inl ((sO4.trans (sO5.trans (sO6.trans (sO7.trans (sO8.trans (sO9.trans (sO10.trans (sO11.trans (sO12.trans (sO13.trans sO14)))))))))) _ _ eO3)) (by decide) (by decide +kernel)⟩, fun b eb => by cases eb; intro q; have h := (sO4.trans (sO5.trans (sO6.trans (sO7.trans (sO8.trans (sO9.trans (sO10.trans (sO11.trans (sO12.trans (sO13.trans sO14)))))))))) _ _ eO3; rw [q, eaO] at h; cases h⟩
        · exact ⟨⟨_, .seq (.inl ((sO5.trans (sO6.trans (sO7.trans (sO8.trans (sO9.trans (sO10.trans (sO11.trans (sO12.trans (sO13.trans sO14))))))))) _ _ eO4)) (by decide) (by decide +kernel)⟩, fun b eb => by cases eb; intro q; have h := (sO5.trans (sO6.trans (sO7.trans (sO8.trans (sO9.trans (sO10.trans (sO11.trans (sO12.trans (sO13.trans sO14))))))))) _ _ eO4; rw [q, eaO] at h; cases h⟩
        · exact ⟨⟨_, .seq (.inl ((sO6.trans (sO7.trans (sO8.trans (sO9.trans (sO10.trans (sO11.trans (sO12.trans (sO13.trans sO14)))))))) _ _ eO5)) (by decide) (by decide +kernel)⟩, fun b eb => by cases eb; intro q; have h := (sO6.trans (sO7.trans (sO8.trans (sO9.trans (sO10.trans (sO11.trans (sO12.trans (sO13.trans sO14)))))))) _ _ eO5; rw [q, eaO] at h; cases h⟩
        · exact ⟨⟨_, .non⟩, nofun⟩
        · exact ⟨⟨_, .int⟩, nofun⟩
        · exact ⟨⟨_, .seq (.inl ((sO7.trans (sO8.trans (sO9.trans (sO10.trans (sO11.trans (sO12.trans (sO13.trans sO14))))))) _ _ eO6)) (by decide) (by decide +kernel)⟩, fun b eb => by cases eb; intro q; have h := (sO7.trans (sO8.trans (sO9.trans (sO10.trans (sO11.trans (sO12.trans (sO13.trans sO14))))))) _ _ eO6; rw [q, eaO] at h; cases h⟩
        · exact ⟨⟨_, .seq (.inl ((sO8.trans (sO9.trans (sO10.trans (sO11.trans (sO12.trans (sO13.trans sO14)))))) _ _ eO7)) (by decide) (by decide +kernel)⟩, fun b eb => by cases eb; intro q; have h := (sO8.trans (sO9.trans (sO10.trans (sO11.trans (sO12.trans (sO13.trans sO14)))))) _ _ eO7; rw [q, eaO] at h; cases h⟩
        · exact ⟨⟨_, .seq (.inl ((sO10.trans (sO11.trans (sO12.trans (sO13.trans sO14)))) _ _ eO9)) (by decide) (by decide +kernel)⟩, fun b eb => by cases eb; intro q; have h := (sO10.trans (sO11.trans (sO12.trans (sO13.trans sO14)))) _ _ eO9; rw [q, eaO] at h; cases h⟩
        · exact ⟨⟨_, .seq (.inl ((sO11.trans (sO12.trans (sO13.trans sO14))) _ _ eO10)) (by decide) (by decide +kernel)⟩, fun b eb => by cases eb; intro q; have h := (sO11.trans (sO12.trans (sO13.trans sO14))) _ _ eO10; rw [q, eaO] at h; cases h⟩
        · exact ⟨⟨_, .seq (.inr ((sO12.trans (sO13.trans sO14)) _ _ eO11)) (by decide) (by decide +kernel)⟩, fun b eb => by cases eb; intro q; have h := (sO12.trans (sO13.trans sO14)) _ _ eO11; rw [q, eaO] at h; cases h⟩
        · exact ⟨⟨_, .seq (.inl ((sO13.trans sO14) _ _ eO12)) (by decide) (by decide +kernel)⟩, fun b eb => by cases eb; intro q; have h := (sO13.trans sO14) _ _ eO12; rw [q, eaO] at h; cases h⟩
      have ePk := eO14
      have hkO := hky
      clear sO1 sO2 sO3 sO4 sO5 sO6 sO7 sO8 sO9 sO10 sO11 sO12 sO13 sO14 eO1 eO2 eO3 eO4 eO5 eO6 eO7 eO8 eO9 eO10 eO11 eO12 eO13 eO14 hw0 hw1 hw2 hw3 hw4 hw7 hw8 hol1 hz0 hz1 hz2 hz3 hol2 hol
      generalize O14 = H15 at sO PO odd eaO ePk
      have hk15 : ∃ k, KVH H15 k kv := hky.imp fun _ h => h.ext (Same.x sO)
      obtain ⟨ky, hky'⟩ := hk15
      obtain ⟨ts, hq1, hq2⟩ := id PO.ok.ex
      clear sO hky P14 eaO
      -- the pairs with another key
      refine ⟨_, rfl, q, rfl, ⟨_, SqL.of hq1⟩, fun q2 hq2' => ?_⟩
      refine lc_list (K := K) (a := q) (xs := ts.map V.ref) (fun i H' => Same H15 H' ∧ ∃ us : List Addr, H' q2 = some (.lst (us.map V.ref)) ∧ us.length ≤ i ∧ Paired (fun (t : Addr) (x : EnL) => H15 t = some (.tup [x.e.kv, x.e.v])) us ((l.take i).filter fun x => !decide (x.e.k = ky))) ⟨Same.new hq2', [], upd_same, Nat.le_refl _, .nil⟩ (fun i H' _ m => SqL.of (m.1 _ _ hq1)) ?_ ?_
      · rintro j x H20 hx ⟨s20, us, e20, lus, pus⟩
        rw [List.getElem?_map] at hx
        obtain ⟨t', ht', rfl⟩ := Option.map_eq_some_iff.mp hx
        obtain ⟨en, hen, et⟩ := pairedAt hq2 ht'
        have oken := PO.ok.ok en (List.mem_of_getElem? hen)
        have lj : j < ts.length := (List.getElem?_eq_some_iff.mp ht').1
        have lts : ts.length ≤ 8 := by rw [pairedLen hq2]; exact PO.ok.len
        refine ⟨rfl, _, rfl, t', _, _, _, rfl, rfl, sqT (s20 _ _ et), atI_nat (j := 0) rfl, _, rfl, en.e.k.data, ky.data, (oken.key.ext (Same.x s20)).dp, (hky'.ext (Same.x s20)).dp, oken.key.shaped, hky'.shaped, _, rfl, ?_⟩
        rw [oken.key.ne hky']
        refine ite2 (fun hc => ?_) (fun hc => ?_)
        · refine ⟨_, rfl, _, e20, small1000 (by rw [List.length_map]; omega), fun b o eb => ?_, us ++ [t'], ?_, ?_, ?_⟩
          · rw [upd_ne (fun y => by rw [y, hq2'] at eb; cases eb)]
            exact s20 _ _ eb
          · rw [upd_same, List.map_append]; rfl
          · rw [List.length_append, List.length_singleton]; omega
          · rw [take_more hen, List.filter_append, show [en].filter (fun x => !decide (x.e.k = ky)) = [en] from List.filter_cons_of_pos (p := fun x : EnL => !decide (x.e.k = ky)) hc]
            exact pairedApp pus (.cons et .nil)
        · refine ⟨s20, us, e20, by omega, ?_⟩
          rw [take_more hen, List.filter_append, show [en].filter (fun x => !decide (x.e.k = ky)) = [] from List.filter_cons_of_neg (p := fun x : EnL => !decide (x.e.k = ky)) hc]
          rw [List.append_nil]; exact pus
      rintro H16 ⟨s16, us, e16, lus, pus⟩
      rw [List.length_map, pairedLen hq2, List.take_length] at pus
      rw [List.length_map, pairedLen hq2] at lus
      have nq2 : q2 ≠ a := (PO.st.ne hq2').symm
      have P16 : PW H6 H16 a q2 (l.filter fun x => !decide (x.e.k = ky)) (301 + 9 * i + 1) :=
        ⟨PO.sb.trans (SB.of s16), PO.st.same s16, PO.sb.free nq2 hq2', nq2, ⟨⟨us, e16, L2.Paired.mapP pus fun b x e => s16 _ _ e⟩, fun x hx => (PO.ok.ok x (List.mem_filter.mp hx).1).ext (Same.x s16), (List.filter_sublist.map _).nodup PO.ok.nd, Nat.le_trans (List.length_filter_le _ _) PO.ok.len, fun x hx b e z => (PO.ok.ok x (List.mem_filter.mp hx).1).live e (by rw [z]; exact hq2')⟩, fun x hx => PO.na x (List.mem_filter.mp hx).1⟩
      have knew : ky ∉ (l.filter fun x => !decide (x.e.k = ky)).map fun y => y.e.k := fun hm => by
        obtain ⟨x, hx, e⟩ := List.mem_map.mp hm
        have := (List.mem_filter.mp hx).2
        rw [e] at this
        simp at this
      have ll : (l.filter fun x => !decide (x.e.k = ky)).length ≤ 4 + i := Nat.le_trans (List.length_filter_le _ _) l9
      have hk16 := hky'.ext (Same.x s16)
      have odd16 : ∀ v ∈ [V.ref w0, V.ref w1, V.ref w2, V.ref w3, V.ref w4, V.non, V.int 5, V.ref w7, V.ref w8, V.ref z0, V.ref z1, V.ref z2, V.ref z3], (∃ cs, OddR H16 v cs) ∧ ∀ b, v = V.ref b → b ≠ a ∧ b ≠ q2 := fun v hv => by
        obtain ⟨⟨cs, h⟩, h2⟩ := odd v hv
        exact ⟨⟨cs, h.ext (Same.x s16)⟩, fun b e => ⟨h2 b e, fun z => (h.en hky').live e (by rw [z]; exact hq2')⟩⟩
      have eO16 := s16 _ _ ePk
      have nol : ol ≠ a := fun z => by obtain ⟨_, _, _, q', _⟩ := PO.st; rw [z, q'] at ePk; cases ePk
      have usl : us.length = (l.filter fun x => !decide (x.e.k = ky)).length := pairedLen pus
      generalize (l.filter fun x => !decide (x.e.k = ky)) = l2 at P16 knew ll usl
      clear hq1 hq2 hq2' pus lus s16 PO odd ePk hky' l9
      dsimp only [gName_at, List.set_cons_zero, List.set_cons_succ]
      -- a new pair is put in
      refine ⟨_, rfl, .inl ⟨rfl, _, SqL.of e16⟩, ?_⟩
      refine ⟨_, rfl, ?_⟩
      refine ⟨_, rfl, q2, _, rfl, .inl (SqL.of e16), ?_⟩
      refine ⟨_, _, rfl, rfl, ?_⟩
      have ul : (us.map V.ref).length ≤ 7 := by rw [List.length_map, usl]; omega
      refine ⟨a, _, _, rfl, P16.st, by omega, by omega, by omega, fun r H17 r0 r1 st17 he17 => ?_⟩
      have sb17 := sb_eq (H := H16) he17
      have P17 := P16.more sb17 st17
      refine ⟨_, rfl, _, rfl, _, rfl, ?_⟩
      refine .inl ⟨a, ol, _, _, rfl, P17.st, by omega, nol, SqL.of (sb17 _ _ nol eO16), (by show 1 ≤ 13; decide), (by show 13 ≤ 1000000; decide), fun v H18 hv18 st18 sb18 _ => ?_⟩
      have P18 := P17.more sb18 st18
      obtain ⟨⟨cs, hod⟩, hna⟩ := odd16 v hv18
      obtain ⟨x0, y0, z0, ea16, _⟩ := id P16.st
      have en18 : EnOk H18 ⟨⟨ky, kv, v⟩, cs⟩ := (hod.en hk16).sb ea16 (sb17.trans sb18) fun b e => (hna b e).1
      refine ⟨(by show 2 ≤ sizeLine; decide), fun tn htn => ?_⟩
      have s19 : Same H18 (upd H18 tn (.tup [kv, v])) := Same.new htn
      have e19 : (upd H18 tn (.tup [kv, v])) tn = some (.tup [kv, v]) := upd_same
      generalize upd H18 tn (.tup [kv, v]) = H19 at s19 e19 ⊢
      have P19 := P18.same s19
      have en19 := en18.ext (Same.x s19)
      obtain ⟨ts19, g1, g2⟩ := id P19.ok.ex
      have tl19 : ts19.length ≤ 7 := by rw [pairedLen g2]; omega
      refine ⟨q2, _, r, _, rfl, rfl, g1, small1000 (by rw [List.length_map]; omega), r0, by omega, ?_⟩
      have nw := PairsOk.put (H := H19) (q := q2) (t := tn) (x := ⟨⟨ky, kv, v⟩, cs⟩) r.toNat g1 g2 P19.ok.ok P19.ok.nd (by omega) P19.ok.ap e19 en19 (fun b e => (hna b e).2) knew
      refine ⟨_, _, _, _, _, rfl, ⟨fun b o n e => ?_, ?_, P19.q0, P19.qa, nw, ?_⟩, ?_⟩
      · rw [upd_ne (fun z => by rw [z, P19.q0] at e; cases e)]
        exact P19.sb b o n e
      · obtain ⟨x1, y1, z1, ea19, r'⟩ := P19.st
        exact ⟨x1, y1, z1, by rw [upd_ne P19.qa.symm]; exact ea19, r'.1, r'.2.1, r'.2.2.1, r'.2.2.2.1, by omega⟩
      · intro y hy b e
        rcases List.mem_append.mp hy with hy | hy
        · rcases List.mem_append.mp hy with hy | hy
          · exact P19.na y (List.mem_of_mem_take hy) b e
          · cases List.mem_singleton.mp hy
            exact (hna b e).1
        · exact P19.na y (List.mem_of_mem_drop hy) b e
      · rw [List.length_append, List.length_append, List.length_take, List.length_drop, List.length_singleton]
        omega
    rintro σ H9 ⟨v8', v9', v10', q, l, rfl, P9, l9⟩
    -- the dict of the pairs
    refine ⟨fun σ' H' => ∃ gd : Addr, σ' = [some (.ref a0), some (.int (0 + i_)), some (.ref a), some (.ref p), some (.ref d), some (.ref t), some (.ref sl), some (.ref q), v8', v9', v10', some (.ref gd), v12, v13, v14, v15, v16, v17, v18] ∧ SB a H6 H' ∧ Stm H' a 330 ∧ (FineD H' gd rs ∨ BadD w H' gd rs l), ?_, ?_⟩
    · obtain ⟨ts, g1, g2⟩ := id P9.ok.ex
      have l8 := P9.ok.len
      by_cases hall : ∀ x ∈ l, goodB (shutL rs) x = true
      · obtain ⟨LL, gg, aa, k1, k2, k3, k4, k5⟩ := good_fine hv g2 P9.ok.ok P9.ok.nd hall
        refine ⟨_, rfl, .inl ⟨q, ts, _, rfl, SqL.of g1, L2.Paired.mapP k4 fun t kv e => sqT e, fun gd hgd => ?_⟩⟩
        rw [show mergeK [] (kvX (fun z => V.ref (aa z)) LL) = kvX (fun z => V.ref (aa z)) LL from merge_kvX LL [] k1]
        have s9 := Same.new (o := .dK (kvX (fun z => V.ref (aa z)) LL)) hgd
        exact ⟨gd, rfl, P9.sb.trans (SB.of s9), (P9.st.same s9).mono (by omega), .inl ⟨LL, gg, aa, upd_same, by omega, fun z hz => ⟨(k5 z hz).1.same s9, (k5 z hz).2⟩⟩⟩
      · refine ⟨_, rfl, .inr ⟨q, ts, l.map fun x => x.e, rfl, SqL.of g1, pairedMapR (G := fun (t : Addr) (y : EnV) => SqT K H9 t [y.kv, y.v]) (fun t x e => sqT e) g2, keysM_of P9.ok.ok, by rw [List.map_map]; exact P9.ok.nd, fun gd od hgd => ?_⟩⟩
        have s9 := Same.new (o := .frz od (DicM w gd (l.map fun x => x.e))) hgd
        exact ⟨gd, rfl, P9.sb.trans (SB.of s9), (P9.st.same s9).mono (by omega), .inr ⟨⟨od, upd_same⟩, fun x hx => (P9.ok.ok x hx).ext (Same.x s9), P9.ok.nd, l8, hall⟩⟩
    clear P8 P9 l9
    rintro σ H9 ⟨gd, rfl, sb9, st9, hD⟩
    -- the bad keys
    have sl9 := sb9 _ _ (fun z => by obtain ⟨_, _, _, q', _⟩ := st6; rw [z, q'] at e6; injection e6 with e6; injection e6 with e6; cases hsl : shutL rs with | nil => rw [hsl] at e6; cases e6 | cons y ys => rw [hsl] at e6; cases e6) e6
    refine ⟨fun σ' H' => ∃ bl : Addr, σ' = [some (.ref a0), some (.int (0 + i_)), some (.ref a), some (.ref p), some (.ref d), some (.ref t), some (.ref sl), some (.ref q), v8', v9', v10', some (.ref gd), some (.ref bl), v13, v14, v15, v16, v17, v18] ∧ SB a H6 H' ∧ Stm H' a 330 ∧ ((FineD H' gd rs ∧ H' bl = some (.lst [])) ∨ (BadD w H' gd rs l ∧ H' bl = some (.lst ((l.filter fun x => !goodB (shutL rs) x).map fun x => x.e.kv)))), ?_, ?_⟩
    · rcases hD with hD | hD
      · obtain ⟨LL, gg, aa, k1, k2, k3⟩ := id hD
        refine .inl ⟨gd, _, k1, trivial, fun od => ?_⟩
        obtain ⟨Hl, El⟩ : ∃ Hx, Hx = upd H9 gd (.frz od (.dK (kvX (fun z => V.ref (aa z)) LL))) := ⟨_, rfl⟩
        have lk : Hl gd = some (.frz od (.dK (kvX (fun z => V.ref (aa z)) LL))) := by rw [El]; exact upd_same
        have keep : ∀ b o, H9 b = some o → b ≠ gd → Hl b = some o := fun b o e n => by rw [El, upd_ne n]; exact e
        have back : ∀ H', Same Hl H' → Same H9 (upd H' gd (.dK (kvX (fun z => V.ref (aa z)) LL))) := fun H' s b o e => by
          by_cases q : b = gd
          · rw [q, upd_same, ← e, q]; exact k1.symm
          · rw [upd_ne q]; exact s _ _ (keep b o e q)
        rw [← El]
        clear El
        have nsl : sl ≠ gd := fun z => by rw [z, k1] at sl9; cases sl9
        refine ⟨_, rfl, gd, od, rfl, .inl ⟨_, lk, fun bl hbl => ?_⟩⟩
        refine lc_it (walk_keys (d := gd) (o := od) (kvs := kvX (fun z => V.ref (aa z)) LL)) (fun i H' => Same Hl H' ∧ H' bl = some (.lst [])) ⟨Same.new hbl, upd_same⟩ (fun i H' _ m => m.1 _ _ lk) ?_ ?_
        · rintro j x H10 H11 hj ⟨s10, e10⟩ ⟨rfl, k', w', hk', rfl⟩
          obtain ⟨z, ez, hz⟩ := kvX_at hk'
          cases ez
          have hzm := List.mem_of_getElem? hz
          obtain ⟨c1, c2, c3⟩ := k3 z hzm
          have dg : DGet H11 gd (.str z) (some (.ref (aa z))) := .inl ⟨_, .inr z, .inr ⟨od, s10 _ _ lk⟩, rfl, (valV_kvX (fun z => V.ref (aa z)) hzm).symm⟩
          have ng : aa z ≠ gd := fun q => by rcases c1 with c1 | c1 <;> (rw [q, k1] at c1; cases c1)
          have c1' : Seq H11 (aa z) (rgV (gg z)) := c1.imp (fun h => s10 _ _ (keep _ _ h ng)) fun h => s10 _ _ (keep _ _ h ng)
          have inS : z ∈ shutL rs := (shut_row hv).mpr c3
          refine ⟨rfl, _, rfl, _, rfl, sl, shutL rs, rfl, .inl (SqL.of (s10 _ _ (keep _ _ sl9 nsl))), .inl ⟨z, rfl, _, rfl, ?_⟩⟩
          rw [decide_eq_true inS]
          refine iteF ⟨_, rfl, _, rfl, gd, _, rfl, dg, _, _, rfl, rg_th c1', fun H12 s12 => ⟨_, rfl, ?_⟩⟩
          rw [rg_rangeB c2]
          exact iteF ⟨s10.trans s12, s12 _ _ e10⟩
        rintro H10 ⟨s10, e10⟩
        refine ⟨s10 _ _ lk, ?_⟩
        have s11 := back _ s10
        refine ⟨bl, rfl, sb9.trans (SB.of s11), st9.same s11, .inl ⟨hD.same s11, ?_⟩⟩
        rw [upd_ne (fun z => by rw [z] at hbl; rw [lk] at hbl; cases hbl)]
        exact e10
      · obtain ⟨⟨od, k1⟩, k2, k3, k4, k5⟩ := id hD
        refine .inr ⟨_, rfl, gd, od, _, rfl, k1, fun bl hbl => ?_⟩
        refine lc_it walk_keyM (fun i H' => Same H9 H' ∧ H' bl = some (.lst (((l.take i).filter fun x => !goodB (shutL rs) x).map fun x => x.e.kv))) ⟨Same.new hbl, upd_same⟩ (fun i H' _ m => m.1 _ _ k1) ?_ ?_
        · rintro j x H10 H11 hj ⟨s10, e10⟩ ⟨rfl, y, hy, rfl⟩
          rw [List.getElem?_map] at hy
          obtain ⟨en, hen, rfl⟩ := Option.map_eq_some_iff.mp hy
          have hem := List.mem_of_getElem? hen
          have oken := (k2 en hem).ext (Same.x s10)
          have add : ∀ H12, Same H11 H12 → goodB (shutL rs) en = false → ∃ acc, H12 bl = some (.lst acc) ∧ acc.length < sizeLine ∧ Same H9 (upd H12 bl (.lst (acc ++ [en.e.kv]))) ∧ (upd H12 bl (.lst (acc ++ [en.e.kv]))) bl = some (.lst (((l.take (j + 1)).filter fun x => !goodB (shutL rs) x).map fun x => x.e.kv)) := fun H12 s12 hg => by
            refine ⟨_, s12 _ _ e10, small1000 ?_, fun b o eb => ?_, ?_⟩
            · rw [List.length_map]
              have h1 := List.length_filter_le (fun x => !goodB (shutL rs) x) (l.take j)
              rw [List.length_take] at h1
              omega
            · rw [upd_ne (fun y => by rw [y, hbl] at eb; cases eb)]
              exact s12 _ _ (s10 _ _ eb)
            · rw [upd_same, take_more hen, List.filter_append, List.map_append, show [en].filter (fun x => !goodB (shutL rs) x) = [en] from List.filter_cons_of_pos (p := fun x : EnL => !goodB (shutL rs) x) (by rw [hg]; rfl)]
              rfl
          refine ⟨rfl, _, rfl, _, rfl, sl, shutL rs, rfl, .inl (SqL.of (s10 _ _ sl9)), ?_⟩
          rcases oken.key.oddV (K := K) with ⟨z, ek, ev⟩ | ⟨hno, ho⟩
          · refine .inl ⟨z, ev, _, rfl, ?_⟩
            by_cases hz : z ∈ shutL rs
            · rw [decide_eq_true hz]
              refine iteF ⟨_, rfl, _, rfl, od, gd, _, en.e.k, en.e.v, rfl, s10 _ _ k1, keysM_of (fun x hx => (k2 x hx).ext (Same.x s10)), oken.key.m, atV_mem k3 hem, en.e.v, en.cs, rfl, oken.val, fun H12 s12 => ⟨_, rfl, ?_⟩⟩
              have gB : goodB (shutL rs) en = rangeB en.cs := by
                unfold goodB
                rw [ek, show inKey (shutL rs) (.text z) = true from decide_eq_true hz, Bool.true_and]
              cases hr : rangeB en.cs with
              | true =>
                refine iteF ⟨s10.trans s12, ?_⟩
                rw [take_more hen, List.filter_append, show [en].filter (fun x => !goodB (shutL rs) x) = [] from List.filter_cons_of_neg (p := fun x : EnL => !goodB (shutL rs) x) (by rw [gB, hr]; decide), List.append_nil]
                exact s12 _ _ e10
              | false => exact iteT ⟨_, rfl, add H12 s12 (by rw [gB, hr])⟩
            · rw [decide_eq_false hz]
              refine iteT (iteT ⟨_, rfl, add H11 (Same.refl _) ?_⟩)
              unfold goodB
              rw [ek, show inKey (shutL rs) (.text z) = false from decide_eq_false hz, Bool.false_and]
          · refine .inr ⟨ho, _, rfl, iteT (iteT ⟨_, rfl, add H11 (Same.refl _) ?_⟩)⟩
            unfold goodB
            rw [hno, Bool.false_and]
        rintro H10 ⟨s10, e10⟩
        rw [List.length_map, List.take_length] at e10
        exact ⟨bl, rfl, sb9.trans (SB.of s10), st9.same s10, .inr ⟨hD.same s10, e10⟩⟩
    clear hD sb9 st9 sl9
    rintro σ H9 ⟨bl, rfl, sb9, st9, hD⟩
    -- what is made of it
    have ht9 : TreeAt C H9 t rs := ht6.kl (KL.sb st6 sb9)
    refine ⟨fun σ' H' => σ' = [some (.ref a0), some (.int (0 + i_)), some (.ref a), some (.ref p), some (.ref d), some (.ref t), some (.ref sl), some (.ref q), v8', v9', v10', some (.ref gd), some (.ref bl), v13, v14, v15, v16, v17, v18] ∧ SB a H6 H' ∧ Stm H' a 330, ?_, ?_⟩
    · refine ⟨_, rfl, _, rfl, t, gd, rs, rfl, ht9, ?_⟩
      rcases hD with ⟨hD, hb⟩ | ⟨hD, hb⟩
      · refine .inl ⟨hD.rg, fun H10 s10 => ?_⟩
        refine ⟨_, .none, rfl, .inr (.inl ⟨rfl, rfl⟩), ?_⟩
        refine ⟨_, rfl, (by show 0 ≤ sizeLine; decide), fun nl hnl => ?_⟩
        have s11 : Same H10 (upd H10 nl (.lst [])) := Same.new hnl
        have e11 : (upd H10 nl (.lst [])) nl = some (.lst []) := upd_same
        generalize upd H10 nl (.lst []) = H11 at s11 e11 ⊢
        refine ⟨bl, nl, [], rfl, rfl, SqL.of (s11 _ _ (s10 _ _ hb)), SqL.of e11, ?_⟩
        refine ⟨_, rfl, iteF' (by decide) ?_⟩
        refine ⟨_, .none, rfl, .inr (.inl ⟨rfl, rfl⟩), ?_⟩
        refine ⟨rfl, _, rfl, iteF' (by simp) ?_⟩
        have s911 := s10.trans s11
        exact ⟨rfl, sb9.trans (SB.of s911), st9.same s911⟩
      · obtain ⟨y, ys, k1, k2, k3⟩ := hD.bad hv
        refine .inr ⟨_, k1, fun r1 H10 s10 e10 => ?_⟩
        refine ⟨_, _, rfl, (k2.ext (Same.x s10)).shw e10, ?_⟩
        rw [k3, List.map_cons] at hb
        refine ⟨_, rfl, (by show 0 ≤ sizeLine; decide), fun nl hnl => ?_⟩
        have s11 : Same H10 (upd H10 nl (.lst [])) := Same.new hnl
        have e11 : (upd H10 nl (.lst [])) nl = some (.lst []) := upd_same
        generalize upd H10 nl (.lst []) = H11 at s11 e11 ⊢
        refine ⟨bl, nl, _, rfl, rfl, SqL.of (s11 _ _ (s10 _ _ hb)), SqL.of e11, ?_⟩
        refine ⟨_, rfl, iteT ?_⟩
        refine ⟨_, rfl, bl, _, _, _, rfl, rfl, SqL.of (s11 _ _ (s10 _ _ hb)), atI_nat (j := 0) rfl, (by show 1 ≤ sizeLine; decide), fun r2 hr2 => ?_⟩
        have s12 : Same H11 (upd H11 r2 (.tup [y.e.kv])) := Same.new hr2
        have e12 : (upd H11 r2 (.tup [y.e.kv])) r2 = some (.tup [y.e.kv]) := upd_same
        generalize upd H11 r2 (.tup [y.e.kv]) = H12 at s12 e12 ⊢
        have s912 := s10.trans (s11.trans s12)
        refine ⟨_, _, rfl, (k2.ext (Same.x s912)).shw e12, ?_⟩
        refine ⟨rfl, _, rfl, iteF' (by simp) ?_⟩
        exact ⟨rfl, sb9.trans (SB.of s912), st9.same s912⟩
    clear hD ht9 sb9 st9
    rintro σ H9 ⟨rfl, sb9, st9⟩
    -- counts and a meaning
    have ht9 : TreeAt C H9 t rs := ht6.kl (KL.sb st6 sb9)
    have hL9 : RowsL H9 p rs := (⟨as, hp6, hrows6⟩ : RowsL H6 p rs).sbk np st6 sb9
    have hRg9 : RgsT H9 d L g := hRg6.kl (KL.sb st6 sb9)
    refine ⟨_, rfl, _, rfl, ?_⟩
    dsimp only [tNil]
    refine fun c cdx nc ncd _ => ⟨c, cdx, t, d, rs, L, g, rfl, upd_same, ht9.same (mk_same0 (C := CC) nc ncd), (hRg9.same (mk_same0 (C := CC) nc ncd)).at_, by omega, hok, fun H10 sb10 hc10 => ⟨rfl, ?_⟩⟩
    have s10 := mk_same nc ncd sb10
    refine ⟨_, rfl, _, rfl, _, rfl, a, p, t, _, rs, rfl, st9.same s10, by decide, hL9.same s10, np, ht9.same s10, fun m v H11 hm11 sb11 _ st11 => ?_⟩
    refine ⟨_, _, rfl, ?_⟩
    have kl11 : KL H10 H11 := KL.sb (st9.same s10) sb11
    have hc11 := hc10.kl kl11
    have ht11 := (ht9.same s10).kl kl11
    have hL11 := (hL9.same s10).sbk np (st9.same s10) sb11
    have SB11 : SB a H6 H11 := (sb9.trans (SB.of s10)).trans sb11
    clear ht9 hL9 hRg9 nc ncd sb10 hc10 s10 sb9 st9 sb11 kl11
    -- a meaning of another tree
    have hT11 : Tabs T H11 := tabs_sb (hT1.ext S6) st6 SB11
    obtain ⟨tdx, _, _, _, _, _, t1, _⟩ := id ht11.ex
    refine ⟨_, rfl, t, tdx, _, rfl, t1, (by rfl), ?_⟩
    refine ⟨_, rfl, p, rs, rfl, hL11, by omega, fun z H12 hz1 hz2 hz3 s12 => ⟨(by show 4 ≤ sizeLine; decide), fun rt hrt => ?_⟩⟩
    have s13 : Same H12 (upd H12 rt (.tup [V.str z, V.str ("top" : Str), V.str ("item" : Str), V.int 1])) := Same.new hrt
    have e13 : (upd H12 rt (.tup [V.str z, V.str ("top" : Str), V.str ("item" : Str), V.int 1])) rt = some (.tup (rowVs (spareR z))) := upd_same
    generalize upd H12 rt (.tup [V.str z, V.str ("top" : Str), V.str ("item" : Str), V.int 1]) = H13 at s13 e13 ⊢
    have s1113 := s12.trans s13
    refine ⟨t, rt, rs, spareR z, rfl, ht11.same s1113, .inl e13, spare_fits hz1 hz2 hz3, by omega, fun t3 H14 s14 ht14 => ?_⟩
    dsimp only [tNil]
    refine fun sm sdx nsm nsd _ => ⟨sm, sdx, t3, Te, false, [], rs ++ [spareR z], rfl, upd_same, ht14.same (mk_same0 (C := CM) nsm nsd), .inr (hTe _), nofun, fun H15 sb15 hm15 => ⟨rfl, ?_⟩⟩
    have s15 := mk_same nsm nsd sb15
    have s1115 := s1113.trans (s14.trans s15)
    have hc15 := hc11.same s1115
    have ht15 := ht11.same s1115
    have hm15' := hm11.same s1115
    have T15 := hT11.ext s1115
    have SB15 := SB11.trans (SB.of s1115)
    clear s12 s13 hrt e13 s1113 s14 s15 s1115 nsm nsd sb15 ht14 hc11 ht11 hm11 hT11 hL11 t1
    -- six refusals
    have far : Far K C H15 c sm := by
      obtain ⟨mdx, mu, mk, m1, _⟩ := id hm15.ex
      exact ⟨t, t3, rs, rs ++ [spareR z], hc15.has TK, ⟨CM, mdx, _, m1, M.cl, M.nt, mf_t _ _ _ _⟩, ht15, hm15.tree, fun e => by have := congrArg List.length e; simp at this⟩
    obtain ⟨cdx2, ck, c1, _⟩ := id hc15.ex
    refine ⟨_, rfl, _, rfl, fun td htd => ?_⟩
    have s16 : Same H15 (upd H15 td (.dK [])) := Same.new htd
    generalize upd H15 td (.dK []) = H16 at s16 ⊢
    refine ⟨c, sm, td, _, _, rfl, ⟨cdx2, t, ck, s16 _ _ c1⟩, .inl ⟨far.ext (Same.x s16), rfl⟩, T15.ext s16, fun D1 H17 us1 l1 x17 T17 e17 a17 => ?_⟩
    refine ⟨(by show 1 ≤ sizeLine; decide), fun q1 hq1 => ⟨(by show 1 ≤ sizeLine; decide), fun q2 hq2 => ?_⟩⟩
    have s1 : Same H17 (upd H17 q1 (.tup [V.str ("unlike" : Str)])) := Same.new hq1
    have e1 : (upd H17 q1 (.tup [V.str ("unlike" : Str)])) q1 = some (.tup [V.str ("unlike" : Str)]) := upd_same
    generalize upd H17 q1 (.tup [V.str ("unlike" : Str)]) = H18 at s1 e1 hq2
    have s2 : Same H18 (upd H18 q2 (.lst [V.ref q1])) := Same.new hq2
    have e2 : (upd H18 q2 (.lst [V.ref q1])) q2 = some (.lst [V.ref q1]) := upd_same
    generalize upd H18 q2 (.lst [V.ref q1]) = H19 at s2 e2
    refine ⟨q2, 6, _, rfl, rfl, e2, by decide, by decide, (by show 6 ≤ sizeLine; decide), fun q3 hq3 => ?_⟩
    have s3 : Same H19 (upd H19 q3 (.lst (List.replicate (6 : Int).toNat [V.ref q1]).flatten)) := Same.new hq3
    have e3 : (upd H19 q3 (.lst (List.replicate (6 : Int).toNat [V.ref q1]).flatten)) q3 = some (.lst ((List.replicate 6 q1).map V.ref)) := upd_same
    generalize upd H19 q3 (.lst (List.replicate (6 : Int).toNat [V.ref q1]).flatten) = H20 at s3 e3
    have s1720 := s1.trans (s2.trans s3)
    refine ⟨six unD, six unD, six_dp l1 (s1720 _ _ e17) (fun u hu => .tup (sqT (s1720 _ _ (a17 u hu))) (.cons (.str _) .nil)), six_dp (by rfl) e3 (fun u hu => by
      rw [List.eq_of_mem_replicate hu]
      exact .tup (sqT ((s2.trans s3) _ _ e1)) (.cons (.str _) .nil)), un_shaped, un_shaped, _, rfl, ?_⟩
    rw [un_same]
    refine iteF ?_
    have x1520 : ExtN H15 H20 := ((Same.x s16).trans x17).trans (Same.x s1720)
    have T20 := T17.ext s1720
    clear far s16 htd x17 T17 e17 a17 l1 hq1 hq2 hq3 s1 e1 s2 e2 s3 e3 s1720
    -- the odd boxes
    have nop : ∀ x, NoPl H15 rs x → NoPlc K C H15 c m x := fun x hx => by
      obtain ⟨t4, hm4⟩ : ∃ t4, MV C CM H15 m t4 rs v := ⟨_, hm15'⟩
      exact ⟨t, t4, rs, hc15.has TK, hm4.has M, ht15, hm4.turns.tree, hx⟩
    refine ⟨(by show 1 ≤ sizeLine; decide), fun ll hll => ⟨(by show 1 ≤ sizeLine; decide), fun tt htt => fun ee hee => ⟨(by show 8 ≤ sizeLine; decide), fun bx hbx => ?_⟩⟩⟩
    have s1 : Same H20 (upd H20 ll (.lst [V.str ("top" : Str)])) := Same.new hll
    have e1 : (upd H20 ll (.lst [V.str ("top" : Str)])) ll = some (.lst [V.str ("top" : Str)]) := upd_same
    generalize upd H20 ll (.lst [V.str ("top" : Str)]) = H21 at s1 e1 htt hee hbx ⊢
    have s2 : Same H21 (upd H21 tt (.tup [V.str ("top" : Str)])) := Same.new htt
    have e2 : (upd H21 tt (.tup [V.str ("top" : Str)])) tt = some (.tup [V.str ("top" : Str)]) := upd_same
    generalize upd H21 tt (.tup [V.str ("top" : Str)]) = H22 at s2 e2 hee hbx ⊢
    have s3 : Same H22 (upd H22 ee (.dK [])) := Same.new hee
    have e3 : (upd H22 ee (.dK [])) ee = some (.dK []) := upd_same
    generalize upd H22 ee (.dK []) = H23 at s3 e3 hbx ⊢
    have s4 : Same H23 (upd H23 bx (.lst [V.non, V.int 5, V.str ("" : Str), V.str ("nobody" : Str), V.ref ll, V.ref tt, V.bl true, V.ref ee])) := Same.new hbx
    have e4 : (upd H23 bx (.lst [V.non, V.int 5, V.str ("" : Str), V.str ("nobody" : Str), V.ref ll, V.ref tt, V.bl true, V.ref ee])) bx = some (.lst [V.non, V.int 5, V.str ("" : Str), V.str ("nobody" : Str), V.ref ll, V.ref tt, V.bl true, V.ref ee]) := upd_same
    generalize upd H23 bx (.lst [V.non, V.int 5, V.str ("" : Str), V.str ("nobody" : Str), V.ref ll, V.ref tt, V.bl true, V.ref ee]) = H24 at s4 e4 ⊢
    have b8 := boxes8 (K := K) (H := H24) hv ((s2.trans (s3.trans s4)) _ _ e1) ((s3.trans s4) _ _ e2) (s4 _ _ e3)
    have s2024 := s1.trans (s2.trans (s3.trans s4))
    have x1524 := x1520.trans (Same.x s2024)
    have T24 := T20.ext s2024
    have c24 := x1524 _ _ c1 nofun
    have nop24 : ∀ x, NoPl H24 rs x → NoPlc K C H24 c m x := fun x hx => by
      obtain ⟨t1, t2, rs', g1, g2, g3, g4, _⟩ := nop .non (.inr (.inl rfl))
      have hm24 : ∃ t4, HasT K H24 m t4 ∧ TreeAt C H24 t4 rs := ⟨_, (hm15'.has M).ext x1524, hm15'.turns.tree.ext x1524⟩
      obtain ⟨t4, k1, k2⟩ := hm24
      exact ⟨t, t4, rs, (hc15.has TK).ext x1524, k1, ht15.ext x1524, k2, hx⟩
    have x124 : ExtN H1 H24 := (Same.x (smb S6 ha SB15)).trans x1524
    clear hll htt hee hbx s1 e1 s2 e2 s3 e3 s4 s2024 x1520 T20
    refine ⟨bx, rfl, ⟨_, SqL.of e4⟩, ?_⟩
    refine for_list (K := K) (a := bx) (xs := [V.non, V.int 5, V.str ("" : Str), V.str ("nobody" : Str), V.ref ll, V.ref tt, V.bl true, V.ref ee]) (fun i σ H' => ∃ v16 : Option V, σ = [some (.ref a0), some (.int (0 + i_)), some (.ref a), some (.ref p), some (.ref d), some (.ref t), some (.ref sl), some (.ref q), v8', v9', v10', some (.ref gd), some (.ref bl), some (.ref c), some (.ref m), some (.ref sm), v16, v17, v18] ∧ ExtN H24 H' ∧ Tabs T H') ⟨_, rfl, ExtN.refl _, T24⟩ (fun i σ H' _ ⟨_, _, x, _⟩ => SqL.of (x _ _ e4 nofun)) ?_ ?_
    · rintro i x σ H25 hx ⟨v16', rfl, x25, T25⟩
      obtain ⟨hnp, hbs⟩ := b8 x (List.mem_of_getElem? hx)
      obtain ⟨dd, hdd⟩ := (hbs.ext x25).shw
      refine ⟨_, rfl, _, rfl, _, rfl, fun td htd => ?_⟩
      have s26 : Same H25 (upd H25 td (.dK [])) := Same.new htd
      generalize upd H25 td (.dK []) = H26 at s26 ⊢
      refine ⟨c, m, td, x, _, rfl, ⟨cdx2, t, ck, s26 _ _ (x25 _ _ c24 nofun)⟩, .inr ⟨(nop24 x hnp).ext (x25.trans (Same.x s26)), rfl⟩, T25.ext s26, fun D1 H27 us1 l1 x27 T27 e27 a27 => ?_⟩
      have x2527 := (Same.x s26).trans x27
      refine ⟨_, dd, rfl, hdd H27 D1 us1 x2527 l1 e27 a27, ?_⟩
      refine ⟨_, rfl, (by show 2 ≤ sizeLine; decide), fun q1 hq1 => ⟨(by show 1 ≤ sizeLine; decide), fun q2 hq2 => ?_⟩⟩
      have s1 : Same H27 (upd H27 q1 (.tup [V.str ("box" : Str), x])) := Same.new hq1
      have e1 : (upd H27 q1 (.tup [V.str ("box" : Str), x])) q1 = some (.tup [V.str ("box" : Str), x]) := upd_same
      generalize upd H27 q1 (.tup [V.str ("box" : Str), x]) = H28 at s1 e1 hq2
      have s2 : Same H28 (upd H28 q2 (.lst [V.ref q1])) := Same.new hq2
      have e2 : (upd H28 q2 (.lst [V.ref q1])) q2 = some (.lst [V.ref q1]) := upd_same
      generalize upd H28 q2 (.lst [V.ref q1]) = H29 at s2 e2
      refine ⟨q2, 6, _, rfl, rfl, e2, by decide, by decide, (by show 6 ≤ sizeLine; decide), fun q3 hq3 => ?_⟩
      have s3 : Same H29 (upd H29 q3 (.lst (List.replicate (6 : Int).toNat [V.ref q1]).flatten)) := Same.new hq3
      have e3 : (upd H29 q3 (.lst (List.replicate (6 : Int).toNat [V.ref q1]).flatten)) q3 = some (.lst ((List.replicate 6 q1).map V.ref)) := upd_same
      generalize upd H29 q3 (.lst (List.replicate (6 : Int).toNat [V.ref q1]).flatten) = H30 at s3 e3
      have s2730 := s1.trans (s2.trans s3)
      refine ⟨_, dd, rfl, hdd H30 q3 (List.replicate 6 q1) (x2527.trans (Same.x s2730)) (by rfl) e3 (fun u hu => by
        rw [List.eq_of_mem_replicate hu]
        exact (s2.trans s3) _ _ e1), ?_⟩
      refine ⟨rfl, _, rfl, iteF' (by simp) ?_⟩
      exact ⟨_, rfl, (x25.trans x2527).trans (Same.x s2730), T27.ext s2730⟩
    rintro σ H25 ⟨v16', rfl, x25, T25⟩
    exact ⟨_, _, _, _, _, _, _, _, _, _, _, _, _, _, _, _, _, _, rfl, sq_ext hS1 (x124.trans x25), T25⟩
end
end Ts

set_option maxRecDepth 100000
set_option maxHeartbeats 8000000
namespace Ts
open PySem L2
theorem defAt {K : PySem.W.Frag} {h : Heap} {mg : Str → Option Value} (X : K.In h) (G : h.Ns mainGlobals mg) {x : Str} {st : Stmt} {ps : List Str} {f : Addr} {oc : Value} {od an : Option Addr} {sl : Array (Option Value)} {kV dc pm cd ct : Value}
    (a : PySem.W.nsIn K mainGlobals x = some (some (.ref f))) (l : K.lookup f = some ⟨oc, od, .func (PySem.W.fnOf x x (defArgs st) (defBody st) (defScope st) .none kV dc pm an cd ct), sl⟩) (c : PySem.W.codeIn K cd x = true) (k : PySem.W.keepIn K (.ref f) = true)
    (hb : ∀ (kV doc pm : Value) (an : Option Addr) (cdv ct : Value) (us : List Value), us.length = ps.length → bindArgs (PySem.W.fnOf x x (defArgs st) (defBody st) (defScope st) .none kV doc pm an cdv ct) ⟨us, []⟩ = pure (ps.zip us)) :
    ∃ D : DefAt K mg x st ps, ∀ (s : Shared) (us : List Value), us.length = ps.length → BindsTo s D.fd ⟨us, []⟩ (ps.zip us) :=
  ⟨⟨f, _, fun_mk l c k, (fun_mk l c k).binds hb, PySem.W.mg_of X G a⟩, fun _ us hu => .of_eq (hb _ _ _ _ _ _ us hu)⟩
theorem methAt {K : PySem.W.Frag} {C : Addr} {x q : Str} {st : Stmt} {ps : List Str} {f : Addr} {oc : Value} {od an : Option Addr} {sl : Array (Option Value)} {kV dc pm cd ct : Value}
    (a : PySem.W.findIn K (.ref C) x = some (some (.ref f))) (i : PySem.W.isFn K (.ref f) = true) (l : K.lookup f = some ⟨oc, od, .func (PySem.W.fnOf x q (defArgs st) (defBody st) (defScope st) .none kV dc pm an cd ct), sl⟩) (c : PySem.W.codeIn K cd q = true) (k : PySem.W.keepIn K (.ref f) = true)
    (hb : ∀ (kV doc pm : Value) (an : Option Addr) (cdv ct : Value) (us : List Value), us.length = ps.length → bindArgs (PySem.W.fnOf x q (defArgs st) (defBody st) (defScope st) .none kV doc pm an cdv ct) ⟨us, []⟩ = pure (ps.zip us)) :
    Nonempty (MethAt K C x q st ps) :=
  ⟨⟨f, _, fun_mk l c k, (fun_mk l c k).binds hb, ⟨a, i, k⟩⟩⟩
theorem kit_no {K : PySem.W.Frag} {C : Addr} {T : String} (iC : PySem.W.isClsIn K C = true) (tC : PySem.W.typeIn K (.ref C) = some (.type "type")) (sb : PySem.W.subIn K (.type T) (.ref C) = some false) : PySem.W.kitOne K (.type T) (.ref C) = some false := by
  unfold PySem.W.kitOne
  rw [if_neg (by simp)]
  have e : ((PySem.W.clsIn K C).isSome && PySem.W.typeIn K (.ref C) == some (.type "type")) = true := by
    rw [show (PySem.W.clsIn K C).isSome = true from iC, tC]
    simp
  show (if ((PySem.W.clsIn K C).isSome && PySem.W.typeIn K (.ref C) == some (.type "type")) = true then PySem.W.subIn K (.type T) (.ref C) else none) = some false
  rw [if_pos e]
  exact sb
theorem kit_noR {K : PySem.W.Frag} {C D : Addr} (ne : ¬ D = C) (iC : PySem.W.isClsIn K C = true) (tC : PySem.W.typeIn K (.ref C) = some (.type "type")) (sb : PySem.W.subIn K (.ref D) (.ref C) = some false) : PySem.W.kitOne K (.ref D) (.ref C) = some false := by
  unfold PySem.W.kitOne
  rw [if_neg (by simpa using ne)]
  have e : ((PySem.W.clsIn K C).isSome && PySem.W.typeIn K (.ref C) == some (.type "type")) = true := by
    rw [show (PySem.W.clsIn K C).isSome = true from iC, tC]
    simp
  show (if ((PySem.W.clsIn K C).isSome && PySem.W.typeIn K (.ref C) == some (.type "type")) = true then PySem.W.subIn K (.ref D) (.ref C) else none) = some false
  rw [if_pos e]
  exact sb
theorem kit_me {K : PySem.W.Frag} {C : Addr} : PySem.W.kitOne K (.ref C) (.ref C) = some true := by
  unfold PySem.W.kitOne
  rw [if_pos (by simp)]
theorem bothAll {K : PySem.W.Frag} {h : Heap} {mg : Str → Option Value} (X : K.In h) (G : h.Ns mainGlobals mg) {C : Addr} {CM : Addr} {f0 : Addr} {oc0 kV0 dc0 pm0 cd0 ct0 : Value} {od0 an0 : Option Addr} {sl0 : Array (Option Value)} {f1 : Addr} {oc1 kV1 dc1 pm1 cd1 ct1 : Value} {od1 an1 : Option Addr} {sl1 : Array (Option Value)} {f2 : Addr} {oc2 kV2 dc2 pm2 cd2 ct2 : Value} {od2 an2 : Option Addr} {sl2 : Array (Option Value)} {f3 : Addr} {oc3 kV3 dc3 pm3 cd3 ct3 : Value} {od3 an3 : Option Addr} {sl3 : Array (Option Value)} {f4 : Addr} {oc4 kV4 dc4 pm4 cd4 ct4 : Value} {od4 an4 : Option Addr} {sl4 : Array (Option Value)} {f5 : Addr} {oc5 kV5 dc5 pm5 cd5 ct5 : Value} {od5 an5 : Option Addr} {sl5 : Array (Option Value)} {f6 : Addr} {oc6 kV6 dc6 pm6 cd6 ct6 : Value} {od6 an6 : Option Addr} {sl6 : Array (Option Value)} {f7 : Addr} {oc7 kV7 dc7 pm7 cd7 ct7 : Value} {od7 an7 : Option Addr} {sl7 : Array (Option Value)} {f8 : Addr} {oc8 kV8 dc8 pm8 cd8 ct8 : Value} {od8 an8 : Option Addr} {sl8 : Array (Option Value)} {mf0 : Addr} {moc0 mkV0 mdc0 mpm0 mcd0 mct0 : Value} {mod0 man0 : Option Addr} {msl0 : Array (Option Value)} {Td Te : Addr} {odT odE : Option Addr} {itT itE : Array Value} {nT nE : Nat} {slT slE : Array (Option Value)} {mf1 : Addr} {moc1 mkV1 mdc1 mpm1 mcd1 mct1 : Value} {mod1 man1 : Option Addr} {msl1 : Array (Option Value)} {mf2 : Addr} {moc2 mkV2 mdc2 mpm2 mcd2 mct2 : Value} {mod2 man2 : Option Addr} {msl2 : Array (Option Value)}
    (aC : PySem.W.nsIn K mainGlobals "Tree" = some (some (.ref C)))
    (pg : PySem.W.plainGet K C Str.empty = true)
    (hd : PySem.W.hasDictIn K C = true)
    (po : PySem.W.plainOver K C = true)
    (sa : PySem.W.findIn K (.ref C) "__setattr__" = some (some (.builtin "object.__setattr__")))
    (mk : PySem.W.makesIn K C = true)
    (kc : PySem.W.keepIn K (.ref C) = true)
    (nq : PySem.W.findIn K (.ref C) "quads" = some none)
    (nf : PySem.W.findIn K (.ref C) "folders" = some none)
    (nk : PySem.W.findIn K (.ref C) "kinds" = some none)
    (np : PySem.W.findIn K (.ref C) "prices" = some none)
    (ne : PySem.W.findIn K (.ref C) "__ne__" = some (some (.builtin "object.__ne__")))
    (ob : PySem.W.subIn K (.ref C) (.type "object") = some true)
    (iC : PySem.W.isClsIn K C = true)
    (tC : PySem.W.typeIn K (.ref C) = some (.type "type"))
    (ha : PySem.W.findIn K (.ref C) "__class__" = some (some (.builtin "object.__class__")))
    (hn : PySem.W.specialIn K (.builtin "object.__class__") "__get__" = some (some (.builtin "getset_descriptor.__get__")))
    (htk : PySem.W.takesIn K (.builtin "object.__class__") = some true)
    (hm : PySem.W.mroIn K C (.type "object") = some true)
    (a0 : PySem.W.findIn K (.ref C) "__init__" = some (some (.ref f0))) (i0 : PySem.W.isFn K (.ref f0) = true) (l0 : K.lookup f0 = some ⟨oc0, od0, .func (PySem.W.fnOf "__init__" "Tree.__init__" (defArgs s_Tree_init) (defBody s_Tree_init) (defScope s_Tree_init) .none kV0 dc0 pm0 an0 cd0 ct0), sl0⟩) (c0 : PySem.W.codeIn K cd0 "Tree.__init__" = true) (k0 : PySem.W.keepIn K (.ref f0) = true)
    (a1 : PySem.W.findIn K (.ref C) "__eq__" = some (some (.ref f1))) (i1 : PySem.W.isFn K (.ref f1) = true) (l1 : K.lookup f1 = some ⟨oc1, od1, .func (PySem.W.fnOf "__eq__" "Tree.__eq__" (defArgs s_Tree_eq) (defBody s_Tree_eq) (defScope s_Tree_eq) .none kV1 dc1 pm1 an1 cd1 ct1), sl1⟩) (c1 : PySem.W.codeIn K cd1 "Tree.__eq__" = true) (k1 : PySem.W.keepIn K (.ref f1) = true)
    (a2 : PySem.W.findIn K (.ref C) "__contains__" = some (some (.ref f2))) (i2 : PySem.W.isFn K (.ref f2) = true) (l2 : K.lookup f2 = some ⟨oc2, od2, .func (PySem.W.fnOf "__contains__" "Tree.__contains__" (defArgs s_Tree_contains) (defBody s_Tree_contains) (defScope s_Tree_contains) .none kV2 dc2 pm2 an2 cd2 ct2), sl2⟩) (c2 : PySem.W.codeIn K cd2 "Tree.__contains__" = true) (k2 : PySem.W.keepIn K (.ref f2) = true)
    (a3 : PySem.W.findIn K (.ref C) "folder" = some (some (.ref f3))) (i3 : PySem.W.isFn K (.ref f3) = true) (l3 : K.lookup f3 = some ⟨oc3, od3, .func (PySem.W.fnOf "folder" "Tree.folder" (defArgs s_Tree_folder) (defBody s_Tree_folder) (defScope s_Tree_folder) .none kV3 dc3 pm3 an3 cd3 ct3), sl3⟩) (c3 : PySem.W.codeIn K cd3 "Tree.folder" = true) (k3 : PySem.W.keepIn K (.ref f3) = true)
    (a4 : PySem.W.findIn K (.ref C) "kind" = some (some (.ref f4))) (i4 : PySem.W.isFn K (.ref f4) = true) (l4 : K.lookup f4 = some ⟨oc4, od4, .func (PySem.W.fnOf "kind" "Tree.kind" (defArgs s_Tree_kind) (defBody s_Tree_kind) (defScope s_Tree_kind) .none kV4 dc4 pm4 an4 cd4 ct4), sl4⟩) (c4 : PySem.W.codeIn K cd4 "Tree.kind" = true) (k4 : PySem.W.keepIn K (.ref f4) = true)
    (a5 : PySem.W.findIn K (.ref C) "price" = some (some (.ref f5))) (i5 : PySem.W.isFn K (.ref f5) = true) (l5 : K.lookup f5 = some ⟨oc5, od5, .func (PySem.W.fnOf "price" "Tree.price" (defArgs s_Tree_price) (defBody s_Tree_price) (defScope s_Tree_price) .none kV5 dc5 pm5 an5 cd5 ct5), sl5⟩) (c5 : PySem.W.codeIn K cd5 "Tree.price" = true) (k5 : PySem.W.keepIn K (.ref f5) = true)
    (a6 : PySem.W.findIn K (.ref C) "below" = some (some (.ref f6))) (i6 : PySem.W.isFn K (.ref f6) = true) (l6 : K.lookup f6 = some ⟨oc6, od6, .func (PySem.W.fnOf "below" "Tree.below" (defArgs s_Tree_below) (defBody s_Tree_below) (defScope s_Tree_below) .none kV6 dc6 pm6 an6 cd6 ct6), sl6⟩) (c6 : PySem.W.codeIn K cd6 "Tree.below" = true) (k6 : PySem.W.keepIn K (.ref f6) = true)
    (a7 : PySem.W.findIn K (.ref C) "rows" = some (some (.ref f7))) (i7 : PySem.W.isFn K (.ref f7) = true) (l7 : K.lookup f7 = some ⟨oc7, od7, .func (PySem.W.fnOf "rows" "Tree.rows" (defArgs s_Tree_rows) (defBody s_Tree_rows) (defScope s_Tree_rows) .none kV7 dc7 pm7 an7 cd7 ct7), sl7⟩) (c7 : PySem.W.codeIn K cd7 "Tree.rows" = true) (k7 : PySem.W.keepIn K (.ref f7) = true)
    (a8 : PySem.W.findIn K (.ref C) "more" = some (some (.ref f8))) (i8 : PySem.W.isFn K (.ref f8) = true) (l8 : K.lookup f8 = some ⟨oc8, od8, .func (PySem.W.fnOf "more" "Tree.more" (defArgs s_Tree_more) (defBody s_Tree_more) (defScope s_Tree_more) .none kV8 dc8 pm8 an8 cd8 ct8), sl8⟩) (c8 : PySem.W.codeIn K cd8 "Tree.more" = true) (k8 : PySem.W.keepIn K (.ref f8) = true)
    (maC : PySem.W.nsIn K mainGlobals "Meaning" = some (some (.ref CM)))
    (mpg : PySem.W.plainGet K CM Str.empty = true)
    (mhd : PySem.W.hasDictIn K CM = true)
    (mpo : PySem.W.plainOver K CM = true)
    (msa : PySem.W.findIn K (.ref CM) "__setattr__" = some (some (.builtin "object.__setattr__")))
    (mmk : PySem.W.makesIn K CM = true)
    (mkc : PySem.W.keepIn K (.ref CM) = true)
    (mnt : PySem.W.findIn K (.ref CM) "tree" = some none)
    (mnd : PySem.W.findIn K (.ref CM) "default" = some none)
    (mnu : PySem.W.findIn K (.ref CM) "turns" = some none)
    (mnk : PySem.W.findIn K (.ref CM) "known" = some none)
    (mne : PySem.W.findIn K (.ref CM) "__ne__" = some (some (.builtin "object.__ne__")))
    (mob : PySem.W.subIn K (.ref CM) (.type "object") = some true)
    (miC : PySem.W.isClsIn K CM = true)
    (mtC : PySem.W.typeIn K (.ref CM) = some (.type "type"))
    (mha : PySem.W.findIn K (.ref CM) "__class__" = some (some (.builtin "object.__class__")))
    (mhn : PySem.W.specialIn K (.builtin "object.__class__") "__get__" = some (some (.builtin "getset_descriptor.__get__")))
    (mhtk : PySem.W.takesIn K (.builtin "object.__class__") = some true)
    (mhm : PySem.W.mroIn K CM (.type "object") = some true)
    (ma0 : PySem.W.findIn K (.ref CM) "__init__" = some (some (.ref mf0))) (mi0 : PySem.W.isFn K (.ref mf0) = true) (ml0 : K.lookup mf0 = some ⟨moc0, mod0, .func (PySem.W.fnOf "__init__" "Meaning.__init__" (defArgs s_Meaning_init) (defBody s_Meaning_init) (defScope s_Meaning_init) (.ref Td) mkV0 mdc0 mpm0 man0 mcd0 mct0), msl0⟩) (mc0 : PySem.W.codeIn K mcd0 "Meaning.__init__" = true) (mk0 : PySem.W.keepIn K (.ref mf0) = true)
    (mlT : K.lookup Td = some ⟨.type "tuple", odT, .seq itT nT, slT⟩) (mvT : itT.toList = [.ref Te]) (mlE : K.lookup Te = some ⟨.type "tuple", odE, .seq itE nE, slE⟩) (mvE : itE.toList = [])
    (ma1 : PySem.W.findIn K (.ref CM) "value" = some (some (.ref mf1))) (mi1 : PySem.W.isFn K (.ref mf1) = true) (ml1 : K.lookup mf1 = some ⟨moc1, mod1, .func (PySem.W.fnOf "value" "Meaning.value" (defArgs s_Meaning_value) (defBody s_Meaning_value) (defScope s_Meaning_value) .none mkV1 mdc1 mpm1 man1 mcd1 mct1), msl1⟩) (mc1 : PySem.W.codeIn K mcd1 "Meaning.value" = true) (mk1 : PySem.W.keepIn K (.ref mf1) = true)
    (ma2 : PySem.W.findIn K (.ref CM) "states" = some (some (.ref mf2))) (mi2 : PySem.W.isFn K (.ref mf2) = true) (ml2 : K.lookup mf2 = some ⟨moc2, mod2, .func (PySem.W.fnOf "states" "Meaning.states" (defArgs s_Meaning_states) (defBody s_Meaning_states) (defScope s_Meaning_states) .none mkV2 mdc2 mpm2 man2 mcd2 mct2), msl2⟩) (mc2 : PySem.W.codeIn K mcd2 "Meaning.states" = true) (mk2 : PySem.W.keepIn K (.ref mf2) = true) :
    ∃ C : Addr, TxT K mg C ∧ TxN K C ∧ C8.InsC K C ∧ (∃ (f : Addr) (fd : FuncData), Fun K "__init__" "Tree.__init__" s_Tree_init f fd ∧ Mk K C f ∧ Binds K fd ["self", "rows"] []) ∧ Nonempty (MethAt K C "__eq__" "Tree.__eq__" s_Tree_eq ["self", "other"]) ∧ Nonempty (MethAt K C "__contains__" "Tree.__contains__" s_Tree_contains ["self", "x"]) ∧ Nonempty (MethAt K C "folder" "Tree.folder" s_Tree_folder ["self", "box"]) ∧ Nonempty (MethAt K C "kind" "Tree.kind" s_Tree_kind ["self", "box"]) ∧ Nonempty (MethAt K C "price" "Tree.price" s_Tree_price ["self", "box"]) ∧ Nonempty (MethAt K C "below" "Tree.below" s_Tree_below ["self", "box"]) ∧ Nonempty (MethAt K C "rows" "Tree.rows" s_Tree_rows ["self"]) ∧ Nonempty (MethAt K C "more" "Tree.more" s_Tree_more ["self", "row"]) ∧ ∃ CM : Addr, TxM K mg CM ∧ TxN K CM ∧ C8.InsC K CM ∧ (∃ (f : Addr) (fd : FuncData) (Te : Addr) (ds : List Value), FunD K "__init__" "Meaning.__init__" (defArgs s_Meaning_init) (defBody s_Meaning_init) (defScope s_Meaning_init) [V.ref Te] [] f fd ∧ Mk K CM f ∧ Binds K fd ["self", "tree", "default", "turns"] [] ∧ Binds K fd ["self", "tree", "default", "turns"] ds ∧ Vals [V.ref Te] ds ∧ ∀ H, SqT K H Te []) ∧ Nonempty (MethAt K CM "value" "Meaning.value" s_Meaning_value ["self", "box"]) ∧ Nonempty (MethAt K CM "states" "Meaning.states" s_Meaning_states ["self"]) :=
  by
  have FD : FunD K "__init__" "Meaning.__init__" (defArgs s_Meaning_init) (defBody s_Meaning_init) (defScope s_Meaning_init) [V.ref Te] [] mf0 _ := ⟨⟨_, _, _, _, _, _, _, _, _, _, rfl, ml0, mc0, .inr ⟨by simp, Td, _, [.ref Te], nT, rfl, mlT, by rw [← mvT], .cons rfl .nil⟩, .inl rfl⟩, mk0⟩
  obtain ⟨ds1, v1, b1⟩ := FD.binds1 (ps := ["self", "tree", "default", "turns"]) 3 0 (by simp) rfl (fun T kV doc pm an cdv ct us its hu hi => match us, hu, its, hi with | [_, _, _], _, [_], _ => ⟨_, rfl, rfl⟩)
  obtain ⟨ds2, v2, b2⟩ := FD.binds1 (ps := ["self", "tree", "default", "turns"]) 4 1 (by simp) rfl (fun T kV doc pm an cdv ct us its hu hi => match us, hu, its, hi with | [_, _, _, _], _, [_], _ => ⟨_, rfl, rfl⟩)
  cases v2
  exact ⟨C, ⟨⟨pg, hd, po, sa⟩, nq, nf, nk, np, PySem.W.mg_of X G aC⟩, ⟨ne, ob⟩, ⟨⟨pg, hd, po, sa⟩, ha, hn, htk, hm, kit_me⟩, ⟨f0, _, fun_mk l0 c0 k0, ⟨mk, a0, i0, kc⟩, (fun_mk l0 c0 k0).binds (fun _ _ _ _ _ _ us hl => match us, hl with | [_, _], _ => rfl)⟩, methAt a1 i1 l1 c1 k1 (fun _ _ _ _ _ _ us hl => match us, hl with | [_, _], _ => rfl), methAt a2 i2 l2 c2 k2 (fun _ _ _ _ _ _ us hl => match us, hl with | [_, _], _ => rfl), methAt a3 i3 l3 c3 k3 (fun _ _ _ _ _ _ us hl => match us, hl with | [_, _], _ => rfl), methAt a4 i4 l4 c4 k4 (fun _ _ _ _ _ _ us hl => match us, hl with | [_, _], _ => rfl), methAt a5 i5 l5 c5 k5 (fun _ _ _ _ _ _ us hl => match us, hl with | [_, _], _ => rfl), methAt a6 i6 l6 c6 k6 (fun _ _ _ _ _ _ us hl => match us, hl with | [_, _], _ => rfl), methAt a7 i7 l7 c7 k7 (fun _ _ _ _ _ _ us hl => match us, hl with | [_], _ => rfl), methAt a8 i8 l8 c8 k8 (fun _ _ _ _ _ _ us hl => match us, hl with | [_, _], _ => rfl), CM, ⟨⟨mpg, mhd, mpo, msa⟩, mnt, mnd, mnu, mnk, PySem.W.mg_of X G maC⟩, ⟨mne, mob⟩, ⟨⟨mpg, mhd, mpo, msa⟩, mha, mhn, mhtk, mhm, kit_me⟩, ⟨mf0, _, Te, ds1, FD, ⟨mmk, ma0, mi0, mkc⟩, b2, b1, v1, fun H => .inr ⟨_, _, _, mlE, rfl, rfl, by rw [← Array.length_toList, mvE]; exact Nat.zero_le _, by rw [mvE]; exact .nil⟩⟩, methAt ma1 mi1 ml1 mc1 mk1 (fun _ _ _ _ _ _ us hl => match us, hl with | [_, _], _ => rfl), methAt ma2 mi2 ml2 mc2 mk2 (fun _ _ _ _ _ _ us hl => match us, hl with | [_], _ => rfl)⟩
theorem countsAll {K : PySem.W.Frag} {h : Heap} {mg : Str → Option Value} (X : K.In h) (G : h.Ns mainGlobals mg) {CC : Addr} {f0 : Addr} {oc0 kV0 dc0 pm0 cd0 ct0 : Value} {od0 an0 : Option Addr} {sl0 : Array (Option Value)} {f1 : Addr} {oc1 kV1 dc1 pm1 cd1 ct1 : Value} {od1 an1 : Option Addr} {sl1 : Array (Option Value)} {f2 : Addr} {oc2 kV2 dc2 pm2 cd2 ct2 : Value} {od2 an2 : Option Addr} {sl2 : Array (Option Value)} {f3 : Addr} {oc3 kV3 dc3 pm3 cd3 ct3 : Value} {od3 an3 : Option Addr} {sl3 : Array (Option Value)} {f4 : Addr} {oc4 kV4 dc4 pm4 cd4 ct4 : Value} {od4 an4 : Option Addr} {sl4 : Array (Option Value)} {Td : Addr} {odT : Option Addr} {itT : Array Value} {nT : Nat} {slT : Array (Option Value)}
    (aC : PySem.W.nsIn K mainGlobals "Counts" = some (some (.ref CC)))
    (pg : PySem.W.plainGet K CC Str.empty = true)
    (hd : PySem.W.hasDictIn K CC = true)
    (po : PySem.W.plainOver K CC = true)
    (sa : PySem.W.findIn K (.ref CC) "__setattr__" = some (some (.builtin "object.__setattr__")))
    (mk : PySem.W.makesIn K CC = true)
    (kc : PySem.W.keepIn K (.ref CC) = true)
    (nt : PySem.W.findIn K (.ref CC) "tree" = some none)
    (np : PySem.W.findIn K (.ref CC) "pairs" = some none)
    (ne : PySem.W.findIn K (.ref CC) "__ne__" = some (some (.builtin "object.__ne__")))
    (ob : PySem.W.subIn K (.ref CC) (.type "object") = some true)
    (iC : PySem.W.isClsIn K CC = true)
    (tC : PySem.W.typeIn K (.ref CC) = some (.type "type"))
    (ha : PySem.W.findIn K (.ref CC) "__class__" = some (some (.builtin "object.__class__")))
    (hn : PySem.W.specialIn K (.builtin "object.__class__") "__get__" = some (some (.builtin "getset_descriptor.__get__")))
    (htk : PySem.W.takesIn K (.builtin "object.__class__") = some true)
    (hm : PySem.W.mroIn K CC (.type "object") = some true)
    (a0 : PySem.W.findIn K (.ref CC) "__init__" = some (some (.ref f0))) (i0 : PySem.W.isFn K (.ref f0) = true) (l0 : K.lookup f0 = some ⟨oc0, od0, .func (PySem.W.fnOf "__init__" "Counts.__init__" (defArgs s_Counts_init) (defBody s_Counts_init) (defScope s_Counts_init) (.ref Td) kV0 dc0 pm0 an0 cd0 ct0), sl0⟩) (c0 : PySem.W.codeIn K cd0 "Counts.__init__" = true) (k0 : PySem.W.keepIn K (.ref f0) = true)
    (a1 : PySem.W.findIn K (.ref CC) "on" = some (some (.ref f1))) (i1 : PySem.W.isFn K (.ref f1) = true) (l1 : K.lookup f1 = some ⟨oc1, od1, .func (PySem.W.fnOf "on" "Counts.on" (defArgs s_Counts_on) (defBody s_Counts_on) (defScope s_Counts_on) .none kV1 dc1 pm1 an1 cd1 ct1), sl1⟩) (c1 : PySem.W.codeIn K cd1 "Counts.on" = true) (k1 : PySem.W.keepIn K (.ref f1) = true)
    (a2 : PySem.W.findIn K (.ref CC) "off" = some (some (.ref f2))) (i2 : PySem.W.isFn K (.ref f2) = true) (l2 : K.lookup f2 = some ⟨oc2, od2, .func (PySem.W.fnOf "off" "Counts.off" (defArgs s_Counts_off) (defBody s_Counts_off) (defScope s_Counts_off) .none kV2 dc2 pm2 an2 cd2 ct2), sl2⟩) (c2 : PySem.W.codeIn K cd2 "Counts.off" = true) (k2 : PySem.W.keepIn K (.ref f2) = true)
    (a3 : PySem.W.findIn K (.ref CC) "shows" = some (some (.ref f3))) (i3 : PySem.W.isFn K (.ref f3) = true) (l3 : K.lookup f3 = some ⟨oc3, od3, .func (PySem.W.fnOf "shows" "Counts.shows" (defArgs s_Counts_shows) (defBody s_Counts_shows) (defScope s_Counts_shows) .none kV3 dc3 pm3 an3 cd3 ct3), sl3⟩) (c3 : PySem.W.codeIn K cd3 "Counts.shows" = true) (k3 : PySem.W.keepIn K (.ref f3) = true)
    (a4 : PySem.W.findIn K (.ref CC) "asks" = some (some (.ref f4))) (i4 : PySem.W.isFn K (.ref f4) = true) (l4 : K.lookup f4 = some ⟨oc4, od4, .func (PySem.W.fnOf "asks" "Counts.asks" (defArgs s_Counts_asks) (defBody s_Counts_asks) (defScope s_Counts_asks) .none kV4 dc4 pm4 an4 cd4 ct4), sl4⟩) (c4 : PySem.W.codeIn K cd4 "Counts.asks" = true) (k4 : PySem.W.keepIn K (.ref f4) = true)
    (lT : K.lookup Td = some ⟨.type "tuple", odT, .seq itT nT, slT⟩) (vT : itT.toList = [.none]) :
    ∃ CC : Addr, TxK K mg CC ∧ (∃ (f : Addr) (fd : FuncData), FunD K "__init__" "Counts.__init__" (defArgs s_Counts_init) (defBody s_Counts_init) (defScope s_Counts_init) [V.non] [] f fd ∧ Mk K CC f ∧ Binds K fd ["self", "tree", "ranges"] []) ∧ Nonempty (MethAt K CC "on" "Counts.on" s_Counts_on ["self", "meaning", "box"]) ∧ Nonempty (MethAt K CC "off" "Counts.off" s_Counts_off ["self", "meaning", "box"]) ∧ Nonempty (MethAt K CC "shows" "Counts.shows" s_Counts_shows ["self", "meaning", "box"]) ∧ Nonempty (MethAt K CC "asks" "Counts.asks" s_Counts_asks ["self", "meaning", "box"]) :=
  by
  have FD : FunD K "__init__" "Counts.__init__" (defArgs s_Counts_init) (defBody s_Counts_init) (defScope s_Counts_init) [V.non] [] f0 _ := ⟨⟨_, _, _, _, _, _, _, _, _, _, rfl, l0, c0, .inr ⟨by simp, Td, _, [.none], nT, rfl, lT, by rw [← vT], .cons rfl .nil⟩, .inl rfl⟩, k0⟩
  obtain ⟨ds2, v2, b2⟩ := FD.binds1 (ps := ["self", "tree", "ranges"]) 3 1 (by simp) rfl (fun T kV doc pm an cdv ct us its hu hi => match us, hu, its, hi with | [_, _, _], _, [_], _ => ⟨_, rfl, rfl⟩)
  cases v2
  exact ⟨CC, ⟨⟨pg, hd, po, sa⟩, nt, np, PySem.W.mg_of X G aC⟩, ⟨f0, _, FD, ⟨mk, a0, i0, kc⟩, b2⟩, methAt a1 i1 l1 c1 k1 (fun _ _ _ _ _ _ us hl => match us, hl with | [_, _, _], _ => rfl), methAt a2 i2 l2 c2 k2 (fun _ _ _ _ _ _ us hl => match us, hl with | [_, _, _], _ => rfl), methAt a3 i3 l3 c3 k3 (fun _ _ _ _ _ _ us hl => match us, hl with | [_, _, _], _ => rfl), methAt a4 i4 l4 c4 k4 (fun _ _ _ _ _ _ us hl => match us, hl with | [_, _, _], _ => rfl)⟩
theorem clickAll {K : PySem.W.Frag} {h : Heap} {mg : Str → Option Value} (X : K.In h) (G : h.Ns mainGlobals mg) {f Td : Addr} {oc kV dc pm cd ct : Value} {od an odT : Option Addr} {sl slT : Array (Option Value)} {itT : Array Value} {nT : Nat}
    (a : PySem.W.nsIn K mainGlobals "click" = some (some (.ref f))) (l : K.lookup f = some ⟨oc, od, .func (PySem.W.fnOf "click" "click" (defArgs s_click) (defBody s_click) (defScope s_click) (.ref Td) kV dc pm an cd ct), sl⟩) (c : PySem.W.codeIn K cd "click" = true) (k : PySem.W.keepIn K (.ref f) = true)
    (hk : kV = .none) (lT : K.lookup Td = some ⟨.type "tuple", odT, .seq itT nT, slT⟩) (vT : itT.toList = [.none]) :
    ∃ (f : Addr) (fd : FuncData), FunD K "click" "click" (defArgs s_click) (defBody s_click) (defScope s_click) [V.non] [] f fd ∧ mg "click" = some (.ref f) ∧ PySem.W.keepIn K (.ref f) = true ∧ Binds K fd pCk [.none] ∧ Binds K fd pCk [] := by
  subst hk
  have FD : FunD K "click" "click" (defArgs s_click) (defBody s_click) (defScope s_click) [V.non] [] f _ := ⟨⟨_, _, _, _, _, _, _, _, _, _, rfl, l, c, .inr ⟨by simp, Td, _, [.none], nT, rfl, lT, by rw [← vT], .cons rfl .nil⟩, .inl rfl⟩, k⟩
  obtain ⟨ds2, v2, b2⟩ := FD.binds1 (ps := pCk) 4 0 (by simp) rfl (fun T kV doc pm an cdv ct us its hu hi => match us, hu, its, hi with | [_, _, _, _], _, [_], _ => ⟨_, rfl, rfl⟩)
  obtain ⟨ds3, v3, b3⟩ := FD.binds1 (ps := pCk) 5 1 (by simp) rfl (fun T kV doc pm an cdv ct us its hu hi => match us, hu, its, hi with | [_, _, _, _, _], _, [_], _ => ⟨_, rfl, rfl⟩)
  cases v3
  cases v2 with
  | cons h t =>
    cases t
    cases h
    exact ⟨f, _, FD, PySem.W.mg_of X G a, k, b2, b3⟩
theorem freeAll {K : PySem.W.Frag} {h : Heap} {mg : Str → Option Value} (X : K.In h) (G : h.Ns mainGlobals mg)
    (z0 : PySem.W.nsIn K mainGlobals "len" = some none) (z1 : PySem.W.nsIn K mainGlobals "abs" = some none) (z2 : PySem.W.nsIn K mainGlobals "int" = some none) (z3 : PySem.W.nsIn K mainGlobals "str" = some none) (z4 : PySem.W.nsIn K mainGlobals "bool" = some none) (z5 : PySem.W.nsIn K mainGlobals "list" = some none) (z6 : PySem.W.nsIn K mainGlobals "tuple" = some none) (z7 : PySem.W.nsIn K mainGlobals "dict" = some none) (z8 : PySem.W.nsIn K mainGlobals "range" = some none) (z9 : PySem.W.nsIn K mainGlobals "enumerate" = some none) (z10 : PySem.W.nsIn K mainGlobals "isinstance" = some none) (z11 : PySem.W.nsIn K mainGlobals "all" = some none) (z12 : PySem.W.nsIn K mainGlobals "repr" = some none) : TxB mg ∧ mg "repr" = none :=
  ⟨⟨PySem.W.mg_none_of X G z0, PySem.W.mg_none_of X G z1, PySem.W.mg_none_of X G z2, PySem.W.mg_none_of X G z3, PySem.W.mg_none_of X G z4, PySem.W.mg_none_of X G z5, PySem.W.mg_none_of X G z6, PySem.W.mg_none_of X G z7, PySem.W.mg_none_of X G z8, PySem.W.mg_none_of X G z9, PySem.W.mg_none_of X G z10, PySem.W.mg_none_of X G z11⟩, PySem.W.mg_none_of X G z12⟩
theorem constAll {K : PySem.W.Frag} {h : Heap} {mg : Str → Option Value} (X : K.In h) (G : h.Ns mainGlobals mg) (num : DefAt K mg "is_number" s_is_number ["thing", "least"]) {t1 t2 t3 : Tok} {kt : Addr} {od : Option Addr} {its : Array Value} {n : Nat} {sl : Array (Option Value)}
    (b1 : PySem.W.nsIn K mainGlobals "TOP" = some (some (.str "top" t1))) (b2 : PySem.W.nsIn K mainGlobals "FOLDER" = some (some (.str "folder" t2))) (b3 : PySem.W.nsIn K mainGlobals "LONGEST_NAME" = some (some (.int 8 t3))) (b4 : PySem.W.nsIn K mainGlobals "KINDS" = some (some (.ref kt)))
    (b5 : K.lookup kt = some ⟨.type "tuple", od, .seq its n, sl⟩) (b6 : its.size ≤ sizeLine) (b7 : Vals (kinds3.map V.str) its.toList) : Nonempty (TxC K mg) :=
  ⟨⟨⟨t1, PySem.W.mg_of X G b1⟩, ⟨t2, PySem.W.mg_of X G b2⟩, ⟨t3, PySem.W.mg_of X G b3⟩, kt, PySem.W.mg_of X G b4, num, ⟨_, its, n, b5, rfl, rfl, b6, b7⟩⟩⟩
theorem constT {K : PySem.W.Frag} {A : Addr} {od : Option Addr} {its : Array Value} {n : Nat} {sl : Array (Option Value)} {xs : List V} (l : K.lookup A = some ⟨.type "tuple", od, .seq its n, sl⟩) (s : its.size ≤ sizeLine) (v : Vals xs its.toList) : ∀ H, SqT K H A xs := fun H => .inr ⟨_, its, n, l, rfl, rfl, s, v⟩
theorem constC {K : PySem.W.Frag} {h : Heap} {mg : Str → Option Value} (X : K.In h) (G : h.Ns mainGlobals mg) {t1 t2 : Tok} {A1 A2 A3 : Addr} {d1 d2 d3 : Option Addr} {i1 i2 i3 : Array Value} {n1 n2 n3 : Nat} {s1 s2 s3 : Array (Option Value)}
    (g1 : PySem.W.nsIn K mainGlobals "NO_ITEMS" = some (some (.ref A1))) (g2 : PySem.W.nsIn K mainGlobals "ONE_ITEM" = some (some (.ref A2))) (g3 : PySem.W.nsIn K mainGlobals "ANY_ITEMS" = some (some (.ref A3)))
    (l1 : K.lookup A1 = some ⟨.type "tuple", d1, .seq i1 n1, s1⟩) (l2 : K.lookup A2 = some ⟨.type "tuple", d2, .seq i2 n2, s2⟩) (l3 : K.lookup A3 = some ⟨.type "tuple", d3, .seq i3 n3, s3⟩)
    (z1 : i1.size ≤ sizeLine) (z2 : i2.size ≤ sizeLine) (z3 : i3.size ≤ sizeLine)
    (w1 : Vals (rgV noI) i1.toList) (w2 : Vals (rgV oneI) i2.toList) (w3 : Vals (rgV anyI) i3.toList)
    (q1 : PySem.W.nsIn K mainGlobals "ITEM" = some (some (.str "item" t1))) (q2 : PySem.W.nsIn K mainGlobals "SHUT" = some (some (.str "shut" t2))) :
    Nonempty (TxQ K mg) :=
  ⟨⟨A1, PySem.W.mg_of X G g1, constT l1 z1 w1, A2, PySem.W.mg_of X G g2, constT l2 z2 w2, A3, PySem.W.mg_of X G g3, constT l3 z3 w3, ⟨t1, PySem.W.mg_of X G q1⟩, ⟨t2, PySem.W.mg_of X G q2⟩⟩⟩
theorem errsAll {K : PySem.W.Frag} {h : Heap} {mg : Str → Option Value} (X : K.In h) (G : h.Ns mainGlobals mg) {CU : Addr} {C0 BE0 f0 : Addr} {nm0 q0 : Str} {N0 : Addr} {bs0 : List Value} {sn0 : List Str} {sub0 : List Value} {ab0 : Bool} {col0 : Option Bool} {dd0 : Option Addr} {ma0 mb0 mc0 md0 mf0 : Option Value} {od0 an0 : Option Addr} {sl0 : Array (Option Value)} {oc0 kV0 dc0 pm0 cd0 ct0 : Value} {C1 BE1 f1 : Addr} {nm1 q1 : Str} {N1 : Addr} {bs1 : List Value} {sn1 : List Str} {sub1 : List Value} {ab1 : Bool} {col1 : Option Bool} {dd1 : Option Addr} {ma1 mb1 mc1 md1 mf1 : Option Value} {od1 an1 : Option Addr} {sl1 : Array (Option Value)} {oc1 kV1 dc1 pm1 cd1 ct1 : Value} {C2 BE2 f2 : Addr} {nm2 q2 : Str} {N2 : Addr} {bs2 : List Value} {sn2 : List Str} {sub2 : List Value} {ab2 : Bool} {col2 : Option Bool} {dd2 : Option Addr} {ma2 mb2 mc2 md2 mf2 : Option Value} {od2 an2 : Option Addr} {sl2 : Array (Option Value)} {oc2 kV2 dc2 pm2 cd2 ct2 : Value} {C3 BE3 f3 : Addr} {nm3 q3 : Str} {N3 : Addr} {bs3 : List Value} {sn3 : List Str} {sub3 : List Value} {ab3 : Bool} {col3 : Option Bool} {dd3 : Option Addr} {ma3 mb3 mc3 md3 mf3 : Option Value} {od3 an3 : Option Addr} {sl3 : Array (Option Value)} {oc3 kV3 dc3 pm3 cd3 ct3 : Value}
    (e0aC : PySem.W.nsIn K mainGlobals "NotSure" = some (some (.ref C0)))
    (e0xL : K.lookup C0 = some (excClassObj nm0 q0 C0 N0 bs0 [.ref BE0, .type "ValueError", .type "Exception", .type "BaseException", .type "object"] true sn0 sub0 ab0 col0 dd0 ma0 mb0 mc0 md0 mf0 "ValueError.__new__"))
    (e0sa : PySem.W.findIn K (.ref C0) "__setattr__" = some (some (.builtin "object.__setattr__")))
    (e0ga : PySem.W.findIn K (.ref C0) "__getattribute__" = some (some (.builtin "BaseException.__getattribute__")))
    (e0gg : PySem.W.findIn K (.ref C0) "__getattr__" = some none)
    (e0nb : PySem.W.findIn K (.ref C0) "box" = some none)
    (e0a1 : PySem.W.findIn K (.ref C0) "__init__" = some (some (.ref f0)))
    (e0t1 : PySem.W.typeIn K (.ref f0) = some (.type "function"))
    (e0l1 : K.lookup f0 = some ⟨oc0, od0, .func (PySem.W.fnOf "__init__" "NotSure.__init__" (defArgs s_NotSure_init) (defBody s_NotSure_init) (defScope s_NotSure_init) .none kV0 dc0 pm0 an0 cd0 ct0), sl0⟩)
    (e0c1 : PySem.W.codeIn K cd0 "NotSure.__init__" = true)
    (e0k1 : PySem.W.keepIn K (.ref f0) = true)
    (e0kC : PySem.W.keepIn K (.ref C0) = true)
    (e0eC : PySem.W.subIn K (.ref C0) (.type "BaseException") = some true)
    (e0tC : PySem.W.typeIn K (.ref C0) = some (.type "type"))
    (e0hC : PySem.W.hasDictIn K C0 = true)
    (e0iC : PySem.W.isClsIn K C0 = true)
    (e0sC : PySem.W.subIn K (.ref C0) (.ref C0) = some true)
    (e1aC : PySem.W.nsIn K mainGlobals "Locked" = some (some (.ref C1)))
    (e1xL : K.lookup C1 = some (excClassObj nm1 q1 C1 N1 bs1 [.ref BE1, .type "ValueError", .type "Exception", .type "BaseException", .type "object"] true sn1 sub1 ab1 col1 dd1 ma1 mb1 mc1 md1 mf1 "ValueError.__new__"))
    (e1sa : PySem.W.findIn K (.ref C1) "__setattr__" = some (some (.builtin "object.__setattr__")))
    (e1ga : PySem.W.findIn K (.ref C1) "__getattribute__" = some (some (.builtin "BaseException.__getattribute__")))
    (e1gg : PySem.W.findIn K (.ref C1) "__getattr__" = some none)
    (e1nb : PySem.W.findIn K (.ref C1) "box" = some none)
    (e1a1 : PySem.W.findIn K (.ref C1) "__init__" = some (some (.ref f1)))
    (e1t1 : PySem.W.typeIn K (.ref f1) = some (.type "function"))
    (e1l1 : K.lookup f1 = some ⟨oc1, od1, .func (PySem.W.fnOf "__init__" "Locked.__init__" (defArgs s_Locked_init) (defBody s_Locked_init) (defScope s_Locked_init) .none kV1 dc1 pm1 an1 cd1 ct1), sl1⟩)
    (e1c1 : PySem.W.codeIn K cd1 "Locked.__init__" = true)
    (e1k1 : PySem.W.keepIn K (.ref f1) = true)
    (e1kC : PySem.W.keepIn K (.ref C1) = true)
    (e1eC : PySem.W.subIn K (.ref C1) (.type "BaseException") = some true)
    (e1tC : PySem.W.typeIn K (.ref C1) = some (.type "type"))
    (e1hC : PySem.W.hasDictIn K C1 = true)
    (e1iC : PySem.W.isClsIn K C1 = true)
    (e1sC : PySem.W.subIn K (.ref C1) (.ref C1) = some true)
    (e2aC : PySem.W.nsIn K mainGlobals "NoBox" = some (some (.ref C2)))
    (e2xL : K.lookup C2 = some (excClassObj nm2 q2 C2 N2 bs2 [.ref BE2, .type "ValueError", .type "Exception", .type "BaseException", .type "object"] true sn2 sub2 ab2 col2 dd2 ma2 mb2 mc2 md2 mf2 "ValueError.__new__"))
    (e2sa : PySem.W.findIn K (.ref C2) "__setattr__" = some (some (.builtin "object.__setattr__")))
    (e2ga : PySem.W.findIn K (.ref C2) "__getattribute__" = some (some (.builtin "BaseException.__getattribute__")))
    (e2gg : PySem.W.findIn K (.ref C2) "__getattr__" = some none)
    (e2nb : PySem.W.findIn K (.ref C2) "box" = some none)
    (e2a1 : PySem.W.findIn K (.ref C2) "__init__" = some (some (.ref f2)))
    (e2t1 : PySem.W.typeIn K (.ref f2) = some (.type "function"))
    (e2l1 : K.lookup f2 = some ⟨oc2, od2, .func (PySem.W.fnOf "__init__" "NoBox.__init__" (defArgs s_NoBox_init) (defBody s_NoBox_init) (defScope s_NoBox_init) .none kV2 dc2 pm2 an2 cd2 ct2), sl2⟩)
    (e2c1 : PySem.W.codeIn K cd2 "NoBox.__init__" = true)
    (e2k1 : PySem.W.keepIn K (.ref f2) = true)
    (e2kC : PySem.W.keepIn K (.ref C2) = true)
    (e2eC : PySem.W.subIn K (.ref C2) (.type "BaseException") = some true)
    (e2tC : PySem.W.typeIn K (.ref C2) = some (.type "type"))
    (e2hC : PySem.W.hasDictIn K C2 = true)
    (e2iC : PySem.W.isClsIn K C2 = true)
    (e2sC : PySem.W.subIn K (.ref C2) (.ref C2) = some true)
    (e3aC : PySem.W.nsIn K mainGlobals "BadTable" = some (some (.ref C3)))
    (e3xL : K.lookup C3 = some (excClassObj nm3 q3 C3 N3 bs3 [.ref BE3, .type "ValueError", .type "Exception", .type "BaseException", .type "object"] true sn3 sub3 ab3 col3 dd3 ma3 mb3 mc3 md3 mf3 "ValueError.__new__"))
    (e3sa : PySem.W.findIn K (.ref C3) "__setattr__" = some (some (.builtin "object.__setattr__")))
    (e3ga : PySem.W.findIn K (.ref C3) "__getattribute__" = some (some (.builtin "BaseException.__getattribute__")))
    (e3gg : PySem.W.findIn K (.ref C3) "__getattr__" = some none)
    (e3nb : PySem.W.findIn K (.ref C3) "word" = some none)
    (e3a1 : PySem.W.findIn K (.ref C3) "__init__" = some (some (.ref f3)))
    (e3t1 : PySem.W.typeIn K (.ref f3) = some (.type "function"))
    (e3l1 : K.lookup f3 = some ⟨oc3, od3, .func (PySem.W.fnOf "__init__" "BadTable.__init__" (defArgs s_BadTable_init) (defBody s_BadTable_init) (defScope s_BadTable_init) .none kV3 dc3 pm3 an3 cd3 ct3), sl3⟩)
    (e3c1 : PySem.W.codeIn K cd3 "BadTable.__init__" = true)
    (e3k1 : PySem.W.keepIn K (.ref f3) = true)
    (e3kC : PySem.W.keepIn K (.ref C3) = true)
    (e3eC : PySem.W.subIn K (.ref C3) (.type "BaseException") = some true)
    (e3tC : PySem.W.typeIn K (.ref C3) = some (.type "type"))
    (e3hC : PySem.W.hasDictIn K C3 = true)
    (e3iC : PySem.W.isClsIn K C3 = true)
    (e3sC : PySem.W.subIn K (.ref C3) (.ref C3) = some true)
    (n1_0 : PySem.W.subIn K (.ref C1) (.ref C0) = some false)
    (n2_0 : PySem.W.subIn K (.ref C2) (.ref C0) = some false)
    (n2_1 : PySem.W.subIn K (.ref C2) (.ref C1) = some false)
    (n3_0 : PySem.W.subIn K (.ref C3) (.ref C0) = some false)
    (n3_1 : PySem.W.subIn K (.ref C3) (.ref C1) = some false)
    (n3_2 : PySem.W.subIn K (.ref C3) (.ref C2) = some false)
    (ua : PySem.W.nsIn K mainGlobals "UnlikeTrees" = some (some (.ref CU))) (uq : PySem.W.excIn K CU veBases "ValueError.__new__" = true) (uk : PySem.W.keepIn K (.ref CU) = true) (ub : PySem.W.subIn K (.ref CU) (.type "BaseException") = some true) (ut : PySem.W.typeIn K (.ref CU) = some (.type "type")) (ui : PySem.W.isClsIn K CU = true) (us : PySem.W.subIn K (.ref CU) (.ref CU) = some true) (nu_0 : PySem.W.subIn K (.ref CU) (.ref C0) = some false) (nu_1 : PySem.W.subIn K (.ref CU) (.ref C1) = some false) (nu_2 : PySem.W.subIn K (.ref CU) (.ref C2) = some false) (nu_3 : PySem.W.subIn K (.ref CU) (.ref C3) = some false) :
    ∃ CS CL CN CB CU : Addr, ErrsQ K mg CS CL CN CB CU ∧ (∃ (f : Addr) (fd : FuncData), PySem.W.findIn K (.ref CS) "__init__" = some (some (.ref f)) ∧ PySem.W.typeIn K (.ref f) = some (.type "function") ∧ Fun K "__init__" "NotSure.__init__" s_NotSure_init f fd ∧ Binds K fd ["self", "box"] []) ∧ (∃ (f : Addr) (fd : FuncData), PySem.W.findIn K (.ref CL) "__init__" = some (some (.ref f)) ∧ PySem.W.typeIn K (.ref f) = some (.type "function") ∧ Fun K "__init__" "Locked.__init__" s_Locked_init f fd ∧ Binds K fd ["self", "box"] []) ∧ (∃ (f : Addr) (fd : FuncData), PySem.W.findIn K (.ref CN) "__init__" = some (some (.ref f)) ∧ PySem.W.typeIn K (.ref f) = some (.type "function") ∧ Fun K "__init__" "NoBox.__init__" s_NoBox_init f fd ∧ Binds K fd ["self", "box"] []) ∧ (∃ (f : Addr) (fd : FuncData), PySem.W.findIn K (.ref CB) "__init__" = some (some (.ref f)) ∧ PySem.W.typeIn K (.ref f) = some (.type "function") ∧ Fun K "__init__" "BadTable.__init__" s_BadTable_init f fd ∧ Binds K fd ["self", "word"] []) :=
  ⟨C0, C1, C2, C3, CU, ⟨(errAll X G e0aC e0xL e0sa e0ga e0gg e0nb e0a1 e0t1 e0l1 e0c1 e0k1 e0kC e0eC e0tC e0hC e0iC e0sC).1, (errAll X G e1aC e1xL e1sa e1ga e1gg e1nb e1a1 e1t1 e1l1 e1c1 e1k1 e1kC e1eC e1tC e1hC e1iC e1sC).1, (errAll X G e2aC e2xL e2sa e2ga e2gg e2nb e2a1 e2t1 e2l1 e2c1 e2k1 e2kC e2eC e2tC e2hC e2iC e2sC).1, (errAll X G e3aC e3xL e3sa e3ga e3gg e3nb e3a1 e3t1 e3l1 e3c1 e3k1 e3kC e3eC e3tC e3hC e3iC e3sC).1, ⟨uq, uk, ub, ut, PySem.W.mg_of X G ua, exm_self ub ui ut us⟩, exm_other e0eC e0iC e0tC n1_0, exm_other e0eC e0iC e0tC n2_0, exm_other e1eC e1iC e1tC n2_1, exm_other e0eC e0iC e0tC n3_0, exm_other e1eC e1iC e1tC n3_1, exm_other e2eC e2iC e2tC n3_2, exm_other e0eC e0iC e0tC nu_0, exm_other e1eC e1iC e1tC nu_1, exm_other e2eC e2iC e2tC nu_2, exm_other e3eC e3iC e3tC nu_3⟩, ⟨f0, _, e0a1, e0t1, fun_mk e0l1 e0c1 e0k1, (fun_mk e0l1 e0c1 e0k1).binds (fun _ _ _ _ _ _ us hl => match us, hl with | [_, _], _ => rfl)⟩, ⟨f1, _, e1a1, e1t1, fun_mk e1l1 e1c1 e1k1, (fun_mk e1l1 e1c1 e1k1).binds (fun _ _ _ _ _ _ us hl => match us, hl with | [_, _], _ => rfl)⟩, ⟨f2, _, e2a1, e2t1, fun_mk e2l1 e2c1 e2k1, (fun_mk e2l1 e2c1 e2k1).binds (fun _ _ _ _ _ _ us hl => match us, hl with | [_, _], _ => rfl)⟩, ⟨f3, _, e3a1, e3t1, fun_mk e3l1 e3c1 e3k1, (fun_mk e3l1 e3c1 e3k1).binds (fun _ _ _ _ _ _ us hl => match us, hl with | [_, _], _ => rfl)⟩⟩
theorem sc_NotSure_init : FnScope ["self", "box"] ["self", "box"] (defScope s_NotSure_init) := ⟨rfl, rfl, rfl, by decide +kernel, rfl, by decide +kernel, by decide +kernel⟩
theorem ok_NotSure_init {P : Program} {w : World} {K : PySem.W.Frag} {mg : Str → Option Value} {base : Heap} {CC : Addr} {f : Addr} {fd : FuncData} (F : Fun K "__init__" "NotSure.__init__" s_NotSure_init f fd) (O : OexC K CC) (nb : PySem.W.findIn K (.ref CC) "box" = some none) : FnOk P w K mg base CX0 2 f fd ["self", "box"] (spErr1 CC "box") := by
  refine F.ok sc_NotSure_init (fun vs H Q E h => ?_) (fun cdv A outer s H vs Q E hr h => ?_)
  · obtain ⟨a, x, rfl, _⟩ := h
    rfl
  · obtain ⟨a, x, rfl, ha, hq⟩ := h
    refine ⟨_, pss_one (ps_ost (pv 0) (pv 1)), ?_⟩
    exact ⟨_, rfl, _, rfl, a, CC, rfl, O, nb, .inl ⟨ha, fun d hd ne => hq d hd ne⟩⟩
theorem sc_BadRange_init : FnScope ["self", "box"] ["self", "box"] (defScope s_BadRange_init) := ⟨rfl, rfl, rfl, by decide +kernel, rfl, by decide +kernel, by decide +kernel⟩
theorem ok_BadRange_init {P : Program} {w : World} {K : PySem.W.Frag} {mg : Str → Option Value} {base : Heap} {CC : Addr} {f : Addr} {fd : FuncData} (F : Fun K "__init__" "BadRange.__init__" s_BadRange_init f fd) (O : OexC K CC) (nb : PySem.W.findIn K (.ref CC) "box" = some none) : FnOk P w K mg base CX0 2 f fd ["self", "box"] (spErr1 CC "box") := by
  refine F.ok sc_BadRange_init (fun vs H Q E h => ?_) (fun cdv A outer s H vs Q E hr h => ?_)
  · obtain ⟨a, x, rfl, _⟩ := h
    rfl
  · obtain ⟨a, x, rfl, ha, hq⟩ := h
    refine ⟨_, pss_one (ps_ost (pv 0) (pv 1)), ?_⟩
    exact ⟨_, rfl, _, rfl, a, CC, rfl, O, nb, .inl ⟨ha, fun d hd ne => hq d hd ne⟩⟩
theorem sc_BadTable_init : FnScope ["self", "word"] ["self", "word"] (defScope s_BadTable_init) := ⟨rfl, rfl, rfl, by decide +kernel, rfl, by decide +kernel, by decide +kernel⟩
theorem ok_BadTable_init {P : Program} {w : World} {K : PySem.W.Frag} {mg : Str → Option Value} {base : Heap} {CC : Addr} {f : Addr} {fd : FuncData} (F : Fun K "__init__" "BadTable.__init__" s_BadTable_init f fd) (O : OexC K CC) (nb : PySem.W.findIn K (.ref CC) "word" = some none) : FnOk P w K mg base CX0 2 f fd ["self", "word"] (spErr1 CC "word") := by
  refine F.ok sc_BadTable_init (fun vs H Q E h => ?_) (fun cdv A outer s H vs Q E hr h => ?_)
  · obtain ⟨a, x, rfl, _⟩ := h
    rfl
  · obtain ⟨a, x, rfl, ha, hq⟩ := h
    refine ⟨_, pss_one (ps_ost (pv 0) (pv 1)), ?_⟩
    exact ⟨_, rfl, _, rfl, a, CC, rfl, O, nb, .inl ⟨ha, fun d hd ne => hq d hd ne⟩⟩
theorem defAtC {K : PySem.W.Frag} {h : Heap} {mg : Str → Option Value} (X : K.In h) (G : h.Ns mainGlobals mg) {x : Str} {st : Stmt} {ps : List Str} {f c : Addr} {oc : Value} {od an : Option Addr} {sl : Array (Option Value)} {kV dc pm ct : Value}
    (a : PySem.W.nsIn K mainGlobals x = some (some (.ref f))) (l : K.lookup f = some ⟨oc, od, .func (PySem.W.fnOf x x (defArgs st) (defBody st) (defScope st) .none kV dc pm an (.ref c) ct), sl⟩) (c0 : PySem.W.codeIn K (.ref c) x = true) (k : PySem.W.keepIn K (.ref f) = true)
    (hb : ∀ (kV doc pm : Value) (an : Option Addr) (cdv ct : Value) (us : List Value), us.length = ps.length → bindArgs (PySem.W.fnOf x x (defArgs st) (defBody st) (defScope st) .none kV doc pm an cdv ct) ⟨us, []⟩ = pure (ps.zip us)) :
    ∃ D : DefC K mg x st ps, D.c = c ∧ ∀ (s : Shared) (us : List Value), us.length = ps.length → BindsTo s D.fd ⟨us, []⟩ (ps.zip us) :=
  ⟨⟨f, _, c, ⟨⟨_, _, _, _, _, _, _, _, rfl, l, c0⟩, k⟩, (fun_mk l c0 k).binds hb, PySem.W.mg_of X G a⟩, rfl, fun _ us hu => .of_eq (hb _ _ _ _ _ _ us hu)⟩
theorem codeHdC {K : PySem.W.Frag} {h : Heap} {c P : Addr} {od : Option Addr} {vs : Array Value} {sl : Array (Option Value)} (X : K.In h) (l : K.lookup c = some ⟨.type "code", od, .fields vs, sl⟩) (e : (match (vs[11]? : Option Value) with | some (.ref P') => P' == P | _ => false) = true) (e2 : ((match vs.getD 18 .none with | .str _ _ => true | _ => false) && (match vs.getD 7 .none with | .int _ _ => true | _ => false) &&
      (match vs.getD 9 .none with | .bool _ => true | _ => false) && (match vs.getD 10 .none with | .int _ _ => true | _ => false) && (c != P)) = true) : PySem.W.CodeHd h c P :=
  PySem.W.codeHd_of_K X (by
    unfold PySem.W.codeHdIn
    rw [l]
    simp only [Bool.and_eq_true] at e2 ⊢
    exact ⟨⟨⟨⟨⟨e, e2.1.1.1.1⟩, e2.1.1.1.2⟩, e2.1.1.2⟩, e2.1.2⟩, e2.2⟩)
theorem lamAll {K : PySem.W.Frag} {h : Heap} {mg : Str → Option Value} (X : K.In h) (G : h.Ns mainGlobals mg) {f0 c0 P0 : Addr} {oc0 kV0 dc0 pm0 ct0 : Value} {od0 an0 oe0 : Option Addr} {sl0 sm0 : Array (Option Value)} {vs0 : Array Value}
    (a0 : PySem.W.nsIn K mainGlobals "_law_asks" = some (some (.ref f0))) (l0 : K.lookup f0 = some ⟨oc0, od0, .func (PySem.W.fnOf "_law_asks" "_law_asks" (defArgs s_L_asks) (defBody s_L_asks) (defScope s_L_asks) .none kV0 dc0 pm0 an0 (.ref c0) ct0), sl0⟩) (d0 : PySem.W.codeIn K (.ref c0) "_law_asks" = true) (k0 : PySem.W.keepIn K (.ref f0) = true) (m0 : K.lookup c0 = some ⟨.type "code", oe0, .fields vs0, sm0⟩) (p0 : (vs0[11]? : Option Value) = some (.ref P0)) (q0 : ((match vs0.getD 18 .none with | .str _ _ => true | _ => false) && (match vs0.getD 7 .none with | .int _ _ => true | _ => false) && (match vs0.getD 9 .none with | .bool _ => true | _ => false) && (match vs0.getD 10 .none with | .int _ _ => true | _ => false) && (c0 != P0)) = true) (n0 : K.lookup P0 = none) (t0 : h.get? P0 = some { cls := .none, data := .fields #[] }) :
    ∃ (P0 : Addr) (D0 : DefC K mg "_law_asks" s_L_asks ["_law_counts", "_law_meaning_here", "_law_box", "_law_table"]), (PySem.W.CodeHd h D0.c P0 ∧ K.lookup P0 = none ∧ h.get? P0 = some { cls := .none, data := .fields #[] } ∧ ∀ (s : Shared) (us : List Value), us.length = (["_law_counts", "_law_meaning_here", "_law_box", "_law_table"] : List Str).length → BindsTo s D0.fd ⟨us, []⟩ ((["_law_counts", "_law_meaning_here", "_law_box", "_law_table"] : List Str).zip us)) := by
  obtain ⟨D0, rfl, hB0⟩ := defAtC (ps := ["_law_counts", "_law_meaning_here", "_law_box", "_law_table"]) X G a0 l0 d0 k0 (fun _ _ _ _ _ _ us hl => match us, hl with | [_, _, _, _], _ => rfl)
  exact ⟨P0, D0, ⟨codeHdC X m0 (by rw [p0]; simp) q0, n0, t0, hB0⟩⟩
theorem lawAtG {l : PySem.W.OpenLaw} {w : World} {K : PySem.W.Frag} {mg : Str → Option Value} {fa : Addr} {fd : FuncData} {h : Heap} {c0 P0 : Addr} (G0 : h.get? P0 = some { cls := .none, data := .fields #[] }) (N0 : K.lookup P0 = none) (C0 : PySem.W.CodeHd h c0 P0) (hb : ∀ (s : Shared) (u : Value), BindsTo s fd ⟨[u], []⟩ [("_law_script", u)])
    (hF : ∀ base : Heap, LamX.TabB base mg c0 P0 → RunsG l.prog w K mg base 12 fa fd ["_law_script"] (spLawT K [(P0, ("_law_asks.<locals>.<lambda>" : Str))])) : LawAtG l w K 63 mg fa h := by
  refine ⟨[(c0, P0)], fun p hp => ?_, fun p hp => ?_, fun p hp => ?_, fun base H s₁ a ns hl hTB e0 hH hS => ?_⟩
  · rcases List.mem_singleton.mp hp with rfl
    exact G0
  · rcases List.mem_singleton.mp hp with rfl
    exact N0
  · rcases List.mem_singleton.mp hp with rfl
    exact C0
  · refine hF base (hTB _ (.head _)) callerA [] s₁ H ⟨[.ref a], []⟩ [.ref a] [.ref a] (fun v _ => v = .bl true) C8.E0 rfl ⟨rfl, by decide, by decide⟩ e0 (hb _ _) (.cons rfl .nil) rfl ⟨a, ns, rfl, hS, hl, fun p hp => ?_, fun _ => rfl⟩
    rcases List.mem_singleton.mp hp with rfl
    exact LamX.TabS.nil (hH _ (.head _))
theorem uniq0 {P0 : Addr}  : ∀ p ∈ ([(P0, ("_law_asks.<locals>.<lambda>" : Str))] : List (Addr × Str)), p.1 = P0 → p.2 = ("_law_asks.<locals>.<lambda>" : Str) := fun p hp e => by
  rcases List.mem_singleton.mp hp with rfl
  exact rfl
end Ts

set_option maxRecDepth 100000
-- these names are taken so that the head makes no twin of its largest states (they would fill most of the compiled file)
def PySem.W.Fast.tw9413435720943790154 : Nat := 0
def PySem.W.Fast.tw11278776007383271722 : Nat := 0
def PySem.W.Fast.tw11454971063197593723 : Nat := 0
def PySem.W.Fast.tw4360568542722103233 : Nat := 0
def PySem.W.Fast.tw6104506543971358712 : Nat := 0
def PySem.W.Fast.tw5410170964167217008 : Nat := 0
def PySem.W.Fast.tw6905345551459335092 : Nat := 0
def PySem.W.Fast.tw9547975538563809213 : Nat := 0
def PySem.W.Fast.tw14022198610530170706 : Nat := 0
def PySem.W.Fast.tw11383568613192524464 : Nat := 0
def PySem.W.Fast.tw2382173312911174953 : Nat := 0
def PySem.W.Fast.tw17890592409785741772 : Nat := 0
def PySem.W.Fast.tw4719486202420618057 : Nat := 0
def PySem.W.Fast.tw8264644088389270308 : Nat := 0
def PySem.W.Fast.tw5931721848179768775 : Nat := 0
open PySem PySem.W PyProof.Rows in
set_option maxRecDepth 100000 in
set_option maxHeartbeats 0 in
theorem PySem.Challenge.cw_turnsets_k50_counts_refused_holds : PySem.Challenge.rw_turnsets_k50_counts_refused.Holds := by
  w_on; o_law; k_head; (case hw => w_witness2)
  k_fill
  refine Ts.walkG (n := 63) (l := PySem.Challenge.rw_turnsets_k50_counts_refused) rfl (by decide) rfl (fun w h Y => PySem.W.km_in_of Y) ?F
  case F =>
    intro w mg fa h Y KX G hmg
    obtain ⟨Disname, _⟩ : ∃ D : Ts.DefAt _ mg "is_name" Ts.s_is_name ["thing"], ∀ (s : Shared) (us : List Value), us.length = (["thing"] : List Str).length → BindsTo s D.fd ⟨us, []⟩ ((["thing"] : List Str).zip us) := by
      refine' Ts.defAt KX G ?a ?l ?c ?k ?b
      (case a => k_is)
      (case l => k_is)
      (case c => k_is)
      (case k => k_is)
      (case b => exact fun _ _ _ _ _ _ us hl => match us, hl with | [_], _ => rfl)
    obtain ⟨Disnumber, _⟩ : ∃ D : Ts.DefAt _ mg "is_number" Ts.s_is_number ["thing", "least"], ∀ (s : Shared) (us : List Value), us.length = (["thing", "least"] : List Str).length → BindsTo s D.fd ⟨us, []⟩ ((["thing", "least"] : List Str).zip us) := by
      refine' Ts.defAt KX G ?a ?l ?c ?k ?b
      (case a => k_is)
      (case l => k_is)
      (case c => k_is)
      (case k => k_is)
      (case b => exact fun _ _ _ _ _ _ us hl => match us, hl with | [_, _], _ => rfl)
    obtain ⟨Disprice, _⟩ : ∃ D : Ts.DefAt _ mg "is_price" Ts.s_is_price ["thing"], ∀ (s : Shared) (us : List Value), us.length = (["thing"] : List Str).length → BindsTo s D.fd ⟨us, []⟩ ((["thing"] : List Str).zip us) := by
      refine' Ts.defAt KX G ?a ?l ?c ?k ?b
      (case a => k_is)
      (case l => k_is)
      (case c => k_is)
      (case k => k_is)
      (case b => exact fun _ _ _ _ _ _ us hl => match us, hl with | [_], _ => rfl)
    obtain ⟨Disrow, _⟩ : ∃ D : Ts.DefAt _ mg "is_row" Ts.s_is_row ["thing", "taken", "homes"], ∀ (s : Shared) (us : List Value), us.length = (["thing", "taken", "homes"] : List Str).length → BindsTo s D.fd ⟨us, []⟩ ((["thing", "taken", "homes"] : List Str).zip us) := by
      refine' Ts.defAt KX G ?a ?l ?c ?k ?b
      (case a => k_is)
      (case l => k_is)
      (case c => k_is)
      (case k => k_is)
      (case b => exact fun _ _ _ _ _ _ us hl => match us, hl with | [_, _, _], _ => rfl)
    obtain ⟨Dcheckrows, _⟩ : ∃ D : Ts.DefAt _ mg "check_rows" Ts.s_check_rows ["rows", "names", "folders"], ∀ (s : Shared) (us : List Value), us.length = (["rows", "names", "folders"] : List Str).length → BindsTo s D.fd ⟨us, []⟩ ((["rows", "names", "folders"] : List Str).zip us) := by
      refine' Ts.defAt KX G ?a ?l ?c ?k ?b
      (case a => k_is)
      (case l => k_is)
      (case c => k_is)
      (case k => k_is)
      (case b => exact fun _ _ _ _ _ _ us hl => match us, hl with | [_, _, _], _ => rfl)
    obtain ⟨Dcheckbox, _⟩ : ∃ D : Ts.DefAt _ mg "check_box" Ts.s_check_box ["tree", "thing"], ∀ (s : Shared) (us : List Value), us.length = (["tree", "thing"] : List Str).length → BindsTo s D.fd ⟨us, []⟩ ((["tree", "thing"] : List Str).zip us) := by
      refine' Ts.defAt KX G ?a ?l ?c ?k ?b
      (case a => k_is)
      (case l => k_is)
      (case c => k_is)
      (case k => k_is)
      (case b => exact fun _ _ _ _ _ _ us hl => match us, hl with | [_, _], _ => rfl)
    obtain ⟨Displace, _⟩ : ∃ D : Ts.DefAt _ mg "is_place" Ts.s_is_place ["tree", "thing"], ∀ (s : Shared) (us : List Value), us.length = (["tree", "thing"] : List Str).length → BindsTo s D.fd ⟨us, []⟩ ((["tree", "thing"] : List Str).zip us) := by
      refine' Ts.defAt KX G ?a ?l ?c ?k ?b
      (case a => k_is)
      (case l => k_is)
      (case c => k_is)
      (case k => k_is)
      (case b => exact fun _ _ _ _ _ _ us hl => match us, hl with | [_, _], _ => rfl)
    obtain ⟨Dcheckplace, _⟩ : ∃ D : Ts.DefAt _ mg "check_place" Ts.s_check_place ["tree", "thing"], ∀ (s : Shared) (us : List Value), us.length = (["tree", "thing"] : List Str).length → BindsTo s D.fd ⟨us, []⟩ ((["tree", "thing"] : List Str).zip us) := by
      refine' Ts.defAt KX G ?a ?l ?c ?k ?b
      (case a => k_is)
      (case l => k_is)
      (case c => k_is)
      (case k => k_is)
      (case b => exact fun _ _ _ _ _ _ us hl => match us, hl with | [_, _], _ => rfl)
    obtain ⟨Dcheckturns, _⟩ : ∃ D : Ts.DefAt _ mg "check_turns" Ts.s_check_turns ["tree", "turns"], ∀ (s : Shared) (us : List Value), us.length = (["tree", "turns"] : List Str).length → BindsTo s D.fd ⟨us, []⟩ ((["tree", "turns"] : List Str).zip us) := by
      refine' Ts.defAt KX G ?a ?l ?c ?k ?b
      (case a => k_is)
      (case l => k_is)
      (case c => k_is)
      (case k => k_is)
      (case b => exact fun _ _ _ _ _ _ us hl => match us, hl with | [_, _], _ => rfl)
    obtain ⟨Dchecktrees, _⟩ : ∃ D : Ts.DefAt _ mg "check_trees" Ts.s_check_trees ["one", "other"], ∀ (s : Shared) (us : List Value), us.length = (["one", "other"] : List Str).length → BindsTo s D.fd ⟨us, []⟩ ((["one", "other"] : List Str).zip us) := by
      refine' Ts.defAt KX G ?a ?l ?c ?k ?b
      (case a => k_is)
      (case l => k_is)
      (case c => k_is)
      (case k => k_is)
      (case b => exact fun _ _ _ _ _ _ us hl => match us, hl with | [_, _], _ => rfl)
    obtain ⟨Dvaluesof, _⟩ : ∃ D : Ts.DefAt _ mg "values_of" Ts.s_values_of ["tree", "default", "turns"], ∀ (s : Shared) (us : List Value), us.length = (["tree", "default", "turns"] : List Str).length → BindsTo s D.fd ⟨us, []⟩ ((["tree", "default", "turns"] : List Str).zip us) := by
      refine' Ts.defAt KX G ?a ?l ?c ?k ?b
      (case a => k_is)
      (case l => k_is)
      (case c => k_is)
      (case k => k_is)
      (case b => exact fun _ _ _ _ _ _ us hl => match us, hl with | [_, _, _], _ => rfl)
    obtain ⟨Disrange, _⟩ : ∃ D : Ts.DefAt _ mg "is_range" Ts.s_is_range ["thing"], ∀ (s : Shared) (us : List Value), us.length = (["thing"] : List Str).length → BindsTo s D.fd ⟨us, []⟩ ((["thing"] : List Str).zip us) := by
      refine' Ts.defAt KX G ?a ?l ?c ?k ?b
      (case a => k_is)
      (case l => k_is)
      (case c => k_is)
      (case k => k_is)
      (case b => exact fun _ _ _ _ _ _ us hl => match us, hl with | [_], _ => rfl)
    obtain ⟨Dcheckranges, _⟩ : ∃ D : Ts.DefAt _ mg "check_ranges" Ts.s_check_ranges ["tree", "ranges"], ∀ (s : Shared) (us : List Value), us.length = (["tree", "ranges"] : List Str).length → BindsTo s D.fd ⟨us, []⟩ ((["tree", "ranges"] : List Str).zip us) := by
      refine' Ts.defAt KX G ?a ?l ?c ?k ?b
      (case a => k_is)
      (case l => k_is)
      (case c => k_is)
      (case k => k_is)
      (case b => exact fun _ _ _ _ _ _ us hl => match us, hl with | [_, _], _ => rfl)
    obtain ⟨Drangesof, _⟩ : ∃ D : Ts.DefAt _ mg "ranges_of" Ts.s_ranges_of ["tree", "ranges"], ∀ (s : Shared) (us : List Value), us.length = (["tree", "ranges"] : List Str).length → BindsTo s D.fd ⟨us, []⟩ ((["tree", "ranges"] : List Str).zip us) := by
      refine' Ts.defAt KX G ?a ?l ?c ?k ?b
      (case a => k_is)
      (case l => k_is)
      (case c => k_is)
      (case k => k_is)
      (case b => exact fun _ _ _ _ _ _ us hl => match us, hl with | [_, _], _ => rfl)
    obtain ⟨Dnumberwithin, _⟩ : ∃ D : Ts.DefAt _ mg "number_within" Ts.s_number_within ["counts", "meaning", "box", "value"], ∀ (s : Shared) (us : List Value), us.length = (["counts", "meaning", "box", "value"] : List Str).length → BindsTo s D.fd ⟨us, []⟩ ((["counts", "meaning", "box", "value"] : List Str).zip us) := by
      refine' Ts.defAt KX G ?a ?l ?c ?k ?b
      (case a => k_is)
      (case l => k_is)
      (case c => k_is)
      (case k => k_is)
      (case b => exact fun _ _ _ _ _ _ us hl => match us, hl with | [_, _, _, _], _ => rfl)
    obtain ⟨Dmayhave, _⟩ : ∃ D : Ts.DefAt _ mg "may_have" Ts.s_may_have ["number"], ∀ (s : Shared) (us : List Value), us.length = (["number"] : List Str).length → BindsTo s D.fd ⟨us, []⟩ ((["number"] : List Str).zip us) := by
      refine' Ts.defAt KX G ?a ?l ?c ?k ?b
      (case a => k_is)
      (case l => k_is)
      (case c => k_is)
      (case k => k_is)
      (case b => exact fun _ _ _ _ _ _ us hl => match us, hl with | [_], _ => rfl)
    obtain ⟨Dcheckclick, _⟩ : ∃ D : Ts.DefAt _ mg "check_click" Ts.s_check_click ["counts", "meaning", "box", "table", "seen"], ∀ (s : Shared) (us : List Value), us.length = (["counts", "meaning", "box", "table", "seen"] : List Str).length → BindsTo s D.fd ⟨us, []⟩ ((["counts", "meaning", "box", "table", "seen"] : List Str).zip us) := by
      refine' Ts.defAt KX G ?a ?l ?c ?k ?b
      (case a => k_is)
      (case l => k_is)
      (case c => k_is)
      (case k => k_is)
      (case b => exact fun _ _ _ _ _ _ us hl => match us, hl with | [_, _, _, _, _], _ => rfl)
    obtain ⟨Dunseen, _⟩ : ∃ D : Ts.DefAt _ mg "unseen" Ts.s_unseen ["counts", "meaning", "box", "table", "seen"], ∀ (s : Shared) (us : List Value), us.length = (["counts", "meaning", "box", "table", "seen"] : List Str).length → BindsTo s D.fd ⟨us, []⟩ ((["counts", "meaning", "box", "table", "seen"] : List Str).zip us) := by
      refine' Ts.defAt KX G ?a ?l ?c ?k ?b
      (case a => k_is)
      (case l => k_is)
      (case c => k_is)
      (case k => k_is)
      (case b => exact fun _ _ _ _ _ _ us hl => match us, hl with | [_, _, _, _, _], _ => rfl)
    obtain ⟨DLstream, _⟩ : ∃ D : Ts.DefAt _ mg "_law_stream" Ts.s_L_stream ["_law_script", "_law_k"], ∀ (s : Shared) (us : List Value), us.length = (["_law_script", "_law_k"] : List Str).length → BindsTo s D.fd ⟨us, []⟩ ((["_law_script", "_law_k"] : List Str).zip us) := by
      refine' Ts.defAt KX G ?a ?l ?c ?k ?b
      (case a => k_is)
      (case l => k_is)
      (case c => k_is)
      (case k => k_is)
      (case b => exact fun _ _ _ _ _ _ us hl => match us, hl with | [_, _], _ => rfl)
    obtain ⟨DLdraw, _⟩ : ∃ D : Ts.DefAt _ mg "_law_draw" Ts.s_L_draw ["_law_stream_here", "_law_many"], ∀ (s : Shared) (us : List Value), us.length = (["_law_stream_here", "_law_many"] : List Str).length → BindsTo s D.fd ⟨us, []⟩ ((["_law_stream_here", "_law_many"] : List Str).zip us) := by
      refine' Ts.defAt KX G ?a ?l ?c ?k ?b
      (case a => k_is)
      (case l => k_is)
      (case c => k_is)
      (case k => k_is)
      (case b => exact fun _ _ _ _ _ _ us hl => match us, hl with | [_, _], _ => rfl)
    obtain ⟨DLpick, _⟩ : ∃ D : Ts.DefAt _ mg "_law_pick" Ts.s_L_pick ["_law_stream_here", "_law_things"], ∀ (s : Shared) (us : List Value), us.length = (["_law_stream_here", "_law_things"] : List Str).length → BindsTo s D.fd ⟨us, []⟩ ((["_law_stream_here", "_law_things"] : List Str).zip us) := by
      refine' Ts.defAt KX G ?a ?l ?c ?k ?b
      (case a => k_is)
      (case l => k_is)
      (case c => k_is)
      (case k => k_is)
      (case b => exact fun _ _ _ _ _ _ us hl => match us, hl with | [_, _], _ => rfl)
    obtain ⟨DLname, _⟩ : ∃ D : Ts.DefAt _ mg "_law_name" Ts.s_L_name ["_law_stream_here"], ∀ (s : Shared) (us : List Value), us.length = (["_law_stream_here"] : List Str).length → BindsTo s D.fd ⟨us, []⟩ ((["_law_stream_here"] : List Str).zip us) := by
      refine' Ts.defAt KX G ?a ?l ?c ?k ?b
      (case a => k_is)
      (case l => k_is)
      (case c => k_is)
      (case k => k_is)
      (case b => exact fun _ _ _ _ _ _ us hl => match us, hl with | [_], _ => rfl)
    obtain ⟨DLrows, _⟩ : ∃ D : Ts.DefAt _ mg "_law_rows" Ts.s_L_rows ["_law_stream_here", "_law_many", "_law_kinds", "_law_prices"], ∀ (s : Shared) (us : List Value), us.length = (["_law_stream_here", "_law_many", "_law_kinds", "_law_prices"] : List Str).length → BindsTo s D.fd ⟨us, []⟩ ((["_law_stream_here", "_law_many", "_law_kinds", "_law_prices"] : List Str).zip us) := by
      refine' Ts.defAt KX G ?a ?l ?c ?k ?b
      (case a => k_is)
      (case l => k_is)
      (case c => k_is)
      (case k => k_is)
      (case b => exact fun _ _ _ _ _ _ us hl => match us, hl with | [_, _, _, _], _ => rfl)
    obtain ⟨DLway, _⟩ : ∃ D : Ts.DefAt _ mg "_law_way" Ts.s_L_way ["_law_rows_here", "_law_box"], ∀ (s : Shared) (us : List Value), us.length = (["_law_rows_here", "_law_box"] : List Str).length → BindsTo s D.fd ⟨us, []⟩ ((["_law_rows_here", "_law_box"] : List Str).zip us) := by
      refine' Ts.defAt KX G ?a ?l ?c ?k ?b
      (case a => k_is)
      (case l => k_is)
      (case c => k_is)
      (case k => k_is)
      (case b => exact fun _ _ _ _ _ _ us hl => match us, hl with | [_, _], _ => rfl)
    obtain ⟨DLsome, _⟩ : ∃ D : Ts.DefAt _ mg "_law_some" Ts.s_L_some ["_law_stream_here", "_law_things"], ∀ (s : Shared) (us : List Value), us.length = (["_law_stream_here", "_law_things"] : List Str).length → BindsTo s D.fd ⟨us, []⟩ ((["_law_stream_here", "_law_things"] : List Str).zip us) := by
      refine' Ts.defAt KX G ?a ?l ?c ?k ?b
      (case a => k_is)
      (case l => k_is)
      (case c => k_is)
      (case k => k_is)
      (case b => exact fun _ _ _ _ _ _ us hl => match us, hl with | [_, _], _ => rfl)
    obtain ⟨DLopen, _⟩ : ∃ D : Ts.DefAt _ mg "_law_open" Ts.s_L_open ["_law_rows_here"], ∀ (s : Shared) (us : List Value), us.length = (["_law_rows_here"] : List Str).length → BindsTo s D.fd ⟨us, []⟩ ((["_law_rows_here"] : List Str).zip us) := by
      refine' Ts.defAt KX G ?a ?l ?c ?k ?b
      (case a => k_is)
      (case l => k_is)
      (case c => k_is)
      (case k => k_is)
      (case b => exact fun _ _ _ _ _ _ us hl => match us, hl with | [_], _ => rfl)
    obtain ⟨DLmeaning, _⟩ : ∃ D : Ts.DefAt _ mg "_law_meaning" Ts.s_L_meaning ["_law_stream_here", "_law_rows_here", "_law_tree"], ∀ (s : Shared) (us : List Value), us.length = (["_law_stream_here", "_law_rows_here", "_law_tree"] : List Str).length → BindsTo s D.fd ⟨us, []⟩ ((["_law_stream_here", "_law_rows_here", "_law_tree"] : List Str).zip us) := by
      refine' Ts.defAt KX G ?a ?l ?c ?k ?b
      (case a => k_is)
      (case l => k_is)
      (case c => k_is)
      (case k => k_is)
      (case b => exact fun _ _ _ _ _ _ us hl => match us, hl with | [_, _, _], _ => rfl)
    obtain ⟨DLisinteger, _⟩ : ∃ D : Ts.DefAt _ mg "_law_is_integer" Ts.s_L_is_integer ["_law_thing"], ∀ (s : Shared) (us : List Value), us.length = (["_law_thing"] : List Str).length → BindsTo s D.fd ⟨us, []⟩ ((["_law_thing"] : List Str).zip us) := by
      refine' Ts.defAt KX G ?a ?l ?c ?k ?b
      (case a => k_is)
      (case l => k_is)
      (case c => k_is)
      (case k => k_is)
      (case b => exact fun _ _ _ _ _ _ us hl => match us, hl with | [_], _ => rfl)
    obtain ⟨DLrange, _⟩ : ∃ D : Ts.DefAt _ mg "_law_range" Ts.s_L_range ["_law_stream_here"], ∀ (s : Shared) (us : List Value), us.length = (["_law_stream_here"] : List Str).length → BindsTo s D.fd ⟨us, []⟩ ((["_law_stream_here"] : List Str).zip us) := by
      refine' Ts.defAt KX G ?a ?l ?c ?k ?b
      (case a => k_is)
      (case l => k_is)
      (case c => k_is)
      (case k => k_is)
      (case b => exact fun _ _ _ _ _ _ us hl => match us, hl with | [_], _ => rfl)
    obtain ⟨DLcounted, _⟩ : ∃ D : Ts.DefAt _ mg "_law_counted" Ts.s_L_counted ["_law_stream_here"], ∀ (s : Shared) (us : List Value), us.length = (["_law_stream_here"] : List Str).length → BindsTo s D.fd ⟨us, []⟩ ((["_law_stream_here"] : List Str).zip us) := by
      refine' Ts.defAt KX G ?a ?l ?c ?k ?b
      (case a => k_is)
      (case l => k_is)
      (case c => k_is)
      (case k => k_is)
      (case b => exact fun _ _ _ _ _ _ us hl => match us, hl with | [_], _ => rfl)
    obtain ⟨DLclicked, _⟩ : ∃ D : Ts.DefAt _ mg "_law_clicked" Ts.s_L_clicked ["_law_ask"], ∀ (s : Shared) (us : List Value), us.length = (["_law_ask"] : List Str).length → BindsTo s D.fd ⟨us, []⟩ ((["_law_ask"] : List Str).zip us) := by
      refine' Ts.defAt KX G ?a ?l ?c ?k ?b
      (case a => k_is)
      (case l => k_is)
      (case c => k_is)
      (case k => k_is)
      (case b => exact fun _ _ _ _ _ _ us hl => match us, hl with | [_], _ => rfl)
    obtain ⟨DLspare, _⟩ : ∃ D : Ts.DefAt _ mg "_law_spare" Ts.s_L_spare ["_law_rows_here"], ∀ (s : Shared) (us : List Value), us.length = (["_law_rows_here"] : List Str).length → BindsTo s D.fd ⟨us, []⟩ ((["_law_rows_here"] : List Str).zip us) := by
      refine' Ts.defAt KX G ?a ?l ?c ?k ?b
      (case a => k_is)
      (case l => k_is)
      (case c => k_is)
      (case k => k_is)
      (case b => exact fun _ _ _ _ _ _ us hl => match us, hl with | [_], _ => rfl)
    obtain ⟨DLisrange, _⟩ : ∃ D : Ts.DefAt _ mg "_law_is_range" Ts.s_L_is_range ["_law_thing"], ∀ (s : Shared) (us : List Value), us.length = (["_law_thing"] : List Str).length → BindsTo s D.fd ⟨us, []⟩ ((["_law_thing"] : List Str).zip us) := by
      refine' Ts.defAt KX G ?a ?l ?c ?k ?b
      (case a => k_is)
      (case l => k_is)
      (case c => k_is)
      (case k => k_is)
      (case b => exact fun _ _ _ _ _ _ us hl => match us, hl with | [_], _ => rfl)
    obtain ⟨DLmade, _⟩ : ∃ D : Ts.DefAt _ mg "_law_made" Ts.s_L_made ["_law_tree", "_law_ranges"], ∀ (s : Shared) (us : List Value), us.length = (["_law_tree", "_law_ranges"] : List Str).length → BindsTo s D.fd ⟨us, []⟩ ((["_law_tree", "_law_ranges"] : List Str).zip us) := by
      refine' Ts.defAt KX G ?a ?l ?c ?k ?b
      (case a => k_is)
      (case l => k_is)
      (case c => k_is)
      (case k => k_is)
      (case b => exact fun _ _ _ _ _ _ us hl => match us, hl with | [_, _], _ => rfl)
    obtain ⟨Dlaw, bL⟩ : ∃ D : Ts.DefAt _ mg "law" Ts.s_law ["_law_script"], ∀ (s : Shared) (us : List Value), us.length = (["_law_script"] : List Str).length → BindsTo s D.fd ⟨us, []⟩ ((["_law_script"] : List Str).zip us) := by
      refine' Ts.defAt KX G ?a ?l ?c ?k ?b
      (case a => k_is)
      (case l => k_is)
      (case c => k_is)
      (case k => k_is)
      (case b => exact fun _ _ _ _ _ _ us hl => match us, hl with | [_], _ => rfl)
    obtain ⟨B, hRe⟩ := by
      refine' Ts.freeAll KX G ?z0 ?z1 ?z2 ?z3 ?z4 ?z5 ?z6 ?z7 ?z8 ?z9 ?z10 ?z11 ?z12
      (case z0 => k_is)
      (case z1 => k_is)
      (case z2 => k_is)
      (case z3 => k_is)
      (case z4 => k_is)
      (case z5 => k_is)
      (case z6 => k_is)
      (case z7 => k_is)
      (case z8 => k_is)
      (case z9 => k_is)
      (case z10 => k_is)
      (case z11 => k_is)
      (case z12 => k_is)
    obtain ⟨TC⟩ := by
      refine' Ts.constAll KX G Disnumber ?b1 ?b2 ?b3 ?b4 ?b5 ?b6 ?b7
      (case b1 => k_is)
      (case b2 => k_is)
      (case b3 => k_is)
      (case b4 => k_is)
      (case b5 => k_is)
      (case b6 => decide)
      (case b7 => exact .cons ⟨_, rfl⟩ (.cons ⟨_, rfl⟩ (.cons ⟨_, rfl⟩ .nil)))
    obtain ⟨TQ⟩ := by
      refine' Ts.constC KX G ?Yg1 ?Yg2 ?Yg3 ?Yl1 ?Yl2 ?Yl3 ?Yz1 ?Yz2 ?Yz3 ?Yw1 ?Yw2 ?Yw3 ?Yq1 ?Yq2
      (case Yg1 => k_is)
      (case Yg2 => k_is)
      (case Yg3 => k_is)
      (case Yl1 => k_is)
      (case Yl2 => k_is)
      (case Yl3 => k_is)
      (case Yz1 => decide)
      (case Yz2 => decide)
      (case Yz3 => decide)
      (case Yw1 => exact .cons ⟨_, rfl⟩ (.cons ⟨_, rfl⟩ .nil))
      (case Yw2 => exact .cons ⟨_, rfl⟩ (.cons ⟨_, rfl⟩ .nil))
      (case Yw3 => exact .cons ⟨_, rfl⟩ (.cons rfl .nil))
      (case Yq1 => k_is)
      (case Yq2 => k_is)
    obtain ⟨CS, CL, CN, CB, CU, TE, ⟨f_NotSure, fd_NotSure, i_NotSure, t_NotSure, F_NotSure, b_NotSure⟩, ⟨f_Locked, fd_Locked, i_Locked, t_Locked, F_Locked, b_Locked⟩, ⟨f_NoBox, fd_NoBox, i_NoBox, t_NoBox, F_NoBox, b_NoBox⟩, ⟨f_BadTable, fd_BadTable, i_BadTable, t_BadTable, F_BadTable, b_BadTable⟩⟩ := by
      refine' Ts.errsAll KX G ?Ze0aC ?Ze0xL ?Ze0sa ?Ze0ga ?Ze0gg ?Ze0nb ?Ze0a1 ?Ze0t1 ?Ze0l1 ?Ze0c1 ?Ze0k1 ?Ze0kC ?Ze0eC ?Ze0tC ?Ze0hC ?Ze0iC ?Ze0sC ?Ze1aC ?Ze1xL ?Ze1sa ?Ze1ga ?Ze1gg ?Ze1nb ?Ze1a1 ?Ze1t1 ?Ze1l1 ?Ze1c1 ?Ze1k1 ?Ze1kC ?Ze1eC ?Ze1tC ?Ze1hC ?Ze1iC ?Ze1sC ?Ze2aC ?Ze2xL ?Ze2sa ?Ze2ga ?Ze2gg ?Ze2nb ?Ze2a1 ?Ze2t1 ?Ze2l1 ?Ze2c1 ?Ze2k1 ?Ze2kC ?Ze2eC ?Ze2tC ?Ze2hC ?Ze2iC ?Ze2sC ?Ze3aC ?Ze3xL ?Ze3sa ?Ze3ga ?Ze3gg ?Ze3nb ?Ze3a1 ?Ze3t1 ?Ze3l1 ?Ze3c1 ?Ze3k1 ?Ze3kC ?Ze3eC ?Ze3tC ?Ze3hC ?Ze3iC ?Ze3sC ?Zn1_0 ?Zn2_0 ?Zn2_1 ?Zn3_0 ?Zn3_1 ?Zn3_2 ?Zua ?Zuq ?Zuk ?Zub ?Zut ?Zui ?Zus ?Znu_0 ?Znu_1 ?Znu_2 ?Znu_3
      (case Ze0aC => k_is)
      (case Ze0xL => k_is)
      (case Ze0sa => k_is)
      (case Ze0ga => k_is)
      (case Ze0gg => k_is)
      (case Ze0nb => k_is)
      (case Ze0a1 => k_is)
      (case Ze0t1 => k_is)
      (case Ze0l1 => k_is)
      (case Ze0c1 => k_is)
      (case Ze0k1 => k_is)
      (case Ze0kC => k_is)
      (case Ze0eC => k_is)
      (case Ze0tC => k_is)
      (case Ze0hC => k_is)
      (case Ze0iC => k_is)
      (case Ze0sC => first | rfl | k_is)
      (case Ze1aC => k_is)
      (case Ze1xL => k_is)
      (case Ze1sa => k_is)
      (case Ze1ga => k_is)
      (case Ze1gg => k_is)
      (case Ze1nb => k_is)
      (case Ze1a1 => k_is)
      (case Ze1t1 => k_is)
      (case Ze1l1 => k_is)
      (case Ze1c1 => k_is)
      (case Ze1k1 => k_is)
      (case Ze1kC => k_is)
      (case Ze1eC => k_is)
      (case Ze1tC => k_is)
      (case Ze1hC => k_is)
      (case Ze1iC => k_is)
      (case Ze1sC => first | rfl | k_is)
      (case Ze2aC => k_is)
      (case Ze2xL => k_is)
      (case Ze2sa => k_is)
      (case Ze2ga => k_is)
      (case Ze2gg => k_is)
      (case Ze2nb => k_is)
      (case Ze2a1 => k_is)
      (case Ze2t1 => k_is)
      (case Ze2l1 => k_is)
      (case Ze2c1 => k_is)
      (case Ze2k1 => k_is)
      (case Ze2kC => k_is)
      (case Ze2eC => k_is)
      (case Ze2tC => k_is)
      (case Ze2hC => k_is)
      (case Ze2iC => k_is)
      (case Ze2sC => first | rfl | k_is)
      (case Ze3aC => k_is)
      (case Ze3xL => k_is)
      (case Ze3sa => k_is)
      (case Ze3ga => k_is)
      (case Ze3gg => k_is)
      (case Ze3nb => k_is)
      (case Ze3a1 => k_is)
      (case Ze3t1 => k_is)
      (case Ze3l1 => k_is)
      (case Ze3c1 => k_is)
      (case Ze3k1 => k_is)
      (case Ze3kC => k_is)
      (case Ze3eC => k_is)
      (case Ze3tC => k_is)
      (case Ze3hC => k_is)
      (case Ze3iC => k_is)
      (case Ze3sC => first | rfl | k_is)
      (case Zn1_0 => k_is)
      (case Zn2_0 => k_is)
      (case Zn2_1 => k_is)
      (case Zn3_0 => k_is)
      (case Zn3_1 => k_is)
      (case Zn3_2 => k_is)
      (case Zua => k_is)
      (case Zuq => k_exc)
      (case Zuk => k_is)
      (case Zub => k_is)
      (case Zut => k_is)
      (case Zui => k_is)
      (case Zus => first | rfl | k_is)
      (case Znu_0 => k_is)
      (case Znu_1 => k_is)
      (case Znu_2 => k_is)
      (case Znu_3 => k_is)
    obtain ⟨E_BadRange, T_BadRange, f_BadRange, fd_BadRange, i_BadRange, t_BadRange, F_BadRange⟩ : ∃ E : Addr, Ts.ErrT _ mg E "BadRange" "box" ∧ ∃ (f : Addr) (fd : FuncData), PySem.W.findIn _ (.ref E) "__init__" = some (some (.ref f)) ∧ PySem.W.typeIn _ (.ref f) = some (.type "function") ∧ L2.Fun _ "__init__" "BadRange.__init__" Ts.s_BadRange_init f fd := by
      refine' ⟨_, Ts.errAll KX G ?EBadRangeaC ?EBadRangexL ?EBadRangesa ?EBadRangega ?EBadRangegg ?EBadRangenb ?EBadRangea1 ?EBadRanget1 ?EBadRangel1 ?EBadRangec1 ?EBadRangek1 ?EBadRangekC ?EBadRangeeC ?EBadRangetC ?EBadRangehC ?EBadRangeiC ?EBadRangesC⟩
      (case EBadRangeaC => k_is)
      (case EBadRangexL => k_is)
      (case EBadRangesa => k_is)
      (case EBadRangega => k_is)
      (case EBadRangegg => k_is)
      (case EBadRangenb => k_is)
      (case EBadRangea1 => k_is)
      (case EBadRanget1 => k_is)
      (case EBadRangel1 => k_is)
      (case EBadRangec1 => k_is)
      (case EBadRangek1 => k_is)
      (case EBadRangekC => k_is)
      (case EBadRangeeC => k_is)
      (case EBadRangetC => k_is)
      (case EBadRangehC => k_is)
      (case EBadRangeiC => k_is)
      (case EBadRangesC => first | rfl | k_is)
    have hT8 := PySem.W.km_tabs_of Y
    obtain ⟨P0, DLasks, ⟨hC0, hN0, hG0, hB0⟩⟩ := by
      refine' Ts.lamAll KX G ?La0 ?Ll0 ?Ld0 ?Lk0 ?Lm0 ?Lp0 ?Lq0 ?Ln0 ?Lt0
      (case La0 => k_is)
      (case Ll0 => k_is)
      (case Ld0 => k_is)
      (case Lk0 => k_is)
      (case Lm0 => k_is)
      (case Lp0 => rfl)
      (case Lq0 => first | rfl | decide +kernel)
      (case Ln0 => first | kernel_rfl | rfl | decide +kernel)
      (case Lt0 => exact hT8 _ (by k_mem))
    obtain ⟨C, T, N, I, ⟨fI, fdI, FI, MT, bI⟩, ⟨M_eq⟩, ⟨M_contains⟩, ⟨M_folder⟩, ⟨M_kind⟩, ⟨M_price⟩, ⟨M_below⟩, ⟨M_rows⟩, ⟨M_more⟩, CM, M, NM, IM, ⟨fM, fdM, Te, dsM, FM, MM, bM, bM1, rM1, hTe⟩, ⟨L_value⟩, ⟨L_states⟩⟩ := by
      refine' Ts.bothAll KX G ?aC ?pg ?hd ?po ?sa ?mk ?kc ?nq ?nf ?nk ?np ?ne ?ob ?iC ?tC ?ha ?hn ?htk ?hm ?a0 ?i0 ?l0 ?c0 ?k0 ?a1 ?i1 ?l1 ?c1 ?k1 ?a2 ?i2 ?l2 ?c2 ?k2 ?a3 ?i3 ?l3 ?c3 ?k3 ?a4 ?i4 ?l4 ?c4 ?k4 ?a5 ?i5 ?l5 ?c5 ?k5 ?a6 ?i6 ?l6 ?c6 ?k6 ?a7 ?i7 ?l7 ?c7 ?k7 ?a8 ?i8 ?l8 ?c8 ?k8 ?maC ?mpg ?mhd ?mpo ?msa ?mmk ?mkc ?mnt ?mnd ?mnu ?mnk ?mne ?mob ?miC ?mtC ?mha ?mhn ?mhtk ?mhm ?ma0 ?mi0 ?ml0 ?mc0 ?mk0 ?mlT ?mvT ?mlE ?mvE ?ma1 ?mi1 ?ml1 ?mc1 ?mk1 ?ma2 ?mi2 ?ml2 ?mc2 ?mk2
      (case aC => k_is)
      (case pg => k_is)
      (case hd => k_is)
      (case po => k_is)
      (case sa => k_is)
      (case mk => k_is)
      (case kc => k_is)
      (case nq => k_is)
      (case nf => k_is)
      (case nk => k_is)
      (case np => k_is)
      (case ne => k_is)
      (case ob => k_is)
      (case iC => k_is)
      (case tC => k_is)
      (case ha => k_is)
      (case hn => k_is)
      (case htk => k_is)
      (case hm => k_is)
      (case a0 => k_is)
      (case i0 => k_is)
      (case l0 => k_is)
      (case c0 => k_is)
      (case k0 => k_is)
      (case a1 => k_is)
      (case i1 => k_is)
      (case l1 => k_is)
      (case c1 => k_is)
      (case k1 => k_is)
      (case a2 => k_is)
      (case i2 => k_is)
      (case l2 => k_is)
      (case c2 => k_is)
      (case k2 => k_is)
      (case a3 => k_is)
      (case i3 => k_is)
      (case l3 => k_is)
      (case c3 => k_is)
      (case k3 => k_is)
      (case a4 => k_is)
      (case i4 => k_is)
      (case l4 => k_is)
      (case c4 => k_is)
      (case k4 => k_is)
      (case a5 => k_is)
      (case i5 => k_is)
      (case l5 => k_is)
      (case c5 => k_is)
      (case k5 => k_is)
      (case a6 => k_is)
      (case i6 => k_is)
      (case l6 => k_is)
      (case c6 => k_is)
      (case k6 => k_is)
      (case a7 => k_is)
      (case i7 => k_is)
      (case l7 => k_is)
      (case c7 => k_is)
      (case k7 => k_is)
      (case a8 => k_is)
      (case i8 => k_is)
      (case l8 => k_is)
      (case c8 => k_is)
      (case k8 => k_is)
      (case maC => k_is)
      (case mpg => k_is)
      (case mhd => k_is)
      (case mpo => k_is)
      (case msa => k_is)
      (case mmk => k_is)
      (case mkc => k_is)
      (case mnt => k_is)
      (case mnd => k_is)
      (case mnu => k_is)
      (case mnk => k_is)
      (case mne => k_is)
      (case mob => k_is)
      (case miC => k_is)
      (case mtC => k_is)
      (case mha => k_is)
      (case mhn => k_is)
      (case mhtk => k_is)
      (case mhm => k_is)
      (case ma0 => k_is)
      (case mi0 => k_is)
      (case ml0 => k_is)
      (case mc0 => k_is)
      (case mk0 => k_is)
      (case mlT => k_is)
      (case mvT => rfl)
      (case mlE => k_is)
      (case mvE => rfl)
      (case ma1 => k_is)
      (case mi1 => k_is)
      (case ml1 => k_is)
      (case mc1 => k_is)
      (case mk1 => k_is)
      (case ma2 => k_is)
      (case mi2 => k_is)
      (case ml2 => k_is)
      (case mc2 => k_is)
      (case mk2 => k_is)
    obtain ⟨CC, TK, ⟨fC, fdC, FC, MC, bC⟩, ⟨N_on⟩, ⟨N_off⟩, ⟨N_shows⟩, ⟨N_asks⟩⟩ := by
      refine' Ts.countsAll KX G ?WaC ?Wpg ?Whd ?Wpo ?Wsa ?Wmk ?Wkc ?Wnt ?Wnp ?Wne ?Wob ?WiC ?WtC ?Wha ?Whn ?Whtk ?Whm ?Wa0 ?Wi0 ?Wl0 ?Wc0 ?Wk0 ?Wa1 ?Wi1 ?Wl1 ?Wc1 ?Wk1 ?Wa2 ?Wi2 ?Wl2 ?Wc2 ?Wk2 ?Wa3 ?Wi3 ?Wl3 ?Wc3 ?Wk3 ?Wa4 ?Wi4 ?Wl4 ?Wc4 ?Wk4 ?WlT ?WvT
      (case WaC => k_is)
      (case Wpg => k_is)
      (case Whd => k_is)
      (case Wpo => k_is)
      (case Wsa => k_is)
      (case Wmk => k_is)
      (case Wkc => k_is)
      (case Wnt => k_is)
      (case Wnp => k_is)
      (case Wne => k_is)
      (case Wob => k_is)
      (case WiC => k_is)
      (case WtC => k_is)
      (case Wha => k_is)
      (case Whn => k_is)
      (case Whtk => k_is)
      (case Whm => k_is)
      (case Wa0 => k_is)
      (case Wi0 => k_is)
      (case Wl0 => k_is)
      (case Wc0 => k_is)
      (case Wk0 => k_is)
      (case Wa1 => k_is)
      (case Wi1 => k_is)
      (case Wl1 => k_is)
      (case Wc1 => k_is)
      (case Wk1 => k_is)
      (case Wa2 => k_is)
      (case Wi2 => k_is)
      (case Wl2 => k_is)
      (case Wc2 => k_is)
      (case Wk2 => k_is)
      (case Wa3 => k_is)
      (case Wi3 => k_is)
      (case Wl3 => k_is)
      (case Wc3 => k_is)
      (case Wk3 => k_is)
      (case Wa4 => k_is)
      (case Wi4 => k_is)
      (case Wl4 => k_is)
      (case Wc4 => k_is)
      (case Wk4 => k_is)
      (case WlT => k_is)
      (case WvT => rfl)
    obtain ⟨fk, fdk, Fk, gk, kk, bk, bk5⟩ := by
      refine' Ts.clickAll KX G ?Va ?Vl ?Vc ?Vk ?Vhk ?VlT ?VvT
      (case Va => k_is)
      (case Vl => k_is)
      (case Vc => k_is)
      (case Vk => k_is)
      (case Vhk => rfl)
      (case VlT => k_is)
      (case VvT => rfl)
    have e := hmg.symm.trans Dlaw.g
    cases e
    refine Ts.lawAtG hG0 hN0 hC0 (fun s v => bL s [v] rfl) fun base TB0 => ?_
    have Gc := Ts.ok_check_rows (P := PySem.Challenge.rw_turnsets_k50_counts_refused.prog) (w := w) (base := base) Dcheckrows Disrow Disname Disprice B TC
    have GT := Ts.ok_Tree_init FI Dcheckrows Gc B TC T
    have Gb := Ts.ok_check_box (P := PySem.Challenge.rw_turnsets_k50_counts_refused.prog) (w := w) (base := base) Dcheckbox M_contains B T
    have Gip := Ts.ok_is_place (P := PySem.Challenge.rw_turnsets_k50_counts_refused.prog) (w := w) (base := base) Displace M_contains B TC T
    have Gpl := Ts.ok_check_place Dcheckplace Displace Gip
    have GF := Ts.ok_Tree_folder M_folder.F Dcheckbox Gb T
    have GK := Ts.ok_Tree_kind M_kind.F Dcheckbox Gb T
    have GP := Ts.ok_Tree_price M_price.F Dcheckbox Gb T
    have GB := Ts.ok_Tree_below M_below.F Dcheckplace Gpl B T
    have GE := Ts.ok_Tree_eq (P := PySem.Challenge.rw_turnsets_k50_counts_refused.prog) (w := w) (base := base) M_eq.F B T I
    have GMo := Ts.ok_Tree_more M_more.F M_rows B T MT bI GT
    have Gvo := Ts.ok_values_of Dvaluesof TC T M_below GB M_folder GF
    have Gcu := Ts.ok_check_turns Dcheckturns Dcheckbox Gb T M_price GP
    have GM := Ts.ok_M_init (CM := CM) FM B TC T M Dcheckturns Gcu Dvaluesof Gvo M_below GB
    have Gtn := Ts.ok_treesN Dchecktrees N M_eq GE
    have Xt := Ts.ok_treesX Dchecktrees N M_eq GE TE.U
    have GIN := Ts.ok_NoBox_init (P := PySem.Challenge.rw_turnsets_k50_counts_refused.prog) (w := w) (base := base) (mg := mg) F_NoBox TE.N.O TE.N.nb
    have Gpx := Ts.ok_is_placeX (P := PySem.Challenge.rw_turnsets_k50_counts_refused.prog) (w := w) (base := base) Displace M_contains B TC T
    have Xp := Ts.ok_check_placeX Dcheckplace Displace Gpx TE.N i_NoBox t_NoBox GIN b_NoBox
    have Gcr := Ts.ok_check_ranges Dcheckranges B TC T TQ M_contains M_kind GK Disrange
    have Gro := Ts.ok_ranges_of Drangesof B TC T TQ M_below GB M_kind GK
    have GC := Ts.ok_Counts_init FC TK Dcheckranges Gcr Drangesof Gro
    have GIR := Ts.ok_BadRange_init (P := PySem.Challenge.rw_turnsets_k50_counts_refused.prog) (w := w) (base := base) (mg := mg) F_BadRange T_BadRange.O T_BadRange.nb
    have b_BadRange := F_BadRange.binds (ps := ["self", "box"]) (fun _ _ _ _ _ _ us hl => match us, hl with | [_, _], _ => rfl)
    have Xcr := Ts.ok_check_rangesX (w := w) Dcheckranges B TC T TQ M_contains M_kind GK Disrange T_BadRange i_BadRange t_BadRange GIR b_BadRange
    have XCx := Ts.ok_Counts_initX (CC := CC) FC Dcheckranges Xcr
    have XC := Ts.fn_or (k := 7) (by decide) (by decide) GC XCx
    have Xn := Ts.ok_numY Dnumberwithin Dchecktrees Gtn Xt Dcheckplace Xp
    have XOn := Ts.ok_onY N_on.F Dnumberwithin Xn
    have XOf := Ts.ok_offY N_off.F Dnumberwithin Xn
    have Gmy := Ts.ok_may (P := PySem.Challenge.rw_turnsets_k50_counts_refused.prog) (w := w) (base := base) Dmayhave
    have XSh := Ts.ok_showsY N_shows.F TK Dmayhave Gmy N_on XOn
    have XAs := Ts.ok_asksY N_asks.F TK N_on XOn
    have Xck := Ts.ok_ckY Dcheckclick Dchecktrees Gtn Xt Dcheckplace Xp
    have Xk := Ts.ok_clickY Fk Dcheckclick Xck
    have XU := Ts.ok_unseenY Dunseen Dcheckclick Xck
    have Gd := Ts.ok_draw (P := PySem.Challenge.rw_turnsets_k50_counts_refused.prog) (w := w) (base := base) DLdraw B
    have Gp := Ts.ok_pick (P := PySem.Challenge.rw_turnsets_k50_counts_refused.prog) (w := w) (base := base) DLpick DLdraw B
    have Gr := Ts.ok_rows (P := PySem.Challenge.rw_turnsets_k50_counts_refused.prog) (w := w) (base := base) DLway DLrows DLname DLpick DLdraw B
    have Gso := Ts.ok_Lsome DLsome DLdraw Gd
    have Go := Ts.ok_Lopen (P := PySem.Challenge.rw_turnsets_k50_counts_refused.prog) (w := w) (base := base) DLopen
    have Gmn := Ts.ok_mng DLmeaning M DLdraw Gd DLopen Go DLsome Gso MM bM GM
    have Grg := Ts.ok_LRg DLrange B DLdraw DLpick Gp
    have Gco := Ts.ok_LCo DLcounted B DLdraw DLrows Gr DLsome Gso DLrange Grg
    have Gir := Ts.ok_Ir (P := PySem.Challenge.rw_turnsets_k50_counts_refused.prog) (w := w) (base := base) DLisrange B DLisinteger
    have Gmd := Ts.ok_made (dsC := []) DLmade TK T_BadRange MC bC XC
    have Gas := Ts.ok_asksL DLasks DLclicked TE TK TB0 (.head _) Ts.uniq0 N_on XOn N_off XOf N_shows XSh N_asks XAs gk kk bk Xk Dunseen XU
    exact Ts.ok_law Dlaw B hRe T M TK DLstream DLdraw DLpick Gp DLcounted Gco DLmeaning Gmn DLspare DLisrange Gir DLmade Gmd DLasks Gas MT bI GT MC bC GC MM bM1 rM1 hTe GM M_more GMo
