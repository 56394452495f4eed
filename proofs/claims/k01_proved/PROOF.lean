import PyProof.Rows.All
import Wide.All
import OpenK.AllK
import Wide.FinOn
import HandS.ForMost
import HandS.IsInst
import HandS.Conv
import HandS.DictComp
import HandS.Deep
import HandS.NoneIn
import HandS.Style
import HandS.TupAny
import HandS.OwnEq
import HandS.More
import HandS.Flow
import HandS.Codes
import HandS.Walk
import HandS.StrMore
import KE.GoesMore
import KE.GoesEnum
import PySem.Challenge.RW_turnsets_k01_trees_made
set_option Elab.async false
set_option linter.all false

set_option maxRecDepth 100000
set_option maxHeartbeats 4000000
namespace Ts
open PySem L2
section
variable {X : Cx} {CX : CXT} {k : Nat} {f C : Addr} {fd : FuncData} {ps : List Str} {sp : Sp} {E : XK}
/-- a def of the text run below a builtin of this body -/
theorem run_at {A : Around} {pins : List (Addr × Obj)} {σ : St} {H : Hp} {s : Shared} {Q : VK} {us : List Value} {vs : List V} (F : FnOk X.prog X.w X.K X.mg X.base CX k f fd ps sp) (hr : Room k A) (hfr : A.frames = X.A.frames) (hb : Binds X.K fd ps []) (hx : Passes CX X E)
    (I : Inv X pins σ H s) (r : Vals vs us) (h : sp vs H Q E) : wpAny (model X.prog X.w) A (call (.ref f) us) (EP X pins σ Q) X.xe s := by
  have hl : us.length = ps.length := by rw [← r.length]; exact F.len _ _ _ _ h
  have e0 : Env0 X.prog X.w X.K X.mg X.base A X.stack s H := by
    have e := I.env0
    exact ⟨by rw [hfr]; exact e.frames, e.mod, e.bs, e.bsz, e.funs, e.frf, e.hok, e.bare⟩
  refine wpAny_call (codeAny_mono (F.run A X.stack s H ⟨us, []⟩ us vs Q E hr e0 (by
    have := hb s us I.kIn (by simpa using hl)
    simpa using this) r h) fun r s' hq => ?_)
  cases r with
  | error e => exact hx pins σ H s e s' I hq
  | ok fl =>
    cases fl with
    | ret u => exact I.after hq
    | next => exact False.elim hq
    | brk => exact False.elim hq
    | cont => exact False.elim hq
/-- x in o, o of an own class with its own look -/
def rInC (C : Addr) (sp : Sp) (E : XK) : R2 := fun x y H Q => ∃ a dx fs, y = .ref a ∧ H a = some (.ins C dx fs) ∧ sp [.ref a, x] H (fun v H' => ∃ b, v = .bl b ∧ Q (.bl b) H') E
def rNotInC (C : Addr) (sp : Sp) (E : XK) : R2 := fun x y H Q => ∃ a dx fs, y = .ref a ∧ H a = some (.ins C dx fs) ∧ sp [.ref a, x] H (fun v H' => ∃ b, v = .bl b ∧ Q (.bl (!b)) H') E
theorem op_inC (F : FnOk X.prog X.w X.K X.mg X.base CX k f fd ps sp) (m : Meth X.K C "__contains__" f) (hr : Room k X.A) (hb : Binds X.K fd ps []) (hx : Passes CX X E) : OpR X (compareOp .In) (rInC C sp E) := by
  intro pins s σ H x y v u Q I rx ry hq
  obtain ⟨a, dx, fs, rfl, ha, hsp⟩ := hq
  cases ry
  obtain ⟨mA, J, _⟩ := ins_get I.hok ha
  obtain ⟨od, J, _⟩ := J.look
  obtain ⟨mm, hF⟩ := I.fr
  refine PySem.W.in_K hF I.ok.mod.kin J m.at_ m.fn ?_
  refine wpAny_mono (run_at F hr rfl hb hx I (us := [.ref a, v]) (.cons (show RelV (.ref a) (.ref a) from rfl) (.cons rx .nil)) hsp) (fun r s' hq => ?_) fun _ _ x => x
  obtain ⟨z, H', I', rz, b, rfl, q⟩ := hq
  cases rz
  exact wpAny_truthy_bool ⟨.bl b, H', I', rfl, q⟩
theorem op_notinC (F : FnOk X.prog X.w X.K X.mg X.base CX k f fd ps sp) (m : Meth X.K C "__contains__" f) (hr : Room k X.A) (hb : Binds X.K fd ps []) (hx : Passes CX X E) : OpR X (compareOp .NotIn) (rNotInC C sp E) := by
  intro pins s σ H x y v u Q I rx ry hq
  obtain ⟨a, dx, fs, rfl, ha, hsp⟩ := hq
  cases ry
  obtain ⟨mA, J, _⟩ := ins_get I.hok ha
  obtain ⟨od, J, _⟩ := J.look
  obtain ⟨mm, hF⟩ := I.fr
  refine PySem.W.notIn_K hF I.ok.mod.kin J m.at_ m.fn ?_
  refine wpAny_mono (run_at F hr rfl hb hx I (us := [.ref a, v]) (.cons (show RelV (.ref a) (.ref a) from rfl) (.cons rx .nil)) hsp) (fun r s' hq => ?_) fun _ _ x => x
  obtain ⟨z, H', I', rz, b, rfl, q⟩ := hq
  cases rz
  exact wpAny_truthy_bool ⟨.bl (!b), H', I', rfl, q⟩
/-- len(o) -/
def rLenC (C : Addr) (sp : Sp) (E : XK) : List V → Hp → VK → Prop := fun xs H Q => ∃ a dx fs, xs = [.ref a] ∧ H a = some (.ins C dx fs) ∧ sp [.ref a] H (fun v H' => ∃ n : Int, v = .int n ∧ (0 ≤ n ∧ n < 2 ^ 63) ∧ Q (.int n) H') E
theorem call_lenC (F : FnOk X.prog X.w X.K X.mg X.base CX k f fd ps sp) (m : Meth X.K C "__len__" f) (hr : Room (k + 1) X.A) (hb : Binds X.K fd ps []) (hx : Passes CX X E) : CallR X (.builtin "len") (rLenC C sp E) := by
  intro pins s σ H xs us Q I r hq
  obtain ⟨a, dx, fs, rfl, ha, hsp⟩ := hq
  obtain ⟨u, rfl, ru⟩ := vals1 r
  cases ru
  obtain ⟨mA, J, _⟩ := ins_get I.hok ha
  obtain ⟨od, J, _⟩ := J.look
  obtain ⟨mm, hF⟩ := I.fr
  refine PySem.W.len_K hF I.ok.mod.kin J m.at_ m.fn ?_
  refine wpAny_mono (run_at F hr.in1 rfl hb hx I (us := [.ref a]) (.cons (show RelV (.ref a) (.ref a) from rfl) .nil) hsp) (fun r s' hq => ?_) fun _ _ x => x
  obtain ⟨z, H', I', rz, n, rfl, hn, q⟩ := hq
  obtain ⟨t, rfl⟩ := rz
  exact ⟨hn, .int n, H', I'.tok _, ⟨_, rfl⟩, q⟩
/-- the sort of a value, as == wants to know it -/
inductive TyE (H : Hp) : V → Value → Prop where
  | non : TyE H .non (.type "NoneType")
  | bl (x : Bool) : TyE H (.bl x) (.type "bool")
  | int (i : Int) : TyE H (.int i) (.type "int")
  | str (x : Str) : TyE H (.str x) (.type "str")
  | lst {a : Addr} {xs : List V} (e : H a = some (.lst xs)) : TyE H (.ref a) (.type "list")
  | tup {a : Addr} {xs : List V} (e : H a = some (.tup xs)) : TyE H (.ref a) (.type "tuple")
  | dK {a : Addr} {kvs : List (Key × V)} (e : H a = some (.dK kvs)) : TyE H (.ref a) (.type "dict")
  | ins {a C dx : Addr} {fs : List (Str × V)} (e : H a = some (.ins C dx fs)) : TyE H (.ref a) (.ref C)
theorem ty_looks {pins : List (Addr × Obj)} {σ : St} {H : Hp} {s : Shared} {y : V} {u tb : Value} (I : Inv X pins σ H s) (r : RelV y u) (ty : TyE H y tb) : PySem.W.Looks (model X.prog X.w) s.heap (typeOf u) tb := by
  have lk : ∀ {a : Addr} {o : Obj} {c : Value}, s.heap.get? a = some o → o.cls = c → PySem.W.Looks (model X.prog X.w) s.heap (typeOf (.ref a)) c := fun {a o c} e h => h ▸ (PySem.W.Looks.ld e).andThen .now
  cases ty with
  | non => cases (show u = Value.none from r); exact PySem.W.Looks.of_pure rfl
  | bl y => cases (show u = Value.bool y from r); exact PySem.W.Looks.of_pure rfl
  | int i => obtain ⟨t, q⟩ := (show ∃ t, u = Value.int i t from r); cases q; exact PySem.W.Looks.of_pure rfl
  | str y => obtain ⟨t, q⟩ := (show ∃ t, u = Value.str y t from r); cases q; exact PySem.W.Looks.of_pure rfl
  | @lst a xs ea =>
    cases (show u = Value.ref a from r)
    obtain ⟨_, _, n, _, h1⟩ := (show ObjOk X.prog X.w H s.heap a (.lst xs) from I.hok a _ ea)
    exact lk h1 rfl
  | @tup a xs ea =>
    cases (show u = Value.ref a from r)
    obtain ⟨_, _, _, o, h1, h2, _⟩ := (show ObjOk X.prog X.w H s.heap a (.tup xs) from I.hok a _ ea)
    exact lk h1 h2
  | @dK a kvs ea =>
    cases (show u = Value.ref a from r)
    obtain ⟨_, _, vs, _, o, es, ep, h1, h2, _⟩ := (show ObjOk X.prog X.w H s.heap a (.dK kvs) from I.hok a _ ea)
    exact lk h1 h2.1
  | @ins a C dx fs ea =>
    cases (show u = Value.ref a from r)
    obtain ⟨mA, J, _⟩ := ins_get I.hok ea
    obtain ⟨od, J, _⟩ := J.look
    exact J.type
/-- o == y -/
def rEqC (K : PySem.W.Frag) (C : Addr) (sp : Sp) (E : XK) : R2 := fun x y H Q => ∃ a dx fs tb, x = .ref a ∧ H a = some (.ins C dx fs) ∧ TyE H y tb ∧ PySem.W.notFirst K C tb = true ∧ sp [.ref a, y] H (fun v H' => ∃ b, v = .bl b ∧ Q (.bl b) H') E
def rNeC (K : PySem.W.Frag) (C : Addr) (sp : Sp) (E : XK) : R2 := fun x y H Q => ∃ a dx fs tb, x = .ref a ∧ H a = some (.ins C dx fs) ∧ TyE H y tb ∧ PySem.W.notFirst K C tb = true ∧ sp [.ref a, y] H (fun v H' => ∃ b, v = .bl b ∧ Q (.bl (!b)) H') E
theorem op_eqC (F : FnOk X.prog X.w X.K X.mg X.base CX k f fd ps sp) (m : Meth X.K C "__eq__" f) (hr : Room k X.A) (hb : Binds X.K fd ps []) (hx : Passes CX X E) : OpR X (compareOp .Eq) (rEqC X.K C sp E) := by
  intro pins s σ H x y v u Q I rx ry hq
  obtain ⟨a, dx, fs, tb, rfl, ha, ty, hn, hsp⟩ := hq
  cases rx
  obtain ⟨mA, J, _⟩ := ins_get I.hok ha
  obtain ⟨od, J, _⟩ := J.look
  obtain ⟨mm, hF⟩ := I.fr
  show wpAny (model X.prog X.w) X.A (richCompare .Eq _ u) (EP X pins σ Q) X.xe s
  refine PySem.W.cmp_K (op := .Eq) (tb := tb) hr.units0 hF I.ok.mod.kin J (ty_looks I ry ty) hn m.at_ m.fn ?_
  refine wpAny_mono (run_at F hr rfl hb hx I (us := [.ref a, u]) (.cons (show RelV (.ref a) (.ref a) from rfl) (.cons ry .nil)) hsp) (fun r s' hq => ?_) fun _ _ x => x
  obtain ⟨z, H', I', rz, b, rfl, q⟩ := hq
  cases rz
  exact ⟨.bl b, H', I', rfl, q⟩
section
open PySem.W
open PyProof.Rows (Fr)
variable {prog : Program} {w : World} {A : Around} {E : Value → Shared → Prop} {s : Shared} {K : Frag} {h₀ : Heap} {L : Addr} {m : Str → Option Value} {x f C : Addr} {ox : Obj} {od : Option Obj} {b tb : Value}
theorem ne_own_K {Q : Value → Shared → Prop} (hu : A.units + 1 < cLine) (F : Fr h₀ L s.heap m) (X₀ : K.In h₀) (I : InstAt s.heap x ox C od) (hb : Looks (model prog w) s.heap (typeOf b) tb) (hn : notFirst K C tb = true)
    (hne : findIn K (.ref C) "__ne__" = some (some (.builtin "object.__ne__"))) (hs : findIn K (.ref C) "__eq__" = some (some (.ref f))) (hf : isFn K (.ref f) = true) (ho : subIn K (.ref C) (.type "object") = some true)
    (h : wpAny (model prog w) A.in1 (call (.ref f) [.ref x, b]) (fun v s' => ∃ r, v = .bool r ∧ Q (.bool (!r)) s') E s) : wpAny (model prog w) A (richCompare .NotEq (.ref x) b) Q E s := by
  have X := X₀.keeps F.keep
  have body : wpAny (model prog w) A.in1 (Builtin.«object.__ne__» ⟨[.ref x, b], []⟩) (GQ.FinOf prog w A (wants (fun v s' => ∃ r, v = .bool r ∧ Q v s') E)) (fun e s' => wants (fun v s' => ∃ r, v = .bool r ∧ Q v s') E (.error e) s') s := by
    unfold Builtin.«object.__ne__»
    repeat (first
      | with_reducible refine wpAny_cRoomFor hu ?_
      | (refine wpAny_bind (m := callSpecialIfBound? (.ref x) (Str.ofString "__eq__") [b]) (ifBound_K X I hs hf (wpAny_mono h (fun r s' hr => by
          obtain ⟨r, rfl, hq⟩ := hr
          repeat (first | exact ⟨_, rfl, hq⟩ | exact wpAny_pure ⟨_, rfl, hq⟩ | (refine wpAny_bind (m := truthy (.bool _)) (wpAny_truthy_bool ?_)) | wp_step)) fun _ _ e => e)))
      | wp_step)
  have bind : bindSpecial (.builtin "object.__ne__") (.ref x) = pure (.builtin "object.__ne__", [.ref x]) := PySem.F.cmp_object.ne.bind (.ref x)
  have one : wpAny (model prog w) A (tryCompare (.ref x) "__ne__" b) (fun r s' => ∃ v, r = some v ∧ Q v s') E s := by
    unfold tryCompare
    refine wpAny_bind ?_
    simp only [callSpecialIfBound?, bindSpecialIfBound?]
    refine wpAny_holding (wpAny_bind (wpAny_bind (wpAny_bind (I.type.here ((looks_findIn X hne).here ?_)))))
    have fin : wpAny (model prog w) A (call (.builtin "object.__ne__") ([.ref x] ++ [b])) (fun v s' => ∃ r, v = .bool r ∧ Q v s') E s :=
      wpAny_call (codeAny_call_builtin PySem.F.cmp_object.ne.plain PySem.F.cmpEntry_ne (check_slot PySem.F.cmpKind_ne PySem.F.cmpSplit_ne (I.type.andThen (looks_subIn X ho)) (PySem.F.cmpArgs_ne _ _) body))
    simp only [bind]
    refine wpAny_bind (wpAny_askSetting (wpAny_ite ?_))
    split
    · refine wpAny_bind (wpAny_pure (wpAny_pure ?_))
      refine wpAny_bind (wpAny_mono fin (fun v s' z => ?_) fun _ _ e => e)
      obtain ⟨r, rfl, q⟩ := z
      refine wpAny_pure ?_
      exact wpAny_pure ⟨_, rfl, q⟩
    · refine wpAny_tryCatch (wpAny_bind (wpAny_pure (wpAny_pure ?_)))
      refine wpAny_bind (wpAny_mono fin (fun v s' z => ?_) fun _ _ e => e)
      obtain ⟨r, rfl, q⟩ := z
      refine wpAny_pure ?_
      exact wpAny_pure ⟨_, rfl, q⟩
  unfold richCompare
  simp only [oneThing_ref]
  refine wpAny_holding (wpAny_bind (wpAny_cRoomFor (Nat.lt_of_succ_lt hu) ?_))
  refine wpAny_bind (I.type.here (wpAny_bind (hb.here ?_)))
  split
  · rename_i q
    have e : subIn K tb (.ref C) = some false := by
      rcases Bool.or_eq_true_iff.mp hn with e | e
      · rw [beq_iff_eq.mp e] at q; simp at q
      · exact beq_iff_eq.mp e
    refine wpAny_bind ((looks_subIn X e).here ?_)
    simp only [Bool.false_eq_true, if_false]
    refine wpAny_bind (wpAny_mono one (fun r s' z => ?_) fun _ _ e => e)
    obtain ⟨v, rfl, hq⟩ := z
    exact wpAny_pure hq
  · refine wpAny_bind (wpAny_pure ?_)
    simp only [Bool.false_eq_true, if_false]
    refine wpAny_bind (wpAny_mono one (fun r s' z => ?_) fun _ _ e => e)
    obtain ⟨v, rfl, hq⟩ := z
    exact wpAny_pure hq
end
section
variable {X : Cx} {CX : CXT} {k : Nat} {f C : Addr} {fd : FuncData} {ps : List Str} {sp : Sp} {E : XK}
theorem op_neC (F : FnOk X.prog X.w X.K X.mg X.base CX k f fd ps sp) (m : Meth X.K C "__eq__" f) (hne : PySem.W.findIn X.K (.ref C) "__ne__" = some (some (.builtin "object.__ne__"))) (ho : PySem.W.subIn X.K (.ref C) (.type "object") = some true) (hr : Room (k + 1) X.A) (hb : Binds X.K fd ps []) (hx : Passes CX X E) : OpR X (compareOp .NotEq) (rNeC X.K C sp E) := by
  intro pins s σ H x y v u Q I rx ry hq
  obtain ⟨a, dx, fs, tb, rfl, ha, ty, hn, hsp⟩ := hq
  cases rx
  obtain ⟨mA, J, _⟩ := ins_get I.hok ha
  obtain ⟨od, J, _⟩ := J.look
  obtain ⟨mm, hF⟩ := I.fr
  show wpAny (model X.prog X.w) X.A (richCompare .NotEq _ u) (EP X pins σ Q) X.xe s
  refine ne_own_K (tb := tb) (by have := hr.un; omega) hF I.ok.mod.kin J (ty_looks I ry ty) hn hne m.at_ m.fn ho ?_
  refine wpAny_mono (run_at F hr.in1 rfl hb hx I (us := [.ref a, u]) (.cons (show RelV (.ref a) (.ref a) from rfl) (.cons ry .nil)) hsp) (fun r s' hq => ?_) fun _ _ x => x
  obtain ⟨z, H', I', rz, b, rfl, q⟩ := hq
  cases rz
  exact ⟨b, rfl, .bl (!b), H', I', rfl, q⟩
end
end
end Ts

set_option maxRecDepth 100000
set_option maxHeartbeats 4000000
namespace Ts
open PySem L2
/-! ### enumerate(tuple) -/
set_option maxHeartbeats 4000000 in
theorem meets_enum_T (t : Addr) (its : Array Value) :
    Meets (Builtin.«enumerate.__new__» ⟨[.type "enumerate", .ref t], []⟩) (fun _ R s => s.heap.IsTuple t its ∧
      R (.ok (.ret (.ref (s.heap.push { cls := .type "tuple_iterator", data := .fields #[.ref t, .int 0 0] }).objs.size)))
        { s with heap := (s.heap.push { cls := .type "tuple_iterator", data := .fields #[.ref t, .int 0 0] }).push { cls := .type "enumerate", data := .fields #[.none, .bool false, .ref s.heap.objs.size, rawInt 0, .none, .none] } }) :=
  .of_wp fun prog w A R s h => by
    obtain ⟨hp, g, d, tk, os⟩ := s
    obtain ⟨hT, h⟩ := h
    have hsub := sub_enumerate
    wp_walk
    refine wpAny_stack_any fun st => wpAny_pure ?_
    split
    · rename_i c _ _ _ _ _
      cases (c == Value.type "enumerate")
      · wp_walk using wpAny_pyIter_tuple hT
        exact ⟨_, rfl, h⟩
      · wp_walk using wpAny_pyIter_tuple hT
        exact ⟨_, rfl, h⟩
    · wp_walk using wpAny_pyIter_tuple hT
      exact ⟨_, rfl, h⟩

section
variable {prog : Program} {w : World} {A : Around} {E : Value → Shared → Prop} {s : Shared}
theorem call_enum_T {t : Addr} {its : Array Value} {Q : Value → Shared → Prop} (hT : s.heap.IsTuple t its)
    (k : ∀ g, IsEnum g (s.heap.objs.size + 1) s.heap.objs.size 0 .none → g.IsTupleIter s.heap.objs.size t 0 → (∀ b o, s.heap.get? b = some o → g.get? b = some o) → Q (.ref (s.heap.objs.size + 1)) { s with heap := g }) :
    wpAny (model prog w) A (call (.type "enumerate") [.ref t]) Q E s := by
  refine callType_new F.called_enumerate (by decide) (F.typeCall_enumerate_1 _) (F.newCall_enumerate_1 _) (fun o => F.args_object_init_2 o _) F.entry_enumerate_new (meets_enum_T t its) ⟨hT, ?_⟩
  have z : (s.heap.push { cls := .type "tuple_iterator", data := .fields #[.ref t, .int 0 0] }).objs.size = s.heap.objs.size + 1 := Heap.size_push ..
  show _ ∧ _
  rw [z]
  have en : IsEnum ((s.heap.push { cls := .type "tuple_iterator", data := .fields #[.ref t, .int 0 0] }).push { cls := .type "enumerate", data := .fields #[.none, .bool false, .ref s.heap.objs.size, rawInt 0, .none, .none] }) (s.heap.objs.size + 1) s.heap.objs.size 0 .none := by
    have q := Heap.get?_push_size (s.heap.push { cls := .type "tuple_iterator", data := .fields #[.ref t, .int 0 0] }) (o := { cls := .type "enumerate", data := .fields #[.none, .bool false, .ref s.heap.objs.size, rawInt 0, .none, .none] }) rfl
    rw [z] at q
    exact q
  exact ⟨⟨_, en, rfl⟩, k _ en ⟨_, Heap.get?_push_of_some _ (Heap.get?_push_size _ rfl), rfl, rfl⟩ fun b o y => Heap.get?_push_of_some _ (Heap.get?_push_of_some _ y)⟩
end
/-- the tuple at a as it stands at each turn, each item in a new pair -/
def IteT (K : PySem.W.Frag) (a : Addr) : It :=
  ⟨fun i H => ∃ (xs : List V) (x : V), SqT K H a xs ∧ xs[i]? = some x, fun i H v H' => ∃ T x, v = .ref T ∧ H T = none ∧ H' = upd H T (.tup [.int (i : Nat), x]) ∧ ∀ xs, SqT K H a xs → xs[i]? = some x, fun i H => ∃ xs : List V, SqT K H a xs ∧ xs.length = i⟩
theorem turn_enumT {P : Program} {w : World} {K : PySem.W.Frag} {elts : List Expr} {kk : Nat} {tpos : Pos} (a e it : Addr) :
    Turn P w K (.Tuple elts kk tpos) (IteT K a) [e, it] e (fun i h => (∃ old, IsEnum h e it ((i : Nat) : Int) old) ∧ h.IsTupleIter it a i ∧ e ≠ it ∧ a ≠ it ∧ e ≠ a) where
  mem := by simp
  obj := fun i h st b hb => by
    obtain ⟨⟨old, en⟩, ⟨o, ho, hc, hd⟩, _⟩ := st
    rcases (show b = e ∨ b = it by simpa using hb) with z | z
    · rw [z]; exact ⟨_, en, fun v q => nomatch q⟩
    · rw [z]; exact ⟨o, ho, fun v q => by rw [hd] at q; cases q⟩
  keep := fun i h h' st k => let ⟨⟨old, en⟩, hi, r⟩ := st; ⟨⟨old, k e (by simp) _ en⟩, hi.at fun o y => k it (by simp) o y, r⟩
  item := by
    intro X hP hw hK hc i pins s σ H E I hf st hg
    subst hP hw hK
    obtain ⟨⟨old, en⟩, hit, hne, hai, hea⟩ := st
    obtain ⟨xs, x, hq, hx⟩ := hg
    obtain ⟨its, rv, p, hz⟩ := I.tuple hq
    obtain ⟨u, hu, ru⟩ := rv.get hx
    have pT : s.heap.IsTuple a its.toArray := p
    have hil : i < its.toArray.size := by
      have q := (List.getElem?_eq_some_iff.mp hu).1
      simpa using q
    have l1 : e < s.heap.objs.size := Heap.lt_size en
    have l2 : it < s.heap.objs.size := by obtain ⟨_, q, _⟩ := hit; exact Heap.lt_size q
    have hh1 : X.A.in1.handled = none := I.ok.hd hc
    refine wpAny_pyNext_enum_itemD (Draws.tuple hh1 it a hai its.toArray) en ⟨hit, pT⟩ hil hne (by simp [hne, hea]) fun x' g tk hx' ho st' hT hsz hk => ?_
    have ex : x' = u := by
      have q : its.toArray[i]? = some u := by simpa using hu
      rw [q] at hx'
      exact (Option.some.inj hx').symm
    subst ex
    refine ⟨_, rfl, wpAny_letOwnedTupleGo_enum (s := { s with heap := g, toks := tk + 1 }) ho fun g2 he' sb => ?_⟩
    have hT2 : g2.get? s.heap.objs.size = some { cls := .type "tuple", data := .seq #[.int i tk, x'] } := (sb.2 _ (Nat.ne_of_gt l1)).trans hT
    have new : ObjOk X.prog X.w (upd H s.heap.objs.size (.tup [.int (i : Nat), x])) g2 s.heap.objs.size (.tup [.int (i : Nat), x]) :=
      ⟨by show 2 ≤ sizeLine; decide, [.int i tk, x'], .cons ⟨_, rfl⟩ (.cons ru .nil), ⟨_, hT2, rfl, _, rfl⟩⟩
    have I1 : Inv X pins σ (upd H s.heap.objs.size (.tup [.int (i : Nat), x])) { s with heap := g2, toks := tk + 1 } :=
      I.turnedNew (ch := [e, it]) (fun b o hb y => (sb.2 b (fun z => hb (by simp [z]))).trans (hk b o (fun z => hb (by simp [z])) (fun z => hb (by simp [z])) y)) hf (Nat.le_refl _) new
    refine ⟨.ref s.heap.objs.size, _, I1, rfl, ⟨_, x, rfl, I.hok.fresh (Nat.le_refl _), rfl, fun ys hy => by rw [I.tuple_inj hy hq]; exact hx⟩, ⟨⟨x', ?_⟩, st'.1.at fun o y => (sb.2 it (Ne.symm hne)).trans y, hne, hai, hea⟩, fun b hb => ?_⟩
    · rw [show ((i + 1 : Nat) : Int) = (i : Int) + 1 by omega]
      exact he'
    · have lb : b < s.heap.objs.size := by
        rcases (show b = e ∨ b = it by simpa using hb) with z | z
        · rw [z]; exact l1
        · rw [z]; exact l2
      rw [upd_ne (Nat.ne_of_lt lb)]
      exact (hf b hb).1
  done := by
    intro X hP hw hK hc i pins s σ H E I hf st hg
    subst hP hw hK
    obtain ⟨⟨old, en⟩, hit, hne, hai, hea⟩ := st
    obtain ⟨xs, hq, hx⟩ := hg
    obtain ⟨its, rv, p, hz⟩ := I.tuple hq
    have pT : s.heap.IsTuple a its.toArray := p
    have hh1 : X.A.in1.handled = none := I.ok.hd hc
    have ei : its.toArray.size = i := by rw [← hx, rv.length]; simp
    obtain ⟨f0, f1, f2, f3, f4, f5⟩ := hf it (by simp)
    refine wpAny_pyNext_enum_endD (Draws.tuple hh1 it a hai its.toArray) en (by rw [ei]; exact ⟨hit, pT⟩) fun g eb => ⟨rfl, I.turned (t' := s.toks) (fun b o hb y => eb b o hb y) f0 f1 f3 f4 f5⟩
  self := fun A i s Q E st h => let ⟨⟨_, en⟩, _⟩ := st; wpAny_pyIter_enum en h
def iEnumT (K : PySem.W.Frag) (ta : TA) : TI := fun σ H R => ta σ H fun vs H1 => ∃ a xs, vs = [.ref a] ∧ SqT K H1 a xs ∧ R (IteT K a) H1
theorem pi_enumT {X : Cx} {e : Expr} {ta : TA} {p pos tpos : Pos} {elts : List Expr} {kk : Nat} (hg : Gl X "enumerate") (hm : X.mg "enumerate" = none) (ha : PA X [e] ta) (hs : starEach [e] X.env = [(false, eval e X.env)] := by rfl) :
    PI X (.Tuple elts kk tpos) (.Call (.Name "enumerate" p) [e] [] pos) (iEnumT X.K ta) := by
  refine ⟨fun pins s σ H R I h => ?_⟩
  refine wpAny_Call_Name_kw (ld_blt I hg hm PyProof.Rows.boot_enumerate (PyProof.Rows.callWith_type1 (thn (ha.run pos pins s σ H _ I h) fun us s1 z => ?_) hs rfl))
  obtain ⟨vs, H1, I1, r1, a, xs, ex, hq, q⟩ := z
  subst ex
  obtain ⟨u, rfl, ru⟩ := vals1 r1
  cases ru
  obtain ⟨its, rv, p', hz⟩ := I1.tuple hq
  have pT : s1.heap.IsTuple a its.toArray := p'
  obtain ⟨oa, hoa, _⟩ := id pT
  have la : a < s1.heap.objs.size := Heap.lt_size hoa
  refine call_enum_T pT fun g en hit hk => wpAny_pyIter_enum en ?_
  have I2 : Inv X pins σ H1 { s1 with heap := g } := I1.kept (t' := s1.toks) hk
  refine ⟨s1.heap.objs.size + 1, [s1.heap.objs.size + 1, s1.heap.objs.size], _, _, H1, rfl, I2, turn_enumT a (s1.heap.objs.size + 1) s1.heap.objs.size, ⟨⟨.none, en⟩, hit, Nat.succ_ne_self _, Nat.ne_of_lt la, Nat.ne_of_gt (Nat.lt_succ_of_lt la)⟩, fun b hb => ?_, q⟩
  have ge : s1.heap.objs.size ≤ b := by
    rcases (show b = s1.heap.objs.size + 1 ∨ b = s1.heap.objs.size by simpa using hb) with z | z
    · rw [z]; exact Nat.le_add_right _ _
    · rw [z]; exact Nat.le_refl _
  exact I1.fpOk ge (I1.hok.fresh ge)
theorem walk_enumT {K : PySem.W.Frag} {a : Addr} {xs : List V} : Walk (IteT K a) xs.length (fun H => SqT K H a xs) (YPair (fun i => some (.int (i : Nat))) (fun i => xs[i]?)) := by
  refine ⟨fun i _ hi q => ⟨xs, xs[i], q, by simp [hi]⟩, fun _ q => ⟨xs, q, rfl⟩, fun i H v H' _ q y => ?_⟩
  obtain ⟨T, x, y1, y2, y3, y4⟩ := y
  exact ⟨T, .int (i : Nat), x, y1, y2, y3, rfl, y4 xs q⟩
/-! ### one rule or another -/
section
variable {X : Cx} {e : Expr}
theorem pe_or' {t u : TE} (a : PE X e t) (b : PE X e u) : PE X e (fun σ H Q => t σ H Q ∨ u σ H Q) := ⟨fun pins s σ H Q I h => h.elim (a.run pins s σ H Q I) (b.run pins s σ H Q I)⟩
theorem pg_or {t u : TG} (a : PG X e t) (b : PG X e u) : PG X e (fun v σ H Q => t v σ H Q ∨ u v σ H Q) := ⟨fun pins s σ H v w Q I r h => h.elim (a.run pins s σ H v w Q I r) (b.run pins s σ H v w Q I r)⟩
theorem pi_or {tg : Expr} {t u : TI} (a : PI X tg e t) (b : PI X tg e u) : PI X tg e (fun σ H R => t σ H R ∨ u σ H R) := ⟨fun pins s σ H R I h => h.elim (a.run pins s σ H R I) (b.run pins s σ H R I)⟩
theorem op_or' {f : Value → Value → Sem Value} {r q : R2} (a : OpR X f r) (b : OpR X f q) : OpR X f (fun x y H Q => r x y H Q ∨ q x y H Q) := fun pins s σ H x y v u Q I rx ry h => h.elim (a pins s σ H x y v u Q I rx ry) (b pins s σ H x y v u Q I rx ry)
theorem ps_or {st : Stmt} {t u : TS} (a : PS X st t) (b : PS X st u) : PS X st (fun D σ H => t D σ H ∨ u D σ H) := ⟨fun pins s σ H D I h => h.elim (a.run pins s σ H D I) (b.run pins s σ H D I)⟩
theorem call_or {f : Value} {r q : List V → Hp → VK → Prop} (a : CallR X f r) (b : CallR X f q) : CallR X f (fun xs H Q => r xs H Q ∨ q xs H Q) := fun pins s σ H xs us Q I rv h => h.elim (a pins s σ H xs us Q I rv) (b pins s σ H xs us Q I rv)
end
end Ts

set_option maxRecDepth 100000
set_option maxHeartbeats 4000000
namespace Ts
open PySem L2
section
variable {X : Cx}
/-- a local takes a dict comprehension on one line -/
theorem ps_setDc {i : Nat} {y : Str} {py : Pos} {kx vx tg iter : Expr} {ifs : List Expr} {scope : Scope} {own : List (Str × Nat)} {pos spos : Pos} {wi : TI} {g : TG} {tt : TT} {tk tv : TE} (hc : X.calm = true) (hN : X.N.Nodup) (hy : X.N[i]? = some y) (hyl : X.env.scope.names.lookup y = some .local)
    (hsw : swapsWith (.DictComp kx vx [⟨tg, iter, ifs, 0⟩] scope pos) (some (.Name y py)) spos.line X.env = pure true) (hi : PI X tg iter wi) (ok : BlkOk X.N X.env.scope scope own)
    (hg : ∀ (s : Shared) (H : Hp) (C : Addr) (cl : List (Str × Addr)) (fp : List Addr), PG (X.blk s H scope (compEnvC scope cl C X.env) fp) tg g) (ht : ∀ (s : Shared) (H : Hp) (C : Addr) (cl : List (Str × Addr)) (fp : List Addr), PTs (X.blk s H scope (compEnvC scope cl C X.env) fp) ifs tt)
    (hk : ∀ (s : Shared) (H : Hp) (C : Addr) (cl : List (Str × Addr)) (fp : List Addr), PE (X.blk s H scope (compEnvC scope cl C X.env) fp) kx tk)
    (he : ∀ (s : Shared) (H : Hp) (C : Addr) (cl : List (Str × Addr)) (fp : List Addr), PE (X.blk s H scope (compEnvC scope cl C X.env) fp) vx tv) (hs : ∀ x, foldedSetIterable iter X.env x = pure x := by intro _; rfl) :
    PS X (.Assign [.Name y py] (.DictComp kx vx [⟨tg, iter, ifs, 0⟩] scope pos) spos) (tAsg (tDc wi g tt tk tv (own.map (·.2))) (gName i)) := by
  refine ⟨fun pins s σ H D I h => ?_⟩
  rw [exec_Assign_Name_used _ _ _ _ hsw]
  refine wpAny_bind (wpAny_standAt (wpAny_bind ?_))
  show wpAny _ X.A (do let _ ← comprehension (.DictComp kx vx [⟨tg, iter, ifs, 0⟩] scope pos) scope X.env (firstIterPos [⟨tg, iter, ifs, 0⟩] pos) newDict false (eval iter X.env) (some (assign (.Name y py) X.env))) _ _ s
  have h' : tDc wi g tt tk tv (own.map (·.2)) σ H (fun x H1 => gName i x σ H1 D.nx) := h
  refine wpAny_bind (thn (dc_core (Qf := fun _ s' => SP X pins D .next s') hc hN I hi ok hg ht hk he hs h' fun L C s' m H' I' q hn f => ?_) fun _ s' z => wpAny_pure (wpAny_pure z))
  show wpAny _ _ (assign (.Name y py) X.env (.ref L)) _ _ _
  refine wpAny_assign_Name (store_ok2 (v := V.ref L) I' hN hy (.inl hyl) rfl (fun s2 I2 ⟨a, sb, za⟩ => ?_) (.inr hyl))
  obtain ⟨f0, f1, f2, f3, f4, f5⟩ := f
  have ca : C ≠ a := by
    rcases za with z | z
    · rw [z]; exact f1
    · exact fun e => f4 y a z e.symm
  refine ⟨m, hn.sameBut sb ca, fun h3 sb3 => ?_⟩
  exact ⟨_, H', I2.turned (t' := s2.toks) (fun b o hb e => (sb3.2 b hb).trans e) f0 f1 f3 f4 f5, q⟩
theorem swd_true {kx vx : Expr} {gs : List Comprehension} {scope : Scope} {pos py : Pos} {y : Str} {l : Nat} {env : Env} (hk : env.scope.kind = .function) (hy : env.scope.names.lookup y = some .local) (hl : (py.line == pos.line) = true)
    (ha : (scope.names.any fun (n, k) => n == y && (k == .local || k == .cell)) = false) : swapsWith (.DictComp kx vx gs scope pos) (some (.Name y py)) l env = pure true := by
  have k1 : env.kindOf y = some .local := hy
  have k2 : env.blockKind = .function := by unfold Env.blockKind; rw [hk]; rfl
  unfold swapsWith
  simp only [k1, k2, ha, Expr.pos, hl]
  rfl
/-- a dict comprehension over what walks -/
theorem dc_it {J : It} {n : Nat} {G : Hp → Prop} {Y : Nat → Hp → V → Hp → Prop} (w : Walk J n G Y) {g : TG} {tt : TT} {tk tv : TE} {vs : List Nat} {σ : St} {H1 : Hp} {D : Addr} {Qd : Hp → Prop} (Pv : Nat → Hp → Prop) (h0 : Pv 0 (upd H1 D (.dK []))) (hG : ∀ i H, i ≤ n → Pv i H → G H)
    (hs : ∀ i x H H', i < n → Pv i H → Y i H x H' → g x (wipe σ vs) H' fun σ2 H2 => wipe σ2 vs = wipe σ vs ∧ tt σ2 H2 fun b H3 =>
      if b = true then tk σ2 H3 fun y H4 => tv σ2 H4 fun z H5 => ∃ kvs k, y = kV k ∧ H5 D = some (.dK kvs) ∧ kvs.length < sizeLine ∧ Pv (i + 1) (upd H5 D (.dK (putK kvs k z))) else Pv (i + 1) H3) (hd : ∀ H, Pv n H → Qd H) :
    ∃ W : Nat → Nat → Hp → Prop, (∃ m, W 0 m (upd H1 D (.dK []))) ∧ ∀ i m H, W i m H →
      (J.stop i H ∧ Qd H) ∨ (J.go i H ∧ ∃ Nx : Hp → Prop, (∀ H', Nx H' → ∃ m', m' < m ∧ W (i + 1) m' H') ∧ ∀ x H', J.yld i H x H' → g x (wipe σ vs) H' fun σ2 H2 => wipe σ2 vs = wipe σ vs ∧ tt σ2 H2 fun b H3 =>
        if b = true then tk σ2 H3 fun y H4 => tv σ2 H4 fun z H5 => ∃ kvs k, y = kV k ∧ H5 D = some (.dK kvs) ∧ kvs.length < sizeLine ∧ Nx (upd H5 D (.dK (putK kvs k z))) else Nx H3) := by
  refine ⟨fun i m H => m = n - i ∧ i ≤ n ∧ Pv i H, ⟨n, by simp, Nat.zero_le _, h0⟩, ?_⟩
  rintro i m H ⟨rfl, le, p⟩
  have q := hG i H le p
  by_cases lt : i < n
  · exact .inr ⟨w.goes i H lt q, Pv (i + 1), fun H' p' => ⟨n - (i + 1), by omega, rfl, lt, p'⟩, fun x H' y => hs i x H H' lt p (w.yields i H x H' lt q y)⟩
  · obtain rfl : i = n := by omega
    exact .inl ⟨w.stops H q, hd H p⟩
end
end Ts

set_option maxRecDepth 100000
namespace Ts
open PySem L2
def top (i : Nat) : Stmt := PySem.Challenge.pw_turnsets_k01_trees_made.main.body.getD i (.Pass ⟨0, 0, 0, 0⟩)
abbrev s__wall : Stmt := top 0
abbrev s_BadRow_init : Stmt := inClass (top 3) 0
abbrev s_NoBox_init : Stmt := inClass (top 4) 0
abbrev s_is_name : Stmt := top 10
abbrev s_is_number : Stmt := top 11
abbrev s_is_price : Stmt := top 12
abbrev s_is_row : Stmt := top 13
abbrev s_check_rows : Stmt := top 14
abbrev s_check_box : Stmt := top 15
abbrev s_is_place : Stmt := top 16
abbrev s_check_place : Stmt := top 17
abbrev s_Tree_init : Stmt := inClass (top 18) 0
abbrev s_Tree_eq : Stmt := inClass (top 18) 1
abbrev s_Tree_len : Stmt := inClass (top 18) 2
abbrev s_Tree_contains : Stmt := inClass (top 18) 3
abbrev s_Tree_rows : Stmt := inClass (top 18) 4
abbrev s_Tree_folder : Stmt := inClass (top 18) 5
abbrev s_Tree_kind : Stmt := inClass (top 18) 6
abbrev s_Tree_price : Stmt := inClass (top 18) 7
abbrev s_Tree_inside : Stmt := inClass (top 18) 8
abbrev s_Tree_below : Stmt := inClass (top 18) 9
abbrev s_Tree_way : Stmt := inClass (top 18) 10
abbrev s_Tree_steps : Stmt := inClass (top 18) 11
abbrev s_Tree_more : Stmt := inClass (top 18) 12
abbrev s_Tree_less : Stmt := inClass (top 18) 13
abbrev s_Tree_moved : Stmt := inClass (top 18) 14
abbrev s_Tree_opened : Stmt := inClass (top 18) 15
abbrev s_L_stream : Stmt := top 20
abbrev s_L_draw : Stmt := top 21
abbrev s_L_pick : Stmt := top 22
abbrev s_L_name : Stmt := top 23
abbrev s_L_kinds : Stmt := top 24
abbrev s_L_prices : Stmt := top 25
abbrev s_L_rows : Stmt := top 26
abbrev s_L_way : Stmt := top 27
abbrev s_L_below : Stmt := top 28
abbrev s_L_shows : Stmt := top 29
abbrev s_law : Stmt := top 30
end Ts

set_option maxRecDepth 100000
set_option maxHeartbeats 4000000
namespace Ts
open PySem L2
/-! ### how a def stands -/
structure DefAt (K : PySem.W.Frag) (mg : Str → Option Value) (x : Str) (st : Stmt) (ps : List Str) where
  f : Addr
  fd : FuncData
  F : Fun K x x st f fd
  b : Binds K fd ps []
  g : mg x = some (.ref f)
structure MethAt (K : PySem.W.Frag) (C : Addr) (x q : Str) (st : Stmt) (ps : List Str) where
  f : Addr
  fd : FuncData
  F : Fun K x q st f fd
  b : Binds K fd ps []
  m : Meth K C x f
structure TxB (mg : Str → Option Value) : Prop where
  len : mg "len" = none
  abs : mg "abs" = none
  int : mg "int" = none
  str : mg "str" = none
  bool : mg "bool" = none
  list : mg "list" = none
  tuple : mg "tuple" = none
  dict : mg "dict" = none
  range : mg "range" = none
  enumerate : mg "enumerate" = none
  isinstance : mg "isinstance" = none
  all : mg "all" = none
theorem lk {l : List (Option V)} {i : Nat} {v : V} (h : l[i]? = some (some v)) : l[i]? = some (some v) := h
/-! ### the draws -/
/-- all but a is kept -/
def SB (a : Addr) (H H' : Hp) : Prop := ∀ b o, b ≠ a → H b = some o → H' b = some o
theorem SB.refl (a : Addr) (H : Hp) : SB a H H := fun _ _ _ h => h
theorem SB.trans {a : Addr} {H H1 H2 : Hp} (x : SB a H H1) (y : SB a H1 H2) : SB a H H2 := fun b o n h => y b o n (x b o n h)
theorem SB.of {a : Addr} {H H' : Hp} (x : Same H H') : SB a H H' := fun b o _ h => x b o h
theorem Same.new {H : Hp} {p : Addr} {o : HO} (h : H p = none) : Same H (upd H p o) := fun b u e => by rw [upd_ne (ne_of_none e h)]; exact e
theorem SB.upd {a p : Addr} {H : Hp} {o : HO} (h : H p = none) : SB a H (L2.upd H p o) := SB.of (Same.new h)
theorem SB.seqL {K : PySem.W.Frag} {a l : Addr} {H H' : Hp} {xs : List V} (x : SB a H H') (n : l ≠ a) (h : SqL K H l xs) : SqL K H' l xs := by
  rcases h with (h | ⟨o, h⟩) | h
  · exact .inl (.inl (x _ _ n h))
  · exact .inl (.inr ⟨o, x _ _ n h⟩)
  · exact .inr h
theorem SB.free {a b : Addr} {H H' : Hp} (x : SB a H H') (n : b ≠ a) (h : H' b = none) : H b = none := by
  cases q : H b with
  | none => rfl
  | some o =>
    rw [x b o n q] at h
    cases h
/-- at a a stream of draws of which at most n are mixed numbers -/
def Stm (H : Hp) (a : Addr) (n : Int) : Prop := ∃ x y z : Int, H a = some (.lst [.int x, .int y, .int z]) ∧ 0 ≤ x ∧ 0 ≤ y ∧ y < 1099511627776 ∧ 0 ≤ z ∧ z ≤ n
theorem Stm.mono {H : Hp} {a : Addr} {n m : Int} (h : Stm H a n) (k : n ≤ m) : Stm H a m := by
  obtain ⟨x, y, z, e, h1, h2, h3, h4, h5⟩ := h
  exact ⟨x, y, z, e, h1, h2, h3, h4, Int.le_trans h5 k⟩
theorem Stm.ne {H : Hp} {a p : Addr} {n : Int} (h : Stm H a n) (hp : H p = none) : a ≠ p := by
  obtain ⟨x, y, z, e, _⟩ := h
  exact ne_of_none e hp
theorem Stm.same {H H' : Hp} {a : Addr} {n : Int} (h : Stm H a n) (s : Same H H') : Stm H' a n := by
  obtain ⟨x, y, z, e, r⟩ := h
  exact ⟨x, y, z, s _ _ e, r⟩
theorem Stm.upd {H : Hp} {a p : Addr} {o : HO} {n : Int} (h : Stm H a n) (hp : H p = none) : Stm (upd H p o) a n := h.same (Same.new hp)
theorem ne_lit {i : Int} (h : i ≠ 0) : i ≠ 0 := h
theorem fm_in (q : Int) {m : Int} (h : 1 ≤ m) : 0 ≤ q.fmod m ∧ q.fmod m < m := by
  rw [Int.fmod_eq_emod_of_nonneg q (by omega)]
  exact ⟨Int.emod_nonneg _ (by omega), Int.emod_lt_of_pos _ (by omega)⟩
def spStream (K : PySem.W.Frag) : Sp := fun vs H Q _ => ∃ (a : Addr) (ns : List Int) (k : Int), vs = [.ref a, .int k] ∧ SqL K H a (ns.map V.int) ∧ 0 ≤ k ∧ k ≤ 1000 ∧
  ∀ (p : Addr) (x y : Int), H p = none → 0 ≤ x → 0 ≤ y → y < 1099511627776 → Q (.ref p) (upd H p (.lst [.int x, .int y, .int 0]))
def spDraw : Sp := fun vs H Q _ => ∃ (a : Addr) (m n : Int), vs = [.ref a, .int m] ∧ Stm H a n ∧ n ≤ 1099511627776 ∧ 1 ≤ m ∧ m ≤ 1000000 ∧
  ∀ (r : Int) (H' : Hp), 0 ≤ r → r < m → Stm H' a (n + 1) → (∀ b, b ≠ a → H' b = H b) → Q (.int r) H'
section
variable {P : Program} {w : World} {K : PySem.W.Frag} {mg : Str → Option Value} {base : Heap}
theorem sc_stream : FnScope ["_law_script", "_law_k", "_law_cell"] ["_law_script", "_law_k"] (defScope s_L_stream) := ⟨rfl, rfl, rfl, by decide +kernel, rfl, by decide +kernel, by decide +kernel⟩
theorem ok_stream (D : DefAt K mg "_law_stream" s_L_stream ["_law_script", "_law_k"]) (B : TxB mg) : FnOk P w K mg base CX0 2 D.f D.fd ["_law_script", "_law_k"] (spStream K) := by
  refine D.F.ok sc_stream (fun vs H Q E h => ?_) (fun cdv A outer s H vs Q E hr h => ?_)
  · obtain ⟨a, ns, k, rfl, _⟩ := h
    rfl
  · obtain ⟨a, ns, k, rfl, hS, h0, h1, hq⟩ := h
    refine ⟨_, pss_cons (ps_set (i := 2) sc_stream.nd rfl (.inl rfl) (pe_ifExp (pt_cmpR op_lt (pv 1) (pe_callB call_len_seq (by rfl) B.len PySem.boot_len (pa_cons (pv 0) pa_nil)) (nomark _)) (pe_callB call_abs (by rfl) B.abs (by decide +kernel) (pa_cons (pe_ix ix_list (pv 0) (pv 1) (fun _ _ => rfl)) pa_nil)) pe_int))
      (pss_one (ps_ret (pe_lst (pa_cons (pe_ifExp (pt_cmpR op_ge (pv 2) (pe_op op_pow pe_int pe_int) (nomark _)) (pv 2) pe_int) (pa_cons (pe_op op_add (pe_op op_modN (pe_callTy call_int1 (by rfl) B.int (by decide +kernel) (pa_cons (pv 2) pa_nil)) pe_int) (pe_op op_mul pe_int (pv 1))) (pa_cons pe_int pa_nil)))))), ?_⟩
    refine ⟨_, rfl, _, rfl, a, _, rfl, .inl hS, _, _, rfl, rfl, _, rfl, ?_⟩
    have fin : ∀ c : Int, 0 ≤ c → 0 ≤ c.fmod 2147483647 + 31 * k ∧ c.fmod 2147483647 + 31 * k < 1099511627776 := fun c hc => by
      have e := Int.fmod_eq_emod_of_nonneg c (show (0 : Int) ≤ 2147483647 by decide)
      omega
    refine ite2 (fun h => ?_) (fun h => ?_)
    · have hlt := of_decide_eq_true h
      rw [List.length_map] at hlt
      obtain ⟨v, hv⟩ : ∃ v, ns[k.toNat]? = some v := ⟨ns[k.toNat]'(by omega), List.getElem?_eq_getElem (by omega)⟩
      refine ⟨_, rfl, _, rfl, a, _, _, .int v, rfl, rfl, hS, at_of (j := k.toNat) (by omega) (by rw [List.getElem?_map, hv]; rfl), _, rfl, ?_⟩
      have hc : (0 : Int) ≤ if v < 0 then -v else v := by split <;> omega
      generalize (if v < 0 then -v else v) = c at hc
      refine ⟨_, rfl, _, _, rfl, rfl, ⟨by decide, by decide, by decide⟩, _, _, rfl, rfl, _, rfl, ?_⟩
      refine ite2 (fun h => ?_) (fun h => ?_)
      · exact ⟨_, rfl, _, rfl, .inl ⟨_, rfl, _, _, rfl, rfl, ne_lit (by decide), _, rfl, _, _, rfl, rfl, .inl ⟨by decide, by decide⟩, _, _, rfl, rfl, (by show 3 ≤ sizeLine; decide), fun p hp => hq p _ _ hp hc (fin c hc).1 (fin c hc).2⟩⟩
      · exact ⟨_, rfl, .inl ⟨_, rfl, _, _, rfl, rfl, ne_lit (by decide), _, rfl, _, _, rfl, rfl, .inl ⟨by decide, by decide⟩, _, _, rfl, rfl, (by show 3 ≤ sizeLine; decide), fun p hp => hq p _ _ hp (by decide) (fin c hc).1 (fin c hc).2⟩⟩
    · have hc : (0 : Int) ≤ 0 := Int.le_refl 0
      refine ⟨_, rfl, _, _, rfl, rfl, ⟨by decide, by decide, by decide⟩, _, _, rfl, rfl, _, rfl, ?_⟩
      refine ite2 (fun h => ?_) (fun h => ?_)
      · exact ⟨_, rfl, _, rfl, .inl ⟨_, rfl, _, _, rfl, rfl, ne_lit (by decide), _, rfl, _, _, rfl, rfl, .inl ⟨by decide, by decide⟩, _, _, rfl, rfl, (by show 3 ≤ sizeLine; decide), fun p hp => hq p _ _ hp hc (fin 0 hc).1 (fin 0 hc).2⟩⟩
      · exact ⟨_, rfl, .inl ⟨_, rfl, _, _, rfl, rfl, ne_lit (by decide), _, rfl, _, _, rfl, rfl, .inl ⟨by decide, by decide⟩, _, _, rfl, rfl, (by show 3 ≤ sizeLine; decide), fun p hp => hq p _ _ hp (by decide) (fin 0 hc).1 (fin 0 hc).2⟩⟩
theorem sc_draw : FnScope ["_law_stream_here", "_law_many", "_law_digit", "_law_spread"] ["_law_stream_here", "_law_many"] (defScope s_L_draw) := ⟨rfl, rfl, rfl, by decide +kernel, rfl, by decide +kernel, by decide +kernel⟩
theorem ok_draw (D : DefAt K mg "_law_draw" s_L_draw ["_law_stream_here", "_law_many"]) (B : TxB mg) : FnOk P w K mg base CX0 2 D.f D.fd ["_law_stream_here", "_law_many"] spDraw := by
  refine D.F.ok sc_draw (fun vs H Q E h => ?_) (fun cdv A outer s H vs Q E hr h => ?_)
  · obtain ⟨a, m, n, rfl, _⟩ := h
    rfl
  · obtain ⟨a, m, n, rfl, ⟨x, y, z, e, hx, hy, hy1, hz, hzn⟩, hn, hm, hm1, hq⟩ := h
    have eS := SqL.of (K := K) e
    refine ⟨_, pss_cons (ps_if (pt_cmpR op_gt (pe_ix ix_list (pv 0) pe_int (fun _ _ => rfl)) pe_int (nomark _))
        (pss_cons (ps_set (i := 2) sc_draw.nd rfl (.inl rfl) (pe_op op_modN (pe_callTy call_int1 (by rfl) B.int (by decide +kernel) (pa_cons (pe_ix ix_list (pv 0) pe_int (fun _ _ => rfl)) pa_nil)) (pv 1)))
        (pss_cons (ps_asg (pe_op op_fdivN (pe_ix ix_list (pv 0) pe_int (fun _ _ => rfl)) (pv 1)) (pg_sub (pv 0) pe_int set_list))
        (pss_one (ps_ret (pv 2))))) pss_nil)
      (pss_cons (ps_asg (pe_op op_add (pe_ix ix_list (pv 0) pe_int (fun _ _ => rfl)) pe_int) (pg_sub (pv 0) pe_int set_list))
      (pss_cons (ps_set (i := 3) sc_draw.nd rfl (.inl rfl) (pe_op op_modN (pe_op op_pow (pe_callTy call_int1 (by rfl) B.int (by decide +kernel) (pa_cons (pe_op op_add (pe_op op_add (pe_ix ix_list (pv 0) pe_int (fun _ _ => rfl)) (pe_op op_mul pe_int (pe_ix ix_list (pv 0) pe_int (fun _ _ => rfl)))) pe_int) pa_nil)) pe_int) pe_int))
      (pss_one (ps_ret (pe_op op_modN (pe_op op_fdivN (pe_op op_modN (pe_callTy call_int1 (by rfl) B.int (by decide +kernel) (pa_cons (pe_op op_mul (pe_op op_add (pv 3) (pe_ix ix_list (pv 0) pe_int (fun _ _ => rfl))) pe_int) pa_nil)) pe_int) pe_int) (pv 1)))))), ?_⟩
    have g0 : ∀ x y z : Int, atI [V.int x, .int y, .int z] 0 = some (.int x) := fun _ _ _ => rfl
    have g1 : ∀ x y z : Int, atI [V.int x, .int y, .int z] 1 = some (.int y) := fun _ _ _ => rfl
    have g2 : ∀ x y z : Int, atI [V.int x, .int y, .int z] 2 = some (.int z) := fun _ _ _ => rfl
    refine ⟨_, rfl, a, _, _, _, rfl, rfl, eS, g0 _ _ _, _, _, rfl, rfl, _, rfl, ?_⟩
    refine ite2 (fun h => ?_) (fun h => ?_)
    · have hx0 := of_decide_eq_true h
      refine ⟨_, rfl, a, _, _, _, rfl, rfl, eS, g0 _ _ _, .inl ⟨_, rfl, _, rfl, _, _, rfl, rfl, (by omega), ?_⟩⟩
      refine ⟨_, rfl, a, _, _, _, rfl, rfl, eS, g0 _ _ _, _, rfl, _, _, rfl, rfl, ⟨by omega, by omega⟩, _, rfl, a, _, _, 0, rfl, rfl, e, rfl, _, rfl, ?_⟩
      have e2 := Int.fdiv_eq_ediv_of_nonneg x (show (0 : Int) ≤ m by omega)
      exact hq _ _ (fm_in _ hm).1 (fm_in _ hm).2 ⟨x.fdiv m, y, z, upd_same, by rw [e2]; exact Int.ediv_nonneg hx (by omega), hy, hy1, hz, by omega⟩ fun b hb => upd_ne hb
    · refine ⟨_, rfl, a, _, _, _, rfl, rfl, eS, g2 _ _ _, _, _, rfl, rfl, _, rfl, a, _, _, 2, rfl, rfl, e, rfl, ?_⟩
      have e' : (upd H a (.lst [V.int x, .int y, .int (z + 1)])) a = some (.lst [V.int x, .int y, .int (z + 1)]) := upd_same
      have eS' := SqL.of (K := K) e'
      refine ⟨_, rfl, a, _, _, _, rfl, rfl, eS', g1 _ _ _, _, rfl, a, _, _, _, rfl, rfl, eS', g2 _ _ _, _, _, rfl, rfl, .inl ⟨by decide, by decide⟩, _, _, rfl, rfl, _, _, rfl, rfl, .inl ⟨_, rfl, _, _, rfl, rfl, ⟨by decide, by decide, by omega⟩, _, _, rfl, rfl, ne_lit (by decide), ?_⟩⟩
      have e3 := Int.fmod_eq_emod_of_nonneg ((y + 7919 * (z + 1) + 104729) ^ (5 : Int).toNat) (show (0 : Int) ≤ 2147483647 by decide)
      generalize (y + 7919 * (z + 1) + 104729) ^ (5 : Int).toNat = g at e3
      have b1 := Int.emod_nonneg g (show (2147483647 : Int) ≠ 0 by decide)
      have b2 := Int.emod_lt_of_pos g (show (0 : Int) < 2147483647 by decide)
      rw [← e3] at b1 b2
      generalize g.fmod 2147483647 = u at b1 b2
      refine ⟨_, rfl, _, rfl, a, _, _, _, rfl, rfl, eS', g2 _ _ _, _, _, rfl, rfl, _, _, rfl, rfl, .inl ⟨by omega, by omega⟩, .inl ⟨_, rfl, _, _, rfl, rfl, ne_lit (by decide), _, _, rfl, rfl, ⟨by decide, by decide⟩, _, rfl, _, _, rfl, rfl, by omega, ?_⟩⟩
      exact hq _ _ (fm_in _ hm).1 (fm_in _ hm).2 ⟨x, y, z + 1, upd_same, hx, hy, hy1, by omega, by omega⟩ fun b hb => upd_ne hb
end
end Ts

set_option maxRecDepth 100000
set_option maxHeartbeats 4000000
namespace Ts
open PySem L2
/-- an item of a list, or a sign of a text, that is drawn -/
def spPick (K : PySem.W.Frag) : Sp := fun vs H Q _ =>
  (∃ (a l : Addr) (n : Int) (xs : List V), vs = [.ref a, .ref l] ∧ Stm H a n ∧ n ≤ 1099511627776 ∧ l ≠ a ∧ SqL K H l xs ∧ 1 ≤ xs.length ∧ xs.length ≤ 1000000 ∧
    ∀ (v : V) (H' : Hp), v ∈ xs → Stm H' a (n + 1) → SB a H H' → (∀ b, H b = none → H' b = none) → Q v H') ∨
  (∃ (a : Addr) (z : Str) (n : Int), vs = [.ref a, .str z] ∧ Stm H a n ∧ n ≤ 1099511627776 ∧ 1 ≤ z.length ∧ z.length ≤ 1000000 ∧
    ∀ (c : Nat) (H' : Hp), c ∈ z.cps.toList → Stm H' a (n + 1) → SB a H H' → (∀ b, H b = none → H' b = none) → Q (.str ⟨#[c]⟩) H')
theorem sb_eq {a : Addr} {H H' : Hp} (h : ∀ b, b ≠ a → H' b = H b) : SB a H H' := fun b o n e => by rw [h b n]; exact e
theorem free_eq {a : Addr} {n : Int} {H H' : Hp} (s : Stm H a n) (h : ∀ b, b ≠ a → H' b = H b) (b : Addr) (hb : H b = none) : H' b = none := by rw [h b (s.ne hb).symm]; exact hb
/-- a name as it is drawn: 1, 2, 3 or 8 letters -/
def Low (z : Str) : Prop := ∀ c ∈ z.cps.toList, 97 ≤ c ∧ c ≤ 122
def NameShape (z : Str) : Prop := (z.length = 1 ∨ z.length = 2 ∨ z.length = 3 ∨ z.length = 8) ∧ Low z
def spName : Sp := fun vs H Q _ => ∃ (a : Addr) (n : Int), vs = [.ref a] ∧ Stm H a n ∧ n ≤ 549755813888 ∧
  ∀ (z : Str) (H' : Hp), NameShape z → Stm H' a (n + 9) → SB a H H' → Q (.str z) H'
theorem abc_low : ∀ c ∈ ("abcdefghijklmnopqrstuvwxyz" : Str).cps.toList, 97 ≤ c ∧ c ≤ 122 := by decide +kernel
theorem abc_len : ("abcdefghijklmnopqrstuvwxyz" : Str).length = 26 := by decide +kernel
theorem join_empty : ∀ (ys : List Str), (Str.join ("" : Str) ys).cps.toList = (ys.map fun y => y.cps.toList).flatten
  | [] => rfl
  | [x] => by simp [Str.join]
  | x :: y :: r => by
    have ih := join_empty (y :: r)
    have e : ("" : Str).cps.toList = [] := by decide +kernel
    show ((x.cps ++ ("" : Str).cps) ++ (Str.join "" (y :: r)).cps).toList = _
    rw [Array.toList_append, Array.toList_append, ih, e]
    simp
theorem tYes_if {σ : St} {H : Hp} {A B : Hp → Prop} (h : A H) : tYes σ H (fun b H3 => if b = true then A H3 else B H3) := by
  show if true = true then A H else B H
  rw [if_pos rfl]
  exact h
/-- signs put together -/
def signs (cs : List Nat) : List Str := cs.map fun c => ⟨#[c]⟩
theorem join_signs (cs : List Nat) : (Txt.join ("" : Str) (signs cs)).cps.toList = cs := by
  rw [TL.join_eq, join_empty]
  unfold signs
  induction cs with
  | nil => rfl
  | cons c r ih =>
    simp only [List.map_cons, List.flatten_cons] at ih ⊢
    rw [ih]
    rfl
theorem len_toList (z : Str) : z.length = z.cps.toList.length := by simp [Str.length]
section
variable {P : Program} {w : World} {K : PySem.W.Frag} {mg : Str → Option Value} {base : Heap}
theorem sc_pick : FnScope ["_law_stream_here", "_law_things"] ["_law_stream_here", "_law_things"] (defScope s_L_pick) := ⟨rfl, rfl, rfl, by decide +kernel, rfl, by decide +kernel, by decide +kernel⟩
theorem ok_pick (D : DefAt K mg "_law_pick" s_L_pick ["_law_stream_here", "_law_things"]) (Dd : DefAt K mg "_law_draw" s_L_draw ["_law_stream_here", "_law_many"]) (B : TxB mg) : FnOk P w K mg base CX0 3 D.f D.fd ["_law_stream_here", "_law_things"] (spPick K) := by
  have G : FnOk P w K mg base CX0 2 Dd.f Dd.fd ["_law_stream_here", "_law_many"] spDraw := ok_draw Dd B
  refine D.F.ok sc_pick (fun vs H Q E h => ?_) (fun cdv A outer s H vs Q E hr h => ?_)
  · rcases h with ⟨a, l, n, xs, rfl, _⟩ | ⟨a, z, n, rfl, _⟩ <;> rfl
  · rcases h with ⟨a, l, n, xs, rfl, hs, hn, la, hl, h1, h2, hq⟩ | ⟨a, z, n, rfl, hs, hn, h1, h2, hq⟩
    · refine ⟨_, pss_one (ps_ret (pe_ix ix_list (pv 1) (pe_call G hr rfl Dd.g Dd.F.kp Dd.b .nil pass0 (pa_cons (pv 0) (pa_cons (pe_callB call_len_seq (by rfl) B.len PySem.boot_len (pa_cons (pv 1) pa_nil)) pa_nil))) (fun _ _ => rfl))), ?_⟩
      refine ⟨_, rfl, _, rfl, _, rfl, l, xs, rfl, .inl hl, a, xs.length, n, rfl, hs, hn, by omega, by omega, fun r H' r0 r1 hs' he => ?_⟩
      have hk : r.toNat < xs.length := by omega
      exact ⟨l, xs, r, xs[r.toNat], rfl, rfl, (sb_eq he).seqL la hl, at_of (j := r.toNat) (by omega) (List.getElem?_eq_getElem hk), hq _ _ (List.getElem_mem hk) hs' (sb_eq he) (free_eq hs he)⟩
    · refine ⟨_, pss_one (ps_ret (pe_item_str (pv 1) (pe_call G hr rfl Dd.g Dd.F.kp Dd.b .nil pass0 (pa_cons (pv 0) (pa_cons (pe_callB call_len (by rfl) B.len PySem.boot_len (pa_cons (pv 1) pa_nil)) pa_nil))) (fun _ _ => rfl))), ?_⟩
      refine ⟨_, rfl, _, rfl, _, rfl, _, z.length, rfl, ⟨Nat.le_trans h2 (by decide), rfl⟩, a, z.length, n, rfl, hs, hn, by omega, by omega, fun r H' r0 r1 hs' he => ?_⟩
      have hk : r.toNat < z.cps.size := by
        have : z.length = z.cps.size := rfl
        omega
      exact ⟨z, r, z.cps[r.toNat], rfl, rfl, r0, by omega, r1, Array.getElem?_eq_getElem hk, hq _ _ (by simp) hs' (sb_eq he) (free_eq hs he)⟩
theorem sc_name : FnScope ["_law_stream_here", "_law_size", "_law_k"] ["_law_stream_here"] (defScope s_L_name) := ⟨rfl, rfl, rfl, by decide +kernel, rfl, by decide +kernel, by decide +kernel⟩
theorem ok_name (D : DefAt K mg "_law_name" s_L_name ["_law_stream_here"]) (Dp : DefAt K mg "_law_pick" s_L_pick ["_law_stream_here", "_law_things"]) (Dd : DefAt K mg "_law_draw" s_L_draw ["_law_stream_here", "_law_many"]) (B : TxB mg) :
    FnOk P w K mg base CX0 4 D.f D.fd ["_law_stream_here"] spName := by
  have Gd : FnOk P w K mg base CX0 2 Dd.f Dd.fd ["_law_stream_here", "_law_many"] spDraw := ok_draw Dd B
  have Gp : FnOk P w K mg base CX0 3 Dp.f Dp.fd ["_law_stream_here", "_law_things"] (spPick K) := ok_pick Dp Dd B
  refine D.F.ok sc_name (fun vs H Q E h => ?_) (fun cdv A outer s H vs Q E hr h => ?_)
  · obtain ⟨a, n, rfl, _⟩ := h
    rfl
  · obtain ⟨a, n, rfl, hs, hn, hq⟩ := h
    refine ⟨_, pss_cons (ps_set (i := 1) sc_name.nd rfl (.inl rfl) (pe_ix ix_list (pe_lst (pa_cons pe_int (pa_cons pe_int (pa_cons pe_int (pa_cons pe_int (pa_cons pe_int pa_nil)))))) (pe_call Gd (hr.mono (by decide)) rfl Dd.g Dd.F.kp Dd.b .nil pass0 (pa_cons (pv 0) (pa_cons pe_int pa_nil))) (fun _ _ => rfl)))
      (pss_one (ps_ret (pe_join pe_str (pe_lc (own := [("_law_k", 2)]) (g := gName 2) (tt := tYes) (by rfl) sc_name.nd (pi_range1 (by rfl) B.range (pa_cons (pv 1) pa_nil)) (blkOk_by (N := ["_law_stream_here", "_law_size", "_law_k"]) (sc := defScope s_L_name) (by decide +kernel))
        (fun _ _ _ _ _ => pg_name (i := 2) sc_name.nd rfl (Or.inl rfl)) (fun _ _ _ _ _ => pts_nil) (fun _ _ _ _ _ => pe_call Gp hr rfl Dp.g Dp.F.kp Dp.b .nil pass0 (pa_cons (pv 0) (pa_cons pe_str pa_nil))))))), ?_⟩
    refine ⟨(by show 5 ≤ sizeLine; decide), fun l hl => ?_⟩
    refine ⟨_, rfl, a, 5, n, rfl, hs.upd hl, by omega, by decide, by decide, fun r H1 r0 r1 hs1 he1 => ?_⟩
    have la : l ≠ a := (hs.ne hl).symm
    have e1 : H1 l = some (.lst [V.int 1, .int 1, .int 2, .int 3, .int 8]) := by rw [he1 l la]; exact upd_same
    have sb1 : SB a H H1 := (SB.upd hl).trans (sb_eq he1)
    obtain ⟨m, hm, hm4⟩ : ∃ m : Int, atI [V.int 1, .int 1, .int 2, .int 3, .int 8] r = some (.int m) ∧ (m = 1 ∨ m = 2 ∨ m = 3 ∨ m = 8) := by
      obtain rfl | rfl | rfl | rfl | rfl : r = 0 ∨ r = 1 ∨ r = 2 ∨ r = 3 ∨ r = 4 := by omega
      · exact ⟨1, rfl, by decide⟩
      · exact ⟨1, rfl, by decide⟩
      · exact ⟨2, rfl, by decide⟩
      · exact ⟨3, rfl, by decide⟩
      · exact ⟨8, rfl, by decide⟩
    refine ⟨l, _, r, .int m, rfl, rfl, SqL.of e1, hm, ⟨_, rfl⟩, ?_⟩
    refine ⟨_, rfl, m, rfl, by omega, by omega, fun Dl hD => ?_⟩
    refine lc_range (lo := 0) (n := m.toNat) (fun i H2 => ∃ cs : List Nat, cs.length = i ∧ (∀ c ∈ cs, 97 ≤ c ∧ c ≤ 122) ∧ H2 Dl = some (.lst ((signs cs).map V.str)) ∧ Stm H2 a (n + 1 + i) ∧ SB a H1 H2) ?_ ?_ ?_
    · exact ⟨[], rfl, (fun c hc => by cases hc), upd_same, (by simpa using hs1.upd (o := .lst []) hD), SB.upd hD⟩
    · rintro i H2 hi ⟨cs, hcl, hlow, hDl, hs2, sb2⟩
      refine ⟨rfl, tYes_if ?_⟩
      have Da : Dl ≠ a := (hs1.ne hD).symm
      refine ⟨_, rfl, .inr ⟨a, _, _, rfl, hs2, by omega, by rw [abc_len]; decide, by rw [abc_len]; decide, fun c H3 hc hs3 sb3 _ => ?_⟩⟩
      refine ⟨(signs cs).map V.str, sb3 _ _ Da hDl, ?_, cs ++ [c], by simp [hcl], ?_, ?_, ?_, ?_⟩
      · rw [List.length_map]
        unfold signs
        rw [List.length_map, hcl]
        exact Nat.lt_of_lt_of_le hi (Nat.le_trans (show m.toNat ≤ 8 by omega) (by decide))
      · intro d hd
        rcases List.mem_append.mp hd with h | h
        · exact hlow d h
        · rw [List.mem_singleton.mp h]; exact abc_low c hc
      · rw [upd_same]; simp [signs]
      · have q := hs3
        obtain ⟨x, y, z, e, r⟩ := q
        refine ⟨x, y, z, ?_, r.1, r.2.1, r.2.2.1, r.2.2.2.1, by have := r.2.2.2.2; push_cast; omega⟩
        rw [upd_ne Da.symm]; exact e
      · intro b o hb e
        rw [upd_ne (fun q => by rw [q, hD] at e; cases e)]
        exact sb3 b o hb (sb2 b o hb e)
    · rintro H2 ⟨cs, hcl, hlow, hDl, hs2, sb2⟩
      refine ⟨_, Dl, signs cs, rfl, rfl, .inl (SqL.of hDl), ?_, ?_⟩
      · have e0 : ("" : Str).length = 0 := by decide +kernel
        rw [e0]
        have : ((signs cs).map (·.length)).sum = cs.length := by
          unfold signs
          clear hDl hcl hlow
          induction cs with
          | nil => rfl
          | cons c r ih => simp only [List.map_cons, List.sum_cons, ih, List.length_cons]; show 1 + r.length = r.length + 1; omega
        rw [this, hcl]; omega
      · refine hq _ _ ⟨?_, ?_⟩ (hs2.mono (by omega)) (sb1.trans sb2)
        · rw [len_toList, join_signs, hcl]; omega
        · intro c hc
          rw [join_signs] at hc
          exact hlow c hc
end
end Ts

set_option maxRecDepth 100000
set_option maxHeartbeats 4000000
namespace Ts
open PySem L2
/-! ### rows of trees -/
structure Row where
  nm : Str
  fo : Str
  ki : Str
  pr : Option Int
  deriving DecidableEq
def prV : Option Int → V
  | none => .non
  | some i => .int i
def rowVs (r : Row) : List V := [.str r.nm, .str r.fo, .str r.ki, prV r.pr]
structure RowsAt (H : Hp) (as : List Addr) (rs : List Row) : Prop where
  len : as.length = rs.length
  at_ : ∀ (i : Nat) (a : Addr) (r : Row), as[i]? = some a → rs[i]? = some r → H a = some (.tup (rowVs r))
theorem RowsAt.same {H H' : Hp} {as : List Addr} {rs : List Row} (h : RowsAt H as rs) (s : Same H H') : RowsAt H' as rs := ⟨h.len, fun i a r ha hr => s _ _ (h.at_ i a r ha hr)⟩
theorem RowsAt.sb {H H' : Hp} {as : List Addr} {rs : List Row} {p : Addr} {xs : List V} (h : RowsAt H as rs) (hp : H p = some (.lst xs)) (s : SB p H H') : RowsAt H' as rs :=
  ⟨h.len, fun i a r ha hr => s _ _ (fun q => by have e := h.at_ i a r ha hr; rw [q, hp] at e; cases e) (h.at_ i a r ha hr)⟩
theorem RowsAt.nil {H : Hp} : RowsAt H [] [] := ⟨rfl, fun i a r ha => by simp at ha⟩
theorem RowsAt.snoc {H : Hp} {as : List Addr} {rs : List Row} {a : Addr} {r : Row} (h : RowsAt H as rs) (ha : H a = some (.tup (rowVs r))) : RowsAt H (as ++ [a]) (rs ++ [r]) := by
  refine ⟨by simp [h.len], fun i b q hb hq => ?_⟩
  rcases Nat.lt_or_ge i as.length with hi | hi
  · rw [List.getElem?_append_left hi] at hb
    rw [List.getElem?_append_left (h.len ▸ hi)] at hq
    exact h.at_ i b q hb hq
  · rw [List.getElem?_append_right hi] at hb
    rw [List.getElem?_append_right (h.len ▸ hi)] at hq
    have e0 : i - as.length = 0 := by
      have := (List.getElem?_eq_some_iff.mp hb).1
      simp at this
      omega
    have e1 : i - rs.length = 0 := by rw [← h.len]; exact e0
    rw [e0] at hb
    rw [e1] at hq
    simp at hb hq
    subst hb; subst hq
    exact ha
def kinds3 : List Str := ["folder", "item", "shut"]
def PriceOk : Option Int → Prop
  | none => True
  | some i => 1 ≤ i
/-- what a row must be behind others -/
structure Fits (pre : List Row) (r : Row) : Prop where
  shape : NameShape r.nm
  top : r.nm ≠ ("top" : Str)
  new : r.nm ∉ pre.map (·.nm)
  home : r.fo = ("top" : Str) ∨ ∃ q ∈ pre, q.nm = r.fo ∧ q.ki = ("folder" : Str)
  kind : r.ki ∈ kinds3
  price : PriceOk r.pr
def Valid (rs : List Row) : Prop := ∀ i r, rs[i]? = some r → Fits (rs.take i) r
theorem Valid.nil : Valid [] := fun i r h => by simp at h
theorem Valid.snoc {rs : List Row} {r : Row} (h : Valid rs) (f : Fits rs r) : Valid (rs ++ [r]) := by
  intro i q hq
  rcases Nat.lt_or_ge i rs.length with hi | hi
  · rw [List.getElem?_append_left hi] at hq
    rw [List.take_append_of_le_length (Nat.le_of_lt hi)]
    exact h i q hq
  · rw [List.getElem?_append_right hi] at hq
    have e0 : i - rs.length = 0 := by
      have := (List.getElem?_eq_some_iff.mp hq).1
      simp at this
      omega
    rw [e0] at hq
    simp at hq
    subst hq
    have e : i = rs.length := by omega
    rw [e, List.take_append_of_le_length (Nat.le_refl _), List.take_length]
    exact f
/-! ### looking for texts in lists -/
theorem eqV_str (x y : Str) : eqV (.str x) (.str y) = decide (x = y) := by
  by_cases h : x = y
  · subst h
    simp [eqV]
  · simp [eqV, h]
theorem inV_strs (z : Str) : ∀ l : List Str, inV (.str z) (l.map V.str) = decide (z ∈ l)
  | [] => by simp [inV]
  | x :: l => by
    have ih := inV_strs z l
    unfold inV at ih ⊢
    rw [List.map_cons, List.any_cons, ih, eqV_str]
    by_cases h : x = z
    · subst h; simp
    · have h' : ¬ z = x := fun e => h e.symm
      simp [h, h']
theorem flat_strs (l : List Str) : (l.map V.str).all flatV = true := by
  rw [List.all_eq_true]
  intro v hv
  obtain ⟨z, _, rfl⟩ := List.mem_map.mp hv
  rfl
theorem low_cat {x y : Str} (hx : Low x) (hy : Low y) : Low (x ++ y) := by
  intro c hc
  have e : (x ++ y).cps.toList = x.cps.toList ++ y.cps.toList := by
    show (x.cps ++ y.cps).toList = _
    simp
  rw [e] at hc
  rcases List.mem_append.mp hc with h | h
  · exact hx c h
  · exact hy c h
theorem len_cat (x y : Str) : (x ++ y).length = x.length + y.length := by
  show (x.cps ++ y.cps).size = _
  simp [Str.length]
end Ts
namespace Ts
open PySem L2
/-! ### dicts by what they have -/
structure MemD (H : Hp) (d : Addr) (l : List Str) : Prop where
  ex : ∃ kv : List (Key × V), H d = some (.dK kv) ∧ (∀ z : Str, (valV kv (.inr z : Key)).isSome = decide (z ∈ l)) ∧ kv.length ≤ l.length
theorem MemD.same {H H' : Hp} {d : Addr} {l : List Str} (m : MemD H d l) (e : H' d = H d) : MemD H' d l := by
  obtain ⟨kv, h⟩ := m.ex
  exact ⟨kv, by rw [e]; exact h⟩
theorem putK_le (kv : List (Key × V)) (k : Key) (v : V) : (putK kv k v).length ≤ kv.length + 1 := by
  unfold putK
  split
  · rw [List.length_map]; exact Nat.le_succ _
  · rw [List.length_append, List.length_singleton]; exact Nat.le_refl _
theorem mem_put {kv : List (Key × V)} {l : List Str} (h : ∀ z : Str, (valV kv (.inr z : Key)).isSome = decide (z ∈ l)) (x : Str) (v : V) (z : Str) : (valV (putK kv (.inr x) v) (.inr z : Key)).isSome = decide (z ∈ l ++ [x]) := by
  rw [valV_put]
  by_cases e : z = x
  · subst e
    simp
  · have e' : ¬ (Sum.inr z : Key) = Sum.inr x := fun q => e (Sum.inr.inj q)
    rw [if_neg e', h z]
    simp [e]
theorem MemD.put {H : Hp} {d : Addr} {l : List Str} {kv : List (Key × V)} (hk : ∀ z : Str, (valV kv (.inr z : Key)).isSome = decide (z ∈ l)) (hl : kv.length ≤ l.length) (x : Str) (v : V) : MemD (upd H d (.dK (putK kv (.inr x) v))) d (l ++ [x]) :=
  ⟨_, upd_same, mem_put hk x v, by have := putK_le kv (.inr x) v; rw [List.length_append, List.length_singleton]; omega⟩
/-- rows as tuples or lists -/
structure SeqRows (H : Hp) (as : List Addr) (rs : List Row) : Prop where
  len : as.length = rs.length
  at_ : ∀ (i : Nat) (a : Addr) (r : Row), as[i]? = some a → rs[i]? = some r → H a = some (.tup (rowVs r)) ∨ H a = some (.lst (rowVs r))
theorem SeqRows.same {H H' : Hp} {as : List Addr} {rs : List Row} (h : SeqRows H as rs) (s : Same H H') : SeqRows H' as rs := ⟨h.len, fun i a r ha hr => (h.at_ i a r ha hr).imp (s _ _) (s _ _)⟩
theorem RowsAt.seq {H : Hp} {as : List Addr} {rs : List Row} (h : RowsAt H as rs) : SeqRows H as rs := ⟨h.len, fun i a r ha hr => .inl (h.at_ i a r ha hr)⟩
/-- what a row must be behind others, names and folders that stand already -/
structure FitsB (ns hs : List Str) (pre : List Row) (r : Row) : Prop where
  shape : NameShape r.nm
  top : r.nm ≠ ("top" : Str)
  new : r.nm ∉ ns ++ pre.map (·.nm)
  home : r.fo ∈ hs ++ (pre.filter fun q => decide (q.ki = ("folder" : Str))).map (·.nm)
  kind : r.ki ∈ kinds3
  price : PriceOk r.pr
theorem Fits.b {pre : List Row} {r : Row} (f : Fits pre r) : FitsB [] [("top" : Str)] pre r :=
  ⟨f.shape, f.top, by simpa using f.new, by
    rcases f.home with h | ⟨q, hq, h1, h2⟩
    · rw [h]; simp
    · refine List.mem_append.mpr (.inr (List.mem_map.mpr ⟨q, List.mem_filter.mpr ⟨hq, decide_eq_true h2⟩, h1⟩)), f.kind, f.price⟩
end Ts

set_option maxRecDepth 100000
set_option maxHeartbeats 4000000
namespace Ts
open PySem L2
def kindsL : List Str := ["folder", "folder", "item", "item", "item", "shut"]
def pricesL : List (Option Int) := [some 1, some 1, some 1, some 2, some 3, some 7, none]
def spKinds : Sp := fun vs H Q _ => vs = [] ∧ ∀ p, H p = none → Q (.ref p) (upd H p (.lst (kindsL.map V.str)))
def spPrices : Sp := fun vs H Q _ => vs = [] ∧ ∀ p, H p = none → Q (.ref p) (upd H p (.lst (pricesL.map prV)))
/-- the rows of a drawn tree: n mixed draws before, at most 13 more a row -/
def spRows (K : PySem.W.Frag) : Sp := fun vs H Q _ => ∃ (a kl pl : Addr) (many n : Int) (ks : List Str) (ps : List (Option Int)), vs = [.ref a, .int many, .ref kl, .ref pl] ∧ Stm H a n ∧ n ≤ 549755800000 ∧ 0 ≤ many ∧ many ≤ 40 ∧ kl ≠ a ∧ pl ≠ a ∧
  SqL K H kl (ks.map V.str) ∧ SqL K H pl (ps.map prV) ∧ 1 ≤ ks.length ∧ ks.length ≤ 1000 ∧ 1 ≤ ps.length ∧ ps.length ≤ 1000 ∧ (∀ k ∈ ks, k ∈ kinds3) ∧ (∀ q ∈ ps, PriceOk q) ∧
  ∀ (p : Addr) (as : List Addr) (rs : List Row) (H' : Hp), H p = none → p ≠ a → H' p = some (.lst (as.map V.ref)) → RowsAt H' as rs → Valid rs → (rs.length : Int) ≤ many → (∀ r ∈ rs, r.ki ∈ ks ∧ r.pr ∈ ps) → SB a H H' → Stm H' a (n + 13 * many) → Q (.ref p) H'
def folderNames (rs : List Row) : List Str := (rs.filter fun r => decide (r.ki = ("folder" : Str))).map (·.nm)
theorem top_len : ("top" : Str).length = 3 := by decide +kernel
theorem mem_cutV {xs : List V} {lo hi : Option Int} {v : V} (h : v ∈ cutV xs lo hi) : v ∈ xs := List.mem_of_mem_drop (List.mem_of_mem_take h)
theorem seq_ref {K : PySem.W.Frag} {H H' : Hp} {l : Addr} {xs : List V} (e : H' l = H l) (h : SqL K H l xs) : SqL K H' l xs := by
  rcases h with (h | ⟨o, h⟩) | h
  · exact .inl (.inl (by rw [e]; exact h))
  · exact .inl (.inr ⟨o, by rw [e]; exact h⟩)
  · exact .inr h
section
variable {P : Program} {w : World} {K : PySem.W.Frag} {mg : Str → Option Value} {base : Heap}
theorem sc_kinds : FnScope [] [] (defScope s_L_kinds) := ⟨rfl, rfl, rfl, by decide +kernel, rfl, by decide +kernel, by decide +kernel⟩
theorem ok_kinds (D : DefAt K mg "_law_kinds" s_L_kinds []) : FnOk P w K mg base CX0 2 D.f D.fd [] spKinds := by
  refine D.F.ok sc_kinds (fun vs H Q E h => ?_) (fun cdv A outer s H vs Q E hr h => ?_)
  · obtain ⟨rfl, _⟩ := h
    rfl
  · obtain ⟨rfl, hq⟩ := h
    refine ⟨_, pss_one (ps_ret (pe_lst (pa_cons pe_str (pa_cons pe_str (pa_cons pe_str (pa_cons pe_str (pa_cons pe_str (pa_cons pe_str pa_nil)))))))), ?_⟩
    exact ⟨(by show 6 ≤ sizeLine; decide), fun p hp => hq p hp⟩
theorem sc_prices : FnScope [] [] (defScope s_L_prices) := ⟨rfl, rfl, rfl, by decide +kernel, rfl, by decide +kernel, by decide +kernel⟩
theorem ok_prices (D : DefAt K mg "_law_prices" s_L_prices []) : FnOk P w K mg base CX0 2 D.f D.fd [] spPrices := by
  refine D.F.ok sc_prices (fun vs H Q E h => ?_) (fun cdv A outer s H vs Q E hr h => ?_)
  · obtain ⟨rfl, _⟩ := h
    rfl
  · obtain ⟨rfl, hq⟩ := h
    refine ⟨_, pss_one (ps_ret (pe_lst (pa_cons pe_int (pa_cons pe_int (pa_cons pe_int (pa_cons pe_int (pa_cons pe_int (pa_cons pe_int (pa_cons pe_non pa_nil))))))))), ?_⟩
    exact ⟨(by show 7 ≤ sizeLine; decide), fun p hp => hq p hp⟩
abbrev nRows : List Str := ["_law_stream_here", "_law_many", "_law_kinds_here", "_law_prices_here", "_law_rows_here", "_law_folders", "_law_names", "_law_k", "_law_name_here", "_law_kind", "_law_folder"]
theorem sc_rows : FnScope nRows ["_law_stream_here", "_law_many", "_law_kinds_here", "_law_prices_here"] (defScope s_L_rows) := ⟨rfl, rfl, rfl, by decide +kernel, rfl, by decide +kernel, by decide +kernel⟩
/-- what stands between two turns -/
structure RowsI (a p fl nl : Addr) (H0 H : Hp) (ks : List Str) (ps : List (Option Int)) (m : Int) (i : Nat) (as : List Addr) (rs : List Row) : Prop where
  hp : H p = some (.lst (as.map V.ref))
  hf : H fl = some (.lst ((("top" : Str) :: folderNames rs).map V.str))
  hn : H nl = some (.lst ((("top" : Str) :: rs.map (·.nm)).map V.str))
  rows : RowsAt H as rs
  val : Valid rs
  len : rs.length ≤ i
  mem : ∀ r ∈ rs, r.ki ∈ ks ∧ r.pr ∈ ps
  sb : SB a H0 H
  st : Stm H a m
theorem RowsI.step {a p fl nl : Addr} {H0 H H' : Hp} {ks : List Str} {ps : List (Option Int)} {m m' : Int} {i j : Nat} {as : List Addr} {rs : List Row} (h : RowsI a p fl nl H0 H ks ps m i as rs) (np : p ≠ a) (nf : fl ≠ a) (nn : nl ≠ a) (s : SB a H H') (hs : Stm H' a m') (hj : i ≤ j) :
    RowsI a p fl nl H0 H' ks ps m' j as rs := by
  obtain ⟨x, y, z, e, _⟩ := id h.st
  exact ⟨s _ _ np h.hp, s _ _ nf h.hf, s _ _ nn h.hn, h.rows.sb e s, h.val, Nat.le_trans h.len hj, h.mem, h.sb.trans s, hs⟩
theorem sign_at {z : Str} (h : Low z) {r : Int} (h0 : 0 ≤ r) (h1 : r < (z.length : Int)) : ∃ c, z.cps[r.toNat]? = some c ∧ Low ⟨#[c]⟩ := by
  have hk : r.toNat < z.cps.size := by
    have : z.length = z.cps.size := rfl
    omega
  refine ⟨z.cps[r.toNat], Array.getElem?_eq_getElem hk, fun c hc => ?_⟩
  have e : c = z.cps[r.toNat] := by simpa using hc
  rw [e]
  exact h _ (by simp)
theorem low_q : Low ("q" : Str) := by unfold Low; decide +kernel
theorem low_aj : Low ("abcdefghij" : Str) := by unfold Low; decide +kernel
theorem low_kp : Low ("klmnop" : Str) := by unfold Low; decide +kernel
theorem len_q : ("q" : Str).length = 1 := by decide +kernel
theorem len_aj : ("abcdefghij" : Str).length = 10 := by decide +kernel
theorem len_kp : ("klmnop" : Str).length = 6 := by decide +kernel
theorem szl {n : Nat} (h : n ≤ 1000) : n ≤ sizeLine := Nat.le_of_lt (small1000 h)
theorem folders_le (rs : List Row) : (folderNames rs).length ≤ rs.length := by
  unfold folderNames
  rw [List.length_map]
  exact List.length_filter_le _ _
theorem mem_folders {rs : List Row} {z : Str} (h : z ∈ folderNames rs) : ∃ q ∈ rs, q.nm = z ∧ q.ki = ("folder" : Str) := by
  obtain ⟨q, hq, e⟩ := List.mem_map.mp h
  obtain ⟨h1, h2⟩ := List.mem_filter.mp hq
  exact ⟨q, h1, e, of_decide_eq_true h2⟩
theorem folders_snoc (rs : List Row) (r : Row) : folderNames (rs ++ [r]) = folderNames rs ++ (if r.ki = ("folder" : Str) then [r.nm] else []) := by
  unfold folderNames
  rw [List.filter_append, List.map_append]
  by_cases h : r.ki = ("folder" : Str)
  · rw [if_pos h]; simp [h]
  · rw [if_neg h]; simp [h]
theorem ok_rows (D : DefAt K mg "_law_rows" s_L_rows ["_law_stream_here", "_law_many", "_law_kinds_here", "_law_prices_here"]) (Dn : DefAt K mg "_law_name" s_L_name ["_law_stream_here"]) (Dp : DefAt K mg "_law_pick" s_L_pick ["_law_stream_here", "_law_things"]) (Dd : DefAt K mg "_law_draw" s_L_draw ["_law_stream_here", "_law_many"]) (B : TxB mg) :
    FnOk P w K mg base CX0 5 D.f D.fd ["_law_stream_here", "_law_many", "_law_kinds_here", "_law_prices_here"] (spRows K) := by
  have Gp : FnOk P w K mg base CX0 3 Dp.f Dp.fd ["_law_stream_here", "_law_things"] (spPick K) := ok_pick Dp Dd B
  have Gn : FnOk P w K mg base CX0 4 Dn.f Dn.fd ["_law_stream_here"] spName := ok_name Dn Dp Dd B
  refine D.F.ok sc_rows (fun vs H Q E h => ?_) (fun cdv A outer s H vs Q E hr h => ?_)
  · obtain ⟨a, kl, pl, many, n, ks, ps, rfl, _⟩ := h
    rfl
  · obtain ⟨a, kl, pl, many, n, ks, ps, rfl, hs, hn, hm0, hm1, hka, hpa, hks, hps, k1, k2, p1, p2, hkok, hpok, hq⟩ := h
    have hr2 : Room 3 _ := hr.mono (by decide)
    refine ⟨_, pss_cons (ps_par3 (i := 4) (j := 5) (l := 6) rfl sc_rows.nd rfl rfl rfl (by decide) (by decide) (by decide) rfl rfl rfl (pa_cons (pe_lst pa_nil) (pa_cons (pe_lst (pa_cons pe_str pa_nil)) (pa_cons (pe_lst (pa_cons pe_str pa_nil)) pa_nil))) (by rfl))
      (pss_cons (ps_for PassesOwn.never rfl (pi_range1 (by rfl) B.range (pa_cons (pv 1) pa_nil)) (pg_name (i := 7) sc_rows.nd rfl (Or.inl rfl))
        (pss_cons (ps_set (i := 8) sc_rows.nd rfl (.inl rfl) (pe_call Gn hr rfl Dn.g Dn.F.kp Dn.b .nil pass0 (pa_cons (pv 0) pa_nil)))
        (C8.pss_cut (ps_if (pt_cmpR op_in_seq (pv 8) (pv 6) (by rfl)) (pss_one (ps_set (i := 8) sc_rows.nd rfl (.inl rfl) (pe_op op_add_str (pe_op op_add_str pe_str (pe_item_str pe_str (pe_op op_mod (pv 7) pe_int) (fun _ _ => rfl))) (pe_item_str pe_str (pe_op op_mod (pe_op op_fdiv (pv 7) pe_int) pe_int) (fun _ _ => rfl))))) pss_nil)
        (pss_cons (ps_par (i := 9) (j := 10) rfl sc_rows.nd rfl rfl (by decide) rfl rfl (pa_cons (pe_call Gp hr2 rfl Dp.g Dp.F.kp Dp.b .nil pass0 (pa_cons (pv 0) (pa_cons (pv 2) pa_nil))) (pa_cons (pe_call Gp hr2 rfl Dp.g Dp.F.kp Dp.b .nil pass0 (pa_cons (pv 0) (pa_cons (pe_op op_cat (pe_slice sl_list (pv 5) (po_some (pe_un un_neg pe_int)) po_none) (pe_lst (pa_cons pe_str pa_nil))) pa_nil))) pa_nil)) (by rfl))
        (pss_one (ps_if (pt_cmpR op_notIn_seq (pv 8) (pv 6) (by rfl))
          (pss_cons (ps_expr (pe_bm PySem.F.plainAttrs_list PySem.F.slot_list_append PySem.F.type_list_append mt_append (pv 6) (pa_cons (pv 8) pa_nil)))
          (pss_cons (ps_expr (pe_bm PySem.F.plainAttrs_list PySem.F.slot_list_append PySem.F.type_list_append mt_append (pv 4) (pa_cons (pe_tup (pa_cons (pv 8) (pa_cons (pv 10) (pa_cons (pv 9) (pa_cons (pe_call Gp hr2 rfl Dp.g Dp.F.kp Dp.b .nil pass0 (pa_cons (pv 0) (pa_cons (pv 3) pa_nil))) pa_nil))))) pa_nil)))
          (pss_one (ps_expr (pe_bm PySem.F.plainAttrs_list PySem.F.slot_list_extend PySem.F.type_list_extend mt_extend (pv 5) (pa_cons (pe_ifExp (pt_cmpR op_eq (pv 9) pe_str (nomark _)) (pe_lst (pa_cons (pv 8) pa_nil)) (pe_lst pa_nil)) pa_nil)))))) pss_nil))))))
      (pss_one (ps_ret (pv 4)))), ?_⟩
    refine ⟨Nat.zero_le _, fun p hp => ⟨(by show 1 ≤ sizeLine; decide), fun fl hfl => ⟨(by show 1 ≤ sizeLine; decide), fun nl hnl => ⟨_, _, _, rfl, ?_⟩⟩⟩⟩
    have hpf : p ≠ fl := fun q => by rw [← q, upd_same] at hfl; cases hfl
    have hfn : fl ≠ nl := fun q => by rw [← q, upd_same] at hnl; cases hnl
    have hpn : p ≠ nl := fun q => by rw [← q, upd_ne hpf, upd_same] at hnl; cases hnl
    have sp : Same H (upd (upd (upd H p (.lst [])) fl (.lst [V.str ("top" : Str)])) nl (.lst [V.str ("top" : Str)])) := (Same.new hp).trans ((Same.new hfl).trans (Same.new hnl))
    have pa : p ≠ a := (hs.ne hp).symm
    have fa : fl ≠ a := ((hs.upd hp).ne hfl).symm
    have na : nl ≠ a := (((hs.upd hp).upd hfl).ne hnl).symm
    refine ⟨_, rfl, many, rfl, by omega, by omega, ?_⟩
    refine for_range (lo := 0) (n := many.toNat) (fun i σ H' => ∃ (as : List Addr) (rs : List Row) (vk vn vki vf : Option V), σ = [some (.ref a), some (.int many), some (.ref kl), some (.ref pl), some (.ref p), some (.ref fl), some (.ref nl), vk, vn, vki, vf] ∧ RowsI a p fl nl H H' ks ps (n + 13 * i) i as rs) ?_ ?_ ?_
    · refine ⟨[], [], none, none, none, none, rfl, ⟨?_, ?_, upd_same, RowsAt.nil, Valid.nil, Nat.le_refl _, (fun r hr => by cases hr), SB.of sp, by simpa using hs.same sp⟩⟩
      · rw [upd_ne hpn, upd_ne hpf, upd_same]; rfl
      · rw [upd_ne hfn, upd_same]; rfl
    · rintro i σ H1 hi ⟨as, rs, vk, vn, vki, vf, rfl, R⟩
      have hi40 : i < 40 := by omega
      have hrl := R.len
      refine ⟨_, rfl, a, _, rfl, R.st, by omega, fun z H2 hz hs2 sb2 => ?_⟩
      have R2 := R.step pa fa na sb2 hs2 (Nat.le_refl i)
      refine ⟨fun σ' H' => ∃ (z : Str), NameShape z ∧ σ' = [some (.ref a), some (.int many), some (.ref kl), some (.ref pl), some (.ref p), some (.ref fl), some (.ref nl), some (.int (0 + i)), some (.str z), vki, vf] ∧ H' = H2, ?_, ?_⟩
      · refine ⟨_, rfl, _, rfl, nl, _, rfl, .inl (SqL.of R2.hn), rfl, flat_strs _, _, rfl, ?_⟩
        refine ite2 (fun _ => ?_) (fun _ => ?_)
        · obtain ⟨c, hc, lc⟩ := sign_at low_aj (r := (0 + (i : Int)) % 10) (by omega) (by rw [len_aj]; omega)
          obtain ⟨d, hd, ld⟩ := sign_at low_kp (r := ((0 + (i : Int)) / 10) % 6) (by omega) (by rw [len_kp]; omega)
          refine ⟨_, rfl, _, _, rfl, rfl, (by show (0 : Int) < 10; decide), _, _, c, rfl, rfl, by omega, by omega, by rw [len_aj]; omega, hc, _, _, rfl, rfl, (by show 2 ≤ sizeLine; decide), ?_⟩
          refine ⟨_, rfl, _, _, rfl, rfl, ⟨by decide, by decide⟩, _, _, rfl, rfl, (by show (0 : Int) < 6; decide), _, _, d, rfl, rfl, by omega, by omega, by rw [len_kp]; omega, hd, _, _, rfl, rfl, (by show 3 ≤ sizeLine; decide), ?_⟩
          exact ⟨_, ⟨.inr (.inr (.inl (by rw [len_cat, len_cat, len_q]; rfl))), low_cat (low_cat low_q lc) ld⟩, rfl, rfl⟩
        · exact ⟨z, hz, rfl, rfl⟩
      · rintro σ' H' ⟨z, hz, rfl, rfl⟩
        refine ⟨_, rfl, _, rfl, .inl ⟨a, kl, _, _, rfl, R2.st, by omega, hka, R2.sb.seqL hka hks, by simpa using k1, by simp; omega, fun v H3 hv hs3 sb3 _ => ?_⟩⟩
        obtain ⟨ki, hki, rfl⟩ := List.mem_map.mp hv
        have R3 := R2.step pa fa na sb3 hs3 (Nat.le_refl i)
        refine ⟨_, rfl, _, rfl, _, rfl, _, rfl, fl, _, rfl, SqL.of R3.hf, fun q1 hq1 => ⟨(by show 1 ≤ sizeLine; decide), fun q2 hq2 => ?_⟩⟩
        have q12 : q1 ≠ q2 := fun e => by rw [← e, upd_same] at hq2; cases hq2
        have hcl := cutV_length ((("top" : Str) :: folderNames rs).map V.str) (some (-4)) none
        have hfle := folders_le rs
        refine ⟨q1, q2, _, _, rfl, rfl, by rw [upd_ne q12]; exact upd_same, upd_same, ?_, fun q3 hq3 => ?_⟩
        · refine szl ?_
          rw [List.length_map, List.length_cons] at hcl
          show _ + 1 ≤ 1000
          omega
        have s4 := (Same.new (o := .lst (cutV ((("top" : Str) :: folderNames rs).map V.str) (some (-4)) none)) hq1).trans ((Same.new (o := .lst [V.str ("top" : Str)]) hq2).trans (Same.new (o := .lst (cutV ((("top" : Str) :: folderNames rs).map V.str) (some (-4)) none ++ [V.str ("top" : Str)])) hq3))
        have R4 := R3.step pa fa na (SB.of s4) (hs3.same s4) (Nat.le_refl i)
        have q3a : q3 ≠ a := (((hs3.upd hq1).upd hq2).ne hq3).symm
        refine .inl ⟨a, q3, _, _, rfl, R4.st, by omega, q3a, SqL.of upd_same, by simp, ?_, fun v2 H5 hv2 hs5 sb5 _ => ?_⟩
        · rw [List.length_append]
          rw [List.length_map, List.length_cons] at hcl
          show _ + 1 ≤ 1000000
          omega
        obtain ⟨fo, hfo, rfl⟩ : ∃ fo : Str, (fo = ("top" : Str) ∨ fo ∈ folderNames rs) ∧ v2 = .str fo := by
          rcases List.mem_append.mp hv2 with h | h
          · obtain ⟨fo, h1, rfl⟩ := List.mem_map.mp (mem_cutV h)
            exact ⟨fo, List.mem_cons.mp h1, rfl⟩
          · exact ⟨_, .inl rfl, List.mem_singleton.mp h⟩
        have R5 := R4.step pa fa na sb5 hs5 (Nat.le_refl i)
        refine ⟨_, _, rfl, _, rfl, _, rfl, nl, _, rfl, .inl (SqL.of R5.hn), rfl, flat_strs _, _, rfl, ?_⟩
        have hin : (if true = true then !inV (.str z) ((("top" : Str) :: rs.map (·.nm)).map V.str) else inV (.str z) ((("top" : Str) :: rs.map (·.nm)).map V.str)) = !decide (z ∈ (("top" : Str) :: rs.map (·.nm))) := by
          rw [if_pos rfl, inV_strs]
        refine ite2 (fun hc => ?_) (fun _ => ?_)
        · have hc' : (if true = true then !inV (.str z) ((("top" : Str) :: rs.map (·.nm)).map V.str) else inV (.str z) ((("top" : Str) :: rs.map (·.nm)).map V.str)) = true := hc
          rw [hin] at hc'
          have hz' : z ∉ (("top" : Str) :: rs.map (·.nm)) := by simpa using hc'
          have l41 : ((("top" : Str) :: rs.map (·.nm)).map V.str).length ≤ 1000 := by rw [List.length_map, List.length_cons, List.length_map]; omega
          refine ⟨_, rfl, .inl ⟨rfl, _, SqL.of R5.hn⟩, _, rfl, nl, _, _, rfl, rfl, R5.hn, small1000 l41, ?_⟩
          have n1 : ∀ {b : Addr}, b ≠ nl → (upd H5 nl (.lst ((("top" : Str) :: rs.map (·.nm)).map V.str ++ [V.str z]))) b = H5 b := fun h => upd_ne h
          have st6 : Stm (upd H5 nl (.lst ((("top" : Str) :: rs.map (·.nm)).map V.str ++ [V.str z]))) a (n + 13 * (i : Int) + 9 + 1 + 1) := by
            obtain ⟨x, y, u, e, r⟩ := R5.st
            exact ⟨x, y, u, by rw [n1 na.symm]; exact e, r⟩
          have sb6 : SB a H (upd H5 nl (.lst ((("top" : Str) :: rs.map (·.nm)).map V.str ++ [V.str z]))) := fun b o hb e => by
            rw [n1 (fun q => by rw [q] at e; have := sp _ _ e; rw [upd_same] at this; have h2 := (Same.new (o := .lst []) hp).trans (Same.new (o := .lst [V.str ("top" : Str)]) hfl); have h3 := h2.free hnl; rw [h3] at e; cases e)]
            exact R5.sb b o hb e
          refine ⟨_, rfl, .inl ⟨rfl, _, SqL.of (by rw [n1 hpn]; exact R5.hp)⟩, _, rfl, _, rfl, _, rfl, _, rfl, _, rfl, .inl ⟨a, pl, _, _, rfl, st6, by omega, hpa, sb6.seqL hpa hps, by simpa using p1, by simp; omega, fun v3 H7 hv3 hs7 sb7 _ => ?_⟩⟩
          obtain ⟨pr, hpr, rfl⟩ := List.mem_map.mp hv3
          refine ⟨(by show 4 ≤ sizeLine; decide), fun t ht => ?_⟩
          have hp7 : H7 p = some (.lst (as.map V.ref)) := sb7 _ _ pa (by rw [n1 hpn]; exact R5.hp)
          have hf7 : H7 fl = some (.lst ((("top" : Str) :: folderNames rs).map V.str)) := sb7 _ _ fa (by rw [n1 hfn]; exact R5.hf)
          have hn7 : H7 nl = some (.lst ((("top" : Str) :: rs.map (·.nm)).map V.str ++ [V.str z])) := sb7 _ _ na upd_same
          have tp : p ≠ t := ne_of_none hp7 ht
          have tf : fl ≠ t := ne_of_none hf7 ht
          have tn : nl ≠ t := ne_of_none hn7 ht
          have ta : a ≠ t := hs7.ne ht
          have rows7 : RowsAt H7 as rs := ⟨R5.rows.len, fun j b r hb hr => sb7 _ _ (fun q => by
            obtain ⟨x, y, u, e, _⟩ := R5.st
            have e2 := R5.rows.at_ j b r hb hr
            rw [q, e] at e2; cases e2) (by rw [n1 (fun q => by have e2 := R5.rows.at_ j b r hb hr; rw [q, R5.hn] at e2; cases e2)]; exact R5.rows.at_ j b r hb hr)⟩
          have al : (as.map V.ref).length ≤ 1000 := by rw [List.length_map, R5.rows.len]; omega
          refine ⟨p, _, _, rfl, rfl, by rw [upd_ne tp]; exact hp7, small1000 al, ?_⟩
          have g : ∀ {b : Addr}, b ≠ p → b ≠ t → (upd (upd H7 t (.tup (rowVs ⟨z, fo, ki, pr⟩))) p (.lst (as.map V.ref ++ [V.ref t]))) b = H7 b := fun h1 h2 => by rw [upd_ne h1, upd_ne h2]
          refine ⟨_, rfl, .inl ⟨rfl, _, SqL.of (Eq.trans (g hpf.symm tf) hf7)⟩, _, rfl, rfl, _, rfl, ?_⟩
          have fits : Fits rs ⟨z, fo, ki, pr⟩ := ⟨hz, fun q => hz' (List.mem_cons.mpr (.inl q)), fun q => hz' (List.mem_cons.mpr (.inr q)), hfo.imp id mem_folders, hkok ki hki, hpok pr hpr⟩
          have fin : ∀ (e : List Str) (q : Addr) (H8 : Hp), (if ki = ("folder" : Str) then [z] else []) = e → H8 = upd (upd (upd H7 t (.tup (rowVs ⟨z, fo, ki, pr⟩))) p (.lst (as.map V.ref ++ [V.ref t]))) q (.lst (e.map V.str)) → (upd (upd H7 t (.tup (rowVs ⟨z, fo, ki, pr⟩))) p (.lst (as.map V.ref ++ [V.ref t]))) q = none →
              RowsI a p fl nl H (upd H8 fl (.lst ((("top" : Str) :: folderNames rs).map V.str ++ e.map V.str))) ks ps (n + 13 * ((i + 1 : Nat) : Int)) (i + 1) (as ++ [t]) (rs ++ [⟨z, fo, ki, pr⟩]) := by
            rintro e q H8 he rfl hq0
            have qp : p ≠ q := fun x => by rw [← x, upd_same] at hq0; cases hq0
            have qf : fl ≠ q := ne_of_none (Eq.trans (g hpf.symm tf) hf7) hq0
            have qn : nl ≠ q := ne_of_none (Eq.trans (g hpn.symm tn) hn7) hq0
            have qt : t ≠ q := fun x => by rw [← x, upd_ne tp.symm, upd_same] at hq0; cases hq0
            have qa : a ≠ q := fun x => by
              obtain ⟨x1, y1, u1, e1, _⟩ := hs7
              rw [← x, g pa.symm ta, e1] at hq0; cases hq0
            have k1 : ∀ {b : Addr}, b ≠ fl → b ≠ q → b ≠ p → b ≠ t → (upd (upd (upd (upd H7 t (.tup (rowVs ⟨z, fo, ki, pr⟩))) p (.lst (as.map V.ref ++ [V.ref t]))) q (.lst (e.map V.str))) fl (.lst ((("top" : Str) :: folderNames rs).map V.str ++ e.map V.str))) b = H7 b := fun h1 h2 h3 h4 => by rw [upd_ne h1, upd_ne h2, upd_ne h3, upd_ne h4]
            have rowsT : ∀ {b : Addr} {xs : List V}, H7 b = some (.tup xs) → (upd (upd (upd (upd H7 t (.tup (rowVs ⟨z, fo, ki, pr⟩))) p (.lst (as.map V.ref ++ [V.ref t]))) q (.lst (e.map V.str))) fl (.lst ((("top" : Str) :: folderNames rs).map V.str ++ e.map V.str))) b = some (.tup xs) := fun {b xs} h => by
              rw [k1 (ne_of h hf7 (by intro x; cases x)).symm.symm (fun x => by
                have : (upd (upd H7 t (.tup (rowVs ⟨z, fo, ki, pr⟩))) p (.lst (as.map V.ref ++ [V.ref t]))) b = some (.tup xs) := by rw [g (fun y => by rw [y, hp7] at h; cases h) (ne_of_none h ht)]; exact h
                rw [x, hq0] at this; cases this) (fun y => by rw [y, hp7] at h; cases h) (ne_of_none h ht)]
              exact h
            refine ⟨?_, ?_, ?_, RowsAt.snoc ⟨rows7.len, fun j b r hb hr => rowsT (rows7.at_ j b r hb hr)⟩ ?_, R5.val.snoc fits, by simp; omega, fun r hr => ?_, fun b o hb eb => ?_, ?_⟩
            · rw [upd_ne hpf, upd_ne qp, upd_same]; simp
            · rw [upd_same, folders_snoc]
              simp only [] at he ⊢
              rw [he]
              simp
            · rw [k1 hfn.symm qn hpn.symm tn, hn7]; simp
            · rw [upd_ne tf.symm, upd_ne qt, upd_ne tp.symm, upd_same]
            · rcases List.mem_append.mp hr with h | h
              · exact R5.mem r h
              · rw [List.mem_singleton.mp h]; exact ⟨hki, hpr⟩
            · have e0 := sb7 b o hb (sb6 b o hb eb)
              have h2 := (Same.new (o := .lst []) hp).trans (Same.new (o := .lst [V.str ("top" : Str)]) hfl)
              rw [k1 (fun x => by rw [x, (Same.new (o := .lst []) hp).free hfl] at eb; cases eb) (fun x => by
                rw [x] at e0 eb
                rw [upd_ne (fun y => by rw [y, hp] at eb; cases eb), upd_ne (ne_of_none e0 ht), e0] at hq0; cases hq0) (fun x => by rw [x, hp] at eb; cases eb) (ne_of_none e0 ht)]
              exact e0
            · obtain ⟨x1, y1, u1, e1, r1⟩ := hs7
              exact ⟨x1, y1, u1, by rw [k1 fa.symm qa pa.symm ta]; exact e1, r1.1, r1.2.1, r1.2.2.1, r1.2.2.2.1, by have := r1.2.2.2.2; push_cast; omega⟩
          have fl41 : ∀ e : List Str, e.length ≤ 1 → ((("top" : Str) :: folderNames rs).map V.str).length + (e.map V.str).length ≤ sizeLine := fun e he => szl (by rw [List.length_map, List.length_cons, List.length_map]; omega)
          refine ite2 (fun hk => ?_) (fun hk => ?_)
          · have hk' : ki = ("folder" : Str) := by have := of_decide_eq_true hk; exact V.str.inj this
            refine ⟨_, rfl, (by show 1 ≤ sizeLine; decide), fun q hq0 => ?_⟩
            have qf : fl ≠ q := ne_of_none (Eq.trans (g hpf.symm tf) hf7) hq0
            refine ⟨fl, q, _, _, rfl, rfl, (by rw [upd_ne qf]; exact Eq.trans (g hpf.symm tf) hf7), upd_same, fl41 [z] (Nat.le_refl _), ?_⟩
            exact ⟨_, _, _, _, _, _, rfl, fin [z] q _ (if_pos hk') rfl hq0⟩
          · have hk' : ¬ ki = ("folder" : Str) := fun x => hk (decide_eq_true (by rw [x]))
            refine ⟨Nat.zero_le _, fun q hq0 => ?_⟩
            have qf : fl ≠ q := ne_of_none (Eq.trans (g hpf.symm tf) hf7) hq0
            refine ⟨fl, q, _, _, rfl, rfl, (by rw [upd_ne qf]; exact Eq.trans (g hpf.symm tf) hf7), upd_same, fl41 [] (Nat.zero_le _), ?_⟩
            exact ⟨_, _, _, _, _, _, rfl, fin [] q _ (if_neg hk') rfl hq0⟩
        · exact ⟨as, rs, _, _, _, _, rfl, R5.step pa fa na (SB.refl _ _) (R5.st.mono (by push_cast; omega)) (Nat.le_succ i)⟩
    · rintro σ H1 ⟨as, rs, vk, vn, vki, vf, rfl, R⟩
      have e : ((many.toNat : Nat) : Int) = many := by omega
      exact ⟨_, rfl, hq p as rs H1 hp pa R.hp R.rows R.val (by have := R.len; omega) R.mem R.sb (by have := R.st; rw [e] at this; exact this)⟩
end
end Ts

set_option maxRecDepth 100000
set_option maxHeartbeats 4000000
namespace Ts
open PySem L2
theorem abc_uni : ∀ c ∈ List.range' 97 26, Unicode.isAlpha c = true ∧ Unicode.isLower c = true ∧ Unicode.isUpper c = false ∧ Unicode.isTitle c = false := by decide +kernel
theorem uni {c : Nat} (h : 97 ≤ c ∧ c ≤ 122) : Unicode.isAlpha c = true ∧ Unicode.isLower c = true ∧ Unicode.isUpper c = false ∧ Unicode.isTitle c = false :=
  abc_uni c (List.mem_range'_1.mpr ⟨h.1, by omega⟩)
theorem low_ascii {z : Str} (h : Low z) : Txt.isascii z = true := by
  unfold Txt.isascii
  rw [← Array.all_toList, List.all_eq_true]
  intro c hc
  have := h c hc
  simp; omega
theorem low_alpha {z : Str} (h : Low z) (h1 : 1 ≤ z.length) : Txt.isalpha z = true := by
  unfold Txt.isalpha
  rw [← Array.all_toList, Bool.and_eq_true, List.all_eq_true]
  exact ⟨decide_eq_true (by omega), fun c hc => (uni (h c hc)).1⟩
theorem low_lower {z : Str} (h : Low z) (h1 : 1 ≤ z.length) : Txt.islower z = true := by
  unfold Txt.islower
  rw [← Array.any_toList, ← Array.any_toList, Bool.and_eq_true]
  refine ⟨?_, ?_⟩
  · rw [List.any_eq_true]
    have hl : 0 < z.cps.toList.length := by rw [← len_toList]; omega
    exact ⟨z.cps.toList[0], List.getElem_mem hl, (uni (h _ (List.getElem_mem hl))).2.1⟩
  · rw [Bool.not_eq_true', List.any_eq_false]
    intro c hc
    have := uni (h c hc)
    simp [this.2.2.1, this.2.2.2]
theorem NameShape.pos {z : Str} (h : NameShape z) : 1 ≤ z.length ∧ z.length ≤ 8 := by have := h.1; omega
structure TxC (K : PySem.W.Frag) (mg : Str → Option Value) where
  top : ∃ t, mg "TOP" = some (.str "top" t)
  folder : ∃ t, mg "FOLDER" = some (.str "folder" t)
  long : ∃ t, mg "LONGEST_NAME" = some (.int 8 t)
  kindsA : Addr
  kinds : mg "KINDS" = some (.ref kindsA)
  num : DefAt K mg "is_number" s_is_number ["thing", "least"]
  kindsT : ∃ (o : Obj) (its : Array Value) (n : Nat), K.lookup kindsA = some o ∧ o.cls = .type "tuple" ∧ o.data = .seq its n ∧ its.size ≤ sizeLine ∧ Vals (kinds3.map V.str) its.toList
def spIsName : Sp := fun vs H Q _ => ∃ z, vs = [.str z] ∧ NameShape z ∧ z ≠ ("top" : Str) ∧ Q (.bl true) H
def spIsNumber : Sp := fun vs H Q _ => ∃ i n : Int, vs = [.int i, .int n] ∧ Q (.bl (decide (n ≤ i))) H
def spIsPrice : Sp := fun vs H Q _ => ∃ o, vs = [prV o] ∧ PriceOk o ∧ Q (.bl true) H
section
variable {P : Program} {w : World} {K : PySem.W.Frag} {mg : Str → Option Value} {base : Heap}
theorem sc_is_name : FnScope ["thing"] ["thing"] (defScope s_is_name) := ⟨rfl, rfl, rfl, by decide +kernel, rfl, by decide +kernel, by decide +kernel⟩
theorem ok_is_name (D : DefAt K mg "is_name" s_is_name ["thing"]) (B : TxB mg) (C : TxC K mg) : FnOk P w K mg base CX0 2 D.f D.fd ["thing"] spIsName := by
  obtain ⟨t1, gT⟩ := C.top
  obtain ⟨t2, gL⟩ := C.long
  refine D.F.ok sc_is_name (fun vs H Q E h => ?_) (fun cdv A outer s H vs Q E hr h => ?_)
  · obtain ⟨z, rfl, _⟩ := h
    rfl
  · obtain ⟨z, rfl, hz, ht, hq⟩ := h
    refine ⟨_, pss_cons (ps_if (PW.pt (pw_or (pt_not (pt_val (pe_callB call_isi (by rfl) B.isinstance (by decide +kernel) (pa_cons (pv 0) (pa_cons (pe_bltn (by rfl) B.str (by decide +kernel) (v := .ty "str") rfl) pa_nil)))))
        (pw_or (pt_cmpR op_eq (pv 0) (pe_glob (by rfl) gT (v := .str ("top" : Str)) ⟨_, rfl⟩) (nomark _)) (pw_or1 (pt_cmpR op_gt (pe_callB call_len (by rfl) B.len PySem.boot_len (pa_cons (pv 0) pa_nil)) (pe_glob (by rfl) gL (v := .int 8) ⟨_, rfl⟩) (nomark _)))))) (pss_one (ps_ret pe_bl)) pss_nil)
      (pss_one (ps_ret (pe_and (pe_m0 PySem.F.slot_str_isascii PySem.F.type_str_isascii mt_isascii (pv 0)) (pe_and (pe_m0 PySem.F.slot_str_isalpha PySem.F.type_str_isalpha mt_isalpha (pv 0)) (pe_one (pe_m0 PySem.F.slot_str_islower PySem.F.type_str_islower mt_islower (pv 0))))))), ?_⟩
    have hp := hz.pos
    refine ⟨_, rfl, _, _, _, _, true, rfl, .ty "str", .base (.str z), kit_ty (by decide +kernel), _, rfl, iteF ?_⟩
    refine ⟨_, rfl, rfl, _, rfl, ?_⟩
    rw [decide_eq_false (fun q => ht (V.str.inj q))]
    refine iteF ?_
    refine ⟨_, rfl, _, z.length, rfl, ⟨szl (by omega), rfl⟩, _, _, rfl, rfl, _, rfl, ?_⟩
    rw [decide_eq_false (by omega)]
    refine iteF ?_
    refine ⟨_, rfl, ⟨_, rfl⟩, _, rfl, rfl, trivial, _, rfl, ?_⟩
    rw [low_ascii hz.2]
    refine iteT ⟨_, rfl, ⟨_, rfl⟩, _, rfl, rfl, trivial, _, rfl, ?_⟩
    rw [low_alpha hz.2 hp.1]
    refine iteT ⟨_, rfl, ⟨_, rfl⟩, _, rfl, rfl, trivial, ?_⟩
    rw [low_lower hz.2 hp.1]
    exact hq
theorem sc_is_number : FnScope ["thing", "least"] ["thing", "least"] (defScope s_is_number) := ⟨rfl, rfl, rfl, by decide +kernel, rfl, by decide +kernel, by decide +kernel⟩
theorem ok_is_number (D : DefAt K mg "is_number" s_is_number ["thing", "least"]) (B : TxB mg) : FnOk P w K mg base CX0 1 D.f D.fd ["thing", "least"] spIsNumber := by
  refine D.F.ok sc_is_number (fun vs H Q E h => ?_) (fun cdv A outer s H vs Q E hr h => ?_)
  · obtain ⟨z, n, rfl, _⟩ := h
    rfl
  · obtain ⟨i, n, rfl, hq⟩ := h
    refine ⟨_, (pss_one (ps_ret (pe_and (pe_callB call_isi (by rfl) B.isinstance (by decide +kernel) (pa_cons (pv 0) (pa_cons (pe_bltn (by rfl) B.int (by decide +kernel) (v := .ty "int") rfl) pa_nil)))
        (pe_and (pe_not (pe_callB call_isi (by rfl) B.isinstance (by decide +kernel) (pa_cons (pv 0) (pa_cons (pe_bltn (by rfl) B.bool (by decide +kernel) (v := .ty "bool") rfl) pa_nil)))) (pe_one (pe_cmpR op_ge (pv 0) (pv 1) (nomark _))))))), ?_⟩
    refine ⟨_, rfl, _, _, _, _, true, rfl, .ty "int", .base (.int i), kit_ty (by decide +kernel), _, rfl, iteT ?_⟩
    refine ⟨_, rfl, _, _, _, _, false, rfl, .ty "bool", .base (.int i), kit_ty (by decide +kernel), _, rfl, _, rfl, iteT ?_⟩
    exact ⟨_, rfl, _, rfl, _, _, rfl, rfl, hq⟩
theorem sc_is_price : FnScope ["thing"] ["thing"] (defScope s_is_price) := ⟨rfl, rfl, rfl, by decide +kernel, rfl, by decide +kernel, by decide +kernel⟩
theorem ok_is_price (D : DefAt K mg "is_price" s_is_price ["thing"]) (B : TxB mg) (C : TxC K mg) : FnOk P w K mg base CX0 2 D.f D.fd ["thing"] spIsPrice := by
  have Gn : FnOk P w K mg base CX0 1 C.num.f C.num.fd ["thing", "least"] spIsNumber := ok_is_number C.num B
  refine D.F.ok sc_is_price (fun vs H Q E h => ?_) (fun cdv A outer s H vs Q E hr h => ?_)
  · obtain ⟨z, rfl, _⟩ := h
    rfl
  · obtain ⟨o, rfl, ho, hq⟩ := h
    refine ⟨_, (pss_one (ps_ret (pe_or (pe_cmpR op_isN (pv 0) pe_non (nomark _)) (pe_one (pe_call Gn hr rfl C.num.g C.num.F.kp C.num.b .nil pass0 (pa_cons (pv 0) (pa_cons pe_int pa_nil))))))), ?_⟩
    cases o with
    | none =>
      refine ⟨_, rfl, rfl, _, rfl, ?_⟩
      exact iteT hq
    | some i =>
      refine ⟨_, rfl, rfl, _, rfl, ?_⟩
      refine iteF ⟨_, rfl, i, 1, rfl, ?_⟩
      have hi : 1 ≤ i := ho
      rw [decide_eq_true hi]
      exact hq
end
end Ts

set_option maxRecDepth 100000
set_option maxHeartbeats 4000000
namespace Ts
open PySem L2
theorem kit_seqL {K : PySem.W.Frag} : PySem.W.kitAny K (.type "list") [.type "list", .type "tuple"] = some true := kitAny_cons (b := true) (kit_ty (by decide +kernel)) (fun e => nomatch e) fun _ => rfl
theorem kit_seqT {K : PySem.W.Frag} : PySem.W.kitAny K (.type "tuple") [.type "list", .type "tuple"] = some true := kitAny_cons (b := false) (kit_ty (by decide +kernel)) (fun _ => kitAny_cons (b := true) (kit_ty (by decide +kernel)) (fun e => nomatch e) fun _ => rfl) fun e => nomatch e
/-- a list or a tuple, made at run time -/
def Seq (H : Hp) (a : Addr) (xs : List V) : Prop := H a = some (.tup xs) ∨ H a = some (.lst xs)
theorem Seq.same {H H' : Hp} {a : Addr} {xs : List V} (h : Seq H a xs) (s : Same H H') : Seq H' a xs := h.imp (s _ _) (s _ _)
theorem Seq.ty {K : PySem.W.Frag} {H : Hp} {a : Addr} {xs : List V} (h : Seq H a xs) : ∃ t, TyX K H (.ref a) t ∧ PySem.W.kitAny K t [.type "list", .type "tuple"] = some true := by
  rcases h with h | h
  · exact ⟨_, .base (.tup h), kit_seqT⟩
  · exact ⟨_, .base (.lst h), kit_seqL⟩
theorem Seq.or {K : PySem.W.Frag} {H : Hp} {a : Addr} {xs : List V} (h : Seq H a xs) : SqL K H a xs ∨ SqT K H a xs := by
  rcases h with h | h
  · exact .inr (.inl (.inl h))
  · exact .inl (SqL.of h)
theorem sqT {K : PySem.W.Frag} {H : Hp} {a : Addr} {xs : List V} (h : H a = some (.tup xs)) : SqT K H a xs := .inl (.inl h)
/-- enumerate(x), x a list or a tuple in slot i -/
def iEnumS (i : Nat) : TI := fun σ H R => ∃ (a : Addr) (xs : List V), σ[i]? = some (some (.ref a)) ∧ Seq H a xs ∧ ∀ J, Walk J xs.length (fun H' => H' a = H a) (YPair (fun j => some (.int (j : Nat))) (fun j => xs[j]?)) → R J H
theorem pi_enumS {X : Cx} {x : Str} {px : Pos} {i : Nat} {p pos tpos : Pos} {elts : List Expr} {kk : Nat} (hg : Gl X "enumerate") (hm : X.mg "enumerate" = none) (he : PE X (.Name x px) (tVar i)) :
    PI X (.Tuple elts kk tpos) (.Call (.Name "enumerate" p) [.Name x px] [] pos) (iEnumS i) := by
  refine ⟨fun pins s σ H R I h => ?_⟩
  obtain ⟨a, xs, e1, hq, k⟩ := h
  rcases hq with hq | hq
  · exact (pi_enumT hg hm (pa_cons he pa_nil)).run pins s σ H R I ⟨_, e1, a, xs, rfl, sqT hq, k _ (walk_enumT.mono (fun H' e => sqT (e.trans hq)) fun _ _ _ _ _ _ y => y)⟩
  · exact (pi_enum hg hm (pa_cons he pa_nil)).run pins s σ H R I ⟨_, e1, a, xs, rfl, SqL.of hq, k _ (walk_enum.mono (fun H' e => SqL.of (e.trans hq)) fun _ _ _ _ _ _ y => y)⟩
/-- x itself, a list or a tuple in slot i -/
def iSeqS (i : Nat) : TI := fun σ H R => ∃ (a : Addr) (xs : List V), σ[i]? = some (some (.ref a)) ∧ Seq H a xs ∧ ∀ J, Walk J xs.length (fun H' => H' a = H a) (YAt xs) → R J H
theorem pi_seqS {X : Cx} {e tg : Expr} {i : Nat} (he : PE X e (tVar i)) : PI X tg e (iSeqS i) := by
  refine ⟨fun pins s σ H R I h => ?_⟩
  obtain ⟨a, xs, e1, hq, k⟩ := h
  rcases hq with hq | hq
  · exact (pi_tup he).run pins s σ H R I ⟨_, e1, a, rfl, ⟨_, sqT hq⟩, k _ (walk_tup.mono (fun H' e => sqT (e.trans hq)) fun _ _ _ _ _ _ y => y)⟩
  · exact (pi_list he).run pins s σ H R I ⟨_, e1, a, rfl, ⟨_, SqL.of hq⟩, k _ (walk_list.mono (fun H' e => SqL.of (e.trans hq)) fun _ _ _ _ _ _ y => y)⟩
theorem take_more {α : Type} : ∀ {l : List α} {i : Nat} {x : α}, l[i]? = some x → l.take (i + 1) = l.take i ++ [x]
  | [], i, x, h => by simp at h
  | a :: l, 0, x, h => by
    have e : a = x := Option.some.inj h
    subst e
    rfl
  | a :: l, i + 1, x, h => by
    have ih := take_more (l := l) (i := i) (x := x) (by simpa using h)
    rw [List.take_succ_cons, ih]
    rfl
theorem fold_take {rs : List Row} {i : Nat} {r : Row} (h : rs[i]? = some r) : folderNames (rs.take (i + 1)) = folderNames (rs.take i) ++ (if r.ki = ("folder" : Str) then [r.nm] else []) := by
  rw [take_more h, folders_snoc]
def spIsRow : Sp := fun vs H Q _ => ∃ (a d1 d2 : Addr) (r : Row) (kv1 kv2 : List (Key × V)), vs = [.ref a, .ref d1, .ref d2] ∧ Seq H a (rowVs r) ∧ H d1 = some (.dK kv1) ∧ valV kv1 (.inr r.nm : Key) = none ∧ H d2 = some (.dK kv2) ∧ (valV kv2 (.inr r.fo : Key)).isSome = true ∧
  NameShape r.nm ∧ r.nm ≠ ("top" : Str) ∧ r.ki ∈ kinds3 ∧ PriceOk r.pr ∧ ∀ H', Same H H' → Q (.bl true) H'
def spCheckRows (K : PySem.W.Frag) : Sp := fun vs H Q _ => ∃ (rw nm fo : Addr) (ns hs : List Str) (as : List Addr) (rs : List Row), vs = [.ref rw, .ref nm, .ref fo] ∧ Seq H rw (as.map V.ref) ∧ SeqRows H as rs ∧ SqT K H nm (ns.map V.str) ∧ SqT K H fo (hs.map V.str) ∧ rs.length ≤ 100 ∧ ns.length ≤ 100 ∧ hs.length ≤ 100 ∧
  (∀ i r, rs[i]? = some r → FitsB ns hs (rs.take i) r) ∧ ∀ H', Same H H' → Q .non H'
section
variable {P : Program} {w : World} {K : PySem.W.Frag} {mg : Str → Option Value} {base : Heap}
abbrev nIsRow : List Str := ["thing", "taken", "homes", "name", "folder", "kind", "price"]
theorem sc_is_row : FnScope nIsRow ["thing", "taken", "homes"] (defScope s_is_row) := ⟨rfl, rfl, rfl, by decide +kernel, rfl, by decide +kernel, by decide +kernel⟩
theorem ok_is_row (D : DefAt K mg "is_row" s_is_row ["thing", "taken", "homes"]) (Dn : DefAt K mg "is_name" s_is_name ["thing"]) (Dp : DefAt K mg "is_price" s_is_price ["thing"]) (B : TxB mg) (C : TxC K mg) : FnOk P w K mg base CX0 3 D.f D.fd ["thing", "taken", "homes"] spIsRow := by
  have Gn : FnOk P w K mg base CX0 2 Dn.f Dn.fd ["thing"] spIsName := ok_is_name Dn B C
  have Gp : FnOk P w K mg base CX0 2 Dp.f Dp.fd ["thing"] spIsPrice := ok_is_price Dp B C
  refine D.F.ok sc_is_row (fun vs H Q E h => ?_) (fun cdv A outer s H vs Q E hr h => ?_)
  · obtain ⟨a, d1, d2, r, kv1, kv2, rfl, _⟩ := h
    rfl
  · obtain ⟨a, d1, d2, r, kv1, kv2, rfl, ha, h1, v1, h2, v2, hn, ht, hk, hp, hq⟩ := h
    have hu := hu_of hr
    refine ⟨_, pss_cons (ps_if (PW.pt (pw_or (pt_not (pt_val (pe_callB call_isiT (by rfl) B.isinstance (by decide +kernel) (pa_cons (pv 0) (pa_cons (pe_tup (pa_cons (pe_bltn (by rfl) B.list (by decide +kernel) (v := .ty "list") rfl) (pa_cons (pe_bltn (by rfl) B.tuple (by decide +kernel) (v := .ty "tuple") rfl) pa_nil))) pa_nil)))))
        (pw_or1 (pt_cmpR op_ne (pe_callB call_len_seq (by rfl) B.len PySem.boot_len (pa_cons (pv 0) pa_nil)) pe_int (nomark _))))) (pss_one (ps_ret pe_bl)) pss_nil)
      (C8.pss_cut (ps_asg (pv 0) (pg_or (pg_tup rfl (pgs_cons (pg_name (i := 3) sc_is_row.nd rfl (.inl rfl)) (pgs_cons (pg_name (i := 4) sc_is_row.nd rfl (.inl rfl)) (pgs_cons (pg_name (i := 5) sc_is_row.nd rfl (.inl rfl)) (pgs_cons (pg_name (i := 6) sc_is_row.nd rfl (.inl rfl)) pgs_nil)))))
          (pg_unl rfl (pgs_cons (pg_name (i := 3) sc_is_row.nd rfl (.inl rfl)) (pgs_cons (pg_name (i := 4) sc_is_row.nd rfl (.inl rfl)) (pgs_cons (pg_name (i := 5) sc_is_row.nd rfl (.inl rfl)) (pgs_cons (pg_name (i := 6) sc_is_row.nd rfl (.inl rfl)) pgs_nil)))))))
      (pss_cons (ps_if (PW.pt (pw_or (pt_not (pt_val (pe_call Gn hr rfl Dn.g Dn.F.kp Dn.b .nil pass0 (pa_cons (pv 3) pa_nil)))) (pw_or1 (pt_cmp (pc_din hu (pv 3) (pv 1)))))) (pss_one (ps_ret pe_bl)) pss_nil)
      (pss_cons (ps_if (PW.pt (pw_or (pt_not (pt_val (pe_callB call_isi (by rfl) B.isinstance (by decide +kernel) (pa_cons (pv 4) (pa_cons (pe_bltn (by rfl) B.str (by decide +kernel) (v := .ty "str") rfl) pa_nil))))) (pw_or1 (pt_cmp (pc_dnotin hu (pv 4) (pv 2)))))) (pss_one (ps_ret pe_bl)) pss_nil)
      (pss_one (ps_ret (pe_and (pe_cmpR op_in_seq (pv 5) (pe_glob (by rfl) C.kinds (v := .ref C.kindsA) rfl) (by rfl)) (pe_one (pe_call Gp hr rfl Dp.g Dp.F.kp Dp.b .nil pass0 (pa_cons (pv 6) pa_nil)))))))))
      , ?_⟩
    refine ⟨_, rfl, (by show 2 ≤ sizeLine; decide), fun tp htp => ?_⟩
    have s1 : Same H (upd H tp (.tup [.ty "list", .ty "tuple"])) := Same.new htp
    obtain ⟨t, ty, kk⟩ := (ha.same s1).ty (K := K)
    refine ⟨_, tp, _, t, _, true, rfl, upd_same, .cons (.ty "list") (.cons (.ty "tuple") .nil), ty, kk, _, rfl, iteF ?_⟩
    refine ⟨_, rfl, a, _, rfl, (ha.same s1).or, rfl, _, rfl, ?_⟩
    refine iteF ?_
    have un : SqT K (upd H tp (.tup [.ty "list", .ty "tuple"])) a (rowVs r) ∨ SqL K (upd H tp (.tup [.ty "list", .ty "tuple"])) a (rowVs r) := (ha.same s1).or.symm
    refine ⟨fun σ' H' => σ' = [some (.ref a), some (.ref d1), some (.ref d2), some (.str r.nm), some (.str r.fo), some (.str r.ki), some (prV r.pr)] ∧ H' = upd H tp (.tup [.ty "list", .ty "tuple"]), ?_, ?_⟩
    · refine ⟨_, rfl, ?_⟩
      rcases un with un | un
      · exact .inl ⟨a, _, rfl, un, rfl, _, _, rfl, _, _, rfl, _, _, rfl, _, _, rfl, rfl, rfl, rfl⟩
      · exact .inr ⟨a, _, rfl, un, rfl, _, _, rfl, _, _, rfl, _, _, rfl, _, _, rfl, rfl, rfl, rfl⟩
    rintro σ' H' ⟨rfl, rfl⟩
    refine ⟨_, rfl, r.nm, rfl, hn, ht, _, rfl, iteF ?_⟩
    refine ⟨_, rfl, _, rfl, d1, _, rfl, DGet.k (k := Sum.inr r.nm) (s1 _ _ h1), _, rfl, ?_⟩
    rw [v1]
    refine iteF ?_
    refine ⟨_, rfl, _, _, _, _, true, rfl, .ty "str", .base (.str r.fo), kit_ty (by decide +kernel), _, rfl, iteF ?_⟩
    refine ⟨_, rfl, _, rfl, d2, _, rfl, DGet.k (k := Sum.inr r.fo) (s1 _ _ h2), _, rfl, ?_⟩
    rw [v2]
    refine iteF ?_
    refine ⟨_, rfl, C.kindsA, _, rfl, .inr (.inr C.kindsT), rfl, flat_strs _, _, rfl, ?_⟩
    have e : (if false = true then !inV (.str r.ki) (kinds3.map V.str) else inV (.str r.ki) (kinds3.map V.str)) = true := by
      rw [if_neg Bool.false_ne_true, inV_strs]
      exact decide_eq_true hk
    rw [e]
    exact iteT ⟨_, rfl, r.pr, rfl, hp, hq _ s1⟩
abbrev nCheckRows : List Str := ["rows", "names", "folders", "taken", "homes", "index", "row", "name", "folder", "kind", "price"]
theorem sc_check_rows : FnScope nCheckRows ["rows", "names", "folders"] (defScope s_check_rows) := ⟨rfl, rfl, rfl, by decide +kernel, rfl, by decide +kernel, by decide +kernel⟩
theorem ok_check_rows (D : DefAt K mg "check_rows" s_check_rows ["rows", "names", "folders"]) (Dr : DefAt K mg "is_row" s_is_row ["thing", "taken", "homes"]) (Dn : DefAt K mg "is_name" s_is_name ["thing"]) (Dp : DefAt K mg "is_price" s_is_price ["thing"]) (B : TxB mg) (C : TxC K mg) :
    FnOk P w K mg base CX0 4 D.f D.fd ["rows", "names", "folders"] (spCheckRows K) := by
  have Gr : FnOk P w K mg base CX0 3 Dr.f Dr.fd ["thing", "taken", "homes"] spIsRow := ok_is_row Dr Dn Dp B C
  obtain ⟨t1, gF⟩ := C.folder
  refine D.F.ok sc_check_rows (fun vs H Q E h => ?_) (fun cdv A outer s H vs Q E hr h => ?_)
  · obtain ⟨rw, nm, fo, ns, hs, as, rs, rfl, _⟩ := h
    rfl
  · obtain ⟨rw, nm, fo, ns, hs, as, rs, rfl, hrw, hrows, hnm, hfo, hl, hln, hlh, hfit, hq⟩ := h
    have hu := hu_of hr
    refine ⟨_, pss_cons (ps_if (pt_not (pt_val (pe_callB call_isiT (by rfl) B.isinstance (by decide +kernel) (pa_cons (pv 0) (pa_cons (pe_tup (pa_cons (pe_bltn (by rfl) B.list (by decide +kernel) (v := .ty "list") rfl) (pa_cons (pe_bltn (by rfl) B.tuple (by decide +kernel) (v := .ty "tuple") rfl) pa_nil))) pa_nil))))) (pss_one ps_never) pss_nil)
      (pss_cons (ps_setDc (i := 3) (own := [("name", 7)]) (g := gName 7) (tt := tYes) rfl sc_check_rows.nd rfl rfl (swd_true rfl rfl rfl (by decide +kernel)) (pi_tup (pv 1)) (blkOk_by (N := nCheckRows) (sc := defScope s_check_rows) (by decide +kernel))
        (fun _ _ _ _ _ => pg_name (i := 7) sc_check_rows.nd rfl (Or.inl rfl)) (fun _ _ _ _ _ => pts_nil) (fun _ _ _ _ _ => pv 7) (fun _ _ _ _ _ => pe_bl))
      (pss_cons (ps_setDc (i := 4) (own := [("folder", 8)]) (g := gName 8) (tt := tYes) rfl sc_check_rows.nd rfl rfl (swd_true rfl rfl rfl (by decide +kernel)) (pi_tup (pv 2)) (blkOk_by (N := nCheckRows) (sc := defScope s_check_rows) (by decide +kernel))
        (fun _ _ _ _ _ => pg_name (i := 8) sc_check_rows.nd rfl (Or.inl rfl)) (fun _ _ _ _ _ => pts_nil) (fun _ _ _ _ _ => pv 8) (fun _ _ _ _ _ => pe_bl))
      (pss_one (ps_for PassesOwn.never rfl (pi_enumS (by rfl) B.enumerate (pv 0)) (pg_tup rfl (pgs_cons (pg_name (i := 5) sc_check_rows.nd rfl (.inl rfl)) (pgs_cons (pg_name (i := 6) sc_check_rows.nd rfl (.inl rfl)) pgs_nil)))
        (pss_cons (ps_if (pt_not (pt_val (pe_call Gr hr rfl Dr.g Dr.F.kp Dr.b .nil pass0 (pa_cons (pv 6) (pa_cons (pv 3) (pa_cons (pv 4) pa_nil)))))) (pss_one ps_never) pss_nil)
        (C8.pss_cut (ps_asg (pv 6) (pg_or (pg_tup rfl (pgs_cons (pg_name (i := 7) sc_check_rows.nd rfl (.inl rfl)) (pgs_cons (pg_name (i := 8) sc_check_rows.nd rfl (.inl rfl)) (pgs_cons (pg_name (i := 9) sc_check_rows.nd rfl (.inl rfl)) (pgs_cons (pg_name (i := 10) sc_check_rows.nd rfl (.inl rfl)) pgs_nil)))))
          (pg_unl rfl (pgs_cons (pg_name (i := 7) sc_check_rows.nd rfl (.inl rfl)) (pgs_cons (pg_name (i := 8) sc_check_rows.nd rfl (.inl rfl)) (pgs_cons (pg_name (i := 9) sc_check_rows.nd rfl (.inl rfl)) (pgs_cons (pg_name (i := 10) sc_check_rows.nd rfl (.inl rfl)) pgs_nil)))))))
        (pss_cons (ps_dput hu (pv 3) (pv 7) pe_bl rfl)
        (pss_one (ps_if (pt_cmpR op_eq (pv 9) (pe_glob (by rfl) gF (v := .str ("folder" : Str)) ⟨_, rfl⟩) (nomark _)) (pss_one (ps_dput hu (pv 4) (pv 7) pe_bl rfl)) pss_nil)))))))))
      , ?_⟩
    refine ⟨_, rfl, (by show 2 ≤ sizeLine; decide), fun tp htp => ?_⟩
    have s1 : Same H (upd H tp (.tup [.ty "list", .ty "tuple"])) := Same.new htp
    obtain ⟨t, ty, kk⟩ := (hrw.same s1).ty (K := K)
    refine ⟨_, tp, _, t, _, true, rfl, upd_same, .cons (.ty "list") (.cons (.ty "tuple") .nil), ty, kk, _, rfl, iteF ?_⟩
    generalize upd H tp (.tup [.ty "list", .ty "tuple"]) = H1 at s1 ty
    have dict : ∀ (l : List Str) (td : Addr) (H1 H' : Hp) (i : Nat) (x : V), (l.map V.str)[i]? = some x → MemD H' td (l.take i) → ∃ (z : Str) (kv : List (Key × V)), x = .str z ∧ l[i]? = some z ∧ H' td = some (.dK kv) ∧ (∀ z : Str, (valV kv (.inr z : Key)).isSome = decide (z ∈ l.take i)) ∧ kv.length ≤ (l.take i).length := by
      intro l td H1 H' i x hx m
      rw [List.getElem?_map] at hx
      obtain ⟨z, hz, rfl⟩ := Option.map_eq_some_iff.mp hx
      obtain ⟨kv, e1, e2, e3⟩ := m.ex
      exact ⟨z, kv, rfl, hz, e1, e2, e3⟩
    refine ⟨_, rfl, nm, rfl, ⟨_, hnm.ext s1⟩, fun td htd => ?_⟩
    refine dc_tup (K := K) (a := nm) (xs := ns.map V.str) (fun i H' => Same H1 H' ∧ MemD H' td (ns.take i)) ⟨Same.new htd, [], upd_same, fun z => rfl, Nat.le_refl _⟩ (fun i H' _ m => hnm.ext (s1.trans m.1)) ?_ ?_
    · rintro i x H' hx ⟨sm, m⟩
      obtain ⟨z, kv, rfl, hz, e1, e2, e3⟩ := dict ns td H1 H' i x hx m
      refine ⟨rfl, tYes_if ⟨_, rfl, kv, .inr z, rfl, e1, small1000 (by rw [List.length_take] at e3; omega), fun b o e => ?_, ?_⟩⟩
      · rw [upd_ne (fun q => by rw [q, htd] at e; cases e)]
        exact sm b o e
      · rw [take_more hz]
        exact MemD.put e2 e3 z _
    · rintro H2 ⟨sm, m⟩
      rw [List.length_map, List.take_length] at m
      have s2 := s1.trans sm
      refine ⟨_, rfl, fo, rfl, ⟨_, hfo.ext s2⟩, fun hd hhd => ?_⟩
      have nth : td ≠ hd := by obtain ⟨kv, e1, _⟩ := m.ex; exact ne_of_none e1 hhd
      refine dc_tup (K := K) (a := fo) (xs := hs.map V.str) (fun i H' => Same H2 H' ∧ MemD H' hd (hs.take i)) ⟨Same.new hhd, [], upd_same, fun z => rfl, Nat.le_refl _⟩ (fun i H' _ m => hfo.ext (s2.trans m.1)) ?_ ?_
      · rintro i x H' hx ⟨sm, m⟩
        obtain ⟨z, kv, rfl, hz, e1, e2, e3⟩ := dict hs hd H2 H' i x hx m
        refine ⟨rfl, tYes_if ⟨_, rfl, kv, .inr z, rfl, e1, small1000 (by rw [List.length_take] at e3; omega), fun b o e => ?_, ?_⟩⟩
        · rw [upd_ne (fun q => by rw [q, hhd] at e; cases e)]
          exact sm b o e
        · rw [take_more hz]
          exact MemD.put e2 e3 z _
      · rintro H3 ⟨sm3, m3⟩
        rw [List.length_map, List.take_length] at m3
        have s3 := s2.trans sm3
        have mt : MemD H3 td ns := by
          obtain ⟨kv, e1, e⟩ := m.ex
          exact ⟨kv, sm3 _ _ e1, e⟩
        have ftd : H td = none := s1.free htd
        have fhd : H hd = none := s2.free hhd
        refine ⟨rw, _, rfl, hrw.same s3, fun J W => ?_⟩
        refine for_it W (fun i σ H' => ∃ (v5 v6 v7 v8 v9 v10 : Option V), σ = [some (.ref rw), some (.ref nm), some (.ref fo), some (.ref td), some (.ref hd), v5, v6, v7, v8, v9, v10] ∧ Same H H' ∧ H' rw = H3 rw ∧ MemD H' td (ns ++ (rs.take i).map (·.nm)) ∧ MemD H' hd (hs ++ folderNames (rs.take i))) ⟨none, none, none, none, none, none, rfl, s3, rfl, by simpa using mt, by simpa [folderNames] using m3⟩ (fun i σ H' _ ⟨_, _, _, _, _, _, _, _, e, _⟩ => e) ?_ ?_
        · rintro i x σ H4 H5 hi ⟨v5, v6, v7, v8, v9, v10, rfl, s4, e4, mt, mh⟩ ⟨T, xi, xr, rfl, hT, rfl, exi, exr⟩
          rw [List.length_map] at hi
          have exr' : (as.map V.ref)[i]? = some xr := exr
          rw [List.getElem?_map] at exr'
          obtain ⟨ra, hra, rfl⟩ := Option.map_eq_some_iff.mp exr'
          obtain ⟨r, hr'⟩ : ∃ r, rs[i]? = some r := ⟨rs[i]'(by rw [← hrows.len]; exact hi), List.getElem?_eq_getElem _⟩
          have fit := hfit i r hr'
          obtain rfl := Option.some.inj exi
          have s5 : Same H (upd H4 T (.tup [.int (i : Nat), .ref ra])) := s4.trans (Same.new hT)
          have rr : Seq (upd H4 T (.tup [.int (i : Nat), .ref ra])) ra (rowVs r) := Seq.same (hrows.at_ i ra r hra hr') s5
          obtain ⟨kt, et, pt, lt⟩ := mt.ex
          obtain ⟨kh, eh, ph, lh⟩ := mh.ex
          have nt : td ≠ T := ne_of_none et hT
          have nh : hd ≠ T := ne_of_none eh hT
          have i100 : i < 100 := by rw [← hrows.len] at hl; omega
          refine ⟨T, _, rfl, sqT upd_same, rfl, _, _, rfl, _, _, rfl, rfl, ?_⟩
          refine ⟨_, rfl, _, rfl, _, rfl, ra, td, hd, r, kt, kh, rfl, rr, by rw [upd_ne nt]; exact et, ?_, by rw [upd_ne nh]; exact eh, ?_, fit.shape, fit.top, fit.kind, fit.price, fun H6 s6 => ?_⟩
          · have q := pt r.nm
            rw [decide_eq_false fit.new] at q
            simpa using q
          · rw [ph r.fo]
            exact decide_eq_true fit.home
          refine ⟨_, rfl, iteF ?_⟩
          refine ⟨fun σ' H' => σ' = [some (.ref rw), some (.ref nm), some (.ref fo), some (.ref td), some (.ref hd), some (.int (i : Nat)), some (.ref ra), some (.str r.nm), some (.str r.fo), some (.str r.ki), some (prV r.pr)] ∧ H' = H6, ?_, ?_⟩
          · refine ⟨_, rfl, ?_⟩
            rcases rr.same s6 with un | un
            · exact .inl ⟨ra, _, rfl, sqT un, rfl, _, _, rfl, _, _, rfl, _, _, rfl, _, _, rfl, rfl, rfl, rfl⟩
            · exact .inr ⟨ra, _, rfl, SqL.of un, rfl, _, _, rfl, _, _, rfl, _, _, rfl, _, _, rfl, rfl, rfl, rfl⟩
          rintro σ' H' ⟨rfl, rfl⟩
          have et6 : H' td = some (.dK kt) := s6 _ _ (by rw [upd_ne nt]; exact et)
          have eh6 : H' hd = some (.dK kh) := s6 _ _ (by rw [upd_ne nh]; exact eh)
          have lt' : kt.length ≤ 300 := by
            rw [List.length_append, List.length_map, List.length_take] at lt; omega
          have lh' : kh.length ≤ 300 := by
            have := folders_le (rs.take i)
            rw [List.length_take] at this
            rw [List.length_append] at lh; omega
          refine ⟨_, rfl, _, rfl, td, _, rfl, DPut.k (k := Sum.inr r.nm) et6 (small1000 (by omega)), ?_⟩
          have s7 : Same H (upd H' td (.dK (putK kt (.inr r.nm) (.bl true)))) := fun b o e => by
            rw [upd_ne (fun q => by rw [q, ftd] at e; cases e)]
            exact s6 _ _ (s5 b o e)
          have mt7 : ns ++ (rs.take (i + 1)).map (·.nm) = ns ++ (rs.take i).map (·.nm) ++ [r.nm] := by rw [take_more hr', List.map_append, List.append_assoc]; rfl
          have mT : MemD (upd H' td (.dK (putK kt (.inr r.nm) (.bl true)))) td (ns ++ (rs.take (i + 1)).map (·.nm)) := by rw [mt7]; exact MemD.put pt lt _ _
          have rw4 : H4 rw = some (.tup (as.map V.ref)) ∨ H4 rw = some (.lst (as.map V.ref)) := hrw.same s4
          have keep : ∀ {b : Addr} {o : HO}, H4 b = some o → b ≠ td → (upd H' td (.dK (putK kt (.inr r.nm) (.bl true)))) b = some o := fun {b o} e nb => by
            rw [upd_ne nb]
            exact s6 _ _ (by rw [upd_ne (ne_of_none e hT)]; exact e)
          have ert : rw ≠ td := fun q => by rcases rw4 with z | z <;> (rw [q, et] at z; cases z)
          have erh : rw ≠ hd := fun q => by rcases rw4 with z | z <;> (rw [q, eh] at z; cases z)
          have erw : (upd H' td (.dK (putK kt (.inr r.nm) (.bl true)))) rw = H3 rw := by
            rw [← e4]
            rcases rw4 with z | z <;> (rw [z]; exact keep z ert)
          refine ⟨_, rfl, rfl, _, rfl, ?_⟩
          refine ite2 (fun hk => ?_) (fun hk => ?_)
          · have hk' : r.ki = ("folder" : Str) := V.str.inj (of_decide_eq_true hk)
            refine ⟨_, rfl, _, rfl, hd, _, rfl, DPut.k (k := Sum.inr r.nm) (Eq.trans (upd_ne nth.symm) eh6) (small1000 (by omega)), ?_⟩
            refine ⟨_, _, _, _, _, _, rfl, fun b o e => ?_, ?_, mT.same (upd_ne nth), ?_⟩
            · rw [upd_ne (fun q => by rw [q, fhd] at e; cases e)]
              exact s7 b o e
            · rw [upd_ne erh]; exact erw
            · rw [fold_take hr', if_pos hk', ← List.append_assoc]
              exact MemD.put ph lh _ _
          · have hk' : ¬ r.ki = ("folder" : Str) := fun q => hk (decide_eq_true (by rw [q]))
            refine ⟨_, _, _, _, _, _, rfl, s7, erw, mT, ?_⟩
            rw [fold_take hr', if_neg hk', List.append_nil]
            exact ⟨kh, Eq.trans (upd_ne nth.symm) eh6, ph, lh⟩
        · rintro σ H4 ⟨v5, v6, v7, v8, v9, v10, rfl, s4, _⟩
          exact hq _ s4
end
end Ts

set_option maxRecDepth 100000
set_option maxHeartbeats 4000000
namespace Ts
open PySem L2
/-! ### a tree as it stands -/
theorem qf_ : ¬ (("quads" : Str) = "folders") := by decide +kernel
theorem qk_ : ¬ (("quads" : Str) = "kinds") := by decide +kernel
theorem qp_ : ¬ (("quads" : Str) = "prices") := by decide +kernel
theorem fk_ : ¬ (("folders" : Str) = "kinds") := by decide +kernel
theorem fp_ : ¬ (("folders" : Str) = "prices") := by decide +kernel
theorem kp_ : ¬ (("kinds" : Str) = "prices") := by decide +kernel
def tf (q f k p : Addr) : List (Str × V) := putF "prices" (.ref p) (putF "kinds" (.ref k) (putF "folders" (.ref f) (putF "quads" (.ref q) [])))
theorem tf_q (q f k p : Addr) : (tf q f k p).lookup ("quads" : Str) = some (.ref q) := by
  unfold tf
  rw [lookup_putF, if_neg qp_, lookup_putF, if_neg qk_, lookup_putF, if_neg qf_, lookup_putF, if_pos rfl]
theorem tf_f (q f k p : Addr) : (tf q f k p).lookup ("folders" : Str) = some (.ref f) := by
  unfold tf
  rw [lookup_putF, if_neg fp_, lookup_putF, if_neg fk_, lookup_putF, if_pos rfl]
theorem tf_k (q f k p : Addr) : (tf q f k p).lookup ("kinds" : Str) = some (.ref k) := by
  unfold tf
  rw [lookup_putF, if_neg kp_, lookup_putF, if_pos rfl]
theorem tf_p (q f k p : Addr) : (tf q f k p).lookup ("prices" : Str) = some (.ref p) := by
  unfold tf
  rw [lookup_putF, if_pos rfl]
theorem tf_no (q f k p : Addr) {m : Str} (h1 : ¬ m = "quads") (h2 : ¬ m = "folders") (h3 : ¬ m = "kinds") (h4 : ¬ m = "prices") : (tf q f k p).lookup m = none := by
  unfold tf
  rw [lookup_putF, if_neg h4, lookup_putF, if_neg h3, lookup_putF, if_neg h2, lookup_putF, if_neg h1]
  rfl
theorem putF_len (n : Str) (v : V) : ∀ l : List (Str × V), (putF n v l).length ≤ l.length + 1
  | [] => Nat.le_refl _
  | p :: r => by
    have ih := putF_len n v r
    show (if p.1 = n then (p.1, v) :: r else p :: putF n v r).length ≤ _
    split
    · exact Nat.le_succ _
    · rw [List.length_cons, List.length_cons]; omega
def kvF (g : Row → V) (l : List Row) : List (Key × V) := l.map fun r => (.inr r.nm, g r)
theorem valV_kvF (g : Row → V) (z : Str) : ∀ l : List Row, valV (kvF g l) (.inr z : Key) = (l.find? fun r => decide (r.nm = z)).map g
  | [] => rfl
  | r :: l => by
    have ih := valV_kvF g z l
    by_cases e : r.nm = z
    · show valV ((.inr r.nm, g r) :: kvF g l) (.inr z : Key) = _
      rw [valV_pos (by rw [e]), List.find?_cons_of_pos (by simpa using e)]
      rfl
    · show valV ((.inr r.nm, g r) :: kvF g l) (.inr z : Key) = _
      rw [valV_neg (fun q => e (Sum.inr.inj q)), List.find?_cons_of_neg (by simpa using e)]
      exact ih
theorem find_none {l : List Row} {z : Str} (h : z ∉ l.map (·.nm)) : (l.find? fun r => decide (r.nm = z)) = none := by
  rw [List.find?_eq_none]
  intro r hr
  simp only [decide_eq_true_eq]
  exact fun q => h (List.mem_map.mpr ⟨r, hr, q⟩)
theorem kvF_more {g : Row → V} {rs : List Row} {i : Nat} {r : Row} (h : rs[i]? = some r) (hn : r.nm ∉ (rs.take i).map (·.nm)) : putK (kvF g (rs.take i)) (.inr r.nm) (g r) = kvF g (rs.take (i + 1)) := by
  rw [putK_new _ (by rw [valV_kvF, find_none hn]; rfl), take_more h]
  unfold kvF
  rw [List.map_append]
  rfl
structure TreeAt (C : Addr) (H : Hp) (t : Addr) (rs : List Row) : Prop where
  ex : ∃ (dx q f k p : Addr) (qs : List Addr), H t = some (.ins C dx (tf q f k p)) ∧ H q = some (.tup (qs.map V.ref)) ∧ RowsAt H qs rs ∧ H f = some (.dK (kvF (fun r => .str r.fo) rs)) ∧ H k = some (.dK (kvF (fun r => .str r.ki) rs)) ∧ H p = some (.dK (kvF (fun r => prV r.pr) rs))
  val : Valid rs
  len : rs.length ≤ 100
theorem TreeAt.same {C : Addr} {H H' : Hp} {t : Addr} {rs : List Row} (h : TreeAt C H t rs) (s : Same H H') : TreeAt C H' t rs := by
  obtain ⟨dx, q, f, k, p, qs, h1, h2, h3, h4, h5, h6⟩ := h.ex
  exact ⟨⟨dx, q, f, k, p, qs, s _ _ h1, s _ _ h2, h3.same s, s _ _ h4, s _ _ h5, s _ _ h6⟩, h.val, h.len⟩
structure TxT (K : PySem.W.Frag) (mg : Str → Option Value) (C : Addr) : Prop where
  cl : Cls K C
  nq : NoAttr K C "quads"
  nf : NoAttr K C "folders"
  nk : NoAttr K C "kinds"
  np : NoAttr K C "prices"
  g : mg "Tree" = some (.ref C)
def rTupOf (K : PySem.W.Frag) : List V → Hp → VK → Prop := fun xs H Q => ∃ p ys, xs = [V.ref p] ∧ ((SqL K H p ys ∧ ∀ l, H l = none → Q (V.ref l) (upd H l (.tup ys))) ∨ (SqT K H p ys ∧ Q (V.ref p) H))
def spTreeInit (C : Addr) : Sp := fun vs H Q _ => ∃ (t dx rw : Addr) (as : List Addr) (rs : List Row), vs = [.ref t, .ref rw] ∧ H t = some (.ins C dx []) ∧ Seq H rw (as.map V.ref) ∧ SeqRows H as rs ∧ rs.length ≤ 100 ∧ Valid rs ∧
  ∀ H', SB t H H' → TreeAt C H' t rs → Q .non H'
section
variable {P : Program} {w : World} {K : PySem.W.Frag} {mg : Str → Option Value} {base : Heap} {C : Addr}
abbrev nTreeInit : List Str := ["self", "rows", "row", "name", "folder", "kind", "price"]
theorem sc_Tree_init : FnScope nTreeInit ["self", "rows"] (defScope s_Tree_init) := ⟨rfl, rfl, rfl, by decide +kernel, rfl, by decide +kernel, by decide +kernel⟩
theorem ok_Tree_init {f : Addr} {fd : FuncData} (F : Fun K "__init__" "Tree.__init__" s_Tree_init f fd) (Dc : DefAt K mg "check_rows" s_check_rows ["rows", "names", "folders"]) (Gc : FnOk P w K mg base CX0 4 Dc.f Dc.fd ["rows", "names", "folders"] (spCheckRows K)) (B : TxB mg) (TC : TxC K mg) (T : TxT K mg C) :
    FnOk P w K mg base CX0 5 f fd ["self", "rows"] (spTreeInit C) := by
  obtain ⟨t1, gT⟩ := TC.top
  refine F.ok sc_Tree_init (fun vs H Q E h => ?_) (fun cdv A outer s H vs Q E hr h => ?_)
  · obtain ⟨t, dx, rw, as, rs, rfl, _⟩ := h
    rfl
  · obtain ⟨t, dx, rw, as, rs, rfl, ht, hrw, hrows, hl, hv, hq⟩ := h
    refine ⟨_, pss_cons (ps_expr (pe_call Gc hr rfl Dc.g Dc.F.kp Dc.b .nil pass0 (pa_cons (pv 1) (pa_cons (pe_tup pa_nil) (pa_cons (pe_tup (pa_cons (pe_glob (by rfl) gT (v := .str ("top" : Str)) ⟨_, rfl⟩) pa_nil)) pa_nil)))))
      (pss_cons (ps_fld (pv 0) (pe_callTy call_tuple_of (by rfl) B.tuple (by decide +kernel) (pa_cons (pe_lc (own := [("row", 2)]) (g := gName 2) (tt := tYes) (te := tCB (rTupOf K) (tCons (tVar 2) tNil)) rfl sc_Tree_init.nd (pi_seqS (i := 1) (pv 1)) (blkOk_by (N := nTreeInit) (sc := defScope s_Tree_init) (by decide +kernel))
          (fun _ _ _ _ _ => pg_name (i := 2) sc_Tree_init.nd rfl (Or.inl rfl)) (fun _ _ _ _ _ => pts_nil) (fun _ _ _ _ _ => by exact pe_callTy (T := "tuple") call_tuple_of (by rfl) B.tuple (by decide +kernel) (pa_cons (pv 2) pa_nil))) pa_nil)) rfl)
      (pss_cons (ps_fld (pv 0) (pe_dc (own := [("name", 3), ("folder", 4), ("kind", 5), ("price", 6)]) (g := gTup K 4 (gCons (gName 3) (gCons (gName 4) (gCons (gName 5) (gCons (gName 6) gNil))))) (tt := tYes) rfl sc_Tree_init.nd (pi_tup (pe_fld (pv 0) rfl)) (blkOk_by (N := nTreeInit) (sc := defScope s_Tree_init) (by decide +kernel))
          (fun _ _ _ _ _ => by exact pg_tup rfl (pgs_cons (pg_name (i := 3) sc_Tree_init.nd rfl (.inl rfl)) (pgs_cons (pg_name (i := 4) sc_Tree_init.nd rfl (.inl rfl)) (pgs_cons (pg_name (i := 5) sc_Tree_init.nd rfl (.inl rfl)) (pgs_cons (pg_name (i := 6) sc_Tree_init.nd rfl (.inl rfl)) pgs_nil))))) (fun _ _ _ _ _ => pts_nil) (fun _ _ _ _ _ => pv 3) (fun _ _ _ _ _ => pv 4)) rfl)
      (pss_cons (ps_fld (pv 0) (pe_dc (own := [("name", 3), ("folder", 4), ("kind", 5), ("price", 6)]) (g := gTup K 4 (gCons (gName 3) (gCons (gName 4) (gCons (gName 5) (gCons (gName 6) gNil))))) (tt := tYes) rfl sc_Tree_init.nd (pi_tup (pe_fld (pv 0) rfl)) (blkOk_by (N := nTreeInit) (sc := defScope s_Tree_init) (by decide +kernel))
          (fun _ _ _ _ _ => by exact pg_tup rfl (pgs_cons (pg_name (i := 3) sc_Tree_init.nd rfl (.inl rfl)) (pgs_cons (pg_name (i := 4) sc_Tree_init.nd rfl (.inl rfl)) (pgs_cons (pg_name (i := 5) sc_Tree_init.nd rfl (.inl rfl)) (pgs_cons (pg_name (i := 6) sc_Tree_init.nd rfl (.inl rfl)) pgs_nil))))) (fun _ _ _ _ _ => pts_nil) (fun _ _ _ _ _ => pv 3) (fun _ _ _ _ _ => pv 5)) rfl)
      (pss_one (ps_fld (pv 0) (pe_dc (own := [("name", 3), ("folder", 4), ("kind", 5), ("price", 6)]) (g := gTup K 4 (gCons (gName 3) (gCons (gName 4) (gCons (gName 5) (gCons (gName 6) gNil))))) (tt := tYes) rfl sc_Tree_init.nd (pi_tup (pe_fld (pv 0) rfl)) (blkOk_by (N := nTreeInit) (sc := defScope s_Tree_init) (by decide +kernel))
          (fun _ _ _ _ _ => by exact pg_tup rfl (pgs_cons (pg_name (i := 3) sc_Tree_init.nd rfl (.inl rfl)) (pgs_cons (pg_name (i := 4) sc_Tree_init.nd rfl (.inl rfl)) (pgs_cons (pg_name (i := 5) sc_Tree_init.nd rfl (.inl rfl)) (pgs_cons (pg_name (i := 6) sc_Tree_init.nd rfl (.inl rfl)) pgs_nil))))) (fun _ _ _ _ _ => pts_nil) (fun _ _ _ _ _ => pv 3) (fun _ _ _ _ _ => pv 6)) rfl))))), ?_⟩
    refine ⟨_, rfl, Nat.zero_le _, fun u1 hu1 => ⟨(by show 1 ≤ sizeLine; decide), fun u2 hu2 => ?_⟩⟩
    have s0 : Same H (upd (upd H u1 (.tup [])) u2 (.tup [V.str ("top" : Str)])) := (Same.new hu1).trans (Same.new hu2)
    have n12 : u1 ≠ u2 := fun q => by rw [← q, upd_same] at hu2; cases hu2
    refine ⟨rw, u1, u2, [], [("top" : Str)], as, rs, rfl, hrw.same s0, hrows.same s0, sqT (by rw [upd_ne n12]; exact upd_same), sqT upd_same, hl, Nat.zero_le _, (by decide), fun i r h => (hv i r h).b, fun H1 s1 => ?_⟩
    have s01 := s0.trans s1
    have hq1 := hrw.same s01
    refine ⟨rw, _, rfl, hq1, fun J W => fun D hD => ?_⟩
    refine lc_it W (fun i H' => ∃ qs : List Addr, Same H1 H' ∧ RowsAt H' qs (rs.take i) ∧ H' D = some (.lst (qs.map V.ref))) ⟨[], Same.new hD, RowsAt.nil, upd_same⟩ (fun i H' _ ⟨_, sm, _, _⟩ => ?_) ?_ ?_
    · rcases hq1 with z | z <;> rw [z] <;> exact sm _ _ z
    · rintro i x H2 H2' hi ⟨qs, sm, rq, hD2⟩ ⟨rfl, hx⟩
      rw [List.length_map] at hi
      rw [List.getElem?_map] at hx
      obtain ⟨ra, hra, rfl⟩ := Option.map_eq_some_iff.mp hx
      obtain ⟨r, hr'⟩ : ∃ r, rs[i]? = some r := ⟨rs[i]'(by rw [← hrows.len]; exact hi), List.getElem?_eq_getElem _⟩
      have rr : Seq H2' ra (rowVs r) := Seq.same (hrows.at_ i ra r hra hr') (s01.trans sm)
      have sz : (qs.map V.ref).length < sizeLine := small1000 (by rw [List.length_map, rq.len, List.length_take]; omega)
      have fin : ∀ (l : Addr) (H3 : Hp), H3 l = some (.tup (rowVs r)) → Same H2' H3 → ∃ qs' : List Addr, Same H1 (upd H3 D (.lst (qs.map V.ref ++ [V.ref l]))) ∧ RowsAt (upd H3 D (.lst (qs.map V.ref ++ [V.ref l]))) qs' (rs.take (i + 1)) ∧ (upd H3 D (.lst (qs.map V.ref ++ [V.ref l]))) D = some (.lst (qs'.map V.ref)) := by
        intro l H3 hl3 s3
        have kt : ∀ {b : Addr} {xs : List V}, H3 b = some (.tup xs) → (upd H3 D (.lst (qs.map V.ref ++ [V.ref l]))) b = some (.tup xs) := fun {b xs} h => by
          rw [upd_ne (fun q => by rw [q, s3 _ _ hD2] at h; cases h)]
          exact h
        refine ⟨qs ++ [l], fun b o e => ?_, ?_, ?_⟩
        · rw [upd_ne (fun q => by rw [q, hD] at e; cases e)]
          exact s3 _ _ (sm _ _ e)
        · rw [take_more hr']
          exact RowsAt.snoc ⟨rq.len, fun j b q hb hq' => kt (s3 _ _ (rq.at_ j b q hb hq'))⟩ (kt hl3)
        · rw [upd_same, List.map_append]; rfl
      refine ⟨rfl, tYes_if ⟨_, rfl, ra, rowVs r, rfl, ?_⟩⟩
      rcases rr with z | z
      · exact .inr ⟨sqT z, qs.map V.ref, hD2, sz, fin ra _ z (Same.refl _)⟩
      · exact .inl ⟨SqL.of z, fun l hl' => ⟨qs.map V.ref, (Same.new hl') _ _ hD2, sz, fin l _ upd_same (Same.new hl')⟩⟩
    · rintro H2 ⟨qs, sm, rq, hD2⟩
      rw [List.length_map, hrows.len, List.take_length] at rq
      refine ⟨D, _, rfl, .inl ⟨SqL.of hD2, fun q hq' => ?_⟩⟩
      have fresh_t : ∀ {b : Addr} {o : HO}, H t = some o → H2 t = some o := fun {b o} e => sm _ _ (s01 _ _ e)
      have ht2 : H2 t = some (.ins C dx []) := sm _ _ (s01 _ _ ht)
      have tq : t ≠ q := ne_of_none ht2 hq'
      refine ⟨_, rfl, t, C, dx, _, rfl, Eq.trans (upd_ne tq) ht2, T.cl, T.nq, (by show 0 < 1000; decide), ?_⟩
      obtain ⟨aH, aE⟩ : ∃ Hx, Hx = upd (upd H2 q (.tup (qs.map V.ref))) t (.ins C dx (putF "quads" (.ref q) [])) := ⟨_, rfl⟩
      have at_ : aH t = some (.ins C dx (putF "quads" (.ref q) [])) := by rw [aE]; exact upd_same
      have aq : aH q = some (.tup (qs.map V.ref)) := by rw [aE, upd_ne tq.symm]; exact upd_same
      have keepA : ∀ b o, b ≠ t → H2 b = some o → aH b = some o := fun b o nb e => by rw [aE, upd_ne nb, upd_ne (ne_of_none e hq')]; exact e
      have nt : ∀ {b : Addr} {xs : List V}, H2 b = some (.tup xs) → b ≠ t := fun {b xs} e y => by rw [y, ht2] at e; cases e
      have ar : RowsAt aH qs rs := ⟨rq.len, fun j b r hb hr => keepA _ _ (nt (rq.at_ j b r hb hr)) (rq.at_ j b r hb hr)⟩
      have asb : SB t H aH := fun b o nb e => keepA b o nb (sm b o (s01 b o e))
      rw [← aE]
      clear aE keepA

      refine ⟨_, rfl, t, C, dx, _, _, rfl, at_, T.cl, T.nq, (by rw [lookup_putF, if_pos rfl]), q, rfl, ⟨_, sqT aq⟩, fun DF hDF => ?_⟩
      refine dc_tup (K := K) (a := q) (xs := qs.map V.ref) (fun i H' => Same aH H' ∧ H' DF = some (.dK (kvF (fun r => V.str r.fo) (rs.take i)))) ⟨Same.new hDF, upd_same⟩ (fun i H' _ m => sqT (m.1 _ _ aq)) ?_ ?_
      · rintro i x H' hx ⟨sm, hDi⟩
        rw [List.getElem?_map] at hx
        obtain ⟨qa, hqa, rfl⟩ := Option.map_eq_some_iff.mp hx
        obtain ⟨r, hr'⟩ : ∃ r, rs[i]? = some r := ⟨rs[i]'(by rw [← rq.len]; exact (List.getElem?_eq_some_iff.mp hqa).1), List.getElem?_eq_getElem _⟩
        have e := sm _ _ (ar.at_ i qa r hqa hr')
        refine ⟨qa, _, rfl, sqT e, rfl, _, _, rfl, _, _, rfl, _, _, rfl, _, _, rfl, rfl, rfl, tYes_if ⟨_, rfl, _, rfl, _, .inr r.nm, rfl, hDi, small1000 (by unfold kvF; rw [List.length_map, List.length_take]; omega), fun b o e => ?_, ?_⟩⟩
        · rw [upd_ne (fun y => by rw [y, hDF] at e; cases e)]
          exact sm b o e
        · rw [upd_same]
          exact congrArg (fun l => some (HO.dK l)) (kvF_more (g := (fun r => V.str r.fo)) hr' (hv i r hr').new)
      rintro H5 ⟨sm, hDD⟩
      rw [List.length_map, rq.len, List.take_length] at hDD
      refine ⟨_, rfl, t, C, dx, _, rfl, sm _ _ at_, T.cl, T.nf, ?_, ?_⟩
      · exact Nat.lt_of_le_of_lt (putF_len _ _ _) (by decide)
      obtain ⟨cH, cE⟩ : ∃ Hx, Hx = upd H5 t (.ins C dx (putF "folders" (.ref DF) (putF "quads" (.ref q) []))) := ⟨_, rfl⟩
      have ct : cH t = some (.ins C dx (putF "folders" (.ref DF) (putF "quads" (.ref q) []))) := by rw [cE]; exact upd_same
      have keepX : ∀ b o, b ≠ t → aH b = some o → cH b = some o := fun b o nb e => by rw [cE, upd_ne nb]; exact sm b o e
      have cq : cH q = some (.tup (qs.map V.ref)) := keepX _ _ tq.symm aq
      have cr : RowsAt cH qs rs := ⟨rq.len, fun j b r hb hr => keepX _ _ (nt (rq.at_ j b r hb hr)) (ar.at_ j b r hb hr)⟩
      have csb : SB t H cH := fun b o nb e => keepX b o nb (asb b o nb e)
      have nDF : DF ≠ t := fun y => by rw [y, at_] at hDF; cases hDF
      have cF : cH DF = some (.dK (kvF (fun r => V.str r.fo) rs)) := by rw [cE, upd_ne nDF]; exact hDD
      rw [← cE]
      clear cE keepX sm hDD H5

      refine ⟨_, rfl, t, C, dx, _, _, rfl, ct, T.cl, T.nq, (by rw [lookup_putF, if_neg qf_, lookup_putF, if_pos rfl]), q, rfl, ⟨_, sqT cq⟩, fun DK hDK => ?_⟩
      refine dc_tup (K := K) (a := q) (xs := qs.map V.ref) (fun i H' => Same cH H' ∧ H' DK = some (.dK (kvF (fun r => V.str r.ki) (rs.take i)))) ⟨Same.new hDK, upd_same⟩ (fun i H' _ m => sqT (m.1 _ _ cq)) ?_ ?_
      · rintro i x H' hx ⟨sm, hDi⟩
        rw [List.getElem?_map] at hx
        obtain ⟨qa, hqa, rfl⟩ := Option.map_eq_some_iff.mp hx
        obtain ⟨r, hr'⟩ : ∃ r, rs[i]? = some r := ⟨rs[i]'(by rw [← rq.len]; exact (List.getElem?_eq_some_iff.mp hqa).1), List.getElem?_eq_getElem _⟩
        have e := sm _ _ (cr.at_ i qa r hqa hr')
        refine ⟨qa, _, rfl, sqT e, rfl, _, _, rfl, _, _, rfl, _, _, rfl, _, _, rfl, rfl, rfl, tYes_if ⟨_, rfl, _, rfl, _, .inr r.nm, rfl, hDi, small1000 (by unfold kvF; rw [List.length_map, List.length_take]; omega), fun b o e => ?_, ?_⟩⟩
        · rw [upd_ne (fun y => by rw [y, hDK] at e; cases e)]
          exact sm b o e
        · rw [upd_same]
          exact congrArg (fun l => some (HO.dK l)) (kvF_more (g := (fun r => V.str r.ki)) hr' (hv i r hr').new)
      rintro H5 ⟨sm, hDD⟩
      rw [List.length_map, rq.len, List.take_length] at hDD
      refine ⟨_, rfl, t, C, dx, _, rfl, sm _ _ ct, T.cl, T.nk, ?_, ?_⟩
      · exact Nat.lt_of_le_of_lt (Nat.le_trans (putF_len _ _ _) (Nat.succ_le_succ (putF_len _ _ _))) (by decide)
      obtain ⟨dH, dE⟩ : ∃ Hx, Hx = upd H5 t (.ins C dx (putF "kinds" (.ref DK) (putF "folders" (.ref DF) (putF "quads" (.ref q) [])))) := ⟨_, rfl⟩
      have dt : dH t = some (.ins C dx (putF "kinds" (.ref DK) (putF "folders" (.ref DF) (putF "quads" (.ref q) [])))) := by rw [dE]; exact upd_same
      have keepX : ∀ b o, b ≠ t → cH b = some o → dH b = some o := fun b o nb e => by rw [dE, upd_ne nb]; exact sm b o e
      have dq : dH q = some (.tup (qs.map V.ref)) := keepX _ _ tq.symm cq
      have dr : RowsAt dH qs rs := ⟨rq.len, fun j b r hb hr => keepX _ _ (nt (rq.at_ j b r hb hr)) (cr.at_ j b r hb hr)⟩
      have dsb : SB t H dH := fun b o nb e => keepX b o nb (csb b o nb e)
      have nDK : DK ≠ t := fun y => by rw [y, ct] at hDK; cases hDK
      have dK : dH DK = some (.dK (kvF (fun r => V.str r.ki) rs)) := by rw [dE, upd_ne nDK]; exact hDD
      have dF : dH DF = some (.dK (kvF (fun r => V.str r.fo) rs)) := keepX _ _ nDF cF
      rw [← dE]
      clear dE keepX sm hDD H5

      refine ⟨_, rfl, t, C, dx, _, _, rfl, dt, T.cl, T.nq, (by rw [lookup_putF, if_neg qk_, lookup_putF, if_neg qf_, lookup_putF, if_pos rfl]), q, rfl, ⟨_, sqT dq⟩, fun DP hDP => ?_⟩
      refine dc_tup (K := K) (a := q) (xs := qs.map V.ref) (fun i H' => Same dH H' ∧ H' DP = some (.dK (kvF (fun r => prV r.pr) (rs.take i)))) ⟨Same.new hDP, upd_same⟩ (fun i H' _ m => sqT (m.1 _ _ dq)) ?_ ?_
      · rintro i x H' hx ⟨sm, hDi⟩
        rw [List.getElem?_map] at hx
        obtain ⟨qa, hqa, rfl⟩ := Option.map_eq_some_iff.mp hx
        obtain ⟨r, hr'⟩ : ∃ r, rs[i]? = some r := ⟨rs[i]'(by rw [← rq.len]; exact (List.getElem?_eq_some_iff.mp hqa).1), List.getElem?_eq_getElem _⟩
        have e := sm _ _ (dr.at_ i qa r hqa hr')
        refine ⟨qa, _, rfl, sqT e, rfl, _, _, rfl, _, _, rfl, _, _, rfl, _, _, rfl, rfl, rfl, tYes_if ⟨_, rfl, _, rfl, _, .inr r.nm, rfl, hDi, small1000 (by unfold kvF; rw [List.length_map, List.length_take]; omega), fun b o e => ?_, ?_⟩⟩
        · rw [upd_ne (fun y => by rw [y, hDP] at e; cases e)]
          exact sm b o e
        · rw [upd_same]
          exact congrArg (fun l => some (HO.dK l)) (kvF_more (g := (fun r => prV r.pr)) hr' (hv i r hr').new)
      rintro H5 ⟨sm, hDD⟩
      rw [List.length_map, rq.len, List.take_length] at hDD
      refine ⟨_, rfl, t, C, dx, _, rfl, sm _ _ dt, T.cl, T.np, ?_, ?_⟩
      · exact Nat.lt_of_le_of_lt (Nat.le_trans (putF_len _ _ _) (Nat.succ_le_succ (Nat.le_trans (putF_len _ _ _) (Nat.succ_le_succ (putF_len _ _ _))))) (by decide)
      obtain ⟨eH, eE⟩ : ∃ Hx, Hx = upd H5 t (.ins C dx (putF "prices" (.ref DP) (putF "kinds" (.ref DK) (putF "folders" (.ref DF) (putF "quads" (.ref q) []))))) := ⟨_, rfl⟩
      have et : eH t = some (.ins C dx (putF "prices" (.ref DP) (putF "kinds" (.ref DK) (putF "folders" (.ref DF) (putF "quads" (.ref q) []))))) := by rw [eE]; exact upd_same
      have keepX : ∀ b o, b ≠ t → dH b = some o → eH b = some o := fun b o nb e => by rw [eE, upd_ne nb]; exact sm b o e
      have eq : eH q = some (.tup (qs.map V.ref)) := keepX _ _ tq.symm dq
      have er : RowsAt eH qs rs := ⟨rq.len, fun j b r hb hr => keepX _ _ (nt (rq.at_ j b r hb hr)) (dr.at_ j b r hb hr)⟩
      have esb : SB t H eH := fun b o nb e => keepX b o nb (dsb b o nb e)
      have nDP : DP ≠ t := fun y => by rw [y, dt] at hDP; cases hDP
      have eP : eH DP = some (.dK (kvF (fun r => prV r.pr) rs)) := by rw [eE, upd_ne nDP]; exact hDD
      have eF : eH DF = some (.dK (kvF (fun r => V.str r.fo) rs)) := keepX _ _ nDF dF
      have eK : eH DK = some (.dK (kvF (fun r => V.str r.ki) rs)) := keepX _ _ nDK dK
      rw [← eE]
      clear eE keepX sm hDD H5
      exact hq eH esb ⟨⟨dx, q, DF, DK, DP, qs, et, eq, er, eF, eK, eP⟩, hv, hl⟩
end
end Ts

set_option maxRecDepth 100000
set_option maxHeartbeats 4000000
namespace Ts
open PySem L2
/-! ### rows as data -/
def prD : Option Int → PyData
  | none => .none
  | some i => .int i
def rowD (r : Row) : PyData := .tuple [.str r.nm, .str r.fo, .str r.ki, prD r.pr]
theorem prD_ok {K : PySem.W.Frag} {H : Hp} (o : Option Int) : Dp K H (prV o) (prD o) := by
  cases o with
  | none => exact .non
  | some i => exact .int i
theorem row_dp {K : PySem.W.Frag} {H : Hp} {a : Addr} {r : Row} (h : H a = some (.tup (rowVs r))) : Dp K H (.ref a) (rowD r) :=
  .tup (sqT h) (.cons (.str _) (.cons (.str _) (.cons (.str _) (.cons (prD_ok _) .nil))))
theorem rows_dp {K : PySem.W.Frag} {H : Hp} : ∀ {as : List Addr} {rs : List Row}, RowsAt H as rs → DpAll K H (as.map V.ref) (rs.map rowD)
  | [], [], _ => .nil
  | [], _ :: _, h => by have := h.len; simp at this
  | _ :: _, [], h => by have := h.len; simp at this
  | a :: as, r :: rs, h => .cons (row_dp (h.at_ 0 a r rfl rfl)) (rows_dp ⟨by simpa using h.len, fun i b q hb hq => h.at_ (i + 1) b q (by simpa using hb) (by simpa using hq)⟩)
theorem str_beq (x y : Str) : (x == y) = decide (x = y) := by
  by_cases h : x = y
  · subst h; simp
  · rw [decide_eq_false h]; exact beq_eq_false_iff_ne.mpr h
theorem prD_eqv (a b : Option Int) : PyData.eqv (prD a) (prD b) = decide (a = b) := by
  cases a <;> cases b <;> simp [prD, PyData.eqv]
  rename_i i j
  by_cases h : i = j <;> simp [h]
theorem row_eqv (a b : Row) : PyData.eqv (rowD a) (rowD b) = decide (a = b) := by
  obtain ⟨n1, f1, k1, p1⟩ := a
  obtain ⟨n2, f2, k2, p2⟩ := b
  unfold rowD
  simp only [PyData.eqv, PyData.eqvAll, prD_eqv, str_beq, Bool.and_true]
  by_cases h1 : n1 = n2 <;> by_cases h2 : f1 = f2 <;> by_cases h3 : k1 = k2 <;> by_cases h4 : p1 = p2 <;> simp [h1, h2, h3, h4]
theorem rows_eqv : ∀ (a b : List Row), PyData.eqvAll (a.map rowD) (b.map rowD) = decide (a = b)
  | [], [] => by simp [PyData.eqvAll]
  | [], _ :: _ => by simp [PyData.eqvAll]
  | _ :: _, [] => by simp [PyData.eqvAll]
  | x :: a, y :: b => by
    simp only [List.map_cons, PyData.eqvAll, row_eqv, rows_eqv a b]
    by_cases h1 : x = y <;> by_cases h2 : a = b <;> simp [h1, h2]
theorem low_ok {z : Str} (h : ∀ c ∈ z.cps.toList, c ≤ 122) : PyData.strOk z = true := by
  unfold PyData.strOk
  rw [← Array.all_toList, List.all_eq_true]
  intro c hc
  have := h c hc
  exact decide_eq_true (by omega)
theorem top_ok : PyData.strOk ("top" : Str) = true := by decide +kernel
theorem kinds_ok : ∀ k ∈ kinds3, PyData.strOk k = true := by decide +kernel
structure RowOk (r : Row) : Prop where
  n : PyData.strOk r.nm = true
  f : PyData.strOk r.fo = true
  k : PyData.strOk r.ki = true
theorem rowD_lay {r : Row} (h : RowOk r) : (rowD r).canLay0 = true := by
  obtain ⟨h1, h2, h3⟩ := h
  obtain ⟨n, f, k, p⟩ := r
  cases p <;> simp_all [rowD, prD, PyData.canLay0, PyData.canLayAll0]
theorem rowD_depth (r : Row) : (rowD r).depth = 1 := by
  obtain ⟨n, f, k, p⟩ := r
  cases p <;> simp [rowD, prD, PyData.depth, PyData.depthAll]
theorem rows_lay : ∀ (rs : List Row), (∀ r ∈ rs, RowOk r) → PyData.canLayAll0 (rs.map rowD) = true
  | [], _ => by simp [PyData.canLayAll0]
  | r :: rs, h => by
    simp only [List.map_cons, PyData.canLayAll0, rowD_lay (h r (List.mem_cons_self ..)), rows_lay rs (fun q hq => h q (List.mem_cons_of_mem _ hq)), Bool.and_self]
theorem rows_depth : ∀ (rs : List Row), PyData.depthAll (rs.map rowD) ≤ 1
  | [] => by simp [PyData.depthAll]
  | r :: rs => by
    have ih := rows_depth rs
    simp only [List.map_cons, PyData.depthAll, rowD_depth]
    omega
theorem shaped_tup {rs : List Row} (h : ∀ r ∈ rs, RowOk r) : SeqAt.shaped (.tuple (rs.map rowD)) = true := by
  have q := rows_depth rs
  unfold SeqAt.shaped
  rw [Bool.and_eq_true]
  refine ⟨by simp only [PyData.canLay0]; exact rows_lay rs h, decide_eq_true ?_⟩
  simp only [PyData.depth]
  omega
theorem shaped_lst {rs : List Row} (h : ∀ r ∈ rs, RowOk r) : SeqAt.shaped (.list (rs.map rowD)) = true := by
  have q := rows_depth rs
  unfold SeqAt.shaped
  rw [Bool.and_eq_true]
  refine ⟨by simp only [PyData.canLay0]; exact rows_lay rs h, decide_eq_true ?_⟩
  simp only [PyData.depth]
  omega
theorem shaped_row {r : Row} (h : RowOk r) : SeqAt.shaped (rowD r) = true := by
  simp only [SeqAt.shaped, rowD_lay h, rowD_depth, Bool.true_and]
  decide
theorem low_sok {z : Str} (h : Low z) : PyData.strOk z = true := low_ok fun c hc => (h c hc).2
theorem Valid.ok {rs : List Row} (h : Valid rs) : ∀ r ∈ rs, RowOk r := by
  intro r hr
  obtain ⟨i, hi, rfl⟩ := List.mem_iff_getElem.mp hr
  have f := h i rs[i] (List.getElem?_eq_getElem hi)
  refine ⟨low_sok f.shape.2, ?_, kinds_ok _ f.kind⟩
  rcases f.home with e | ⟨q, hq, e, _⟩
  · rw [e]; exact top_ok
  · obtain ⟨j, hj, rfl⟩ := List.mem_iff_getElem.mp (List.mem_of_mem_take hq)
    rw [← e]
    exact low_sok (h j rs[j] (List.getElem?_eq_getElem hj)).shape.2
/-! ### promises of the methods -/
def names (rs : List Row) : List Str := rs.map (·.nm)
def rowOf (rs : List Row) (z : Str) : Option Row := rs.find? fun r => decide (r.nm = z)
theorem rowOf_some {rs : List Row} {z : Str} (h : z ∈ names rs) : ∃ r, rowOf rs z = some r ∧ r ∈ rs ∧ r.nm = z := by
  unfold rowOf
  obtain ⟨q, hq, e⟩ := List.mem_map.mp h
  cases e1 : rs.find? fun r => decide (r.nm = z) with
  | none =>
    rw [List.find?_eq_none] at e1
    exact absurd (decide_eq_true e) (e1 q hq)
  | some r => exact ⟨r, rfl, List.mem_of_find?_eq_some e1, of_decide_eq_true (List.find?_some (p := fun (r : Row) => decide (r.nm = z)) e1)⟩
def spLen (C : Addr) : Sp := fun vs H Q _ => ∃ (t : Addr) (rs : List Row), vs = [.ref t] ∧ TreeAt C H t rs ∧ Q (.int rs.length) H
def Other (K : PySem.W.Frag) (H : Hp) (x : V) (c : Value) : Prop := ∃ ty, TyX K H x ty ∧ PySem.W.kitOne K ty c = some false
def spContains (K : PySem.W.Frag) (C : Addr) : Sp := fun vs H Q _ => ∃ (t : Addr) (x : V) (rs : List Row), vs = [.ref t, x] ∧ TreeAt C H t rs ∧
  ((∃ z, x = .str z ∧ Q (.bl (decide (z ∈ names rs))) H) ∨ (Other K H x (.type "str") ∧ Q (.bl false) H))
def spEqT (K : PySem.W.Frag) (C : Addr) : Sp := fun vs H Q _ => ∃ (t : Addr) (x : V) (rs : List Row), vs = [.ref t, x] ∧ TreeAt C H t rs ∧
  ((∃ (u : Addr) (qs : List Row), x = .ref u ∧ TreeAt C H u qs ∧ Q (.bl (decide (rs = qs))) H) ∨ (Other K H x (.ref C) ∧ Q (.bl false) H))
def spRowsM (C : Addr) : Sp := fun vs H Q _ => ∃ (t : Addr) (rs : List Row), vs = [.ref t] ∧ TreeAt C H t rs ∧ ∀ p (qs : List Addr), H p = none → RowsAt H qs rs → Q (.ref p) (upd H p (.lst (qs.map V.ref)))
def spBox (C : Addr) : Sp := fun vs H Q _ => ∃ (t : Addr) (z : Str) (rs : List Row), vs = [.ref t, .str z] ∧ TreeAt C H t rs ∧ z ∈ names rs ∧ Q .non H
def spIsPlace (C : Addr) : Sp := fun vs H Q _ => ∃ (t : Addr) (z : Str) (rs : List Row), vs = [.ref t, .str z] ∧ TreeAt C H t rs ∧ Q (.bl (decide (z = ("top" : Str) ∨ z ∈ names rs))) H
def spPlace (C : Addr) : Sp := fun vs H Q _ => ∃ (t : Addr) (z : Str) (rs : List Row), vs = [.ref t, .str z] ∧ TreeAt C H t rs ∧ (z = ("top" : Str) ∨ z ∈ names rs) ∧ Q .non H
def spGet (C : Addr) (g : Row → V) : Sp := fun vs H Q _ => ∃ (t : Addr) (z : Str) (rs : List Row) (r : Row), vs = [.ref t, .str z] ∧ TreeAt C H t rs ∧ rowOf rs z = some r ∧ Q (g r) H
section
variable {P : Program} {w : World} {K : PySem.W.Frag} {mg : Str → Option Value} {base : Heap} {C : Addr}
theorem sc_Tree_len : FnScope ["self"] ["self"] (defScope s_Tree_len) := ⟨rfl, rfl, rfl, by decide +kernel, rfl, by decide +kernel, by decide +kernel⟩
theorem ok_Tree_len {f : Addr} {fd : FuncData} (F : Fun K "__len__" "Tree.__len__" s_Tree_len f fd) (B : TxB mg) (T : TxT K mg C) : FnOk P w K mg base CX0 2 f fd ["self"] (spLen C) := by
  refine F.ok sc_Tree_len (fun vs H Q E h => ?_) (fun cdv A outer s H vs Q E hr h => ?_)
  · obtain ⟨t, rs, rfl, _⟩ := h
    rfl
  · obtain ⟨t, rs, rfl, ht, hq⟩ := h
    obtain ⟨dx, q, f, k, p, qs, h1, h2, h3, h4, h5, h6⟩ := ht.ex
    refine ⟨_, pss_one (ps_ret (pe_callB call_len_seq (by rfl) B.len PySem.boot_len (pa_cons (pe_fld (pv 0) rfl) pa_nil))), ?_⟩
    refine ⟨_, rfl, t, C, dx, _, _, rfl, h1, T.cl, T.nq, tf_q _ _ _ _, q, _, rfl, .inr (sqT h2), ?_⟩
    rw [List.length_map, h3.len]
    exact hq
theorem sc_Tree_contains : FnScope ["self", "x"] ["self", "x"] (defScope s_Tree_contains) := ⟨rfl, rfl, rfl, by decide +kernel, rfl, by decide +kernel, by decide +kernel⟩
theorem ok_Tree_contains {f : Addr} {fd : FuncData} (F : Fun K "__contains__" "Tree.__contains__" s_Tree_contains f fd) (B : TxB mg) (T : TxT K mg C) : FnOk P w K mg base CX0 2 f fd ["self", "x"] (spContains K C) := by
  refine F.ok sc_Tree_contains (fun vs H Q E h => ?_) (fun cdv A outer s H vs Q E hr h => ?_)
  · obtain ⟨t, x, rs, rfl, _⟩ := h
    rfl
  · obtain ⟨t, x, rs, rfl, ht, h⟩ := h
    have hu := hu_of hr
    obtain ⟨dx, q, f, k, p, qs, h1, h2, h3, h4, h5, h6⟩ := ht.ex
    refine ⟨_, pss_one (ps_ret (pe_and (pe_callB call_isi (by rfl) B.isinstance (by decide +kernel) (pa_cons (pv 1) (pa_cons (pe_bltn (by rfl) B.str (by decide +kernel) (v := .ty "str") rfl) pa_nil))) (pe_one (pe_cmp (pc_din hu (pv 1) (pe_fld (pv 0) rfl)) rfl)))), ?_⟩
    rcases h with ⟨z, rfl, hq⟩ | ⟨⟨ty, hty, hk⟩, hq⟩
    · refine ⟨_, rfl, _, _, _, _, true, rfl, .ty "str", .base (.str z), kit_ty (by decide +kernel), _, rfl, iteT ?_⟩
      refine ⟨_, rfl, _, rfl, t, C, dx, _, _, rfl, h1, T.cl, T.nk, tf_k _ _ _ _, k, _, rfl, DGet.k (k := Sum.inr z) h5, ?_⟩
      rw [valV_kvF]
      have e : ((rs.find? fun r => decide (r.nm = z)).map fun r => V.str r.ki).isSome = decide (z ∈ names rs) := by
        by_cases hz : z ∈ names rs
        · obtain ⟨r, e1, _⟩ := rowOf_some hz
          unfold rowOf at e1
          rw [e1, decide_eq_true hz]; rfl
        · rw [find_none hz, decide_eq_false hz]; rfl
      rw [e]
      exact hq
    · exact ⟨_, rfl, _, _, _, _, false, rfl, .ty "str", hty, hk, _, rfl, iteF hq⟩
theorem sc_Tree_eq : FnScope ["self", "other"] ["self", "other"] (defScope s_Tree_eq) := ⟨rfl, rfl, rfl, by decide +kernel, rfl, by decide +kernel, by decide +kernel⟩
theorem ok_Tree_eq {f : Addr} {fd : FuncData} (F : Fun K "__eq__" "Tree.__eq__" s_Tree_eq f fd) (B : TxB mg) (T : TxT K mg C) (I : C8.InsC K C) : FnOk P w K mg base CX0 2 f fd ["self", "other"] (spEqT K C) := by
  refine F.ok sc_Tree_eq (fun vs H Q E h => ?_) (fun cdv A outer s H vs Q E hr h => ?_)
  · obtain ⟨t, x, rs, rfl, _⟩ := h
    rfl
  · obtain ⟨t, x, rs, rfl, ht, h⟩ := h
    obtain ⟨dx, q, f, k, p, qs, h1, h2, h3, h4, h5, h6⟩ := ht.ex
    refine ⟨_, pss_one (ps_ret (pe_and (pe_callB call_isi (by rfl) B.isinstance (by decide +kernel) (pa_cons (pv 1) (pa_cons (pe_glob (by rfl) T.g (v := .ref C) rfl) pa_nil))) (pe_one (pe_cmpR (op_eqD (by have := hr.units; exact this)) (pe_fld (pv 0) rfl) (pe_fld (pv 1) rfl) (nomark _))))), ?_⟩
    rcases h with ⟨u, ys, rfl, hu, hq⟩ | ⟨⟨ty, hty, hk⟩, hq⟩
    · obtain ⟨dx', q', f', k', p', qs', g1, g2, g3, g4, g5, g6⟩ := hu.ex
      refine ⟨_, rfl, _, _, _, _, true, rfl, .own C, .base (.ins g1 I.cl I.ha I.hn I.htk I.hm), I.me, _, rfl, iteT ?_⟩
      refine ⟨_, rfl, t, C, dx, _, _, rfl, h1, T.cl, T.nq, tf_q _ _ _ _, _, rfl, u, C, dx', _, _, rfl, g1, T.cl, T.nq, tf_q _ _ _ _, _, _, .tup (sqT h2) (rows_dp h3), .tup (sqT g2) (rows_dp g3), shaped_tup ht.val.ok, shaped_tup hu.val.ok, ?_⟩
      have e : PyData.eqv (.tuple (rs.map rowD)) (.tuple (ys.map rowD)) = decide (rs = ys) := by
        simp only [PyData.eqv]
        exact rows_eqv rs ys
      rw [e]
      exact hq
    · exact ⟨_, rfl, _, _, _, _, false, rfl, .own C, hty, hk, _, rfl, iteF hq⟩
theorem sc_Tree_rows : FnScope ["self"] ["self"] (defScope s_Tree_rows) := ⟨rfl, rfl, rfl, by decide +kernel, rfl, by decide +kernel, by decide +kernel⟩
theorem ok_Tree_rows {f : Addr} {fd : FuncData} (F : Fun K "rows" "Tree.rows" s_Tree_rows f fd) (B : TxB mg) (T : TxT K mg C) : FnOk P w K mg base CX0 2 f fd ["self"] (spRowsM C) := by
  refine F.ok sc_Tree_rows (fun vs H Q E h => ?_) (fun cdv A outer s H vs Q E hr h => ?_)
  · obtain ⟨t, rs, rfl, _⟩ := h
    rfl
  · obtain ⟨t, rs, rfl, ht, hq⟩ := h
    obtain ⟨dx, q, f, k, p, qs, h1, h2, h3, h4, h5, h6⟩ := ht.ex
    refine ⟨_, pss_one (ps_ret (pe_callTy call_list_of (by rfl) B.list (by decide +kernel) (pa_cons (pe_fld (pv 0) rfl) pa_nil))), ?_⟩
    exact ⟨_, rfl, t, C, dx, _, _, rfl, h1, T.cl, T.nq, tf_q _ _ _ _, q, _, rfl, .inr (sqT h2), fun l hl => hq l qs hl h3⟩
theorem sc_check_box : FnScope ["tree", "thing"] ["tree", "thing"] (defScope s_check_box) := ⟨rfl, rfl, rfl, by decide +kernel, rfl, by decide +kernel, by decide +kernel⟩
theorem ok_check_box (D : DefAt K mg "check_box" s_check_box ["tree", "thing"]) (M : MethAt K C "__contains__" "Tree.__contains__" s_Tree_contains ["self", "x"]) (B : TxB mg) (T : TxT K mg C) : FnOk P w K mg base CX0 3 D.f D.fd ["tree", "thing"] (spBox C) := by
  have G : FnOk P w K mg base CX0 2 M.f M.fd ["self", "x"] (spContains K C) := ok_Tree_contains M.F B T
  refine D.F.ok sc_check_box (fun vs H Q E h => ?_) (fun cdv A outer s H vs Q E hr h => ?_)
  · obtain ⟨t, z, rs, rfl, _⟩ := h
    rfl
  · obtain ⟨t, z, rs, rfl, ht, hz, hq⟩ := h
    obtain ⟨dx, q, f, k, p, qs, h1, h2⟩ := ht.ex
    refine ⟨_, pss_one (ps_if (pt_cmpR (op_notinC G M.m hr M.b pass0) (pv 1) (pv 0) (by rfl)) (pss_one ps_never) pss_nil), ?_⟩
    refine ⟨_, rfl, _, rfl, t, dx, _, rfl, h1, t, _, rs, rfl, ht, .inl ⟨z, rfl, _, rfl, _, rfl, ?_⟩⟩
    rw [decide_eq_true hz]
    exact iteF hq
theorem sc_is_place : FnScope ["tree", "thing"] ["tree", "thing"] (defScope s_is_place) := ⟨rfl, rfl, rfl, by decide +kernel, rfl, by decide +kernel, by decide +kernel⟩
theorem ok_is_place (D : DefAt K mg "is_place" s_is_place ["tree", "thing"]) (M : MethAt K C "__contains__" "Tree.__contains__" s_Tree_contains ["self", "x"]) (B : TxB mg) (TC : TxC K mg) (T : TxT K mg C) : FnOk P w K mg base CX0 3 D.f D.fd ["tree", "thing"] (spIsPlace C) := by
  have G : FnOk P w K mg base CX0 2 M.f M.fd ["self", "x"] (spContains K C) := ok_Tree_contains M.F B T
  obtain ⟨t1, gT⟩ := TC.top
  refine D.F.ok sc_is_place (fun vs H Q E h => ?_) (fun cdv A outer s H vs Q E hr h => ?_)
  · obtain ⟨t, z, rs, rfl, _⟩ := h
    rfl
  · obtain ⟨t, z, rs, rfl, ht, hq⟩ := h
    obtain ⟨dx, q, f, k, p, qs, h1, h2⟩ := ht.ex
    refine ⟨_, pss_one (ps_ret (pe_or (pe_cmpR op_eq (pv 1) (pe_glob (by rfl) gT (v := .str ("top" : Str)) ⟨_, rfl⟩) (nomark _)) (pe_one (pe_cmpR (op_inC G M.m hr M.b pass0) (pv 1) (pv 0) (by rfl))))), ?_⟩
    refine ⟨_, rfl, rfl, _, rfl, ?_⟩
    have e0 : decide (V.str z = V.str ("top" : Str)) = decide (z = ("top" : Str)) := decide_eq_decide.mpr ⟨fun h => V.str.inj h, fun h => congrArg _ h⟩
    rw [e0]
    refine ite2 (fun hc => ?_) (fun hc => ?_)
    · have hc' : z = ("top" : Str) := of_decide_eq_true hc
      rw [decide_eq_true (Or.inl hc')] at hq
      exact hq
    · have hc' : ¬ z = ("top" : Str) := fun e => hc (decide_eq_true e)
      refine ⟨_, rfl, _, rfl, t, dx, _, rfl, h1, t, _, rs, rfl, ht, .inl ⟨z, rfl, _, rfl, ?_⟩⟩
      have e1 : decide (z = ("top" : Str) ∨ z ∈ names rs) = decide (z ∈ names rs) := decide_eq_decide.mpr ⟨fun h => h.resolve_left hc', Or.inr⟩
      rw [e1] at hq
      exact hq
theorem sc_check_place : FnScope ["tree", "thing"] ["tree", "thing"] (defScope s_check_place) := ⟨rfl, rfl, rfl, by decide +kernel, rfl, by decide +kernel, by decide +kernel⟩
theorem ok_check_place (D : DefAt K mg "check_place" s_check_place ["tree", "thing"]) (Db : DefAt K mg "is_place" s_is_place ["tree", "thing"]) (Gb : FnOk P w K mg base CX0 3 Db.f Db.fd ["tree", "thing"] (spIsPlace C)) : FnOk P w K mg base CX0 4 D.f D.fd ["tree", "thing"] (spPlace C) := by
  refine D.F.ok sc_check_place (fun vs H Q E h => ?_) (fun cdv A outer s H vs Q E hr h => ?_)
  · obtain ⟨t, z, rs, rfl, _⟩ := h
    rfl
  · obtain ⟨t, z, rs, rfl, ht, hz, hq⟩ := h
    refine ⟨_, pss_one (ps_if (pt_not (pt_val (pe_call Gb hr rfl Db.g Db.F.kp Db.b .nil pass0 (pa_cons (pv 0) (pa_cons (pv 1) pa_nil))))) (pss_one ps_never) pss_nil), ?_⟩
    refine ⟨_, rfl, _, rfl, t, z, rs, rfl, ht, _, rfl, ?_⟩
    rw [decide_eq_true hz]
    exact iteF hq
theorem sc_Tree_folder : FnScope ["self", "box"] ["self", "box"] (defScope s_Tree_folder) := ⟨rfl, rfl, rfl, by decide +kernel, rfl, by decide +kernel, by decide +kernel⟩
theorem ok_Tree_folder {f : Addr} {fd : FuncData} (F : Fun K "folder" "Tree.folder" s_Tree_folder f fd) (Db : DefAt K mg "check_box" s_check_box ["tree", "thing"]) (Gb : FnOk P w K mg base CX0 3 Db.f Db.fd ["tree", "thing"] (spBox C)) (T : TxT K mg C) : FnOk P w K mg base CX0 4 f fd ["self", "box"] (spGet C (fun r => V.str r.fo)) := by
  refine F.ok sc_Tree_folder (fun vs H Q E h => ?_) (fun cdv A outer s H vs Q E hr h => ?_)
  · obtain ⟨t, z, rs, r, rfl, _⟩ := h
    rfl
  · obtain ⟨t, z, rs, r, rfl, ht, hz, hq⟩ := h
    have hu := hu_of hr
    obtain ⟨dx, q, f, k, p, qs, h1, h2, h3, h4, h5, h6⟩ := ht.ex
    refine ⟨_, pss_cons (ps_expr (pe_call Gb hr rfl Db.g Db.F.kp Db.b .nil pass0 (pa_cons (pv 0) (pa_cons (pv 1) pa_nil)))) (pss_one (ps_ret (pe_dget hu (pe_fld (pv 0) rfl) (pv 1) (fun _ _ => rfl)))), ?_⟩
    have hin : z ∈ names rs := List.mem_map.mpr ⟨r, List.mem_of_find?_eq_some hz, of_decide_eq_true (List.find?_some (p := fun (r : Row) => decide (r.nm = z)) (show rs.find? (fun (r : Row) => decide (r.nm = z)) = some r from hz))⟩
    refine ⟨_, rfl, _, rfl, t, z, rs, rfl, ht, hin, _, rfl, t, C, dx, _, _, rfl, h1, T.cl, T.nf, tf_f _ _ _ _, _, rfl, f, _, rfl, ?_, hq⟩
    have e := DGet.k (k := Sum.inr z) h4
    rw [valV_kvF, show (rs.find? fun r => decide (r.nm = z)) = some r from hz] at e
    exact e
theorem sc_Tree_kind : FnScope ["self", "box"] ["self", "box"] (defScope s_Tree_kind) := ⟨rfl, rfl, rfl, by decide +kernel, rfl, by decide +kernel, by decide +kernel⟩
theorem ok_Tree_kind {f : Addr} {fd : FuncData} (F : Fun K "kind" "Tree.kind" s_Tree_kind f fd) (Db : DefAt K mg "check_box" s_check_box ["tree", "thing"]) (Gb : FnOk P w K mg base CX0 3 Db.f Db.fd ["tree", "thing"] (spBox C)) (T : TxT K mg C) : FnOk P w K mg base CX0 4 f fd ["self", "box"] (spGet C (fun r => V.str r.ki)) := by
  refine F.ok sc_Tree_kind (fun vs H Q E h => ?_) (fun cdv A outer s H vs Q E hr h => ?_)
  · obtain ⟨t, z, rs, r, rfl, _⟩ := h
    rfl
  · obtain ⟨t, z, rs, r, rfl, ht, hz, hq⟩ := h
    have hu := hu_of hr
    obtain ⟨dx, q, f, k, p, qs, h1, h2, h3, h4, h5, h6⟩ := ht.ex
    refine ⟨_, pss_cons (ps_expr (pe_call Gb hr rfl Db.g Db.F.kp Db.b .nil pass0 (pa_cons (pv 0) (pa_cons (pv 1) pa_nil)))) (pss_one (ps_ret (pe_dget hu (pe_fld (pv 0) rfl) (pv 1) (fun _ _ => rfl)))), ?_⟩
    have hin : z ∈ names rs := List.mem_map.mpr ⟨r, List.mem_of_find?_eq_some hz, of_decide_eq_true (List.find?_some (p := fun (r : Row) => decide (r.nm = z)) (show rs.find? (fun (r : Row) => decide (r.nm = z)) = some r from hz))⟩
    refine ⟨_, rfl, _, rfl, t, z, rs, rfl, ht, hin, _, rfl, t, C, dx, _, _, rfl, h1, T.cl, T.nk, tf_k _ _ _ _, _, rfl, k, _, rfl, ?_, hq⟩
    have e := DGet.k (k := Sum.inr z) h5
    rw [valV_kvF, show (rs.find? fun r => decide (r.nm = z)) = some r from hz] at e
    exact e
theorem sc_Tree_price : FnScope ["self", "box"] ["self", "box"] (defScope s_Tree_price) := ⟨rfl, rfl, rfl, by decide +kernel, rfl, by decide +kernel, by decide +kernel⟩
theorem ok_Tree_price {f : Addr} {fd : FuncData} (F : Fun K "price" "Tree.price" s_Tree_price f fd) (Db : DefAt K mg "check_box" s_check_box ["tree", "thing"]) (Gb : FnOk P w K mg base CX0 3 Db.f Db.fd ["tree", "thing"] (spBox C)) (T : TxT K mg C) : FnOk P w K mg base CX0 4 f fd ["self", "box"] (spGet C (fun r => prV r.pr)) := by
  refine F.ok sc_Tree_price (fun vs H Q E h => ?_) (fun cdv A outer s H vs Q E hr h => ?_)
  · obtain ⟨t, z, rs, r, rfl, _⟩ := h
    rfl
  · obtain ⟨t, z, rs, r, rfl, ht, hz, hq⟩ := h
    have hu := hu_of hr
    obtain ⟨dx, q, f, k, p, qs, h1, h2, h3, h4, h5, h6⟩ := ht.ex
    refine ⟨_, pss_cons (ps_expr (pe_call Gb hr rfl Db.g Db.F.kp Db.b .nil pass0 (pa_cons (pv 0) (pa_cons (pv 1) pa_nil)))) (pss_one (ps_ret (pe_dget hu (pe_fld (pv 0) rfl) (pv 1) (fun _ _ => rfl)))), ?_⟩
    have hin : z ∈ names rs := List.mem_map.mpr ⟨r, List.mem_of_find?_eq_some hz, of_decide_eq_true (List.find?_some (p := fun (r : Row) => decide (r.nm = z)) (show rs.find? (fun (r : Row) => decide (r.nm = z)) = some r from hz))⟩
    refine ⟨_, rfl, _, rfl, t, z, rs, rfl, ht, hin, _, rfl, t, C, dx, _, _, rfl, h1, T.cl, T.np, tf_p _ _ _ _, _, rfl, p, _, rfl, ?_, hq⟩
    have e := DGet.k (k := Sum.inr z) h6
    rw [valV_kvF, show (rs.find? fun r => decide (r.nm = z)) = some r from hz] at e
    exact e
end
end Ts

set_option maxRecDepth 100000
set_option maxHeartbeats 4000000
namespace Ts
open PySem L2
/-! ### ways -/
def wayR : List Row → Str → List Str
  | [], _ => []
  | r :: rest, z => if r.nm = z then wayR rest r.fo ++ [z] else wayR rest z
def wayOf (rs : List Row) (z : Str) : List Str := wayR rs.reverse z
structure FitR (rest : List Row) (r : Row) : Prop where
  top : r.nm ≠ ("top" : Str)
  new : r.nm ∉ rest.map (·.nm)
  home : r.fo = ("top" : Str) ∨ r.fo ∈ rest.map (·.nm)
def ValidR : List Row → Prop
  | [] => True
  | r :: rest => FitR rest r ∧ ValidR rest
theorem Valid.init {rs : List Row} {r : Row} (h : Valid (rs ++ [r])) : Valid rs := fun i q hq => by
  have hi : i < rs.length := (List.getElem?_eq_some_iff.mp hq).1
  have f := h i q (by rw [List.getElem?_append_left hi]; exact hq)
  rw [List.take_append_of_le_length (Nat.le_of_lt hi)] at f
  exact f
theorem Valid.last {rs : List Row} {r : Row} (h : Valid (rs ++ [r])) : Fits rs r := by
  have f := h rs.length r (by simp)
  rw [List.take_append_of_le_length (Nat.le_refl _), List.take_length] at f
  exact f
theorem validR : ∀ l : List Row, Valid l.reverse → ValidR l
  | [], _ => trivial
  | r :: l, h => by
    rw [List.reverse_cons] at h
    have f := h.last
    refine ⟨⟨f.top, by simpa using f.new, ?_⟩, validR l h.init⟩
    rcases f.home with e | ⟨q, hq, e, _⟩
    · exact .inl e
    · exact .inr (List.mem_map.mpr ⟨q, List.mem_reverse.mp hq, e⟩)
theorem wayR_mem : ∀ {l : List Row} {z x : Str}, x ∈ wayR l z → x ∈ l.map (·.nm)
  | [], _, _, h => by cases h
  | r :: l, z, x, h => by
    unfold wayR at h
    by_cases e : r.nm = z
    · rw [if_pos e] at h
      rcases List.mem_append.mp h with h | h
      · exact List.mem_cons_of_mem _ (wayR_mem h)
      · rw [List.mem_singleton.mp h, ← e]; exact List.mem_cons_self ..
    · rw [if_neg e] at h
      exact List.mem_cons_of_mem _ (wayR_mem h)
theorem wayR_out : ∀ {l : List Row} {z : Str}, z ∉ l.map (·.nm) → wayR l z = []
  | [], _, _ => rfl
  | r :: l, z, h => by
    unfold wayR
    rw [if_neg fun e => h (List.mem_map.mpr ⟨r, List.mem_cons_self .., e⟩)]
    exact wayR_out fun q => h (List.mem_cons_of_mem _ q)
theorem ValidR.home : ∀ {l : List Row} {r : Row}, ValidR l → r ∈ l → r.fo = ("top" : Str) ∨ r.fo ∈ l.map (·.nm)
  | q :: l, r, h, hr => by
    rcases List.mem_cons.mp hr with e | hr
    · subst e; exact h.1.home.imp id (List.mem_cons_of_mem _)
    · exact (h.2.home hr).imp id (List.mem_cons_of_mem _)
theorem ValidR.top : ∀ {l : List Row}, ValidR l → ("top" : Str) ∉ l.map (·.nm)
  | [], _, h => by cases h
  | r :: l, h, hm => by
    rcases List.mem_cons.mp hm with e | hm
    · exact h.1.top e.symm
    · exact h.2.top hm
theorem wayR_step : ∀ {l : List Row} {r : Row}, ValidR l → r ∈ l → wayR l r.nm = wayR l r.fo ++ [r.nm]
  | q :: l, r, h, hr => by
    rcases List.mem_cons.mp hr with e | hr'
    · subst e
      have ne : ¬ r.nm = r.fo := fun e => by
        rcases h.1.home with e2 | e2
        · exact h.1.top (e.trans e2)
        · exact h.1.new (e ▸ e2)
      show (if r.nm = r.nm then wayR l r.fo ++ [r.nm] else wayR l r.nm) = (if r.nm = r.fo then wayR l r.fo ++ [r.fo] else wayR l r.fo) ++ [r.nm]
      rw [if_pos rfl, if_neg ne]
    · have n1 : ¬ q.nm = r.nm := fun e => h.1.new (List.mem_map.mpr ⟨r, hr', e.symm⟩)
      have n2 : ¬ q.nm = r.fo := fun e => by
        rcases h.2.home hr' with e2 | e2
        · exact h.1.top (e.trans e2)
        · exact h.1.new (e ▸ e2)
      show (if q.nm = r.nm then wayR l q.fo ++ [r.nm] else wayR l r.nm) = (if q.nm = r.fo then wayR l q.fo ++ [r.fo] else wayR l r.fo) ++ [r.nm]
      rw [if_neg n1, if_neg n2]
      exact wayR_step h.2 hr'
theorem Valid.r {rs : List Row} (h : Valid rs) : ValidR rs.reverse := validR rs.reverse (by rw [List.reverse_reverse]; exact h)
theorem way_step {rs : List Row} (h : Valid rs) {r : Row} (hr : r ∈ rs) : wayOf rs r.nm = wayOf rs r.fo ++ [r.nm] := wayR_step h.r (List.mem_reverse.mpr hr)
theorem way_out {rs : List Row} {z : Str} (h : z ∉ names rs) : wayOf rs z = [] := wayR_out (by rw [List.map_reverse]; exact fun q => h (List.mem_reverse.mp q))
theorem top_not {rs : List Row} (h : Valid rs) : ("top" : Str) ∉ names rs := fun q => h.r.top (by rw [List.map_reverse]; exact List.mem_reverse.mpr q)
theorem way_top {rs : List Row} (h : Valid rs) : wayOf rs ("top" : Str) = [] := way_out (top_not h)
theorem way_mem {rs : List Row} {z x : Str} (h : x ∈ wayOf rs z) : x ∈ names rs := by
  have q := wayR_mem h
  rw [List.map_reverse] at q
  exact List.mem_reverse.mp q
theorem way_self {rs : List Row} (h : Valid rs) {z : Str} (hz : z ∈ names rs) : z ∈ wayOf rs z := by
  obtain ⟨r, hr, rfl⟩ := List.mem_map.mp hz
  rw [way_step h hr]
  simp
theorem Valid.fo {rs : List Row} (h : Valid rs) {i : Nat} {r : Row} (hr : rs[i]? = some r) : r.fo = ("top" : Str) ∨ r.fo ∈ names (rs.take i) := by
  rcases (h i r hr).home with e | ⟨q, hq, e, _⟩
  · exact .inl e
  · exact .inr (List.mem_map.mpr ⟨q, hq, e⟩)
theorem names_take {rs : List Row} {i : Nat} {z : Str} (h : z ∈ names (rs.take i)) : z ∈ names rs := by
  obtain ⟨r, hr, rfl⟩ := List.mem_map.mp h
  exact List.mem_map.mpr ⟨r, List.mem_of_mem_take hr, rfl⟩
theorem names_at {rs : List Row} {i : Nat} {z : Str} (h : z ∈ names (rs.take i)) : ∃ j r, j < i ∧ rs[j]? = some r ∧ r.nm = z := by
  obtain ⟨r, hr, rfl⟩ := List.mem_map.mp h
  obtain ⟨j, hj, e⟩ := List.mem_iff_getElem.mp hr
  rw [List.length_take] at hj
  refine ⟨j, r, by omega, ?_, rfl⟩
  rw [← e, List.getElem_take]
  exact List.getElem?_eq_getElem _
theorem way_pre {rs : List Row} (h : Valid rs) : ∀ (i : Nat) {z x : Str}, z ∈ names (rs.take i) → x ∈ wayOf rs z → x ∈ names (rs.take i) := by
  intro i
  induction i using Nat.strongRecOn with
  | _ i ih =>
    intro z x hz hx
    obtain ⟨j, r, hj, hr, rfl⟩ := names_at hz
    rw [way_step h (List.mem_of_getElem? hr)] at hx
    rcases List.mem_append.mp hx with hx | hx
    · rcases h.fo hr with e | e
      · rw [e, way_top h] at hx; cases hx
      · have q := ih j hj e hx
        obtain ⟨j2, r2, hj2, hr2, rfl⟩ := names_at q
        exact List.mem_map.mpr ⟨r2, List.mem_take_iff_getElem.mpr ⟨j2, by have := (List.getElem?_eq_some_iff.mp hr2).1; omega, (List.getElem?_eq_some_iff.mp hr2).2⟩, rfl⟩
    · rw [List.mem_singleton.mp hx]; exact hz
/-- what lies within z -/
def isIn (rs : List Row) (z : Str) (r : Row) : Bool := decide (r.nm ≠ z) && (decide (z = ("top" : Str)) || decide (z ∈ wayOf rs r.nm))
def belowL (rs : List Row) (z : Str) : List Str := (rs.filter (isIn rs z)).map (·.nm)
def insideL (rs : List Row) (z : Str) : List Str := (rs.filter fun r => decide (r.fo = z)).map (·.nm)
theorem below_in {rs : List Row} (h : Valid rs) {z : Str} (hz : z = ("top" : Str) ∨ z ∈ names rs) {i : Nat} {r : Row} (hr : rs[i]? = some r) :
    decide (r.fo ∈ z :: ((rs.take i).filter (isIn rs z)).map (·.nm)) = isIn rs z r := by
  have hrm := List.mem_of_getElem? hr
  have hfo := h.fo hr
  have f := h i r hr
  have mem : ∀ x : Str, x ∈ ((rs.take i).filter (isIn rs z)).map (·.nm) ↔ (x ∈ names (rs.take i) ∧ x ≠ z ∧ (z = ("top" : Str) ∨ z ∈ wayOf rs x)) := by
    intro x
    constructor
    · intro hx
      obtain ⟨q, hq, rfl⟩ := List.mem_map.mp hx
      obtain ⟨h1, h2⟩ := List.mem_filter.mp hq
      unfold isIn at h2
      simp at h2
      exact ⟨List.mem_map.mpr ⟨q, h1, rfl⟩, h2.1, h2.2⟩
    · rintro ⟨hx, h1, h2⟩
      obtain ⟨q, hq, rfl⟩ := List.mem_map.mp hx
      refine List.mem_map.mpr ⟨q, List.mem_filter.mpr ⟨hq, ?_⟩, rfl⟩
      unfold isIn
      simp
      exact ⟨h1, h2⟩
  by_cases e : r.nm = z
  · have e1 : isIn rs z r = false := by unfold isIn; simp [e]
    rw [e1]
    refine decide_eq_false fun hm => ?_
    rcases List.mem_cons.mp hm with q | q
    · rcases hfo with e2 | e2
      · exact f.top (e.trans (q.symm.trans e2))
      · rw [q, ← e] at e2; exact f.new e2
    · obtain ⟨q1, q2, q3⟩ := (mem _).mp q
      rcases q3 with q3 | q3
      · exact f.top (e.trans q3)
      · have := way_pre h i q1 q3
        rw [← e] at this
        exact f.new this
  · have e1 : isIn rs z r = (decide (z = ("top" : Str)) || decide (z ∈ wayOf rs r.nm)) := by unfold isIn; simp [e]
    rw [e1]
    have w : z ∈ wayOf rs r.nm ↔ z ∈ wayOf rs r.fo := by
      rw [way_step h hrm, List.mem_append, List.mem_singleton]
      exact ⟨fun q => q.resolve_right fun q => e q.symm, .inl⟩
    by_cases ht : z = ("top" : Str)
    · rw [decide_eq_true ht, Bool.true_or]
      refine decide_eq_true ?_
      rcases hfo with e2 | e2
      · rw [e2, ht]; exact List.mem_cons_self ..
      · refine List.mem_cons_of_mem _ ((mem _).mpr ⟨e2, fun q => ?_, .inl ht⟩)
        rw [q, ht] at e2
        exact top_not h (names_take e2)
    · rw [decide_eq_false ht, Bool.false_or]
      refine decide_eq_decide.mpr ?_
      rw [w]
      constructor
      · intro hm
        rcases List.mem_cons.mp hm with q | q
        · rw [q]; exact way_self h (hz.resolve_left ht)
        · exact ((mem _).mp q).2.2.resolve_left ht
      · intro hm
        by_cases q : r.fo = z
        · rw [q]; exact List.mem_cons_self ..
        · rcases hfo with e2 | e2
          · rw [e2, way_top h] at hm; cases hm
          · exact List.mem_cons_of_mem _ ((mem _).mpr ⟨e2, q, .inr hm⟩)
end Ts

set_option maxRecDepth 100000
set_option maxHeartbeats 4000000
namespace Ts
open PySem L2
def kvB (l : List Str) : List (Key × V) := l.map fun x => (.inr x, .bl true)
theorem valV_kvB (z : Str) : ∀ l : List Str, (valV (kvB l) (.inr z : Key)).isSome = decide (z ∈ l)
  | [] => by simp [kvB, valV]
  | x :: l => by
    have ih := valV_kvB z l
    show (valV ((.inr x, V.bl true) :: kvB l) (.inr z : Key)).isSome = _
    by_cases e : x = z
    · rw [valV_pos (by rw [e])]
      subst e
      simp
    · rw [valV_neg (fun q => e (Sum.inr.inj q)), ih]
      have e' : ¬ z = x := fun q => e q.symm
      simp [e']
theorem kvB_put {l : List Str} {x : Str} (h : x ∉ l) : putK (kvB l) (.inr x) (.bl true) = kvB (l ++ [x]) := by
  rw [putK_new]
  · unfold kvB; rw [List.map_append]; rfl
  · have q := valV_kvB x l
    rw [decide_eq_false h] at q
    simpa using q
def spListOf (C : Addr) (g : List Row → Str → List Str) : Sp := fun vs H Q _ => ∃ (t : Addr) (z : Str) (rs : List Row), vs = [.ref t, .str z] ∧ TreeAt C H t rs ∧ (z = ("top" : Str) ∨ z ∈ names rs) ∧
  ∀ D H', H D = none → Same H H' → H' D = some (.lst ((g rs z).map V.str)) → Q (.ref D) H'
theorem filter_take {rs : List Row} {i : Nat} {r : Row} (h : rs[i]? = some r) (p : Row → Bool) : ((rs.take (i + 1)).filter p).map (·.nm) = ((rs.take i).filter p).map (·.nm) ++ (if p r = true then [r.nm] else []) := by
  rw [take_more h, List.filter_append, List.map_append]
  by_cases e : p r = true
  · rw [if_pos e, List.filter_cons_of_pos e]; rfl
  · rw [if_neg e, List.filter_cons_of_neg e]; rfl
theorem kvF_at {g : Row → V} {rs : List Row} {i : Nat} {k : Key} {v : V} (h : (kvF g rs)[i]? = some (k, v)) : ∃ r, rs[i]? = some r ∧ k = .inr r.nm ∧ v = g r := by
  unfold kvF at h
  rw [List.getElem?_map] at h
  obtain ⟨r, e, q⟩ := Option.map_eq_some_iff.mp h
  injection q with q1 q2
  exact ⟨r, e, q1.symm, q2.symm⟩
theorem rowOf_at {rs : List Row} (h : Valid rs) {i : Nat} {r : Row} (hr : rs[i]? = some r) : rowOf rs r.nm = some r := by
  unfold rowOf
  rw [List.find?_eq_some_iff_getElem]
  have hi := (List.getElem?_eq_some_iff.mp hr).1
  refine ⟨decide_eq_true rfl, i, hi, (List.getElem?_eq_some_iff.mp hr).2, fun j hj => ?_⟩
  simp only [Bool.not_eq_true', decide_eq_false_iff_not]
  intro e
  exact (h i r hr).new (List.mem_map.mpr ⟨rs[j], List.mem_take_iff_getElem.mpr ⟨j, by omega, rfl⟩, e⟩)
section
variable {P : Program} {w : World} {K : PySem.W.Frag} {mg : Str → Option Value} {base : Heap} {C : Addr}
abbrev nInside : List Str := ["self", "box", "name"]
theorem sc_Tree_inside : FnScope nInside ["self", "box"] (defScope s_Tree_inside) := ⟨rfl, rfl, rfl, by decide +kernel, rfl, by decide +kernel, by decide +kernel⟩
theorem ok_Tree_inside {f : Addr} {fd : FuncData} (F : Fun K "inside" "Tree.inside" s_Tree_inside f fd) (Dp : DefAt K mg "check_place" s_check_place ["tree", "thing"]) (Gp : FnOk P w K mg base CX0 4 Dp.f Dp.fd ["tree", "thing"] (spPlace C)) (T : TxT K mg C) : FnOk P w K mg base CX0 5 f fd ["self", "box"] (spListOf C insideL) := by
  refine F.ok sc_Tree_inside (fun vs H Q E h => ?_) (fun cdv A outer s H vs Q E hr h => ?_)
  · obtain ⟨t, z, rs, rfl, _⟩ := h
    rfl
  · obtain ⟨t, z, rs, rfl, ht, hz, hq⟩ := h
    have hu := hu_of hr
    obtain ⟨dx, q, f, k, p, qs, h1, h2, h3, h4, h5, h6⟩ := ht.ex
    refine ⟨_, pss_cons (ps_expr (pe_call Gp hr rfl Dp.g Dp.F.kp Dp.b .nil pass0 (pa_cons (pv 0) (pa_cons (pv 1) pa_nil))))
      (pss_one (ps_ret (pe_lock (pe_lc (own := [("name", 2)]) (g := gName 2) (tt := tTest (tOp rEq (tDGet (tFld K (tVar 0) "folders") (tVar 2)) (tVar 1))) (te := tVar 2) rfl sc_Tree_inside.nd (pi_keys (pe_fld (pv 0) rfl)) (blkOk_by (N := nInside) (sc := defScope s_Tree_inside) (by decide +kernel))
        (fun _ _ _ _ _ => pg_name (i := 2) sc_Tree_inside.nd rfl (Or.inl rfl)) (fun _ _ _ _ _ => by exact pts_one (pt_cmpR op_eq (pe_dget hu (pe_fld (pv 0) rfl) (pv 2) (fun _ _ => rfl)) (pv 1) (nomark _))) (fun _ _ _ _ _ => pv 2))))), ?_⟩
    refine ⟨_, rfl, _, rfl, t, z, rs, rfl, ht, hz, ?_⟩
    refine ⟨f, _, h4, trivial, fun od => ?_⟩
    have tf_ : t ≠ f := ne_of h1 h4 (by intro x; cases x)
    refine ⟨_, rfl, t, C, dx, _, _, rfl, Eq.trans (upd_ne tf_) h1, T.cl, T.nf, tf_f _ _ _ _, f, od, rfl, .inl ⟨_, upd_same, fun D hD => ?_⟩⟩
    have Df : D ≠ f := fun e => by rw [e, upd_same] at hD; cases hD
    have hD0 : H D = none := by rw [upd_ne Df] at hD; exact hD
    refine lc_it (walk_keys (d := f) (o := od) (kvs := kvF (fun r => .str r.fo) rs)) (fun i H' => Same (upd H f (.frz od (.dK (kvF (fun r => .str r.fo) rs)))) H' ∧ H' D = some (.lst ((((rs.take i).filter fun r => decide (r.fo = z)).map (·.nm)).map V.str))) ⟨Same.new hD, upd_same⟩ (fun i H' _ m => m.1 _ _ upd_same) ?_ ?_
    · rintro i x H2 H2' hi ⟨sm, hDi⟩ ⟨rfl, k', v', hk, rfl⟩
      obtain ⟨r, hr', rfl, rfl⟩ := kvF_at hk
      have e1 : H2' t = some (.ins C dx (tf q f k p)) := sm _ _ (Eq.trans (upd_ne tf_) h1)
      have e2 : H2' f = some (.frz od (.dK (kvF (fun r => .str r.fo) rs))) := sm _ _ upd_same
      have dg : DGet H2' f (.str r.nm) (some (.str r.fo)) := by
        have e := rowOf_at ht.val hr'
        refine .inl ⟨_, .inr r.nm, .inr ⟨od, e2⟩, rfl, ?_⟩
        rw [valV_kvF, show (rs.find? fun r' => decide (r'.nm = r.nm)) = some r from e]
        rfl
      refine ⟨rfl, _, rfl, t, C, dx, _, _, rfl, e1, T.cl, T.nf, tf_f _ _ _ _, _, rfl, f, _, rfl, dg, _, rfl, rfl, _, rfl, ?_⟩
      have i100 : i < 100 := by
        have := (List.getElem?_eq_some_iff.mp hr').1
        have := ht.len
        omega
      refine ite2 (fun hc => ?_) (fun hc => ?_)
      · have hc' : r.fo = z := V.str.inj (of_decide_eq_true hc)
        refine ⟨_, rfl, _, hDi, small1000 ?_, fun b o e => ?_, ?_⟩
        · rw [List.length_map, List.length_map]
          have := List.length_filter_le (fun r => decide (r.fo = z)) (rs.take i)
          rw [List.length_take] at this
          omega
        · rw [upd_ne (fun q => by rw [q, hD] at e; cases e)]
          exact sm b o e
        · rw [upd_same, filter_take hr', if_pos (decide_eq_true hc'), List.map_append]; rfl
      · have hc' : ¬ r.fo = z := fun q => hc (decide_eq_true (by rw [q]))
        refine ⟨sm, ?_⟩
        rw [filter_take hr', if_neg (fun q => hc' (of_decide_eq_true q)), List.append_nil]
        exact hDi
    · rintro H2 ⟨sm, hDD⟩
      have e : (kvF (fun r => V.str r.fo) rs).length = rs.length := by unfold kvF; rw [List.length_map]
      rw [e, List.take_length] at hDD
      refine ⟨sm _ _ upd_same, ?_⟩
      refine hq D _ hD0 (fun b o e => ?_) ?_
      · by_cases hb : b = f
        · rw [hb, upd_same, ← h4, ← hb]; exact e
        · rw [upd_ne hb]; exact sm _ _ (by rw [upd_ne hb]; exact e)
      · rw [upd_ne Df]; exact hDD
abbrev nBelow : List Str := ["self", "box", "within", "name"]
theorem sc_Tree_below : FnScope nBelow ["self", "box"] (defScope s_Tree_below) := ⟨rfl, rfl, rfl, by decide +kernel, rfl, by decide +kernel, by decide +kernel⟩
theorem cutV_tail (x : V) (xs : List V) : cutV (x :: xs) (some 1) none = xs := by
  unfold cutV
  rw [HT.sIx_none, show HT.sIx (x :: xs).length 0 (some 1) = 1 from by rw [show (some 1 : Option Int) = some ((1 : Nat) : Int) from rfl, HT.sIx_nat, List.length_cons]; omega]
  show (xs.take ((x :: xs).length - 1)) = xs
  rw [List.length_cons, Nat.add_sub_cancel, List.take_length]
theorem ok_Tree_below {f : Addr} {fd : FuncData} (F : Fun K "below" "Tree.below" s_Tree_below f fd) (Dp : DefAt K mg "check_place" s_check_place ["tree", "thing"]) (Gp : FnOk P w K mg base CX0 4 Dp.f Dp.fd ["tree", "thing"] (spPlace C)) (B : TxB mg) (T : TxT K mg C) : FnOk P w K mg base CX0 5 f fd ["self", "box"] (spListOf C belowL) := by
  refine F.ok sc_Tree_below (fun vs H Q E h => ?_) (fun cdv A outer s H vs Q E hr h => ?_)
  · obtain ⟨t, z, rs, rfl, _⟩ := h
    rfl
  · obtain ⟨t, z, rs, rfl, ht, hz, hq⟩ := h
    have hu := hu_of hr
    obtain ⟨dx, q, f, k, p, qs, h1, h2, h3, h4, h5, h6⟩ := ht.ex
    refine ⟨_, pss_cons (ps_expr (pe_call Gp hr rfl Dp.g Dp.F.kp Dp.b .nil pass0 (pa_cons (pv 0) (pa_cons (pv 1) pa_nil))))
      (pss_cons (ps_set (i := 2) sc_Tree_below.nd rfl (.inl rfl) (pe_disp (pps_cons (pv 1) pe_bl pps_nil) (by rfl) (by rfl) (fun z => by cases z) (by decide)))
      (pss_cons (ps_lock (ps_for PassesOwn.never rfl (pi_keys (pe_fld (pv 0) rfl)) (pg_name (i := 3) sc_Tree_below.nd rfl (.inl rfl))
        (pss_one (ps_if (pt_cmp (pc_din hu (pe_dget hu (pe_fld (pv 0) rfl) (pv 3) (fun _ _ => rfl)) (pv 2))) (pss_one (ps_dput hu (pv 2) (pv 3) pe_bl rfl)) pss_nil))))
      (pss_one (ps_ret (pe_slice sl_list (pe_callTy (call_list_dK rfl) (by rfl) B.list (by decide +kernel) (pa_cons (pv 2) pa_nil)) (po_some pe_int) po_none))))), ?_⟩
    refine ⟨_, rfl, _, rfl, t, z, rs, rfl, ht, hz, ?_⟩
    refine fun wd hwd => ⟨_, rfl, upd_same, [(.inr z, .bl true)], rfl, (by show 1 ≤ 15; decide), ?_⟩
    have tw : t ≠ wd := ne_of_none h1 hwd
    have fw : f ≠ wd := ne_of_none h4 hwd
    have tf_ : t ≠ f := ne_of h1 h4 (by intro x; cases x)
    have fw' : f ≠ wd := fw
    refine ⟨f, _, Eq.trans (upd_ne fw) (Eq.trans (upd_ne fw) h4), trivial, fun od => ?_⟩
    obtain ⟨Hl, El⟩ : ∃ Hx, Hx = upd (upd (upd H wd (.dK [])) wd (.dK (mergeK [] [(.inr z, .bl true)]))) f (.frz od (.dK (kvF (fun r => .str r.fo) rs))) := ⟨_, rfl⟩
    have l1 : Hl t = some (.ins C dx (tf q f k p)) := by rw [El, upd_ne tf_, upd_ne tw, upd_ne tw]; exact h1
    have l2 : Hl f = some (.frz od (.dK (kvF (fun r => .str r.fo) rs))) := by rw [El]; exact upd_same
    have l3 : Hl wd = some (.dK (kvB [z])) := by rw [El, upd_ne fw.symm]; exact upd_same
    have l4 : ∀ b o, b ≠ f → H b = some o → Hl b = some o := fun b o nb e => by rw [El, upd_ne nb, upd_ne (ne_of_none e hwd), upd_ne (ne_of_none e hwd)]; exact e
    have l5 : Same Hl Hl := Same.refl _
    rw [← El]
    clear El
    refine ⟨_, rfl, t, C, dx, _, _, rfl, l1, T.cl, T.nf, tf_f _ _ _ _, f, od, rfl, .inl ⟨_, l2, ?_⟩⟩
    refine for_it (walk_keys (d := f) (o := od) (kvs := kvF (fun r => .str r.fo) rs)) (fun i σ H' => ∃ v : Option V, σ = [some (.ref t), some (.str z), some (.ref wd), v] ∧ SB wd Hl H' ∧ H' wd = some (.dK (kvB (z :: ((rs.take i).filter (isIn rs z)).map (·.nm)))))
      ⟨none, rfl, SB.refl _ _, l3⟩ (fun i σ H' _ ⟨_, _, sb, _⟩ => sb _ _ fw l2) ?_ ?_
    · rintro i x σ H2 H2' hi ⟨v, rfl, sb, hw⟩ ⟨rfl, k', v', hk, rfl⟩
      obtain ⟨r, hr', rfl, rfl⟩ := kvF_at hk
      have e1 : H2' t = some (.ins C dx (tf q f k p)) := sb _ _ tw l1
      have e2 : H2' f = some (.frz od (.dK (kvF (fun r => .str r.fo) rs))) := sb _ _ fw l2
      have dg : DGet H2' f (.str r.nm) (some (.str r.fo)) := by
        have e := rowOf_at ht.val hr'
        refine .inl ⟨_, .inr r.nm, .inr ⟨od, e2⟩, rfl, ?_⟩
        rw [valV_kvF, show (rs.find? fun r' => decide (r'.nm = r.nm)) = some r from e]
        rfl
      refine ⟨_, rfl, t, C, dx, _, _, rfl, e1, T.cl, T.nf, tf_f _ _ _ _, _, rfl, f, _, rfl, dg, _, rfl, wd, _, rfl, DGet.k (k := Sum.inr r.fo) hw, _, rfl, ?_⟩
      rw [valV_kvB, below_in ht.val hz hr']
      have i100 : i < 100 := by
        have := (List.getElem?_eq_some_iff.mp hr').1
        have := ht.len
        omega
      refine ite2 (fun hc => ?_) (fun hc => ?_)
      · have nw : r.nm ∉ z :: ((rs.take i).filter (isIn rs z)).map (·.nm) := fun hm => by
          rcases List.mem_cons.mp hm with y | y
          · unfold isIn at hc
            simp [y] at hc
          · obtain ⟨q1, hq1, e⟩ := List.mem_map.mp y
            exact (ht.val i r hr').new (List.mem_map.mpr ⟨q1, (List.mem_filter.mp hq1).1, e⟩)
        refine ⟨_, rfl, _, rfl, wd, _, rfl, DPut.k (k := Sum.inr r.nm) hw (small1000 ?_), ?_⟩
        · unfold kvB
          rw [List.length_map, List.length_cons, List.length_map]
          have := List.length_filter_le (isIn rs z) (rs.take i)
          rw [List.length_take] at this
          omega
        · refine ⟨_, rfl, fun b o nb e => by rw [upd_ne nb]; exact sb b o nb e, ?_⟩
          rw [upd_same, kvB_put nw, filter_take hr', if_pos hc]
          rfl
      · refine ⟨_, rfl, sb, ?_⟩
        rw [filter_take hr', if_neg hc, List.append_nil]
        exact hw
    · rintro σ H2 ⟨v, rfl, sb, hw⟩
      have e : (kvF (fun r => V.str r.fo) rs).length = rs.length := by unfold kvF; rw [List.length_map]
      rw [e, List.take_length] at hw
      refine ⟨sb _ _ fw l2, ?_⟩
      have hw' : (upd H2 f (.dK (kvF (fun r => .str r.fo) rs))) wd = some (.dK (kvB (z :: belowL rs z))) := by rw [upd_ne fw.symm]; exact hw
      have sH : Same H (upd H2 f (.dK (kvF (fun r => .str r.fo) rs))) := fun b o eb => by
        by_cases hb : b = f
        · rw [hb, upd_same, ← h4, ← hb]; exact eb
        · rw [upd_ne hb]
          exact sb b o (ne_of_none eb hwd) (l4 b o hb eb)
      refine ⟨_, rfl, wd, _, rfl, hw', fun u hu' => ⟨_, rfl, u, _, rfl, SqL.of upd_same, fun D hD => ?_⟩⟩
      refine hq D _ ?_ ((sH.trans (Same.new hu')).trans (Same.new hD)) ?_
      · exact (sH.trans (Same.new hu')).free hD
      · have e3 : (kvB (z :: belowL rs z)).map (fun kv => kV kv.1) = V.str z :: (belowL rs z).map V.str := by
          unfold kvB
          rw [List.map_map]
          rfl
        rw [upd_same, e3, cutV_tail]
end
end Ts

set_option maxRecDepth 100000
set_option maxHeartbeats 4000000
namespace Ts
open PySem L2
/-- a list of rows, all tuples -/
structure RowsL (H : Hp) (p : Addr) (rs : List Row) : Prop where
  ex : ∃ as : List Addr, H p = some (.lst (as.map V.ref)) ∧ RowsAt H as rs
theorem RowsL.same {H H' : Hp} {p : Addr} {rs : List Row} (h : RowsL H p rs) (s : Same H H') : RowsL H' p rs := by
  obtain ⟨as, h1, h2⟩ := h.ex
  exact ⟨as, s _ _ h1, h2.same s⟩
def spWay : Sp := fun vs H Q _ => ∃ (p : Addr) (z : Str) (rs : List Row), vs = [.ref p, .str z] ∧ RowsL H p rs ∧ Valid rs ∧ rs.length ≤ 100 ∧ (z = ("top" : Str) ∨ z ∈ names rs) ∧
  ∀ D H', H D = none → Same H H' → H' D = some (.lst ((wayOf rs z).map V.str)) → Q (.ref D) H'
theorem atI0 (a b c d : V) : atI [a, b, c, d] 0 = some a := rfl
theorem atI1 (a b c d : V) : atI [a, b, c, d] 1 = some b := rfl
theorem atI2 (a b c d : V) : atI [a, b, c, d] 2 = some c := rfl
theorem atI3 (a b c d : V) : atI [a, b, c, d] 3 = some d := rfl
theorem merge_kvF (g : Row → V) {rs : List Row} (h : Valid rs) : ∀ n, n ≤ rs.length → mergeK [] (kvF g (rs.take n)) = kvF g (rs.take n) := by
  intro n
  induction n with
  | zero => intro _; rfl
  | succ n ih =>
    intro hn
    have hr : rs[n]? = some rs[n] := List.getElem?_eq_getElem (by omega)
    have e : kvF g (rs.take (n + 1)) = kvF g (rs.take n) ++ [(.inr rs[n].nm, g rs[n])] := by
      rw [take_more hr]; unfold kvF; rw [List.map_append]; rfl
    rw [e]
    unfold mergeK
    rw [List.foldl_append]
    have ih' := ih (by omega)
    unfold mergeK at ih'
    rw [ih']
    show putK (kvF g (rs.take n)) (.inr rs[n].nm) (g rs[n]) = _
    rw [kvF_more hr (h n _ hr).new, e]
theorem merge_all (g : Row → V) {rs : List Row} (h : Valid rs) : mergeK [] (kvF g rs) = kvF g rs := by
  have := merge_kvF g h rs.length (Nat.le_refl _)
  rw [List.take_length] at this
  exact this
def muWay (rs : List Row) : List (Option V) → Hp → Nat
  | _ :: some (.str z) :: _, _ => (wayOf rs z).length
  | _, _ => 0
theorem way_len {rs : List Row} {z : Str} : (wayOf rs z).length ≤ rs.length := by
  have : ∀ (l : List Row) (z : Str), (wayR l z).length ≤ l.length := by
    intro l
    induction l with
    | nil => intro z; exact Nat.le_refl _
    | cons r l ih =>
      intro z
      unfold wayR
      split
      · rw [List.length_append, List.length_singleton, List.length_cons]; have := ih r.fo; omega
      · rw [List.length_cons]; have := ih z; omega
  have q := this rs.reverse z
  rw [List.length_reverse] at q
  exact q
theorem Valid.foAll {rs : List Row} (h : Valid rs) {r : Row} (hr : r ∈ rs) : r.fo = ("top" : Str) ∨ r.fo ∈ names rs := by
  obtain ⟨i, hi, e⟩ := List.mem_iff_getElem.mp hr
  have := h.fo (i := i) (r := r) (by rw [← e]; exact List.getElem?_eq_getElem hi)
  exact this.imp id names_take
section
variable {P : Program} {w : World} {K : PySem.W.Frag} {mg : Str → Option Value} {base : Heap} {C : Addr}
abbrev nWay : List Str := ["_law_rows_here", "_law_box", "_law_folders", "_law_found", "_law_row"]
theorem sc_way : FnScope nWay ["_law_rows_here", "_law_box"] (defScope s_L_way) := ⟨rfl, rfl, rfl, by decide +kernel, rfl, by decide +kernel, by decide +kernel⟩
theorem ok_way (D : DefAt K mg "_law_way" s_L_way ["_law_rows_here", "_law_box"]) (B : TxB mg) : FnOk P w K mg base CX0 2 D.f D.fd ["_law_rows_here", "_law_box"] spWay := by
  refine D.F.ok sc_way (fun vs H Q E h => ?_) (fun cdv A outer s H vs Q E hr h => ?_)
  · obtain ⟨p, z, rs, rfl, _⟩ := h
    rfl
  · obtain ⟨p, z, rs, rfl, ⟨as, hp, hrows⟩, hv, hl, hz, hq⟩ := h
    have hu := hu_of hr
    refine ⟨_, pss_cons (ps_par (i := 2) (j := 3) rfl sc_way.nd rfl rfl (by decide) rfl rfl (pa_cons (pe_callTy (call_dictP rfl) (by rfl) B.dict (by decide +kernel) (pa_cons (pe_lc (own := [("_law_row", 4)]) (g := gName 4) (tt := tYes) (te := tTup (tCons (tOp (rIxT K) (tVar 4) (tC (.int 0))) (tCons (tOp (rIxT K) (tVar 4) (tC (.int 1))) tNil))) rfl sc_way.nd (pi_list (pv 0)) (blkOk_by (N := nWay) (sc := defScope s_L_way) (by decide +kernel))
        (fun _ _ _ _ _ => pg_name (i := 4) sc_way.nd rfl (Or.inl rfl)) (fun _ _ _ _ _ => pts_nil) (fun _ _ _ _ _ => by exact pe_tup (pa_cons (pe_ix ix_tup (pv 4) pe_int (fun _ _ => rfl)) (pa_cons (pe_ix ix_tup (pv 4) pe_int (fun _ _ => rfl)) pa_nil)))) pa_nil)) (pa_cons (pe_lst pa_nil) pa_nil)) (by rfl))
      (pss_cons (ps_while PassesOwn.never (pt_cmpR op_ne (pv 1) pe_str (nomark _))
        (pss_cons (ps_expr (pe_bm PySem.F.plainAttrs_list PySem.F.slot_list_insert PySem.F.type_list_insert mt_insert (pv 3) (pa_cons pe_int (pa_cons (pv 1) pa_nil))))
        (pss_one (ps_set (i := 1) sc_way.nd rfl (.inl rfl) (pe_dget hu (pv 2) (pv 1) (fun _ _ => rfl))))))
      (pss_one (ps_ret (pv 3)))), ?_⟩
    refine ⟨_, rfl, p, rfl, ⟨_, SqL.of hp⟩, fun Dl hDl => ?_⟩
    refine lc_list (K := K) (a := p) (xs := as.map V.ref) (fun i H' => ∃ ps : List Addr, Same H H' ∧ H' Dl = some (.lst (ps.map V.ref)) ∧ Paired (fun q (kv : Key × V) => SqT K H' q [kV kv.1, kv.2]) ps (kvF (fun r => .str r.fo) (rs.take i))) ⟨[], Same.new hDl, upd_same, .nil⟩ (fun i H' _ ⟨_, s, _⟩ => s.seq (SqL.of hp)) ?_ ?_
    · rintro i x H2 hx ⟨ps, sm, hD2, pr⟩
      rw [List.getElem?_map] at hx
      obtain ⟨ra, hra, rfl⟩ := Option.map_eq_some_iff.mp hx
      obtain ⟨r, hr'⟩ : ∃ r, rs[i]? = some r := ⟨rs[i]'(by rw [← hrows.len]; exact (List.getElem?_eq_some_iff.mp hra).1), List.getElem?_eq_getElem _⟩
      have e := sm _ _ (hrows.at_ i ra r hra hr')
      refine ⟨rfl, tYes_if ⟨_, rfl, ra, _, _, _, rfl, rfl, sqT e, atI0 _ _ _ _, _, rfl, ra, _, _, _, rfl, rfl, sqT e, atI1 _ _ _ _, (by show 2 ≤ sizeLine; decide), fun t ht => ?_⟩⟩
      have nDt : Dl ≠ t := ne_of_none hD2 ht
      have pl := pr.length
      refine ⟨ps.map V.ref, by rw [upd_ne nDt]; exact hD2, small1000 (by rw [List.length_map, pl]; unfold kvF; rw [List.length_map, List.length_take]; omega), ps ++ [t], fun b o eb => ?_, by rw [upd_same, List.map_append]; rfl, ?_⟩
      · rw [upd_ne (fun y => by rw [y, hDl] at eb; cases eb), upd_ne (ne_of_none (sm _ _ eb) ht)]
        exact sm _ _ eb
      · have ek : kvF (fun r => V.str r.fo) (rs.take (i + 1)) = kvF (fun r => V.str r.fo) (rs.take i) ++ [(.inr r.nm, .str r.fo)] := by
          rw [take_more hr']; unfold kvF; rw [List.map_append]; rfl
        rw [ek]
        have keep : ∀ {b : Addr} {xs : List V}, SqT K H2 b xs → SqT K (upd (upd H2 t (.tup [V.str r.nm, .str r.fo])) Dl (.lst (ps.map V.ref ++ [V.ref t]))) b xs := fun {b xs} h => by
          rcases h with (h | ⟨o, h⟩) | h
          · exact .inl (.inl (by rw [upd_ne (fun y => by rw [y, hD2] at h; cases h), upd_ne (ne_of_none h ht)]; exact h))
          · exact .inl (.inr ⟨o, by rw [upd_ne (fun y => by rw [y, hD2] at h; cases h), upd_ne (ne_of_none h ht)]; exact h⟩)
          · exact .inr h
        exact (pr.mono fun _ _ h => keep h).snoc (sqT (by rw [upd_ne nDt.symm]; exact upd_same))
    · rintro H2 ⟨ps, sm, hD2, pr⟩
      rw [List.length_map, hrows.len, List.take_length] at pr
      refine ⟨Dl, ps, kvF (fun r => .str r.fo) rs, rfl, SqL.of hD2, pr, fun fd hfd => ?_⟩
      rw [merge_all _ hv]
      refine ⟨Nat.zero_le _, fun fo hfo => ⟨_, _, rfl, ?_⟩⟩
      have n1 : fd ≠ fo := fun y => by rw [← y, upd_same] at hfo; cases hfo
      have s3 : Same H (upd (upd H2 fd (.dK (kvF (fun r => .str r.fo) rs))) fo (.lst [])) := (sm.trans (Same.new hfd)).trans (Same.new hfo)
      have fofree : H fo = none := (sm.trans (Same.new hfd)).free hfo
      refine while_by (fun σ H' => ∃ (z' : Str) (v : Option V) (fs : List Str), σ = [some (.ref p), some (.str z'), some (.ref fd), some (.ref fo), v] ∧ (z' = ("top" : Str) ∨ z' ∈ names rs) ∧ Same H H' ∧ H' fd = some (.dK (kvF (fun r => .str r.fo) rs)) ∧ H' fo = some (.lst (fs.map V.str)) ∧ wayOf rs z' ++ fs = wayOf rs z) (muWay rs)
        ⟨z, none, [], rfl, hz, s3, by rw [upd_ne n1]; exact upd_same, upd_same, by simp⟩ ?_ (fun σ H Q Q' hQ ⟨v, e, sc, k, e2, q⟩ => ⟨v, e, sc, k, e2, hQ _ _ q⟩)
      rintro σ H4 ⟨z', v, fs, rfl, hz', s4, hfd4, hfo4, ew⟩
      refine ⟨_, rfl, rfl, _, rfl, ?_⟩
      refine ite2 (fun hc => ?_) (fun hc => ?_)
      · have hn : z' ≠ ("top" : Str) := fun e => by rw [e] at hc; simp at hc
        have hin := hz'.resolve_left hn
        obtain ⟨r, e1, hrm, rfl⟩ := rowOf_some hin
        have ws := way_step hv hrm
        have lw := way_len (rs := rs) (z := z)
        have lf : fs.length ≤ 100 := by
          have := congrArg List.length ew
          rw [List.length_append] at this
          omega
        refine ⟨_, rfl, .inl ⟨rfl, _, SqL.of hfo4⟩, _, rfl, fo, _, 0, _, rfl, rfl, hfo4, small1000 (by rw [List.length_map]; omega), by decide, by decide, ?_⟩
        have n1' : fd ≠ fo := n1
        refine ⟨_, rfl, _, rfl, fd, .str r.fo, rfl, ?_, ?_⟩
        · have dg := DGet.k (k := Sum.inr r.nm) (show (upd H4 fo (.lst ((fs.map V.str).take (0 : Int).toNat ++ [V.str r.nm] ++ (fs.map V.str).drop (0 : Int).toNat))) fd = some (.dK (kvF (fun r => .str r.fo) rs)) from by rw [upd_ne n1']; exact hfd4)
          rw [valV_kvF, show (rs.find? fun q => decide (q.nm = r.nm)) = some r from e1] at dg
          exact dg
        · refine ⟨⟨r.fo, v, r.nm :: fs, rfl, hv.foAll hrm, fun b o e => ?_, by rw [upd_ne n1']; exact hfd4, upd_same, ?_⟩, ?_⟩
          · rw [upd_ne (fun y => by rw [y, fofree] at e; cases e)]
            exact s4 _ _ e
          · rw [← ew, ws]; simp
          · show (wayOf rs r.fo).length < (wayOf rs r.nm).length
            rw [ws]; simp
      · have ht : z' = ("top" : Str) := Classical.byContradiction fun e => hc (by
          show (!decide (V.str z' = V.str ("top" : Str))) = true
          rw [decide_eq_false (fun q => e (V.str.inj q))]; rfl)
        refine ⟨_, rfl, hq fo H4 fofree s4 ?_⟩
        rw [hfo4, ← ew, ht, way_top hv]; rfl
end
end Ts

set_option maxRecDepth 100000
set_option maxHeartbeats 4000000
namespace Ts
open PySem L2
def spListR (g : List Row → Str → List Str) : Sp := fun vs H Q _ => ∃ (p : Addr) (z : Str) (rs : List Row), vs = [.ref p, .str z] ∧ RowsL H p rs ∧ Valid rs ∧ rs.length ≤ 100 ∧ (z = ("top" : Str) ∨ z ∈ names rs) ∧
  ∀ D H', H D = none → Same H H' → H' D = some (.lst ((g rs z).map V.str)) → Q (.ref D) H'
theorem rows_at {as : List Addr} {rs : List Row} {H : Hp} (h : RowsAt H as rs) {i : Nat} {x : V} (hx : (as.map V.ref)[i]? = some x) : ∃ ra r, x = .ref ra ∧ as[i]? = some ra ∧ rs[i]? = some r ∧ H ra = some (.tup (rowVs r)) := by
  rw [List.getElem?_map] at hx
  obtain ⟨ra, hra, rfl⟩ := Option.map_eq_some_iff.mp hx
  obtain ⟨r, hr'⟩ : ∃ r, rs[i]? = some r := ⟨rs[i]'(by rw [← h.len]; exact (List.getElem?_eq_some_iff.mp hra).1), List.getElem?_eq_getElem _⟩
  exact ⟨ra, r, rfl, hra, hr', h.at_ i ra r hra hr'⟩
section
variable {P : Program} {w : World} {K : PySem.W.Frag} {mg : Str → Option Value} {base : Heap} {C : Addr}
abbrev nLBelow : List Str := ["_law_rows_here", "_law_box", "_law_names", "_law_row", "_law_name_here"]
theorem sc_Lbelow : FnScope nLBelow ["_law_rows_here", "_law_box"] (defScope s_L_below) := ⟨rfl, rfl, rfl, by decide +kernel, rfl, by decide +kernel, by decide +kernel⟩
theorem ok_Lbelow (D : DefAt K mg "_law_below" s_L_below ["_law_rows_here", "_law_box"]) (Dw : DefAt K mg "_law_way" s_L_way ["_law_rows_here", "_law_box"]) (B : TxB mg) : FnOk P w K mg base CX0 3 D.f D.fd ["_law_rows_here", "_law_box"] (spListR belowL) := by
  have Gw : FnOk P w K mg base CX0 2 Dw.f Dw.fd ["_law_rows_here", "_law_box"] spWay := ok_way Dw B
  refine D.F.ok sc_Lbelow (fun vs H Q E h => ?_) (fun cdv A outer s H vs Q E hr h => ?_)
  · obtain ⟨p, z, rs, rfl, _⟩ := h
    rfl
  · obtain ⟨p, z, rs, rfl, hL, hv, hl, hz, hq⟩ := h
    obtain ⟨as, hp, hrows⟩ := id hL.ex
    refine ⟨_, pss_cons (ps_setLc (i := 2) (own := [("_law_row", 3)]) (g := gName 3) (tt := tTest (tOp rNe (tOp (rIxT K) (tVar 3) (tC (.int 0))) (tVar 1))) (te := tOp (rIxT K) (tVar 3) (tC (.int 0))) rfl sc_Lbelow.nd rfl rfl (sw_true rfl rfl rfl (by decide +kernel)) (pi_list (pv 0)) (blkOk_by (N := nLBelow) (sc := defScope s_L_below) (by decide +kernel))
        (fun _ _ _ _ _ => pg_name (i := 3) sc_Lbelow.nd rfl (Or.inl rfl)) (fun _ _ _ _ _ => by exact pts_one (pt_cmpR op_ne (pe_ix ix_tup (pv 3) pe_int (fun _ _ => rfl)) (pv 1) (nomark _))) (fun _ _ _ _ _ => by exact pe_ix ix_tup (pv 3) pe_int (fun _ _ => rfl)))
      (pss_one (ps_ret (pe_lc (own := [("_law_name_here", 4)]) (g := gName 4) (tt := tOr (tTest (tOp rEq (tVar 1) (tC (.str ("top" : Str))))) (tTest (tOp (rIn K false) (tVar 1) (tCall spWay [] E0 (tCons (tVar 0) (tCons (tVar 4) tNil)))))) (te := tVar 4) rfl sc_Lbelow.nd (pi_list (pv 2)) (blkOk_by (N := nLBelow) (sc := defScope s_L_below) (by decide +kernel))
        (fun _ _ _ _ _ => pg_name (i := 4) sc_Lbelow.nd rfl (Or.inl rfl)) (fun _ _ _ _ _ => by exact pts_one (PW.pt (pw_or (pt_cmpR op_eq (pv 1) pe_str (nomark _)) (pw_or1 (pt_cmpR op_in_seq (pv 1) (pe_call Gw hr rfl Dw.g Dw.F.kp Dw.b .nil pass0 (pa_cons (pv 0) (pa_cons (pv 4) pa_nil))) (by rfl)))))) (fun _ _ _ _ _ => pv 4)))), ?_⟩
    refine ⟨_, rfl, p, rfl, ⟨_, SqL.of hp⟩, fun nl hnl => ?_⟩
    refine lc_list (K := K) (a := p) (xs := as.map V.ref) (fun i H' => Same H H' ∧ H' nl = some (.lst ((((rs.take i).filter fun r => decide (r.nm ≠ z)).map (·.nm)).map V.str))) ⟨Same.new hnl, upd_same⟩ (fun i H' _ m => m.1.seq (SqL.of hp)) ?_ ?_
    · rintro i x H2 hx ⟨sm, hD⟩
      obtain ⟨ra, r, rfl, hra, hr', e0⟩ := rows_at hrows hx
      have e := sm _ _ e0
      refine ⟨rfl, _, rfl, ra, _, _, _, rfl, rfl, sqT e, atI0 _ _ _ _, _, rfl, rfl, _, rfl, ?_⟩
      refine ite2 (fun hc => ?_) (fun hc => ?_)
      · have hc' : r.nm ≠ z := fun q => by rw [q] at hc; simp at hc
        refine ⟨_, rfl, ra, _, _, _, rfl, rfl, sqT e, atI0 _ _ _ _, _, hD, small1000 ?_, fun b o eb => ?_, ?_⟩
        · rw [List.length_map, List.length_map]
          have := List.length_filter_le (fun r => decide (r.nm ≠ z)) (rs.take i)
          rw [List.length_take] at this
          omega
        · rw [upd_ne (fun y => by rw [y, hnl] at eb; cases eb)]
          exact sm _ _ eb
        · rw [upd_same, filter_take hr', if_pos (decide_eq_true hc'), List.map_append]; rfl
      · have hc' : r.nm = z := Classical.byContradiction fun q => hc (by
          show (!decide (V.str r.nm = V.str z)) = true
          rw [decide_eq_false (fun y => q (V.str.inj y))]; rfl)
        refine ⟨sm, ?_⟩
        rw [filter_take hr', if_neg (by simp [hc']), List.append_nil]
        exact hD
    · rintro H2 ⟨sm, hD⟩
      rw [List.length_map, hrows.len, List.take_length] at hD
      refine ⟨_, rfl, nl, rfl, ⟨_, SqL.of hD⟩, fun D hDn => ?_⟩
      obtain ⟨L0, eL0⟩ : ∃ L0, L0 = (rs.filter fun r => decide (r.nm ≠ z)) := ⟨_, rfl⟩
      rw [← eL0] at hD
      have ln : D ≠ nl := fun y => by rw [y, hD] at hDn; cases hDn
      refine lc_list (K := K) (a := nl) (xs := (L0.map (·.nm)).map V.str) (fun i H' => Same H2 H' ∧ H' D = some (.lst ((((L0.take i).filter (fun r => decide (z = ("top" : Str)) || decide (z ∈ wayOf rs r.nm))).map (·.nm)).map V.str))) ⟨Same.new hDn, upd_same⟩ (fun i H' _ m => m.1.seq (SqL.of hD)) ?_ ?_
      · rintro i x H3 hx ⟨s3, hD3⟩
        rw [List.getElem?_map, List.getElem?_map] at hx
        obtain ⟨n1, hn1, rfl⟩ := Option.map_eq_some_iff.mp hx
        obtain ⟨r, hr', rfl⟩ := Option.map_eq_some_iff.mp hn1
        have hrm : r ∈ rs := by
          have := List.mem_of_getElem? hr'
          rw [eL0] at this
          exact (List.mem_filter.mp this).1
        have szD : (((L0.take i).filter (fun r => decide (z = ("top" : Str)) || decide (z ∈ wayOf rs r.nm))).map (·.nm)).length ≤ 1000 := by
          rw [List.length_map]
          have h1 := List.length_filter_le (fun r => decide (z = ("top" : Str)) || decide (z ∈ wayOf rs r.nm)) (L0.take i)
          rw [List.length_take] at h1
          have h2 := List.length_filter_le (fun r => decide (r.nm ≠ z)) rs
          rw [← eL0] at h2
          omega
        have fin : ∀ H4, Same H3 H4 → (decide (z = ("top" : Str)) || decide (z ∈ wayOf rs r.nm)) = true → Same H2 (upd H4 D (.lst ((((L0.take i).filter (fun r => decide (z = ("top" : Str)) || decide (z ∈ wayOf rs r.nm))).map (·.nm)).map V.str ++ [V.str r.nm]))) ∧
            (upd H4 D (.lst ((((L0.take i).filter (fun r => decide (z = ("top" : Str)) || decide (z ∈ wayOf rs r.nm))).map (·.nm)).map V.str ++ [V.str r.nm]))) D = some (.lst ((((L0.take (i + 1)).filter (fun r => decide (z = ("top" : Str)) || decide (z ∈ wayOf rs r.nm))).map (·.nm)).map V.str)) := by
          intro H4 s4 hp'
          refine ⟨fun b o eb => ?_, ?_⟩
          · rw [upd_ne (fun y => by rw [y, hDn] at eb; cases eb)]
            exact s4 _ _ (s3 _ _ eb)
          · rw [upd_same, filter_take hr', if_pos hp', List.map_append]; rfl
        refine ⟨rfl, _, rfl, rfl, _, rfl, ?_⟩
        refine ite2 (fun hc => ?_) (fun hc => ?_)
        · have hc' : z = ("top" : Str) := V.str.inj (of_decide_eq_true hc)
          refine iteT ⟨_, rfl, _, hD3, by rw [List.length_map]; exact small1000 szD, ?_⟩
          exact fin H3 (Same.refl _) (by simp [hc'])
        · have hc' : ¬ z = ("top" : Str) := fun q => hc (decide_eq_true (by rw [q]))
          refine ⟨_, rfl, _, rfl, _, rfl, p, r.nm, rs, rfl, (hL.same sm).same s3, hv, hl, .inr (List.mem_map.mpr ⟨r, hrm, rfl⟩), fun D4 H4 h4n s4 hD4 => ?_⟩
          refine ⟨D4, _, rfl, .inl (SqL.of hD4), rfl, flat_strs _, _, rfl, ?_⟩
          have e : (if false = true then !inV (.str z) ((wayOf rs r.nm).map V.str) else inV (.str z) ((wayOf rs r.nm).map V.str)) = decide (z ∈ wayOf rs r.nm) := by
            rw [if_neg Bool.false_ne_true, inV_strs]
          rw [e]
          refine ite2 (fun hi => ?_) (fun hi => ?_)
          · refine ⟨_, rfl, _, s4 _ _ hD3, by rw [List.length_map]; exact small1000 szD, ?_⟩
            exact fin H4 s4 (by rw [hi, Bool.or_true])
          · refine ⟨fun b o eb => s4 _ _ (s3 _ _ eb), ?_⟩
            rw [filter_take hr', if_neg (by rw [decide_eq_false hc', Bool.false_or]; exact hi), List.append_nil]
            exact s4 _ _ hD3
      · rintro H3 ⟨s3, hD3⟩
        rw [List.length_map, List.length_map, List.take_length] at hD3
        refine hq D H3 (sm.free hDn) (sm.trans s3) ?_
        rw [hD3, eL0, List.filter_filter]
        have e : (rs.filter fun r => (decide (z = ("top" : Str)) || decide (z ∈ wayOf rs r.nm)) && decide (r.nm ≠ z)) = rs.filter (isIn rs z) := by
          refine List.filter_congr fun r _ => ?_
          unfold isIn
          rw [Bool.and_comm]
        rw [e]
        rfl
end
end Ts

set_option maxRecDepth 100000
set_option maxHeartbeats 4000000
namespace Ts
open PySem L2
/-! ### lists of texts as data -/
theorem strs_dpAll {K : PySem.W.Frag} {H : Hp} : ∀ l : List Str, DpAll K H (l.map V.str) (l.map PyData.str)
  | [] => .nil
  | x :: l => .cons (.str x) (strs_dpAll l)
theorem strs_dp {K : PySem.W.Frag} {H : Hp} {a : Addr} {l : List Str} (h : H a = some (.lst (l.map V.str))) : Dp K H (.ref a) (.list (l.map PyData.str)) := .lst (SqL.of h) (strs_dpAll l)
theorem strs_eqv : ∀ a b : List Str, PyData.eqvAll (a.map PyData.str) (b.map PyData.str) = decide (a = b)
  | [], [] => by simp [PyData.eqvAll]
  | [], _ :: _ => by simp [PyData.eqvAll]
  | _ :: _, [] => by simp [PyData.eqvAll]
  | x :: a, y :: b => by
    simp only [List.map_cons, PyData.eqvAll, PyData.eqv, str_beq, strs_eqv a b]
    by_cases h1 : x = y <;> by_cases h2 : a = b <;> simp [h1, h2]
theorem strs_same (l : List Str) : PyData.eqv (.list (l.map PyData.str)) (.list (l.map PyData.str)) = true := by
  simp only [PyData.eqv]
  rw [strs_eqv]
  exact decide_eq_true rfl
theorem strs_lay : ∀ l : List Str, (∀ x ∈ l, PyData.strOk x = true) → PyData.canLayAll0 (l.map PyData.str) = true
  | [], _ => by simp [PyData.canLayAll0]
  | x :: l, h => by
    simp only [List.map_cons, PyData.canLayAll0, PyData.canLay0, h x (List.mem_cons_self ..), strs_lay l (fun q hq => h q (List.mem_cons_of_mem _ hq)), Bool.and_self]
theorem strs_depth : ∀ l : List Str, PyData.depthAll (l.map PyData.str) = 0
  | [] => by simp [PyData.depthAll]
  | x :: l => by simp only [List.map_cons, PyData.depthAll, PyData.depth, strs_depth l]; rfl
theorem shaped_strs {l : List Str} (h : ∀ x ∈ l, PyData.strOk x = true) : SeqAt.shaped (.list (l.map PyData.str)) = true := by
  unfold SeqAt.shaped
  rw [Bool.and_eq_true]
  refine ⟨by simp only [PyData.canLay0]; exact strs_lay l h, decide_eq_true ?_⟩
  simp only [PyData.depth, strs_depth]
  omega
theorem names_ok {rs : List Row} (h : Valid rs) : ∀ x ∈ names rs, PyData.strOk x = true := fun x hx => by
  obtain ⟨r, hr, rfl⟩ := List.mem_map.mp hx
  exact (h.ok r hr).n
theorem inside_ok {rs : List Row} (h : Valid rs) (z : Str) : ∀ x ∈ insideL rs z, PyData.strOk x = true := fun x hx => by
  obtain ⟨r, hr, rfl⟩ := List.mem_map.mp hx
  exact (h.ok r (List.mem_filter.mp hr).1).n
theorem below_ok {rs : List Row} (h : Valid rs) (z : Str) : ∀ x ∈ belowL rs z, PyData.strOk x = true := fun x hx => by
  obtain ⟨r, hr, rfl⟩ := List.mem_map.mp hx
  exact (h.ok r (List.mem_filter.mp hr).1).n
theorem lst_same {rs : List Row} : PyData.eqv (.list (rs.map rowD)) (.list (rs.map rowD)) = true := by
  simp only [PyData.eqv]
  rw [rows_eqv]
  exact decide_eq_true rfl
def told (r : Row) : PyData := .tuple [.str r.fo, .str r.ki, prD r.pr]
theorem told_same (r : Row) : PyData.eqv (told r) (told r) = true := by
  simp [told, PyData.eqv, PyData.eqvAll, prD_eqv]
theorem told_shaped {r : Row} (h : RowOk r) : SeqAt.shaped (told r) = true := by
  obtain ⟨h1, h2, h3⟩ := h
  obtain ⟨n, f, k, p⟩ := r
  unfold SeqAt.shaped
  cases p <;> simp_all [told, prD, PyData.canLay0, PyData.canLayAll0, PyData.depth, PyData.depthAll]
def spShows (C : Addr) : Sp := fun vs H Q _ => ∃ (t p : Addr) (rs : List Row), vs = [.ref t, .ref p] ∧ TreeAt C H t rs ∧ RowsL H p rs ∧ ∀ H', Same H H' → Q (.bl true) H'
section
variable {P : Program} {w : World} {K : PySem.W.Frag} {mg : Str → Option Value} {base : Heap} {C : Addr}
abbrev nShows : List Str := ["_law_tree", "_law_rows_here", "_law_row", "_law_name_here", "_law_folder", "_law_kind", "_law_price", "_law_told", "_law_box"]
theorem sc_shows : FnScope nShows ["_law_tree", "_law_rows_here"] (defScope s_L_shows) := ⟨rfl, rfl, rfl, by decide +kernel, rfl, by decide +kernel, by decide +kernel⟩
theorem ok_shows (D : DefAt K mg "_law_shows" s_L_shows ["_law_tree", "_law_rows_here"]) (B : TxB mg) (T : TxT K mg C)
    (Dw : DefAt K mg "_law_below" s_L_below ["_law_rows_here", "_law_box"]) (Gw : FnOk P w K mg base CX0 3 Dw.f Dw.fd ["_law_rows_here", "_law_box"] (spListR belowL))
    (mL : MethAt K C "__len__" "Tree.__len__" s_Tree_len ["self"]) (mC : MethAt K C "__contains__" "Tree.__contains__" s_Tree_contains ["self", "x"]) (mR : MethAt K C "rows" "Tree.rows" s_Tree_rows ["self"])
    (mF : MethAt K C "folder" "Tree.folder" s_Tree_folder ["self", "box"]) (mK : MethAt K C "kind" "Tree.kind" s_Tree_kind ["self", "box"]) (mP : MethAt K C "price" "Tree.price" s_Tree_price ["self", "box"])
    (mI : MethAt K C "inside" "Tree.inside" s_Tree_inside ["self", "box"]) (mB : MethAt K C "below" "Tree.below" s_Tree_below ["self", "box"])
    (GF : FnOk P w K mg base CX0 4 mF.f mF.fd ["self", "box"] (spGet C fun r => .str r.fo)) (GK : FnOk P w K mg base CX0 4 mK.f mK.fd ["self", "box"] (spGet C fun r => .str r.ki)) (GP : FnOk P w K mg base CX0 4 mP.f mP.fd ["self", "box"] (spGet C fun r => prV r.pr))
    (GI : FnOk P w K mg base CX0 5 mI.f mI.fd ["self", "box"] (spListOf C insideL)) (GB : FnOk P w K mg base CX0 5 mB.f mB.fd ["self", "box"] (spListOf C belowL)) :
    FnOk P w K mg base CX0 6 D.f D.fd ["_law_tree", "_law_rows_here"] (spShows C) := by
  have GL : FnOk P w K mg base CX0 2 mL.f mL.fd ["self"] (spLen C) := ok_Tree_len mL.F B T
  have GC : FnOk P w K mg base CX0 2 mC.f mC.fd ["self", "x"] (spContains K C) := ok_Tree_contains mC.F B T
  have GR : FnOk P w K mg base CX0 2 mR.f mR.fd ["self"] (spRowsM C) := ok_Tree_rows mR.F B T
  refine D.F.ok sc_shows (fun vs H Q E h => ?_) (fun cdv A outer s H vs Q E hr h => ?_)
  · obtain ⟨t, p, rs, rfl, _⟩ := h
    rfl
  · obtain ⟨t, p, rs, rfl, ht, hL, hq⟩ := h
    have h64 := hr.units
    have hr1 : Room 2 _ := hr.mono (by decide)
    have hr2 : Room 3 _ := hr.mono (by decide)
    have hr3 : Room 4 _ := hr.mono (by decide)
    refine ⟨_, pss_cons (ps_if (PW.pt (pw_or (pt_cmpR op_ne (pe_callB (call_lenC GL mL.m hr2 mL.b pass0) (by rfl) B.len PySem.boot_len (pa_cons (pv 0) pa_nil)) (pe_callB call_len_seq (by rfl) B.len PySem.boot_len (pa_cons (pv 1) pa_nil)) (nomark _))
        (pw_or1 (pt_cmpR (op_neD h64) (pe_meth0 (pv 0) T.cl mR.m GR hr1 mR.b .nil pass0) (pv 1) (nomark _))))) (pss_one (ps_ret pe_bl)) pss_nil)
      (pss_cons (ps_if (pt_not (pt_val (pe_callB (cr_all rfl) (by rfl) B.all (by decide +kernel) (pa_cons (pe_lc (own := [("_law_row", 2)]) (g := gName 2) (tt := tYes) (te := tCB (rIsi K) (tCons (tVar 2) (tCons (tC (.ty "tuple")) tNil))) rfl sc_shows.nd (pi_list (pe_meth0 (pv 0) T.cl mR.m GR hr1 mR.b .nil pass0)) (blkOk_by (N := nShows) (sc := defScope s_L_shows) (by decide +kernel))
          (fun _ _ _ _ _ => pg_name (i := 2) sc_shows.nd rfl (Or.inl rfl)) (fun _ _ _ _ _ => pts_nil) (fun _ _ _ _ _ => by exact pe_callB (id := "isinstance") call_isi (by rfl) B.isinstance (by decide +kernel) (pa_cons (pv 2) (pa_cons (pe_bltn (by rfl) B.tuple (by decide +kernel) (v := .ty "tuple") rfl) pa_nil)))) pa_nil)))) (pss_one (ps_ret pe_bl)) pss_nil)
      (pss_cons (ps_for PassesOwn.never rfl (pi_list (pv 1)) (pg_tup rfl (pgs_cons (pg_name (i := 3) sc_shows.nd rfl (.inl rfl)) (pgs_cons (pg_name (i := 4) sc_shows.nd rfl (.inl rfl)) (pgs_cons (pg_name (i := 5) sc_shows.nd rfl (.inl rfl)) (pgs_cons (pg_name (i := 6) sc_shows.nd rfl (.inl rfl)) pgs_nil)))))
        (pss_cons (ps_set (i := 7) sc_shows.nd rfl (.inl rfl) (pe_tup (pa_cons (pe_meth (pv 0) T.cl mF.m GF hr3 mF.b .nil pass0 (pa_cons (pv 3) pa_nil)) (pa_cons (pe_meth (pv 0) T.cl mK.m GK hr3 mK.b .nil pass0 (pa_cons (pv 3) pa_nil)) (pa_cons (pe_meth (pv 0) T.cl mP.m GP hr3 mP.b .nil pass0 (pa_cons (pv 3) pa_nil)) pa_nil)))))
        (pss_one (ps_if (PW.pt (pw_or (pt_cmpR (op_notinC GC mC.m hr1 mC.b pass0) (pv 3) (pv 0) (by rfl)) (pw_or1 (pt_cmpR (op_neD h64) (pv 7) (pe_tup (pa_cons (pv 4) (pa_cons (pv 5) (pa_cons (pv 6) pa_nil)))) (nomark _))))) (pss_one (ps_ret pe_bl)) pss_nil))))
      (pss_cons (ps_for PassesOwn.never rfl (pi_list (pe_op op_cat (pe_lst (pa_cons pe_str pa_nil)) (pe_lc (own := [("_law_row", 2)]) (g := gName 2) (tt := tYes) (te := tOp (rIxT K) (tVar 2) (tC (.int 0))) rfl sc_shows.nd (pi_list (pv 1)) (blkOk_by (N := nShows) (sc := defScope s_L_shows) (by decide +kernel))
          (fun _ _ _ _ _ => pg_name (i := 2) sc_shows.nd rfl (Or.inl rfl)) (fun _ _ _ _ _ => pts_nil) (fun _ _ _ _ _ => by exact pe_ix ix_tup (pv 2) pe_int (fun _ _ => rfl))))) (pg_name (i := 8) sc_shows.nd rfl (.inr rfl))
        (pss_cons (ps_if (pt_cmpR (op_neD h64) (pe_meth (pv 0) T.cl mI.m GI hr mI.b .nil pass0 (pa_cons (pv 8) pa_nil)) (pe_lc (own := [("_law_row", 2)]) (g := gName 2) (tt := tTest (tOp rEq (tOp (rIxT K) (tVar 2) (tC (.int 1))) (tVar 8))) (te := tOp (rIxT K) (tVar 2) (tC (.int 0))) rfl sc_shows.nd (pi_list (pv 1)) (blkOk_by (N := nShows) (sc := defScope s_L_shows) (by decide +kernel))
          (fun _ _ _ _ _ => pg_name (i := 2) sc_shows.nd rfl (Or.inl rfl)) (fun _ _ _ _ _ => by exact pts_one (pt_cmpR op_eq (pe_ix ix_tup (pv 2) pe_int (fun _ _ => rfl)) (pv 8) (nomark _))) (fun _ _ _ _ _ => by exact pe_ix ix_tup (pv 2) pe_int (fun _ _ => rfl))) (nomark _)) (pss_one (ps_ret pe_bl)) pss_nil)
        (pss_one (ps_if (pt_cmpR (op_neD h64) (pe_meth (pv 0) T.cl mB.m GB hr mB.b .nil pass0 (pa_cons (pv 8) pa_nil)) (pe_call Gw hr2 rfl Dw.g Dw.F.kp Dw.b .nil pass0 (pa_cons (pv 1) (pa_cons (pv 8) pa_nil))) (nomark _)) (pss_one (ps_ret pe_bl)) pss_nil))))
      (pss_one (ps_ret pe_bl))))), ?_⟩
    obtain ⟨as, hp, hrows⟩ := id hL.ex
    obtain ⟨dx, q, f, k, pp, qs, h1, h2, h3, h4, h5, h6⟩ := id ht.ex
    have l100 := ht.len
    have hv := ht.val
    have noR : (tf q f k pp).lookup ("rows" : Str) = none := tf_no _ _ _ _ (by decide +kernel) (by decide +kernel) (by decide +kernel) (by decide +kernel)
    have noF : (tf q f k pp).lookup ("folder" : Str) = none := tf_no _ _ _ _ (by decide +kernel) (by decide +kernel) (by decide +kernel) (by decide +kernel)
    have noK : (tf q f k pp).lookup ("kind" : Str) = none := tf_no _ _ _ _ (by decide +kernel) (by decide +kernel) (by decide +kernel) (by decide +kernel)
    have noP : (tf q f k pp).lookup ("price" : Str) = none := tf_no _ _ _ _ (by decide +kernel) (by decide +kernel) (by decide +kernel) (by decide +kernel)
    have noI : (tf q f k pp).lookup ("inside" : Str) = none := tf_no _ _ _ _ (by decide +kernel) (by decide +kernel) (by decide +kernel) (by decide +kernel)
    have noB : (tf q f k pp).lookup ("below" : Str) = none := tf_no _ _ _ _ (by decide +kernel) (by decide +kernel) (by decide +kernel) (by decide +kernel)
    -- lengths, rows
    refine ⟨_, rfl, t, dx, _, rfl, h1, t, rs, rfl, ht, _, rfl, ⟨by omega, by omega⟩, _, rfl, p, _, rfl, .inl (SqL.of hp), rfl, _, rfl, ?_⟩
    have el : (as.map V.ref).length = rs.length := by rw [List.length_map, hrows.len]
    rw [el, decide_eq_true rfl]
    refine iteF ?_
    refine ⟨_, rfl, t, dx, _, rfl, h1, noR, t, rs, rfl, ht, fun l1 q1 hl1 hq1 => ?_⟩
    have s1 : Same H (upd H l1 (.lst (q1.map V.ref))) := Same.new hl1
    refine ⟨_, rfl, _, _, .lst (SqL.of upd_same) (rows_dp (hq1.same s1)), .lst (SqL.of (s1 _ _ hp)) (rows_dp (hrows.same s1)), shaped_lst hv.ok, shaped_lst hv.ok, _, rfl, ?_⟩
    rw [lst_same]
    refine iteF ?_
    generalize upd H l1 (.lst (q1.map V.ref)) = H1 at s1
    -- all tuples
    refine ⟨_, rfl, t, dx, _, rfl, s1 _ _ h1, noR, t, rs, rfl, ht.same s1, fun l2 q2 hl2 hq2 => ?_⟩
    have s2 : Same H (upd H1 l2 (.lst (q2.map V.ref))) := s1.trans (Same.new hl2)
    have e2 : (upd H1 l2 (.lst (q2.map V.ref))) l2 = some (.lst (q2.map V.ref)) := upd_same
    have r2 : RowsAt (upd H1 l2 (.lst (q2.map V.ref))) q2 rs := hq2.same (Same.new hl2)
    generalize upd H1 l2 (.lst (q2.map V.ref)) = H2 at s2 e2 r2
    refine ⟨l2, rfl, ⟨_, SqL.of e2⟩, fun D hD => ?_⟩
    refine lc_list (K := K) (a := l2) (xs := q2.map V.ref) (fun i H' => Same H2 H' ∧ ∃ bs : List Bool, H' D = some (.lst (bs.map V.bl)) ∧ bs.all id = true ∧ bs.length = i) ⟨Same.new hD, [], upd_same, rfl, rfl⟩ (fun i H' _ m => m.1.seq (SqL.of e2)) ?_ ?_
    · rintro i x H3 hx ⟨s3, bs, hD3, hb, hbl⟩
      obtain ⟨ra, r, rfl, hra, hr', e0⟩ := rows_at r2 hx
      have i100 : i < 1000 := by
        have := (List.getElem?_eq_some_iff.mp hr').1
        omega
      refine ⟨rfl, tYes_if ⟨_, rfl, _, _, _, _, true, rfl, .ty "tuple", .base (.tup (s3 _ _ e0)), kit_ty (by decide +kernel), bs.map V.bl, hD3, small1000 (by rw [List.length_map]; omega), fun b o eb => ?_, bs ++ [true], by rw [upd_same, List.map_append]; rfl, by rw [List.all_append, hb]; rfl, by rw [List.length_append, hbl]; rfl⟩⟩
      rw [upd_ne (fun y => by rw [y, hD] at eb; cases eb)]
      exact s3 _ _ eb
    rintro H3 ⟨s3, bs, hD3, hb, _⟩
    refine ⟨D, bs, rfl, SqL.of hD3, _, rfl, ?_⟩
    rw [hb]
    refine iteF ?_
    have sH3 := s2.trans s3
    clear s3 hD3 hD e2 r2 hl2 hq2 s2 s1
    -- box by box
    refine ⟨_, rfl, p, rfl, ⟨_, SqL.of (sH3 _ _ hp)⟩, ?_⟩
    refine for_list (K := K) (a := p) (xs := as.map V.ref) (fun i σ H' => ∃ v2 v3 v4 v5 v6 v7 : Option V, σ = [some (.ref t), some (.ref p), v2, v3, v4, v5, v6, v7, none] ∧ Same H H') ⟨_, _, _, _, _, _, rfl, sH3⟩ (fun i σ H' _ ⟨_, _, _, _, _, _, _, s⟩ => s.seq (SqL.of hp)) ?_ ?_
    · rintro i x σ H4 hx ⟨v2, v3, v4, v5, v6, v7, rfl, s4⟩
      obtain ⟨ra, r, rfl, hra, hr', e0⟩ := rows_at hrows hx
      have hz : r.nm ∈ names rs := List.mem_map.mpr ⟨r, List.mem_of_getElem? hr', rfl⟩
      have ro := rowOf_at hv hr'
      have rok := hv.ok r (List.mem_of_getElem? hr')
      refine ⟨ra, _, rfl, sqT (s4 _ _ e0), rfl, _, _, rfl, _, _, rfl, _, _, rfl, _, _, rfl, rfl, ?_⟩
      refine ⟨_, rfl, t, dx, _, rfl, s4 _ _ h1, noF, _, rfl, t, r.nm, rs, r, rfl, ht.same s4, ro, ?_⟩
      refine ⟨_, rfl, t, dx, _, rfl, s4 _ _ h1, noK, _, rfl, t, r.nm, rs, r, rfl, ht.same s4, ro, ?_⟩
      refine ⟨_, rfl, t, dx, _, rfl, s4 _ _ h1, noP, _, rfl, t, r.nm, rs, r, rfl, ht.same s4, ro, ?_⟩
      refine ⟨(by show 3 ≤ sizeLine; decide), fun u hu => ?_⟩
      have s5 := s4.trans (Same.new (o := .tup [V.str r.fo, .str r.ki, prV r.pr]) hu)
      have e5 : (upd H4 u (.tup [V.str r.fo, .str r.ki, prV r.pr])) u = some (.tup [V.str r.fo, .str r.ki, prV r.pr]) := upd_same
      generalize upd H4 u (.tup [V.str r.fo, .str r.ki, prV r.pr]) = H5 at s5 e5
      refine ⟨_, rfl, _, rfl, t, dx, _, rfl, s5 _ _ h1, t, _, rs, rfl, ht.same s5, .inl ⟨r.nm, rfl, _, rfl, _, rfl, ?_⟩⟩
      rw [decide_eq_true hz]
      refine iteF ?_
      refine ⟨_, rfl, _, rfl, _, rfl, _, rfl, (by show 3 ≤ sizeLine; decide), fun u2 hu2 => ?_⟩
      have s6 : Same H5 (upd H5 u2 (.tup [V.str r.fo, .str r.ki, prV r.pr])) := Same.new hu2
      refine ⟨told r, told r, .tup (sqT (s6 _ _ e5)) (.cons (.str _) (.cons (.str _) (.cons (prD_ok _) .nil))), .tup (sqT upd_same) (.cons (.str _) (.cons (.str _) (.cons (prD_ok _) .nil))), told_shaped rok, told_shaped rok, _, rfl, ?_⟩
      rw [told_same]
      exact iteF ⟨_, _, _, _, _, _, rfl, s5.trans s6⟩
    rintro σ H4 ⟨v2, v3, v4, v5, v6, v7, rfl, s4⟩
    -- the top and all boxes
    refine ⟨(by show 1 ≤ sizeLine; decide), fun l3 hl3 => ?_⟩
    have s5 := s4.trans (Same.new (o := .lst [V.str ("top" : Str)]) hl3)
    have e5 : (upd H4 l3 (.lst [V.str ("top" : Str)])) l3 = some (.lst [V.str ("top" : Str)]) := upd_same
    generalize upd H4 l3 (.lst [V.str ("top" : Str)]) = H5 at s5 e5
    refine ⟨_, rfl, p, rfl, ⟨_, SqL.of (s5 _ _ hp)⟩, fun D2 hD2 => ?_⟩
    refine lc_list (K := K) (a := p) (xs := as.map V.ref) (fun i H' => Same H5 H' ∧ H' D2 = some (.lst (((rs.take i).map (·.nm)).map V.str))) ⟨Same.new hD2, upd_same⟩ (fun i H' _ m => (s5.trans m.1).seq (SqL.of hp)) ?_ ?_
    · rintro i x H6 hx ⟨s6, hD6⟩
      obtain ⟨ra, r, rfl, hra, hr', e0⟩ := rows_at hrows hx
      have i100 : i < 1000 := by
        have := (List.getElem?_eq_some_iff.mp hr').1
        omega
      refine ⟨rfl, tYes_if ⟨_, rfl, ra, _, _, _, rfl, rfl, sqT (s6 _ _ (s5 _ _ e0)), atI0 _ _ _ _, _, hD6, small1000 (by rw [List.length_map, List.length_map, List.length_take]; omega), fun b o eb => ?_, ?_⟩⟩
      · rw [upd_ne (fun y => by rw [y, hD2] at eb; cases eb)]
        exact s6 _ _ eb
      · rw [upd_same, take_more hr', List.map_append, List.map_append]; rfl
    rintro H6 ⟨s6, hD6⟩
    rw [List.length_map, hrows.len, List.take_length] at hD6
    refine ⟨l3, D2, _, _, rfl, rfl, s6 _ _ e5, hD6, szl (by rw [List.length_map, List.length_map]; show 1 + _ ≤ 1000; omega), fun l4 hl4 => ?_⟩
    have s7 : Same H (upd H6 l4 (.lst ([V.str ("top" : Str)] ++ (rs.map (·.nm)).map V.str))) := (s5.trans s6).trans (Same.new hl4)
    have e7 : (upd H6 l4 (.lst ([V.str ("top" : Str)] ++ (rs.map (·.nm)).map V.str))) l4 = some (.lst ((("top" : Str) :: names rs).map V.str)) := upd_same
    generalize upd H6 l4 (.lst ([V.str ("top" : Str)] ++ (rs.map (·.nm)).map V.str)) = H7 at s7 e7
    refine ⟨l4, rfl, ⟨_, SqL.of e7⟩, ?_⟩
    refine for_list (K := K) (a := l4) (xs := (("top" : Str) :: names rs).map V.str) (fun i σ H' => ∃ v2 v3 v4 v5 v6 v7 v8 : Option V, σ = [some (.ref t), some (.ref p), v2, v3, v4, v5, v6, v7, v8] ∧ Same H7 H') ⟨_, _, _, _, _, _, _, rfl, Same.refl _⟩ (fun i σ H' _ ⟨_, _, _, _, _, _, _, _, s⟩ => s.seq (SqL.of e7)) ?_ ?_
    · rintro i x σ H8 hx ⟨v2, v3, v4, v5, v6, v7, v8, rfl, s8⟩
      rw [List.getElem?_map] at hx
      obtain ⟨z, hz0, rfl⟩ := Option.map_eq_some_iff.mp hx
      have hz : z = ("top" : Str) ∨ z ∈ names rs := List.mem_cons.mp (List.mem_of_getElem? hz0)
      have sH8 := s7.trans s8
      refine ⟨_, rfl, t, dx, _, rfl, sH8 _ _ h1, noI, _, rfl, t, z, rs, rfl, ht.same sH8, hz, fun D9 H9 hd9 s9 e9 => ?_⟩
      have sH9 := sH8.trans s9
      refine ⟨_, rfl, p, rfl, ⟨_, SqL.of (sH9 _ _ hp)⟩, fun D3 hD3 => ?_⟩
      refine lc_list (K := K) (a := p) (xs := as.map V.ref) (fun i H' => Same H9 H' ∧ H' D3 = some (.lst ((((rs.take i).filter fun r => decide (r.fo = z)).map (·.nm)).map V.str))) ⟨Same.new hD3, upd_same⟩ (fun i H' _ m => (sH9.trans m.1).seq (SqL.of hp)) ?_ ?_
      · rintro i x H10 hx ⟨s10, hD10⟩
        obtain ⟨ra, r, rfl, hra, hr', e0⟩ := rows_at hrows hx
        have e0' := s10 _ _ (sH9 _ _ e0)
        have i100 : i < 1000 := by
          have := (List.getElem?_eq_some_iff.mp hr').1
          omega
        refine ⟨rfl, _, rfl, ra, _, _, _, rfl, rfl, sqT e0', atI1 _ _ _ _, _, rfl, rfl, _, rfl, ?_⟩
        refine ite2 (fun hc => ?_) (fun hc => ?_)
        · have hc' : r.fo = z := V.str.inj (of_decide_eq_true hc)
          refine ⟨_, rfl, ra, _, _, _, rfl, rfl, sqT e0', atI0 _ _ _ _, _, hD10, small1000 ?_, fun b o eb => ?_, ?_⟩
          · rw [List.length_map, List.length_map]
            have := List.length_filter_le (fun r => decide (r.fo = z)) (rs.take i)
            rw [List.length_take] at this
            omega
          · rw [upd_ne (fun y => by rw [y, hD3] at eb; cases eb)]
            exact s10 _ _ eb
          · rw [upd_same, filter_take hr', if_pos (decide_eq_true hc'), List.map_append]; rfl
        · have hc' : ¬ r.fo = z := fun y => hc (decide_eq_true (by rw [y]))
          refine ⟨s10, ?_⟩
          rw [filter_take hr', if_neg (fun y => hc' (of_decide_eq_true y)), List.append_nil]
          exact hD10
      rintro H10 ⟨s10, hD10⟩
      rw [List.length_map, hrows.len, List.take_length] at hD10
      have sH10 := sH9.trans s10
      refine ⟨_, _, strs_dp (s10 _ _ e9), strs_dp hD10, shaped_strs (inside_ok hv z), shaped_strs (inside_ok hv z), _, rfl, ?_⟩
      rw [show PyData.eqv (.list ((insideL rs z).map PyData.str)) (.list (((rs.filter fun r => decide (r.fo = z)).map (·.nm)).map PyData.str)) = true from strs_same (insideL rs z)]
      refine iteF ?_
      refine ⟨_, rfl, t, dx, _, rfl, sH10 _ _ h1, noB, _, rfl, t, z, rs, rfl, ht.same sH10, hz, fun D11 H11 hd11 s11 e11 => ?_⟩
      have sH11 := sH10.trans s11
      refine ⟨_, rfl, _, rfl, p, z, rs, rfl, hL.same sH11, hv, l100, hz, fun D12 H12 hd12 s12 e12 => ?_⟩
      refine ⟨_, _, strs_dp (s12 _ _ e11), strs_dp e12, shaped_strs (below_ok hv z), shaped_strs (below_ok hv z), _, rfl, ?_⟩
      rw [strs_same]
      exact iteF ⟨_, _, _, _, _, _, _, rfl, (((s8.trans s9).trans s10).trans s11).trans s12⟩
    · rintro σ H8 ⟨v2, v3, v4, v5, v6, v7, v8, rfl, s8⟩
      exact hq H8 (s7.trans s8)
end
end Ts

set_option maxRecDepth 100000
set_option maxHeartbeats 8000000
namespace Ts
open PySem L2
/-- all is kept but lists that begin with a text -/
def KeepS (H H' : Hp) : Prop := ∀ b o, H b = some o → (∀ x xs, o ≠ .lst (.str x :: xs)) → H' b = some o
theorem KeepS.of {H H' : Hp} (s : Same H H') : KeepS H H' := fun b o e _ => s b o e
theorem KeepS.trans {H H1 H2 : Hp} (x : KeepS H H1) (y : KeepS H1 H2) : KeepS H H2 := fun b o e n => y b o (x b o e n) n
theorem KeepS.refl (H : Hp) : KeepS H H := fun _ _ e _ => e
theorem refs_no (as : List Addr) (x : Str) (xs : List V) : HO.lst (as.map V.ref) ≠ .lst (.str x :: xs) := fun e => by
  have e' : as.map V.ref = .str x :: xs := HO.lst.inj e
  cases as with
  | nil => cases e'
  | cons a as => injection e' with q _; cases q
theorem ints_no (ns : List Int) (x : Str) (xs : List V) : HO.lst (ns.map V.int) ≠ .lst (.str x :: xs) := fun e => by
  have e' : ns.map V.int = .str x :: xs := HO.lst.inj e
  cases ns with
  | nil => cases e'
  | cons a as => injection e' with q _; cases q
theorem RowsAt.ks {H H' : Hp} {as : List Addr} {rs : List Row} (h : RowsAt H as rs) (s : KeepS H H') : RowsAt H' as rs := ⟨h.len, fun i a r ha hr => s _ _ (h.at_ i a r ha hr) (fun _ _ e => nomatch e)⟩
theorem TreeAt.ks {C : Addr} {H H' : Hp} {t : Addr} {rs : List Row} (h : TreeAt C H t rs) (s : KeepS H H') : TreeAt C H' t rs := by
  obtain ⟨dx, q, f, k, p, qs, h1, h2, h3, h4, h5, h6⟩ := h.ex
  exact ⟨⟨dx, q, f, k, p, qs, s _ _ h1 (fun _ _ e => nomatch e), s _ _ h2 (fun _ _ e => nomatch e), h3.ks s, s _ _ h4 (fun _ _ e => nomatch e), s _ _ h5 (fun _ _ e => nomatch e), s _ _ h6 (fun _ _ e => nomatch e)⟩, h.val, h.len⟩
theorem RowsL.ks {H H' : Hp} {p : Addr} {rs : List Row} (h : RowsL H p rs) (s : KeepS H H') : RowsL H' p rs := by
  obtain ⟨as, h1, h2⟩ := h.ex
  exact ⟨as, s _ _ h1 (refs_no as), h2.ks s⟩
theorem script_ks {K : PySem.W.Frag} {H H' : Hp} {a : Addr} {ns : List Int} (h : SqL K H a (ns.map V.int)) (s : KeepS H H') : SqL K H' a (ns.map V.int) := by
  rcases h with (h | ⟨o, h⟩) | h
  · exact .inl (.inl (s _ _ h (ints_no ns)))
  · exact .inl (.inr ⟨o, s _ _ h (fun _ _ e => nomatch e)⟩)
  · exact .inr h
/-- a tree of these rows, from a list or tuple of rows -/
def spLaw (K : PySem.W.Frag) : Sp := fun vs H Q _ => ∃ (a : Addr) (ns : List Int), vs = [.ref a] ∧ SqL K H a (ns.map V.int) ∧ ns.length ≤ 63 ∧ ∀ H', Q (.bl true) H'
structure LS (K : PySem.W.Frag) (C : Addr) (ns : List Int) (a0 t p : Addr) (rs : List Row) (H : Hp) : Prop where
  tree : TreeAt C H t rs
  rows : RowsL H p rs
  scr : SqL K H a0 (ns.map V.int)
theorem LS.ks {K : PySem.W.Frag} {C : Addr} {ns : List Int} {a0 t p : Addr} {rs : List Row} {H H' : Hp} (h : LS K C ns a0 t p rs H) (s : KeepS H H') : LS K C ns a0 t p rs H' := ⟨h.tree.ks s, h.rows.ks s, script_ks h.scr s⟩
theorem LS.same {K : PySem.W.Frag} {C : Addr} {ns : List Int} {a0 t p : Addr} {rs : List Row} {H H' : Hp} (h : LS K C ns a0 t p rs H) (s : Same H H') : LS K C ns a0 t p rs H' := h.ks (KeepS.of s)
theorem mk_same {C : Addr} {H H' : Hp} {x dx : Addr} (nx : H x = none) (nd : H dx = none) (sb : SB x (upd (upd H dx (.own x)) x (.ins C dx [])) H') : Same H H' := fun b o e =>
  sb b o (ne_of_none e nx) (by rw [upd_ne (ne_of_none e nx), upd_ne (ne_of_none e nd)]; exact e)
theorem mk_same0 {C : Addr} {H : Hp} {x dx : Addr} (nx : H x = none) (nd : H dx = none) : Same H (upd (upd H dx (.own x)) x (.ins C dx [])) := fun b o e => by
  rw [upd_ne (ne_of_none e nx), upd_ne (ne_of_none e nd)]; exact e
theorem SeqRows.snoc {H : Hp} {as : List Addr} {rs : List Row} {a : Addr} {r : Row} (h : SeqRows H as rs) (ha : H a = some (.tup (rowVs r)) ∨ H a = some (.lst (rowVs r))) : SeqRows H (as ++ [a]) (rs ++ [r]) := by
  refine ⟨by simp [h.len], fun i b q hb hq => ?_⟩
  rcases Nat.lt_or_ge i as.length with hi | hi
  · rw [List.getElem?_append_left hi] at hb
    rw [List.getElem?_append_left (h.len ▸ hi)] at hq
    exact h.at_ i b q hb hq
  · rw [List.getElem?_append_right hi] at hb
    rw [List.getElem?_append_right (h.len ▸ hi)] at hq
    have e0 : i - as.length = 0 := by
      have := (List.getElem?_eq_some_iff.mp hb).1
      simp at this
      omega
    have e1 : i - rs.length = 0 := by rw [← h.len]; exact e0
    rw [e0] at hb
    rw [e1] at hq
    simp at hb hq
    subst hb; subst hq
    exact ha
theorem ix0 {x : V} {xs : List V} : ixN (x :: xs).length 0 = some 0 := by
  unfold ixN
  rw [if_pos (by decide), if_pos (by rw [List.length_cons]; omega)]
  rfl
theorem low_z : NameShape ("z" : Str) := ⟨.inl (by decide +kernel), by unfold Low; decide +kernel⟩
theorem valid_z : Valid [⟨"z", "top", "item", some 1⟩] := Valid.nil.snoc ⟨low_z, by decide +kernel, by simp, .inl rfl, by decide +kernel, (show (1 : Int) ≤ 1 by decide)⟩
theorem no_empty {rs : List Row} (h : Valid rs) : ("" : Str) ∉ names rs := fun hm => by
  obtain ⟨r, hr, e⟩ := List.mem_map.mp hm
  obtain ⟨i, hi, e2⟩ := List.mem_iff_getElem.mp hr
  have f := (h i r (by rw [← e2]; exact List.getElem?_eq_getElem hi)).shape.pos
  rw [e] at f
  have : ("" : Str).length = 0 := by decide +kernel
  omega
theorem no_Z {rs : List Row} (h : Valid rs) : ("Z" : Str) ∉ names rs := fun hm => by
  obtain ⟨r, hr, e⟩ := List.mem_map.mp hm
  obtain ⟨i, hi, e2⟩ := List.mem_iff_getElem.mp hr
  have f := (h i r (by rw [← e2]; exact List.getElem?_eq_getElem hi)).shape.2
  rw [e] at f
  have : (90 : Nat) ∈ ("Z" : Str).cps.toList := by decide +kernel
  have := f 90 this
  omega
theorem atI_last {xs : List V} {x : V} : atI (xs ++ [x]) (-1) = some x := by
  unfold atI ixN
  rw [if_neg (by decide), if_pos (by simp; omega)]
  have e : (-1 + ((xs ++ [x]).length : Int)).toNat = xs.length := by rw [List.length_append, List.length_singleton]; omega
  rw [e]
  simp
theorem atI_last2 {xs : List V} {x y : V} : atI (xs ++ [x, y]) (-2) = some x := by
  unfold atI ixN
  rw [if_neg (by decide), if_pos (by simp; omega)]
  have e : (-2 + ((xs ++ [x, y]).length : Int)).toNat = xs.length := by
    rw [List.length_append]
    show (-2 + ((xs.length + 2 : Nat) : Int)).toNat = xs.length
    omega
  rw [e]
  simp
theorem atI_last1 {xs : List V} {x y : V} : atI (xs ++ [x, y]) (-1) = some y := by
  have := atI_last (xs := xs ++ [x]) (x := y)
  simpa using this
theorem rows_last {H : Hp} {as : List Addr} {pre : List Row} {x : Row} (h : RowsAt H as (pre ++ [x])) : ∃ as' ax, as = as' ++ [ax] ∧ RowsAt H as' pre ∧ H ax = some (.tup (rowVs x)) := by
  have hl := h.len
  rw [List.length_append, List.length_singleton] at hl
  have hne : as ≠ [] := fun e => by rw [e] at hl; simp at hl
  have e := List.dropLast_concat_getLast hne
  have el : as.dropLast.length = pre.length := by rw [List.length_dropLast]; omega
  refine ⟨as.dropLast, as.getLast hne, e.symm, ⟨el, fun i a r ha hr => ?_⟩, ?_⟩
  · have hi : i < as.dropLast.length := (List.getElem?_eq_some_iff.mp ha).1
    have hi2 : i < pre.length := by omega
    refine h.at_ i a r ?_ ?_
    · rw [← e, List.getElem?_append_left hi]; exact ha
    · rw [List.getElem?_append_left hi2]; exact hr
  · refine h.at_ pre.length _ x ?_ (by simp)
    have q : (as.dropLast ++ [as.getLast hne])[as.dropLast.length]? = some (as.getLast hne) := by simp
    rw [e, el] at q
    exact q
theorem scal_pr (o : Option Int) (c : Int) : scal (prV o) (.int c) = true := by cases o <;> rfl
theorem prV_int {o : Option Int} {c : Int} : prV o = .int c ↔ o = some c := by cases o <;> simp [prV]
theorem concat_of {α : Type} {l : List α} (h : l ≠ []) : ∃ pre x, l = pre ++ [x] := ⟨l.dropLast, l.getLast h, (List.dropLast_concat_getLast h).symm⟩
theorem rows_last2 {H : Hp} {as : List Addr} {pre : List Row} {x y : Row} (h : RowsAt H as (pre ++ [x, y])) : ∃ as' ax ay, as = as' ++ [ax, ay] ∧ RowsAt H as' pre ∧ H ax = some (.tup (rowVs x)) ∧ H ay = some (.tup (rowVs y)) := by
  have h' : RowsAt H as ((pre ++ [x]) ++ [y]) := by simpa using h
  obtain ⟨a1, ay, rfl, r1, e1⟩ := rows_last h'
  obtain ⟨a2, ax, rfl, r2, e2⟩ := rows_last r1
  exact ⟨a2, ax, ay, by simp, r2, e2, e1⟩
theorem concat2_of {α : Type} {l : List α} (h : 1 < l.length) : ∃ pre x y, l = pre ++ [x, y] := by
  obtain ⟨l1, y, rfl⟩ := concat_of (l := l) (fun e => by rw [e] at h; simp at h)
  rw [List.length_append, List.length_singleton] at h
  obtain ⟨l2, x, rfl⟩ := concat_of (l := l1) (fun e => by rw [e] at h; simp at h)
  exact ⟨l2, x, y, by simp⟩
theorem prices_ok : ∀ q ∈ pricesL, PriceOk q := by
  intro q hq
  simp [pricesL] at hq
  rcases hq with rfl | rfl | rfl | rfl | rfl <;> simp [PriceOk]
structure TxN (K : PySem.W.Frag) (C : Addr) : Prop where
  ne : PySem.W.findIn K (.ref C) "__ne__" = some (some (.builtin "object.__ne__"))
  ob : PySem.W.subIn K (.ref C) (.type "object") = some true
  nfL : PySem.W.notFirst K C (.type "list") = true
  nfN : PySem.W.notFirst K C (.type "NoneType") = true
  nfS : PySem.W.notFirst K C (.type "str") = true
  kL : PySem.W.kitOne K (.type "list") (.ref C) = some false
  kN : PySem.W.kitOne K (.type "NoneType") (.ref C) = some false
  kS : PySem.W.kitOne K (.type "str") (.ref C) = some false
theorem nfC {K : PySem.W.Frag} {C : Addr} : PySem.W.notFirst K C (.ref C) = true := by simp [PySem.W.notFirst]
theorem cutV_init (xs : List V) : cutV xs none (some (-1)) = xs.dropLast := by
  unfold cutV
  rw [HT.sIx_none, List.drop_zero, List.dropLast_eq_take]
  congr 1
  have e : HT.sIx xs.length xs.length (some (-1)) = ((-1 : Int) + (xs.length : Int)).toNat := by
    show (if (-1 : Int) < 0 then ((-1 : Int) + (xs.length : Int)).toNat else min (-1 : Int).toNat xs.length) = _
    rw [if_pos (by decide)]
  rw [e]
  omega
theorem cutV_init2 (xs : List V) : cutV xs none (some (-2)) = xs.take (xs.length - 2) := by
  unfold cutV
  rw [HT.sIx_none, List.drop_zero]
  congr 1
  have e : HT.sIx xs.length xs.length (some (-2)) = ((-2 : Int) + (xs.length : Int)).toNat := by
    show (if (-2 : Int) < 0 then ((-2 : Int) + (xs.length : Int)).toNat else min (-2 : Int).toNat xs.length) = _
    rw [if_pos (by decide)]
  rw [e]
  omega
theorem Valid.swapLast {pre : List Row} {x y : Row} (h : Valid (pre ++ [x, y])) (hn : y.fo ≠ x.nm) : Valid (pre ++ [y, x]) := by
  have h' : Valid ((pre ++ [x]) ++ [y]) := by simpa using h
  have fy := h'.last
  have fx := h'.init.last
  have vp := h'.init.init
  have ny : y.nm ∉ pre.map (·.nm) ∧ ¬ y.nm = x.nm := by
    have := fy.new
    simp only [List.map_append, List.mem_append, not_or] at this
    exact ⟨this.1, by simpa using this.2⟩
  have f1 : Fits pre y := ⟨fy.shape, fy.top, ny.1, by
    rcases fy.home with e | ⟨q, hq, e1, e2⟩
    · exact .inl e
    · rcases List.mem_append.mp hq with hq | hq
      · exact .inr ⟨q, hq, e1, e2⟩
      · rw [List.mem_singleton.mp hq] at e1
        exact absurd e1.symm hn, fy.kind, fy.price⟩
  have f2 : Fits (pre ++ [y]) x := ⟨fx.shape, fx.top, by
    simp only [List.map_append, List.mem_append, not_or]
    exact ⟨fx.new, by simpa using fun e => ny.2 e.symm⟩, by
    rcases fx.home with e | ⟨q, hq, e1, e2⟩
    · exact .inl e
    · exact .inr ⟨q, List.mem_append_left _ hq, e1, e2⟩, fx.kind, fx.price⟩
  have : Valid ((pre ++ [y]) ++ [x]) := (vp.snoc f1).snoc f2
  simpa using this
theorem Valid.price {pre : List Row} {x : Row} {c : Int} (h : Valid (pre ++ [x])) (hc : 1 ≤ c) : Valid (pre ++ [{ x with pr := some c }]) := by
  have f := h.last
  exact h.init.snoc ⟨f.shape, f.top, f.new, f.home, f.kind, hc⟩
section
variable {P : Program} {w : World} {K : PySem.W.Frag} {mg : Str → Option Value} {base : Heap} {C : Addr}
abbrev nLaw : List Str := ["_law_script", "_law_turn", "_law_stream_here", "_law_rows_here", "_law_row", "_law_handed", "_law_tree", "_law_odd", "_law_other", "_law_turned"]
theorem sc_law : FnScope nLaw ["_law_script"] (defScope s_law) := ⟨rfl, rfl, rfl, by decide +kernel, rfl, by decide +kernel, by decide +kernel⟩
theorem ok_law {fT : Addr} {fdT : FuncData} (D : DefAt K mg "law" s_law ["_law_script"]) (B : TxB mg) (T : TxT K mg C) (N : TxN K C)
    (Ds : DefAt K mg "_law_stream" s_L_stream ["_law_script", "_law_k"]) (Dd : DefAt K mg "_law_draw" s_L_draw ["_law_stream_here", "_law_many"]) (Dr : DefAt K mg "_law_rows" s_L_rows ["_law_stream_here", "_law_many", "_law_kinds_here", "_law_prices_here"])
    (Dk : DefAt K mg "_law_kinds" s_L_kinds []) (Dp : DefAt K mg "_law_prices" s_L_prices []) (Dsh : DefAt K mg "_law_shows" s_L_shows ["_law_tree", "_law_rows_here"])
    (Gr : FnOk P w K mg base CX0 5 Dr.f Dr.fd ["_law_stream_here", "_law_many", "_law_kinds_here", "_law_prices_here"] (spRows K)) (Gsh : FnOk P w K mg base CX0 6 Dsh.f Dsh.fd ["_law_tree", "_law_rows_here"] (spShows C))
    (MT : Mk K C fT) (bT : Binds K fdT ["self", "rows"] []) (GT : FnOk P w K mg base CX0 5 fT fdT ["self", "rows"] (spTreeInit C))
    (mE : MethAt K C "__eq__" "Tree.__eq__" s_Tree_eq ["self", "other"]) (GE : FnOk P w K mg base CX0 2 mE.f mE.fd ["self", "other"] (spEqT K C))
    (mL : MethAt K C "__len__" "Tree.__len__" s_Tree_len ["self"]) (mC : MethAt K C "__contains__" "Tree.__contains__" s_Tree_contains ["self", "x"]) (mR : MethAt K C "rows" "Tree.rows" s_Tree_rows ["self"])
    (mI : MethAt K C "inside" "Tree.inside" s_Tree_inside ["self", "box"]) (mB : MethAt K C "below" "Tree.below" s_Tree_below ["self", "box"])
    (GI : FnOk P w K mg base CX0 5 mI.f mI.fd ["self", "box"] (spListOf C insideL)) (GB : FnOk P w K mg base CX0 5 mB.f mB.fd ["self", "box"] (spListOf C belowL)) :
    FnOk P w K mg base CX0 8 D.f D.fd ["_law_script"] (spLaw K) := by
  have Gs : FnOk P w K mg base CX0 2 Ds.f Ds.fd ["_law_script", "_law_k"] (spStream K) := ok_stream Ds B
  have Gd : FnOk P w K mg base CX0 2 Dd.f Dd.fd ["_law_stream_here", "_law_many"] spDraw := ok_draw Dd B
  have Gk : FnOk P w K mg base CX0 2 Dk.f Dk.fd [] spKinds := ok_kinds Dk
  have Gp : FnOk P w K mg base CX0 2 Dp.f Dp.fd [] spPrices := ok_prices Dp
  have GL : FnOk P w K mg base CX0 2 mL.f mL.fd ["self"] (spLen C) := ok_Tree_len mL.F B T
  have GC : FnOk P w K mg base CX0 2 mC.f mC.fd ["self", "x"] (spContains K C) := ok_Tree_contains mC.F B T
  have GR : FnOk P w K mg base CX0 2 mR.f mR.fd ["self"] (spRowsM C) := ok_Tree_rows mR.F B T
  refine D.F.ok sc_law (fun vs H Q E h => ?_) (fun cdv A outer s H vs Q E hr h => ?_)
  · obtain ⟨a, ns, rfl, _⟩ := h
    rfl
  · obtain ⟨a0, ns, rfl, hS, hlen, hq⟩ := h
    have h64 := hr.units
    have hr1 : Room 2 _ := hr.mono (by decide)
    have hr2 : Room 3 _ := hr.mono (by decide)
    have hr4 : Room 5 _ := hr.mono (by decide)
    have hr5 : Room 6 _ := hr.mono (by decide)
    refine ⟨_, pss_cons (ps_for PassesOwn.never rfl (pi_range1 (by rfl) B.range (pa_cons pe_int pa_nil)) (pg_name (i := 1) sc_law.nd rfl (.inl rfl))
        (pss_cons (ps_set (i := 2) sc_law.nd rfl (.inr rfl) (pe_call Gs hr1 rfl Ds.g Ds.F.kp Ds.b .nil pass0 (pa_cons (pv 0) (pa_cons (pv 1) pa_nil))))
        (pss_cons (ps_set (i := 3) sc_law.nd rfl (.inl rfl) (pe_call Gr hr4 rfl Dr.g Dr.F.kp Dr.b .nil pass0 (pa_cons (pv 2) (pa_cons (pe_call Gd hr1 rfl Dd.g Dd.F.kp Dd.b .nil pass0 (pa_cons (pv 2) (pa_cons pe_int pa_nil))) (pa_cons (pe_call0 Gk hr1 rfl Dk.g Dk.F.kp Dk.b .nil pass0) (pa_cons (pe_call0 Gp hr1 rfl Dp.g Dp.F.kp Dp.b .nil pass0) pa_nil))))))
        (C8.pss_cut (ps_setLc (i := 5) (own := [("_law_row", 4)]) (g := gName 4) (tt := tYes) (te := tIf (tTest (tOp rEq (tCall spDraw [] E0 (tCons (tVar 2) (tCons (tC (.int 2)) tNil))) (tC (.int 0)))) (tCB (fun xs H Q => ∃ p ys, xs = [.ref p] ∧ (SqL K H p ys ∨ SqT K H p ys) ∧ ∀ l, H l = none → Q (.ref l) (upd H l (.lst ys))) (tCons (tVar 4) tNil)) (tVar 4)) rfl sc_law.nd rfl rfl (sw_true rfl rfl rfl (by decide +kernel)) (pi_list (pv 3)) (blkOk_by (N := nLaw) (sc := defScope s_law) (by decide +kernel))
          (fun _ _ _ _ _ => pg_name (i := 4) sc_law.nd rfl (Or.inl rfl)) (fun _ _ _ _ _ => pts_nil) (fun _ _ _ _ _ => by exact pe_ifExp (pt_cmpR op_eq (pe_call Gd hr1 rfl Dd.g Dd.F.kp Dd.b .nil pass0 (pa_cons (pv 2) (pa_cons pe_int pa_nil))) pe_int (nomark _)) (pe_callTy (T := "list") call_list_of (by rfl) B.list (by decide +kernel) (pa_cons (pv 4) pa_nil)) (pv 4)))
        (C8.pss_cut (ps_set (i := 6) sc_law.nd rfl (.inl rfl) (pe_make MT GT hr5 rfl T.g bT .nil pass0 (pa_cons (pe_ifExp (pt_cmpR op_eq (pe_call Gd hr1 rfl Dd.g Dd.F.kp Dd.b .nil pass0 (pa_cons (pv 2) (pa_cons pe_int pa_nil))) pe_int (nomark _)) (pe_callTy call_tuple_of (by rfl) B.tuple (by decide +kernel) (pa_cons (pv 5) pa_nil)) (pv 5)) pa_nil)))
        (pss_cons (ps_if (pt_not (pt_val (pe_call Gsh hr5 rfl Dsh.g Dsh.F.kp Dsh.b .nil pass0 (pa_cons (pv 6) (pa_cons (pv 3) pa_nil))))) (pss_one (ps_ret pe_bl)) pss_nil)
        (pss_cons (ps_for PassesOwn.never rfl (pi_list (pv 5)) (pg_name (i := 4) sc_law.nd rfl (.inl rfl))
          (pss_one (ps_if (pt_val (pe_callB call_isi (by rfl) B.isinstance (by decide +kernel) (pa_cons (pv 4) (pa_cons (pe_bltn (by rfl) B.list (by decide +kernel) (v := .ty "list") rfl) pa_nil)))) (pss_one (ps_asg pe_str (pg_sub (pv 4) pe_int set_list))) pss_nil)))
        (pss_cons (ps_expr (pe_bm PySem.F.plainAttrs_list PySem.F.slot_list_append PySem.F.type_list_append mt_append (pe_meth0 (pv 6) T.cl mR.m GR hr1 mR.b .nil pass0) (pa_cons pe_non pa_nil)))
        (pss_cons (ps_expr (pe_bm PySem.F.plainAttrs_list PySem.F.slot_list_append PySem.F.type_list_append mt_append (pe_meth (pv 6) T.cl mI.m GI hr4 mI.b .nil pass0 (pa_cons pe_str pa_nil)) (pa_cons pe_str pa_nil)))
        (pss_cons (ps_expr (pe_bm PySem.F.plainAttrs_list PySem.F.slot_list_append PySem.F.type_list_append mt_append (pe_meth (pv 6) T.cl mB.m GB hr4 mB.b .nil pass0 (pa_cons pe_str pa_nil)) (pa_cons pe_str pa_nil)))
        (pss_cons (ps_if (pt_not (pt_val (pe_call Gsh hr5 rfl Dsh.g Dsh.F.kp Dsh.b .nil pass0 (pa_cons (pv 6) (pa_cons (pv 3) pa_nil))))) (pss_one (ps_ret pe_bl)) pss_nil)
        (pss_cons (ps_for PassesOwn.never rfl (pi_list (pe_lst (pa_cons pe_str (pa_cons pe_non (pa_cons pe_int (pa_cons pe_str (pa_cons pe_str (pa_cons (pe_lst (pa_cons pe_str pa_nil)) (pa_cons (pe_tup (pa_cons pe_str pa_nil)) (pa_cons pe_dnewK (pa_cons pe_bl pa_nil))))))))))) (pg_name (i := 7) sc_law.nd rfl (.inl rfl))
          (pss_one (ps_if (pt_cmpR (op_inC GC mC.m hr1 mC.b pass0) (pv 7) (pv 6) (by rfl)) (pss_one (ps_ret pe_bl)) pss_nil)))
        (pss_cons (ps_set (i := 8) sc_law.nd rfl (.inl rfl) (pe_lst (pa_cons (pe_tup (pa_cons pe_str (pa_cons pe_str (pa_cons pe_str (pa_cons pe_int pa_nil))))) pa_nil)))
        (C8.pss_cut (ps_if (pt_cmpR (op_neD h64) (pv 3) (pe_lst pa_nil) (nomark _)) (pss_one (ps_set (i := 8) sc_law.nd rfl (.inl rfl) (pe_op op_cat (pe_slice sl_list (pv 3) po_none (po_some (pe_un un_neg pe_int)))
            (pe_lst (pa_cons (pe_op op_catT (pe_slice sl_tup (pe_ix ix_list (pv 3) (pe_un un_neg pe_int) (fun _ _ => rfl)) po_none (po_some pe_int)) (pe_tup (pa_cons (pe_ifExp (pt_cmpR op_eq (pe_ix ix_tup (pe_ix ix_list (pv 3) (pe_un un_neg pe_int) (fun _ _ => rfl)) pe_int (fun _ _ => rfl)) pe_int (nomark _)) pe_int pe_int) pa_nil))) pa_nil))))) pss_nil)
        (C8.pss_cut (ps_if (PW.pt (pw_or (pt_cmpR (op_neC GE mE.m N.ne N.ob hr2 mE.b pass0) (pv 6) (pe_make MT GT hr5 rfl T.g bT .nil pass0 (pa_cons (pv 3) pa_nil)) (nomark _))
            (pw_or (pt_not (pt_cmpR (op_eqC GE mE.m hr1 mE.b pass0) (pv 6) (pe_make MT GT hr5 rfl T.g bT .nil pass0 (pa_cons (pv 3) pa_nil)) (nomark _)))
            (pw_or (pt_cmpR (op_eqC GE mE.m hr1 mE.b pass0) (pv 6) (pe_make MT GT hr5 rfl T.g bT .nil pass0 (pa_cons (pv 8) pa_nil)) (nomark _))
            (pw_or1 (pt_not (pt_cmpR (op_neC GE mE.m N.ne N.ob hr2 mE.b pass0) (pv 6) (pe_make MT GT hr5 rfl T.g bT .nil pass0 (pa_cons (pv 8) pa_nil)) (nomark _)))))))) (pss_one (ps_ret pe_bl)) pss_nil)
        (pss_cons (ps_if (PW.pt (pw_or (pt_cmpR (op_eqC GE mE.m hr1 mE.b pass0) (pv 6) (pv 3) (nomark _)) (pw_or (pt_cmpR (op_eqC GE mE.m hr1 mE.b pass0) (pv 6) pe_non (nomark _)) (pw_or1 (pt_cmpR (op_eqC GE mE.m hr1 mE.b pass0) (pv 6) pe_str (nomark _)))))) (pss_one (ps_ret pe_bl)) pss_nil)
        (pss_one (ps_if (PW.pt (pw_and (pt_cmpR op_gt (pe_callB call_len_seq (by rfl) B.len PySem.boot_len (pa_cons (pv 3) pa_nil)) pe_int (nomark _)) (pw_and1 (pt_cmpR op_ne (pe_ix ix_tup (pe_ix ix_list (pv 3) (pe_un un_neg pe_int) (fun _ _ => rfl)) pe_int (fun _ _ => rfl)) (pe_ix ix_tup (pe_ix ix_list (pv 3) (pe_un un_neg pe_int) (fun _ _ => rfl)) pe_int (fun _ _ => rfl)) (nomark _)))))
          (pss_cons (ps_set (i := 9) sc_law.nd rfl (.inl rfl) (pe_make MT GT hr5 rfl T.g bT .nil pass0 (pa_cons (pe_op op_cat (pe_slice sl_list (pv 3) po_none (po_some (pe_un un_neg pe_int))) (pe_lst (pa_cons (pe_ix ix_list (pv 3) (pe_un un_neg pe_int) (fun _ _ => rfl)) (pa_cons (pe_ix ix_list (pv 3) (pe_un un_neg pe_int) (fun _ _ => rfl)) pa_nil)))) pa_nil)))
          (pss_one (ps_if (PW.pt (pw_or (pt_cmpR (op_eqC GE mE.m hr1 mE.b pass0) (pv 6) (pv 9) (nomark _)) (pw_or1 (pt_not (pt_cmpR (op_neC GE mE.m N.ne N.ob hr2 mE.b pass0) (pv 6) (pv 9) (nomark _)))))) (pss_one (ps_ret pe_bl)) pss_nil))) pss_nil))))))))))))))))))
      (pss_one (ps_ret (pe_cmpR op_eq (pe_callB (call_lenC GL mL.m hr2 mL.b pass0) (by rfl) B.len PySem.boot_len (pa_cons (pe_make MT GT hr5 rfl T.g bT .nil pass0 (pa_cons (pe_lst pa_nil) pa_nil)) pa_nil)) pe_int (nomark _)))), ?_⟩
    refine ⟨4, rfl, by decide, by decide, ?_⟩
    refine for_range (lo := 0) (n := (4 : Int).toNat) (fun i σ H' => ∃ v1 v2 v3 v4 v5 v6 v7 v8 v9 : Option V, σ = [some (.ref a0), v1, v2, v3, v4, v5, v6, v7, v8, v9] ∧ SqL K H' a0 (ns.map V.int)) ⟨_, _, _, _, _, _, _, _, _, rfl, hS⟩ ?_ ?_
    · rintro i σ H1 hi ⟨v1, v2, v3, v4, v5, v6, v7, v8, v9, rfl, hS1⟩
      have hi4 : i < 4 := hi
      -- stream
      refine ⟨_, rfl, _, rfl, a0, ns, _, rfl, hS1, by omega, by omega, fun a x y ha hx hy hy1 => ?_⟩
      have st0 : Stm (upd H1 a (.lst [.int x, .int y, .int 0])) a 0 := ⟨x, y, 0, upd_same, hx, hy, hy1, by decide, by decide⟩
      have s1 : Same H1 (upd H1 a (.lst [.int x, .int y, .int 0])) := Same.new ha
      have hS2 := s1.seq hS1
      have na0 : ∀ {o : HO}, H1 a0 = some o → a0 ≠ a := fun {o} e => ne_of_none e ha
      have scr : ∀ {H'}, SB a (upd H1 a (.lst [.int x, .int y, .int 0])) H' → SqL K H' a0 (ns.map V.int) := fun {H'} sb => by
        rcases hS1 with (h | ⟨o, h⟩) | h
        · exact .inl (.inl (sb _ _ (na0 h) (s1 _ _ h)))
        · exact .inl (.inr ⟨o, sb _ _ (na0 h) (s1 _ _ h)⟩)
        · exact .inr h
      generalize upd H1 a (.lst [.int x, .int y, .int 0]) = H2 at st0 hS2 scr
      -- rows
      refine ⟨_, rfl, _, rfl, a, 13, 0, rfl, st0, by decide, by decide, by decide, fun r H3 r0 r1 st3 he3 => ?_⟩
      have sb3 := sb_eq (H := H2) he3
      refine ⟨rfl, fun kl hkl => ⟨rfl, fun pl hpl => ?_⟩⟩
      have nka : kl ≠ a := (st3.ne hkl).symm
      have npa : pl ≠ a := ((st3.upd hkl).ne hpl).symm
      have s4 : Same H3 (upd (upd H3 kl (.lst (kindsL.map V.str))) pl (.lst (pricesL.map prV))) := (Same.new hkl).trans (Same.new hpl)
      have nkp : kl ≠ pl := fun e => by rw [← e, upd_same] at hpl; cases hpl
      refine ⟨a, kl, pl, r, 1, kindsL, pricesL, rfl, (st3.same s4), by decide, r0, by omega, nka, npa, SqL.of (by rw [upd_ne nkp]; exact upd_same), SqL.of upd_same, by decide, by decide, by decide, by decide, by decide, prices_ok, fun p as rs H5 hp0 npa' hp hrows hv hl _ sb5 st5 => ?_⟩
      have sbr : SB a H2 H5 := (sb3.trans (SB.of s4)).trans sb5
      have hS5 := scr sbr
      have hLp : RowsL H5 p rs := ⟨as, hp, hrows⟩
      clear sb3 sb5 he3 hkl hpl nka npa s4
      -- handed
      refine ⟨fun σ' H' => ∃ (hd : Addr) (hs : List Addr) (v4 v6 v7 v8 v9 : Option V) (n : Int), σ' = [some (.ref a0), some (.int (0 + i)), some (.ref a), some (.ref p), v4, some (.ref hd), v6, v7, v8, v9] ∧ H' hd = some (.lst (hs.map V.ref)) ∧ SeqRows H' hs rs ∧ RowsL H' p rs ∧ Stm H' a n ∧ n ≤ 1000000 ∧ SqL K H' a0 (ns.map V.int), ?_, ?_⟩
      · refine ⟨_, rfl, p, rfl, ⟨_, SqL.of hp⟩, fun D hD => ?_⟩
        have Da : D ≠ a := (st5.ne hD).symm
        refine lc_list (K := K) (a := p) (xs := as.map V.ref) (fun j H' => ∃ hs : List Addr, H' D = some (.lst (hs.map V.ref)) ∧ SeqRows H' hs (rs.take j) ∧ Stm H' a (1 + 13 * r + j) ∧ SB a H5 H') ⟨[], upd_same, ⟨rfl, fun _ _ _ hb => by simp at hb⟩, by simpa using st5.upd (o := .lst []) hD, SB.upd hD⟩ (fun j H' _ ⟨_, _, _, _, sb⟩ => sb.seqL npa' (SqL.of hp)) ?_ ?_
        · rintro j x H6 hx ⟨hs, hD6, hsr, st6, sb6⟩
          obtain ⟨ra, r', rfl, hra, hr', e0⟩ := rows_at hrows hx
          have nra : ra ≠ a := fun e => by
            obtain ⟨x1, y1, z1, e1, _⟩ := st5
            rw [e, e1] at e0; cases e0
          have jl : j < rs.length := (List.getElem?_eq_some_iff.mp hr').1
          refine ⟨rfl, tYes_if ⟨_, rfl, a, 2, _, rfl, st6, by omega, by decide, by decide, fun r2 H7 r20 r21 st7 he7 => ?_⟩⟩
          have sb7 := sb_eq (H := H6) he7
          have e7 : H7 ra = some (.tup (rowVs r')) := sb7 _ _ nra (sb6 _ _ nra e0)
          have hD7 := sb7 _ _ Da hD6
          have fin : ∀ (l : Addr) (H8 : Hp), (H8 l = some (.tup (rowVs r')) ∨ H8 l = some (.lst (rowVs r'))) → Same H7 H8 → ∃ acc, H8 D = some (.lst acc) ∧ acc.length < sizeLine ∧ ∃ hs' : List Addr, (upd H8 D (.lst (acc ++ [V.ref l]))) D = some (.lst (hs'.map V.ref)) ∧ SeqRows (upd H8 D (.lst (acc ++ [V.ref l]))) hs' (rs.take (j + 1)) ∧ Stm (upd H8 D (.lst (acc ++ [V.ref l]))) a (1 + 13 * r + ((j + 1 : Nat) : Int)) ∧ SB a H5 (upd H8 D (.lst (acc ++ [V.ref l]))) := by
            intro l H8 hl8 s8
            have nD : ∀ {b : Addr} {q : Row}, (H8 b = some (.tup (rowVs q)) ∨ H8 b = some (.lst (rowVs q))) → b ≠ D := fun {b q} h e => by
              rw [e, s8 _ _ hD7] at h
              rcases h with h | h
              · cases h
              · exact refs_no hs _ _ (Option.some.inj h)
            refine ⟨hs.map V.ref, s8 _ _ hD7, small1000 (by rw [List.length_map, hsr.len, List.length_take]; omega), hs ++ [l], by rw [upd_same, List.map_append]; rfl, ?_, ?_, fun b o nb eb => ?_⟩
            · rw [take_more hr']
              refine SeqRows.snoc ⟨hsr.len, fun k b q hb hq' => ?_⟩ ?_
              · have q6 := hsr.at_ k b q hb hq'
                have nba : b ≠ a := fun e => by
                  obtain ⟨x1, y1, z1, e1, _⟩ := st6
                  rw [e, e1] at q6
                  rcases q6 with h | h
                  · cases h
                  · injection h with h; injection h with h; cases h
                have q8 : H8 b = some (.tup (rowVs q)) ∨ H8 b = some (.lst (rowVs q)) := q6.imp (fun h => s8 _ _ (sb7 _ _ nba h)) (fun h => s8 _ _ (sb7 _ _ nba h))
                rw [upd_ne (nD q8)]
                exact q8
              · rw [upd_ne (nD hl8)]
                exact hl8
            · obtain ⟨x1, y1, z1, e1, b1, b2, b3, b4, b5⟩ := st7
              exact ⟨x1, y1, z1, by rw [upd_ne Da.symm]; exact s8 _ _ e1, b1, b2, b3, b4, by push_cast; omega⟩
            · rw [upd_ne (fun y => by rw [y, hD] at eb; cases eb)]
              exact s8 _ _ (sb7 _ _ nb (sb6 _ _ nb eb))
          refine ⟨rfl, _, rfl, ?_⟩
          refine ite2 (fun _ => ?_) (fun _ => ?_)
          · refine ⟨_, rfl, ra, rowVs r', rfl, .inr (sqT e7), fun l hl' => ?_⟩
            exact fin l _ (.inr upd_same) (Same.new hl')
          · exact ⟨_, rfl, fin ra H7 (.inl e7) (Same.refl _)⟩
        · rintro H6 ⟨hs, hD6, hsr, st6, sb6⟩
          rw [List.length_map, hrows.len] at hsr st6
          rw [List.take_length] at hsr
          refine ⟨D, hs, _, _, _, _, _, _, rfl, hD6, hsr, ⟨as, sb6 _ _ npa' hp, ⟨hrows.len, fun k b q hb hq' => sb6 _ _ (fun e => by
            have e0 := hrows.at_ k b q hb hq'
            obtain ⟨x1, y1, z1, e1, _⟩ := st5
            rw [e, e1] at e0; cases e0) (hrows.at_ k b q hb hq')⟩⟩, st6, by omega, scr (sbr.trans sb6)⟩
      rintro σ' H6 ⟨hd, hs, v4, v6, v7, v8, v9, n, rfl, hd6, hs6, hL6, st6, hn6, hS6⟩
      -- the tree
      refine ⟨fun σ' H' => ∃ (hd t : Addr) (hs : List Addr) (v4 v7 v8 v9 : Option V), σ' = [some (.ref a0), some (.int (0 + i)), some (.ref a), some (.ref p), v4, some (.ref hd), some (.ref t), v7, v8, v9] ∧ H' hd = some (.lst (hs.map V.ref)) ∧ SeqRows H' hs rs ∧ LS K C ns a0 t p rs H', ?_, ?_⟩
      · refine ⟨_, rfl, a, 2, n, rfl, st6, by omega, by decide, by decide, fun r2 H7 r20 r21 st7 he7 => ?_⟩
        have sb7 := sb_eq (H := H6) he7
        have nha : hd ≠ a := fun e => by
          obtain ⟨x1, y1, z1, e1, _⟩ := st6
          rw [e, e1] at hd6
          cases hs with
          | nil => cases hd6
          | cons h0 hs => injection hd6 with q; injection q with q; injection q with q _; cases q
        have hd7 := sb7 _ _ nha hd6
        have nseq : ∀ {b : Addr} {q : Row}, (H6 b = some (.tup (rowVs q)) ∨ H6 b = some (.lst (rowVs q))) → b ≠ a := fun {b q} h e => by
          obtain ⟨x1, y1, z1, e1, _⟩ := st6
          rw [e, e1] at h
          rcases h with h | h
          · cases h
          · injection h with h; injection h with h; cases h
        have hs7 : SeqRows H7 hs rs := ⟨hs6.len, fun k b q hb hq' => by
          have q6 := hs6.at_ k b q hb hq'
          exact q6.imp (sb7 _ _ (nseq q6)) (sb7 _ _ (nseq q6))⟩
        have hL7 : RowsL H7 p rs := by
          obtain ⟨as', h1, h2⟩ := hL6.ex
          refine ⟨as', sb7 _ _ npa' h1, ⟨h2.len, fun k b q hb hq' => sb7 _ _ (nseq (.inl (h2.at_ k b q hb hq'))) (h2.at_ k b q hb hq')⟩⟩
        have hS7 : SqL K H7 a0 (ns.map V.int) := by
          have q : ∀ {o : HO}, H6 a0 = some o → (∀ xs, o ≠ .lst xs) → H7 a0 = some o := fun {o} e no => by
            refine sb7 _ _ (fun y => ?_) e
            obtain ⟨x1, y1, z1, e1, _⟩ := st6
            rw [y, e1] at e
            exact no _ (Option.some.inj e).symm
          rcases hS1 with (h | ⟨o, h⟩) | h
          · exact sb7.seqL (na0 h) hS6
          · exact sb7.seqL (na0 h) hS6
          · exact .inr h
        have fin : ∀ (u : Addr) (H8 : Hp), Seq H8 u (hs.map V.ref) → Same H7 H8 → ∀ x dx, H8 x = none → H8 dx = none → dx ≠ x → spTreeInit C (.ref x :: ([V.ref u] ++ [])) (upd (upd H8 dx (.own x)) x (.ins C dx [])) (fun v H2 => v = .non ∧ ∃ (hd' t : Addr) (hs : List Addr) (v4' v7' v8' v9' : Option V), [some (.ref a0), some (.int (0 + i)), some (.ref a), some (.ref p), v4, some (.ref hd), some (.ref x), v7, v8, v9] = [some (.ref a0), some (.int (0 + i)), some (.ref a), some (.ref p), v4', some (.ref hd'), some (.ref t), v7', v8', v9'] ∧ H2 hd' = some (.lst (hs.map V.ref)) ∧ SeqRows H2 hs rs ∧ LS K C ns a0 t p rs H2) E0 := by
          intro u H8 hu s8 x dx nx nd ne
          have s9 := mk_same0 (C := C) nx nd
          refine ⟨x, dx, u, hs, rs, rfl, upd_same, hu.same s9, (hs7.same s8).same s9, by omega, hv, fun H9 sb9 tr9 => ⟨rfl, hd, x, hs, _, _, _, _, rfl, ?_, ?_, tr9, ?_, ?_⟩⟩
          · exact mk_same nx nd sb9 _ _ (s8 _ _ hd7)
          · exact (hs7.same s8).same (mk_same nx nd sb9)
          · exact (hL7.same s8).same (mk_same nx nd sb9)
          · exact (mk_same nx nd sb9).seq (s8.seq hS7)
        refine ⟨rfl, _, rfl, ?_⟩
        refine ite2 (fun _ => ?_) (fun _ => ?_)
        · refine ⟨_, rfl, hd, _, rfl, .inl ⟨SqL.of hd7, fun u hu => ?_⟩⟩
          exact fin u _ (.inl upd_same) (Same.new hu)
        · exact ⟨_, rfl, fin hd H7 (.inr hd7) (Same.refl _)⟩
      rintro σ' H7 ⟨hd, t, hs, v4, v7, v8, v9, rfl, hd7, hs7, L7⟩
      have hts := L7.tree
      -- it shows its rows
      refine ⟨_, rfl, _, rfl, t, p, rs, rfl, L7.tree, L7.rows, fun H8 s8 => ⟨_, rfl, iteF ?_⟩⟩
      have L8 := L7.same s8
      have hd8 := s8 _ _ hd7
      have hs8 := hs7.same s8
      clear L7 hd7 hs7 s8 st6 hS6 hL6 hs6 hd6 hS5 sbr hLp
      -- the handed rows are spoilt
      refine ⟨_, rfl, hd, rfl, ⟨_, SqL.of hd8⟩, ?_⟩
      refine for_list (K := K) (a := hd) (xs := hs.map V.ref) (fun j σ H' => ∃ v4 : Option V, σ = [some (.ref a0), some (.int (0 + i)), some (.ref a), some (.ref p), v4, some (.ref hd), some (.ref t), v7, v8, v9] ∧ KeepS H8 H' ∧ ∀ (k : Nat) (b : Addr), hs[k]? = some b → (∃ xs, H' b = some (.tup xs)) ∨ ∃ x xs, H' b = some (.lst (.str x :: xs))) ⟨_, rfl, KeepS.refl _, fun k b hb => ?_⟩ (fun j σ H' _ ⟨_, _, ks, _⟩ => SqL.of (ks _ _ hd8 (refs_no hs))) ?_ ?_
      · obtain ⟨q, hq'⟩ : ∃ q, rs[k]? = some q := ⟨rs[k]'(by rw [← hs8.len]; exact (List.getElem?_eq_some_iff.mp hb).1), List.getElem?_eq_getElem _⟩
        exact (hs8.at_ k b q hb hq').imp (fun h => ⟨_, h⟩) fun h => ⟨_, _, h⟩
      · rintro j x σ H9 hx ⟨v4', rfl, ks, hall⟩
        rw [List.getElem?_map] at hx
        obtain ⟨b, hb, rfl⟩ := Option.map_eq_some_iff.mp hx
        rcases hall j b hb with ⟨xs, hbx⟩ | ⟨x0, xs, hbx⟩
        · refine ⟨_, rfl, _, _, _, _, false, rfl, .ty "list", .base (.tup hbx), kit_ty (by decide +kernel), _, rfl, iteF ?_⟩
          exact ⟨_, rfl, ks, hall⟩
        · refine ⟨_, rfl, _, _, _, _, true, rfl, .ty "list", .base (.lst hbx), kit_ty (by decide +kernel), _, rfl, iteT ?_⟩
          refine ⟨_, rfl, b, _, 0, 0, rfl, rfl, hbx, ix0, ?_⟩
          refine ⟨_, rfl, fun c o e no => ?_, fun k c hc => ?_⟩
          · have e9 := ks c o e no
            rw [upd_ne (fun y => by rw [y, hbx] at e9; exact no _ _ (Option.some.inj e9).symm)]
            exact e9
          · by_cases hcb : c = b
            · rw [hcb, upd_same]
              exact .inr ⟨_, _, rfl⟩
            · rw [upd_ne hcb]
              exact hall k c hc
      rintro σ' H9 ⟨v4', rfl, ks9, _⟩
      have L9 := L8.ks ks9
      clear L8 hd8 hs8 ks9
      obtain ⟨dx, q, f, k, pp, qs, h1, _⟩ := id L9.tree.ex
      have noR : (tf q f k pp).lookup ("rows" : Str) = none := tf_no _ _ _ _ (by decide +kernel) (by decide +kernel) (by decide +kernel) (by decide +kernel)
      have noI : (tf q f k pp).lookup ("inside" : Str) = none := tf_no _ _ _ _ (by decide +kernel) (by decide +kernel) (by decide +kernel) (by decide +kernel)
      have noB : (tf q f k pp).lookup ("below" : Str) = none := tf_no _ _ _ _ (by decide +kernel) (by decide +kernel) (by decide +kernel) (by decide +kernel)
      have l100 := L9.tree.len
      -- told lists are new ones
      refine ⟨_, rfl, t, dx, _, rfl, h1, noR, t, rs, rfl, L9.tree, fun l1 q1 hl1 hq1 => ⟨.inl ⟨rfl, _, SqL.of upd_same⟩, l1, _, _, rfl, rfl, upd_same, small1000 (by rw [List.length_map, hq1.len]; omega), ?_⟩⟩
      have s10 : Same H9 (upd (upd H9 l1 (.lst (q1.map V.ref))) l1 (.lst (q1.map V.ref ++ [V.non]))) := fun b o e => by
        rw [upd_ne (ne_of_none e hl1), upd_ne (ne_of_none e hl1)]; exact e
      generalize upd (upd H9 l1 (.lst (q1.map V.ref))) l1 (.lst (q1.map V.ref ++ [V.non])) = H10 at s10
      have L10 := L9.same s10
      have lin := List.length_filter_le (fun r => decide (r.fo = ("top" : Str))) rs
      have lbe := List.length_filter_le (isIn rs ("top" : Str)) rs
      refine ⟨_, rfl, t, dx, _, rfl, s10 _ _ h1, noI, t, ("top" : Str), rs, rfl, L10.tree, .inl rfl, fun D1 H11 hD1 s11 e11 => ⟨.inl ⟨rfl, _, SqL.of e11⟩, D1, _, _, rfl, rfl, e11, small1000 (by unfold insideL; rw [List.length_map, List.length_map]; omega), ?_⟩⟩
      have s12 : Same H10 (upd H11 D1 (.lst ((insideL rs ("top" : Str)).map V.str ++ [V.str ("z" : Str)]))) := fun b o e => by
        rw [upd_ne (ne_of_none e hD1)]; exact s11 _ _ e
      generalize upd H11 D1 (.lst ((insideL rs ("top" : Str)).map V.str ++ [V.str ("z" : Str)])) = H12 at s12
      have L12 := L10.same s12
      refine ⟨_, rfl, t, dx, _, rfl, s12 _ _ (s10 _ _ h1), noB, t, ("top" : Str), rs, rfl, L12.tree, .inl rfl, fun D2 H13 hD2 s13 e13 => ⟨.inl ⟨rfl, _, SqL.of e13⟩, D2, _, _, rfl, rfl, e13, small1000 (by unfold belowL; rw [List.length_map, List.length_map]; omega), ?_⟩⟩
      have s14 : Same H12 (upd H13 D2 (.lst ((belowL rs ("top" : Str)).map V.str ++ [V.str ("z" : Str)]))) := fun b o e => by
        rw [upd_ne (ne_of_none e hD2)]; exact s13 _ _ e
      generalize upd H13 D2 (.lst ((belowL rs ("top" : Str)).map V.str ++ [V.str ("z" : Str)])) = H14 at s14
      have L14 := L12.same s14
      refine ⟨_, rfl, _, rfl, t, p, rs, rfl, L14.tree, L14.rows, fun H15 s15 => ⟨_, rfl, iteF ?_⟩⟩
      have L15 := L14.same s15
      have h15 := s15 _ _ (s14 _ _ (s12 _ _ (s10 _ _ h1)))
      clear L14 L12 L10 L9 s15 s14 s12 s10 s11 s13 e11 e13 hD1 hD2 hl1 h1
      -- odd things are no boxes
      refine ⟨(by show 1 ≤ sizeLine; decide), fun l1 hl1 => ⟨(by show 1 ≤ sizeLine; decide), fun tp htp => fun dd hdd => ⟨(by show 9 ≤ sizeLine; decide), fun ol hol => ?_⟩⟩⟩
      have s16 := (Same.new (o := .lst [V.str ("a" : Str)]) hl1).trans ((Same.new (o := .tup [V.str ("a" : Str)]) htp).trans ((Same.new (o := .dK []) hdd).trans (Same.new (o := .lst [V.str ("top" : Str), .non, .int 5, .str ("" : Str), .str ("Z" : Str), .ref l1, .ref tp, .ref dd, .bl true]) hol)))
      have sl1 := ((Same.new (o := .tup [V.str ("a" : Str)]) htp).trans ((Same.new (o := .dK []) hdd).trans (Same.new (o := .lst [V.str ("top" : Str), .non, .int 5, .str ("" : Str), .str ("Z" : Str), .ref l1, .ref tp, .ref dd, .bl true]) hol))) l1 _ upd_same
      have stp := ((Same.new (o := .dK []) hdd).trans (Same.new (o := .lst [V.str ("top" : Str), .non, .int 5, .str ("" : Str), .str ("Z" : Str), .ref l1, .ref tp, .ref dd, .bl true]) hol)) tp _ upd_same
      have sdd := (Same.new (o := .lst [V.str ("top" : Str), .non, .int 5, .str ("" : Str), .str ("Z" : Str), .ref l1, .ref tp, .ref dd, .bl true]) hol) dd _ upd_same
      have sol : (upd (upd (upd (upd H15 l1 (.lst [V.str ("a" : Str)])) tp (.tup [V.str ("a" : Str)])) dd (.dK [])) ol (.lst [V.str ("top" : Str), .non, .int 5, .str ("" : Str), .str ("Z" : Str), .ref l1, .ref tp, .ref dd, .bl true])) ol = some (.lst [V.str ("top" : Str), .non, .int 5, .str ("" : Str), .str ("Z" : Str), .ref l1, .ref tp, .ref dd, .bl true]) := upd_same
      generalize upd (upd (upd (upd H15 l1 (.lst [V.str ("a" : Str)])) tp (.tup [V.str ("a" : Str)])) dd (.dK [])) ol (.lst [V.str ("top" : Str), .non, .int 5, .str ("" : Str), .str ("Z" : Str), .ref l1, .ref tp, .ref dd, .bl true]) = H16 at s16 sl1 stp sdd sol
      have L16 := L15.same s16
      have h16 := s16 _ _ h15
      refine ⟨ol, rfl, ⟨_, SqL.of sol⟩, ?_⟩
      refine for_list (K := K) (a := ol) (xs := [V.str ("top" : Str), .non, .int 5, .str ("" : Str), .str ("Z" : Str), .ref l1, .ref tp, .ref dd, .bl true]) (fun j σ H' => ∃ v7 : Option V, σ = [some (.ref a0), some (.int (0 + i)), some (.ref a), some (.ref p), v4', some (.ref hd), some (.ref t), v7, v8, v9] ∧ H' = H16) ⟨_, rfl, rfl⟩ (fun j σ H' _ ⟨_, _, e⟩ => by rw [e]; exact SqL.of sol) ?_ ?_
      · rintro j x σ H17 hx ⟨v7', rfl, rfl⟩
        have hxm := List.mem_of_getElem? hx
        have odd : (∃ z, x = .str z ∧ z ∉ names rs) ∨ Other K H17 x (.type "str") := by
          simp only [List.mem_cons, List.not_mem_nil, or_false] at hxm
          rcases hxm with rfl | rfl | rfl | rfl | rfl | rfl | rfl | rfl | rfl
          · exact .inl ⟨_, rfl, top_not hv⟩
          · exact .inr ⟨_, .base .non, kit_ty (by decide +kernel)⟩
          · exact .inr ⟨_, .base (.int 5), kit_ty (by decide +kernel)⟩
          · exact .inl ⟨_, rfl, no_empty hv⟩
          · exact .inl ⟨_, rfl, no_Z hv⟩
          · exact .inr ⟨_, .base (.lst sl1), kit_ty (by decide +kernel)⟩
          · exact .inr ⟨_, .base (.tup stp), kit_ty (by decide +kernel)⟩
          · exact .inr ⟨_, .base (.dK sdd), kit_ty (by decide +kernel)⟩
          · exact .inr ⟨_, .base (.bl true), kit_ty (by decide +kernel)⟩
        refine ⟨_, rfl, _, rfl, t, dx, _, rfl, h16, t, x, rs, rfl, L16.tree, ?_⟩
        rcases odd with ⟨z, rfl, hz⟩ | ho
        · refine .inl ⟨z, rfl, _, rfl, _, rfl, ?_⟩
          rw [decide_eq_false hz]
          exact iteF ⟨_, rfl, rfl⟩
        · exact .inr ⟨ho, _, rfl, _, rfl, iteF ⟨_, rfl, rfl⟩⟩
      rintro σ' H17 ⟨v7', rfl, rfl⟩
      clear s16 sl1 stp sdd sol L15 h15 hl1 htp hdd hol
      -- another tree's rows
      refine ⟨(by show 4 ≤ sizeLine; decide), fun tz htz => ⟨(by show 1 ≤ sizeLine; decide), fun oz hoz => ?_⟩⟩
      have s18 := (Same.new (o := .tup [V.str ("z" : Str), .str ("top" : Str), .str ("item" : Str), .int 1]) htz).trans (Same.new (o := .lst [V.ref tz]) hoz)
      have r18 : RowsL (upd (upd H17 tz (.tup [V.str ("z" : Str), .str ("top" : Str), .str ("item" : Str), .int 1])) oz (.lst [V.ref tz])) oz [⟨"z", "top", "item", some 1⟩] :=
        ⟨[tz], upd_same, RowsAt.snoc RowsAt.nil ((Same.new (o := .lst [V.ref tz]) hoz) _ _ upd_same)⟩
      generalize upd (upd H17 tz (.tup [V.str ("z" : Str), .str ("top" : Str), .str ("item" : Str), .int 1])) oz (.lst [V.ref tz]) = H18 at s18 r18
      have L18 := L16.same s18
      have h18 := s18 _ _ h16
      clear L16 h16 s18 htz hoz
      refine ⟨fun σ' H' => ∃ (ol : Addr) (rs2 : List Row), σ' = [some (.ref a0), some (.int (0 + i)), some (.ref a), some (.ref p), v4', some (.ref hd), some (.ref t), v7', some (.ref ol), v9] ∧ Same H18 H' ∧ RowsL H' ol rs2 ∧ Valid rs2 ∧ rs2 ≠ rs ∧ rs2.length ≤ 100, ?_, ?_⟩
      · obtain ⟨as18, hp18, hr18⟩ := id L18.rows.ex
        refine ⟨_, rfl, Nat.zero_le _, fun e0 he0 => ?_⟩
        have s19 : Same H18 (upd H18 e0 (.lst [])) := Same.new he0
        have dpe : L2.Dp K (upd H18 e0 (.lst [])) (.ref e0) (.list (([] : List Row).map rowD)) := .lst (SqL.of upd_same) .nil
        refine ⟨_, _, .lst (SqL.of (s19 _ _ hp18)) (rows_dp (hr18.same s19)), dpe, shaped_lst hv.ok, shaped_lst (fun _ h => by cases h), _, rfl, ?_⟩
        have ee : PyData.eqv (.list (rs.map rowD)) (.list (([] : List Row).map rowD)) = decide (rs = []) := by
          simp only [PyData.eqv]
          exact rows_eqv rs []
        rw [ee]
        refine ite2 (fun hc => ?_) (fun hc => ?_)
        · have hne : rs ≠ [] := by simpa using hc
          obtain ⟨pre, x, rfl⟩ := concat_of hne
          obtain ⟨as', ax, rfl, hpre, hax⟩ := rows_last hr18
          have el : ((as' ++ [ax]).map V.ref) = as'.map V.ref ++ [V.ref ax] := by rw [List.map_append]; rfl
          have lp : as'.length ≤ 100 := by
            have := hpre.len
            rw [List.length_append] at l100
            omega
          generalize upd H18 e0 (.lst []) = H19 at s19
          rw [el] at hp18
          refine ⟨_, rfl, _, rfl, _, rfl, p, _, rfl, SqL.of (s19 _ _ hp18), fun u1 hu1 => ?_⟩
          rw [cutV_init, List.dropLast_concat] at *
          have s20 : Same H18 (upd H19 u1 (.lst (as'.map V.ref))) := s19.trans (Same.new hu1)
          have e20 : (upd H19 u1 (.lst (as'.map V.ref))) u1 = some (.lst (as'.map V.ref)) := upd_same
          generalize upd H19 u1 (.lst (as'.map V.ref)) = H20 at s20 e20
          refine ⟨_, rfl, _, rfl, p, _, _, _, rfl, rfl, SqL.of (s20 _ _ hp18), atI_last, _, rfl, ax, _, rfl, sqT (s20 _ _ hax), (by show ¬ (0 = 0 ∧ 3 = 4); decide), fun u2 hu2 => ?_⟩
          have s21 : Same H20 (upd H20 u2 (.tup [V.str x.nm, .str x.fo, .str x.ki])) := Same.new hu2
          have e21 : (upd H20 u2 (.tup [V.str x.nm, .str x.fo, .str x.ki])) u2 = some (.tup [V.str x.nm, .str x.fo, .str x.ki]) := upd_same
          have hcv : (upd H20 u2 (.tup (cutV (rowVs x) none (some 3)))) = (upd H20 u2 (.tup [V.str x.nm, .str x.fo, .str x.ki])) := rfl
          rw [hcv]
          generalize upd H20 u2 (.tup [V.str x.nm, .str x.fo, .str x.ki]) = H21 at s21 e21
          have s1821 := s20.trans s21
          refine ⟨_, rfl, _, rfl, p, _, _, _, rfl, rfl, SqL.of (s1821 _ _ hp18), atI_last, ax, _, _, _, rfl, rfl, sqT (s1821 _ _ hax), atI3 _ _ _ _, scal_pr _ _, _, rfl, ?_⟩
          have fin : ∀ c : Int, 1 ≤ c → x.pr ≠ some c → ∀ u3, H21 u3 = none → ∀ u4, (upd H21 u3 (.tup [V.int c])) u4 = none → ∀ u5, (upd (upd H21 u3 (.tup [V.int c])) u4 (.tup ([V.str x.nm, .str x.fo, .str x.ki] ++ [V.int c]))) u5 = none →
              ∀ u6, (upd (upd (upd H21 u3 (.tup [V.int c])) u4 (.tup ([V.str x.nm, .str x.fo, .str x.ki] ++ [V.int c]))) u5 (.lst [V.ref u4])) u6 = none →
              ∃ (ol : Addr) (rs2 : List Row), [some (V.ref a0), some (.int (0 + i)), some (.ref a), some (.ref p), v4', some (.ref hd), some (.ref t), v7', some (.ref u6), v9] = [some (.ref a0), some (.int (0 + i)), some (.ref a), some (.ref p), v4', some (.ref hd), some (.ref t), v7', some (.ref ol), v9] ∧
                Same H18 (upd (upd (upd (upd H21 u3 (.tup [V.int c])) u4 (.tup ([V.str x.nm, .str x.fo, .str x.ki] ++ [V.int c]))) u5 (.lst [V.ref u4])) u6 (.lst (as'.map V.ref ++ [V.ref u4]))) ∧
                RowsL (upd (upd (upd (upd H21 u3 (.tup [V.int c])) u4 (.tup ([V.str x.nm, .str x.fo, .str x.ki] ++ [V.int c]))) u5 (.lst [V.ref u4])) u6 (.lst (as'.map V.ref ++ [V.ref u4]))) ol rs2 ∧ Valid rs2 ∧ rs2 ≠ pre ++ [x] ∧ rs2.length ≤ 100 := by
            intro c hc1 hcx u3 hu3 u4 hu4 u5 hu5 u6 hu6
            have sA := ((Same.new (o := .tup [V.int c]) hu3).trans (Same.new (o := .tup ([V.str x.nm, .str x.fo, .str x.ki] ++ [V.int c])) hu4)).trans ((Same.new (o := .lst [V.ref u4]) hu5).trans (Same.new (o := .lst (as'.map V.ref ++ [V.ref u4])) hu6))
            have e4 := ((Same.new (o := .lst [V.ref u4]) hu5).trans (Same.new (o := .lst (as'.map V.ref ++ [V.ref u4])) hu6)) u4 _ upd_same
            refine ⟨u6, pre ++ [{ x with pr := some c }], rfl, s1821.trans sA, ⟨as' ++ [u4], by rw [upd_same, List.map_append]; rfl, ?_⟩, hv.price hc1, fun e => ?_, by rw [List.length_append] at l100 ⊢; exact l100⟩
            · exact RowsAt.snoc ((hpre.same s1821).same sA) e4
            · have e1 := List.append_cancel_left e
              injection e1 with e1 _
              have := congrArg Row.pr e1
              exact hcx this.symm
          have szA : (as'.map V.ref).length + [V.ref (0 : Addr)].length ≤ sizeLine := szl (by rw [List.length_map]; show _ + 1 ≤ 1000; omega)
          refine ite2 (fun hc => ?_) (fun hc => ?_)
          · have hx4 : x.pr = some 4 := prV_int.mp (of_decide_eq_true hc)
            refine ⟨(by show 1 ≤ sizeLine; decide), fun u3 hu3 => ?_⟩
            refine ⟨u2, u3, _, _, rfl, rfl, sqT ((Same.new hu3) _ _ e21), sqT upd_same, by simp, (by show 4 ≤ sizeLine; decide), (fun h => by cases h), fun _ u4 hu4 => ⟨(by show 1 ≤ sizeLine; decide), fun u5 hu5 => ?_⟩⟩
            refine ⟨u1, u5, _, _, rfl, rfl, ((Same.new hu4).trans (Same.new hu5)) _ _ ((Same.new hu3) _ _ (s21 _ _ e20)), upd_same, szA, fun u6 hu6 => ?_⟩
            exact fin 5 (by decide) (by rw [hx4]; simp) u3 hu3 u4 hu4 u5 hu5 u6 hu6
          · have hx4 : x.pr ≠ some 4 := fun e => hc (decide_eq_true (prV_int.mpr e))
            refine ⟨(by show 1 ≤ sizeLine; decide), fun u3 hu3 => ?_⟩
            refine ⟨u2, u3, _, _, rfl, rfl, sqT ((Same.new hu3) _ _ e21), sqT upd_same, by simp, (by show 4 ≤ sizeLine; decide), (fun h => by cases h), fun _ u4 hu4 => ⟨(by show 1 ≤ sizeLine; decide), fun u5 hu5 => ?_⟩⟩
            refine ⟨u1, u5, _, _, rfl, rfl, ((Same.new hu4).trans (Same.new hu5)) _ _ ((Same.new hu3) _ _ (s21 _ _ e20)), upd_same, szA, fun u6 hu6 => ?_⟩
            exact fin 4 (by decide) hx4 u3 hu3 u4 hu4 u5 hu5 u6 hu6
        · have he : rs = [] := by simpa using hc
          refine ⟨oz, _, rfl, s19, r18.same s19, valid_z, by rw [he]; simp, (by show 1 ≤ 100; decide)⟩
      rintro σ' H20 ⟨ol, rs2, rfl, s20, ro2, hv2, hne2, hl2⟩
      have L20 := L18.same s20
      have h20 := s20 _ _ h18
      clear L18 h18 s20 r18
      obtain ⟨as20, hp20, hr20⟩ := id L20.rows.ex
      obtain ⟨ao, hpo, hro⟩ := id ro2.ex
      refine ⟨fun σ' H' => σ' = [some (.ref a0), some (.int (0 + i)), some (.ref a), some (.ref p), v4', some (.ref hd), some (.ref t), v7', some (.ref ol), v9] ∧ Same H20 H', ?_, ?_⟩
      · refine ⟨_, rfl, _, rfl, fun x31 d31 nx31 nd31 _ => ⟨x31, d31, p, as20, rs, rfl, upd_same, .inr (mk_same0 (C := C) nx31 nd31 _ _ ((Same.refl H20) _ _ hp20)), ((((hr20.same (Same.refl H20))).same (mk_same0 (C := C) nx31 nd31)).seq), l100, hv, fun H31 sb31 tr31 => ⟨rfl, ?_⟩⟩⟩
        have s31 := mk_same nx31 nd31 sb31
        obtain ⟨e31, _, _, _, _, _, g31, _⟩ := id tr31.ex
        refine ⟨t, dx, _, .ref C, rfl, ((Same.refl H20).trans s31) _ _ h20, .ins g31, nfC, t, .ref x31, rs, rfl, L20.tree.same ((Same.refl H20).trans s31), .inl ⟨x31, rs, rfl, tr31, _, rfl, _, rfl, ?_⟩⟩
        rw [decide_eq_true rfl]
        refine iteF ?_
        refine ⟨_, rfl, _, rfl, fun x32 d32 nx32 nd32 _ => ⟨x32, d32, p, as20, rs, rfl, upd_same, .inr (mk_same0 (C := C) nx32 nd32 _ _ (((Same.refl H20).trans s31) _ _ hp20)), ((((hr20.same ((Same.refl H20).trans s31))).same (mk_same0 (C := C) nx32 nd32)).seq), l100, hv, fun H32 sb32 tr32 => ⟨rfl, ?_⟩⟩⟩
        have s32 := mk_same nx32 nd32 sb32
        obtain ⟨e32, _, _, _, _, _, g32, _⟩ := id tr32.ex
        refine ⟨t, dx, _, .ref C, rfl, (((Same.refl H20).trans s31).trans s32) _ _ h20, .ins g32, nfC, t, .ref x32, rs, rfl, L20.tree.same (((Same.refl H20).trans s31).trans s32), .inl ⟨x32, rs, rfl, tr32, _, rfl, _, rfl, ?_⟩⟩
        rw [decide_eq_true rfl]
        refine iteF ?_
        refine ⟨_, rfl, _, rfl, fun x33 d33 nx33 nd33 _ => ⟨x33, d33, ol, ao, rs2, rfl, upd_same, .inr (mk_same0 (C := C) nx33 nd33 _ _ ((((Same.refl H20).trans s31).trans s32) _ _ hpo)), ((((hro.same (((Same.refl H20).trans s31).trans s32))).same (mk_same0 (C := C) nx33 nd33)).seq), hl2, hv2, fun H33 sb33 tr33 => ⟨rfl, ?_⟩⟩⟩
        have s33 := mk_same nx33 nd33 sb33
        obtain ⟨e33, _, _, _, _, _, g33, _⟩ := id tr33.ex
        refine ⟨t, dx, _, .ref C, rfl, ((((Same.refl H20).trans s31).trans s32).trans s33) _ _ h20, .ins g33, nfC, t, .ref x33, rs, rfl, L20.tree.same ((((Same.refl H20).trans s31).trans s32).trans s33), .inl ⟨x33, rs2, rfl, tr33, _, rfl, _, rfl, ?_⟩⟩
        rw [decide_eq_false (fun e => hne2 e.symm)]
        refine iteF ?_
        refine ⟨_, rfl, _, rfl, fun x34 d34 nx34 nd34 _ => ⟨x34, d34, ol, ao, rs2, rfl, upd_same, .inr (mk_same0 (C := C) nx34 nd34 _ _ (((((Same.refl H20).trans s31).trans s32).trans s33) _ _ hpo)), ((((hro.same ((((Same.refl H20).trans s31).trans s32).trans s33))).same (mk_same0 (C := C) nx34 nd34)).seq), hl2, hv2, fun H34 sb34 tr34 => ⟨rfl, ?_⟩⟩⟩
        have s34 := mk_same nx34 nd34 sb34
        obtain ⟨e34, _, _, _, _, _, g34, _⟩ := id tr34.ex
        refine ⟨t, dx, _, .ref C, rfl, (((((Same.refl H20).trans s31).trans s32).trans s33).trans s34) _ _ h20, .ins g34, nfC, t, .ref x34, rs, rfl, L20.tree.same (((((Same.refl H20).trans s31).trans s32).trans s33).trans s34), .inl ⟨x34, rs2, rfl, tr34, _, rfl, _, rfl, ?_⟩⟩
        rw [decide_eq_false (fun e => hne2 e.symm)]
        exact iteF ⟨rfl, (((((Same.refl H20).trans s31).trans s32).trans s33).trans s34)⟩
      rintro σ' H35 ⟨rfl, s35⟩
      have L35 := L20.same s35
      have h35 := s35 _ _ h20
      clear L20 h20 s35 hp20 hr20 hpo hro ro2
      obtain ⟨as35, hp35, hr35⟩ := id L35.rows.ex
      refine ⟨_, rfl, _, rfl, t, dx, _, .type "list", rfl, h35, .lst hp35, N.nfL, t, .ref p, rs, rfl, L35.tree, .inr ⟨⟨_, .base (.lst hp35), N.kL⟩, _, rfl, _, rfl, iteF ?_⟩⟩
      refine ⟨_, rfl, t, dx, _, .type "NoneType", rfl, h35, .non, N.nfN, t, .non, rs, rfl, L35.tree, .inr ⟨⟨_, .base .non, N.kN⟩, _, rfl, _, rfl, iteF ?_⟩⟩
      refine ⟨_, rfl, t, dx, _, .type "str", rfl, h35, .str _, N.nfS, t, .str _, rs, rfl, L35.tree, .inr ⟨⟨_, .base (.str _), N.kS⟩, _, rfl, _, rfl, iteF ?_⟩⟩
      -- the last two exchanged
      refine ⟨_, rfl, p, _, rfl, .inl (SqL.of hp35), _, _, rfl, rfl, _, rfl, ?_⟩
      have el35 : (as35.map V.ref).length = rs.length := by rw [List.length_map, hr35.len]
      rw [el35]
      refine ite2 (fun hc => ?_) (fun _ => ?_)
      · have h2 : 1 < rs.length := by have := of_decide_eq_true hc; omega
        obtain ⟨pre, x, y, rfl⟩ := concat2_of h2
        obtain ⟨as', ax, ay, rfl, hpre, hax, hay⟩ := rows_last2 hr35
        have em : ((as' ++ [ax, ay]).map V.ref) = as'.map V.ref ++ [V.ref ax, V.ref ay] := by rw [List.map_append]; rfl
        rw [em] at hp35
        refine ⟨_, rfl, _, rfl, p, _, _, _, rfl, rfl, SqL.of hp35, atI_last1, ay, _, _, _, rfl, rfl, sqT hay, atI1 _ _ _ _, _, rfl, _, rfl, p, _, _, _, rfl, rfl, SqL.of hp35, atI_last2, ax, _, _, _, rfl, rfl, sqT hax, atI0 _ _ _ _, rfl, _, rfl, ?_⟩
        refine ite2 (fun hn => ?_) (fun _ => ?_)
        · have hn' : y.fo ≠ x.nm := fun e => by rw [e] at hn; simp at hn
          have hvs := hv.swapLast hn'
          have hxy : pre ++ [y, x] ≠ pre ++ [x, y] := fun e => by
            have e1 := List.append_cancel_left e
            injection e1 with e1 _
            have h3 : Valid ((pre ++ [x]) ++ [y]) := by simpa using hv
            exact h3.last.new (List.mem_map.mpr ⟨x, by simp, by rw [e1]⟩)
          have lap : as'.length ≤ 100 := by
            have := hpre.len
            rw [List.length_append] at l100
            omega
          refine ⟨_, rfl, _, rfl, _, rfl, p, _, rfl, SqL.of hp35, fun u1 hu1 => ?_⟩
          have ec : cutV (as'.map V.ref ++ [V.ref ax, V.ref ay]) none (some (-2)) = as'.map V.ref := by
            rw [cutV_init2]
            have e2 : (as'.map V.ref ++ [V.ref ax, V.ref ay]).length - 2 = (as'.map V.ref).length := by simp
            rw [e2, List.take_left]
          rw [ec]
          have s36 : Same H35 (upd H35 u1 (.lst (as'.map V.ref))) := Same.new hu1
          have e36 : (upd H35 u1 (.lst (as'.map V.ref))) u1 = some (.lst (as'.map V.ref)) := upd_same
          generalize upd H35 u1 (.lst (as'.map V.ref)) = H36 at s36 e36
          refine ⟨_, rfl, _, rfl, p, _, _, _, rfl, rfl, SqL.of (s36 _ _ hp35), atI_last1, _, rfl, _, rfl, p, _, _, _, rfl, rfl, SqL.of (s36 _ _ hp35), atI_last2, (by show 2 ≤ sizeLine; decide), fun u2 hu2 => ?_⟩
          have s37 : Same H36 (upd H36 u2 (.lst [V.ref ay, .ref ax])) := Same.new hu2
          refine ⟨u1, u2, _, _, rfl, rfl, s37 _ _ e36, upd_same, szl (by rw [List.length_map]; show _ + 2 ≤ 1000; omega), fun u3 hu3 => ?_⟩
          have s38 := (s36.trans s37).trans (Same.new (o := .lst (as'.map V.ref ++ [V.ref ay, .ref ax])) hu3)
          have e38 : (upd (upd H36 u2 (.lst [V.ref ay, .ref ax])) u3 (.lst (as'.map V.ref ++ [V.ref ay, .ref ax]))) u3 = some (.lst ((as' ++ [ay, ax]).map V.ref)) := by rw [upd_same, List.map_append]; rfl
          generalize upd (upd H36 u2 (.lst [V.ref ay, .ref ax])) u3 (.lst (as'.map V.ref ++ [V.ref ay, .ref ax])) = H38 at s38 e38
          have r38 : RowsAt H38 (as' ++ [ay, ax]) (pre ++ [y, x]) := by
            have := RowsAt.snoc (RowsAt.snoc (hpre.same s38) (s38 _ _ hay)) (s38 _ _ hax)
            simpa using this
          intro x40 d40 nx40 nd40 _
          refine ⟨x40, d40, u3, as' ++ [ay, ax], pre ++ [y, x], rfl, upd_same, .inr (mk_same0 (C := C) nx40 nd40 _ _ e38), (r38.same (mk_same0 (C := C) nx40 nd40)).seq, by rw [List.length_append] at l100 ⊢; exact l100, hvs, fun H40 sb40 tr40 => ⟨rfl, ?_⟩⟩
          have s40 := s38.trans (mk_same nx40 nd40 sb40)
          obtain ⟨e40, _, _, _, _, _, g40, _⟩ := id tr40.ex
          have L40 := L35.same s40
          refine ⟨_, rfl, _, rfl, t, dx, _, .ref C, rfl, s40 _ _ h35, .ins g40, nfC, t, .ref x40, _, rfl, L40.tree, .inl ⟨x40, _, rfl, tr40, _, rfl, _, rfl, ?_⟩⟩
          rw [decide_eq_false (fun e => hxy e.symm)]
          refine iteF ?_
          refine ⟨_, rfl, _, rfl, t, dx, _, .ref C, rfl, s40 _ _ h35, .ins g40, nfC, t, .ref x40, _, rfl, L40.tree, .inl ⟨x40, _, rfl, tr40, _, rfl, _, rfl, ?_⟩⟩
          rw [decide_eq_false (fun e => hxy e.symm)]
          exact iteF ⟨_, _, _, _, _, _, _, _, _, rfl, L40.scr⟩
        · exact ⟨_, _, _, _, _, _, _, _, _, rfl, L35.scr⟩
      · exact ⟨_, _, _, _, _, _, _, _, _, rfl, L35.scr⟩
    · rintro σ H1 ⟨v1, v2, v3, v4, v5, v6, v7, v8, v9, rfl, hS1⟩
      refine ⟨Nat.zero_le _, fun e0 he0 => fun x1 d1 nx1 nd1 _ => ?_⟩
      refine ⟨x1, d1, e0, [], [], rfl, upd_same, .inr (mk_same0 (C := C) nx1 nd1 _ _ upd_same), ⟨rfl, fun _ _ _ h => by simp at h⟩, Nat.zero_le _, Valid.nil, fun H2 sb2 tr2 => ⟨rfl, ?_⟩⟩
      obtain ⟨e2, _, _, _, _, _, g2, _⟩ := id tr2.ex
      exact ⟨x1, e2, _, rfl, g2, x1, [], rfl, tr2, _, rfl, ⟨by decide, by decide⟩, rfl, hq H2⟩
end
end Ts

set_option maxRecDepth 100000
set_option maxHeartbeats 8000000
namespace Ts
open PySem L2
theorem defAt {K : PySem.W.Frag} {h : Heap} {mg : Str → Option Value} (X : K.In h) (G : h.Ns mainGlobals mg) {x : Str} {st : Stmt} {ps : List Str} {f : Addr} {oc : Value} {od an : Option Addr} {sl : Array (Option Value)} {kV dc pm cd ct : Value}
    (a : PySem.W.nsIn K mainGlobals x = some (some (.ref f))) (l : K.lookup f = some ⟨oc, od, .func (PySem.W.fnOf x x (defArgs st) (defBody st) (defScope st) .none kV dc pm an cd ct), sl⟩) (c : PySem.W.codeIn K cd x = true) (k : PySem.W.keepIn K (.ref f) = true)
    (hb : ∀ (kV doc pm : Value) (an : Option Addr) (cdv ct : Value) (us : List Value), us.length = ps.length → bindArgs (PySem.W.fnOf x x (defArgs st) (defBody st) (defScope st) .none kV doc pm an cdv ct) ⟨us, []⟩ = pure (ps.zip us)) :
    ∃ D : DefAt K mg x st ps, ∀ (s : Shared) (us : List Value), us.length = ps.length → BindsTo s D.fd ⟨us, []⟩ (ps.zip us) :=
  ⟨⟨f, _, fun_mk l c k, (fun_mk l c k).binds hb, PySem.W.mg_of X G a⟩, fun _ us hu => .of_eq (hb _ _ _ _ _ _ us hu)⟩
theorem methAt {K : PySem.W.Frag} {C : Addr} {x q : Str} {st : Stmt} {ps : List Str} {f : Addr} {oc : Value} {od an : Option Addr} {sl : Array (Option Value)} {kV dc pm cd ct : Value}
    (a : PySem.W.findIn K (.ref C) x = some (some (.ref f))) (i : PySem.W.isFn K (.ref f) = true) (l : K.lookup f = some ⟨oc, od, .func (PySem.W.fnOf x q (defArgs st) (defBody st) (defScope st) .none kV dc pm an cd ct), sl⟩) (c : PySem.W.codeIn K cd q = true) (k : PySem.W.keepIn K (.ref f) = true)
    (hb : ∀ (kV doc pm : Value) (an : Option Addr) (cdv ct : Value) (us : List Value), us.length = ps.length → bindArgs (PySem.W.fnOf x q (defArgs st) (defBody st) (defScope st) .none kV doc pm an cdv ct) ⟨us, []⟩ = pure (ps.zip us)) :
    Nonempty (MethAt K C x q st ps) :=
  ⟨⟨f, _, fun_mk l c k, (fun_mk l c k).binds hb, ⟨a, i, k⟩⟩⟩
theorem kit_no {K : PySem.W.Frag} {C : Addr} {T : String} (iC : PySem.W.isClsIn K C = true) (tC : PySem.W.typeIn K (.ref C) = some (.type "type")) (sb : PySem.W.subIn K (.type T) (.ref C) = some false) : PySem.W.kitOne K (.type T) (.ref C) = some false := by
  unfold PySem.W.kitOne
  rw [if_neg (by simp)]
  have e : ((PySem.W.clsIn K C).isSome && PySem.W.typeIn K (.ref C) == some (.type "type")) = true := by
    rw [show (PySem.W.clsIn K C).isSome = true from iC, tC]
    simp
  show (if ((PySem.W.clsIn K C).isSome && PySem.W.typeIn K (.ref C) == some (.type "type")) = true then PySem.W.subIn K (.type T) (.ref C) else none) = some false
  rw [if_pos e]
  exact sb
theorem kit_me {K : PySem.W.Frag} {C : Addr} : PySem.W.kitOne K (.ref C) (.ref C) = some true := by
  unfold PySem.W.kitOne
  rw [if_pos (by simp)]
theorem treeAll {K : PySem.W.Frag} {h : Heap} {mg : Str → Option Value} (X : K.In h) (G : h.Ns mainGlobals mg) {C : Addr} {f0 : Addr} {oc0 kV0 dc0 pm0 cd0 ct0 : Value} {od0 an0 : Option Addr} {sl0 : Array (Option Value)} {f1 : Addr} {oc1 kV1 dc1 pm1 cd1 ct1 : Value} {od1 an1 : Option Addr} {sl1 : Array (Option Value)} {f2 : Addr} {oc2 kV2 dc2 pm2 cd2 ct2 : Value} {od2 an2 : Option Addr} {sl2 : Array (Option Value)} {f3 : Addr} {oc3 kV3 dc3 pm3 cd3 ct3 : Value} {od3 an3 : Option Addr} {sl3 : Array (Option Value)} {f4 : Addr} {oc4 kV4 dc4 pm4 cd4 ct4 : Value} {od4 an4 : Option Addr} {sl4 : Array (Option Value)} {f5 : Addr} {oc5 kV5 dc5 pm5 cd5 ct5 : Value} {od5 an5 : Option Addr} {sl5 : Array (Option Value)} {f6 : Addr} {oc6 kV6 dc6 pm6 cd6 ct6 : Value} {od6 an6 : Option Addr} {sl6 : Array (Option Value)} {f7 : Addr} {oc7 kV7 dc7 pm7 cd7 ct7 : Value} {od7 an7 : Option Addr} {sl7 : Array (Option Value)} {f8 : Addr} {oc8 kV8 dc8 pm8 cd8 ct8 : Value} {od8 an8 : Option Addr} {sl8 : Array (Option Value)} {f9 : Addr} {oc9 kV9 dc9 pm9 cd9 ct9 : Value} {od9 an9 : Option Addr} {sl9 : Array (Option Value)}
    (aC : PySem.W.nsIn K mainGlobals "Tree" = some (some (.ref C)))
    (pg : PySem.W.plainGet K C Str.empty = true)
    (hd : PySem.W.hasDictIn K C = true)
    (po : PySem.W.plainOver K C = true)
    (sa : PySem.W.findIn K (.ref C) "__setattr__" = some (some (.builtin "object.__setattr__")))
    (mk : PySem.W.makesIn K C = true)
    (kc : PySem.W.keepIn K (.ref C) = true)
    (nq : PySem.W.findIn K (.ref C) "quads" = some none)
    (nf : PySem.W.findIn K (.ref C) "folders" = some none)
    (nk : PySem.W.findIn K (.ref C) "kinds" = some none)
    (np : PySem.W.findIn K (.ref C) "prices" = some none)
    (ne : PySem.W.findIn K (.ref C) "__ne__" = some (some (.builtin "object.__ne__")))
    (ob : PySem.W.subIn K (.ref C) (.type "object") = some true)
    (nfL : PySem.W.notFirst K C (.type "list") = true)
    (nfN : PySem.W.notFirst K C (.type "NoneType") = true)
    (nfS : PySem.W.notFirst K C (.type "str") = true)
    (iC : PySem.W.isClsIn K C = true)
    (tC : PySem.W.typeIn K (.ref C) = some (.type "type"))
    (kL : PySem.W.subIn K (.type "list") (.ref C) = some false)
    (kN : PySem.W.subIn K (.type "NoneType") (.ref C) = some false)
    (kS : PySem.W.subIn K (.type "str") (.ref C) = some false)
    (ha : PySem.W.findIn K (.ref C) "__class__" = some (some (.builtin "object.__class__")))
    (hn : PySem.W.specialIn K (.builtin "object.__class__") "__get__" = some (some (.builtin "getset_descriptor.__get__")))
    (htk : PySem.W.takesIn K (.builtin "object.__class__") = some true)
    (hm : PySem.W.mroIn K C (.type "object") = some true)
    (a0 : PySem.W.findIn K (.ref C) "__init__" = some (some (.ref f0))) (i0 : PySem.W.isFn K (.ref f0) = true) (l0 : K.lookup f0 = some ⟨oc0, od0, .func (PySem.W.fnOf "__init__" "Tree.__init__" (defArgs s_Tree_init) (defBody s_Tree_init) (defScope s_Tree_init) .none kV0 dc0 pm0 an0 cd0 ct0), sl0⟩) (c0 : PySem.W.codeIn K cd0 "Tree.__init__" = true) (k0 : PySem.W.keepIn K (.ref f0) = true)
    (a1 : PySem.W.findIn K (.ref C) "__eq__" = some (some (.ref f1))) (i1 : PySem.W.isFn K (.ref f1) = true) (l1 : K.lookup f1 = some ⟨oc1, od1, .func (PySem.W.fnOf "__eq__" "Tree.__eq__" (defArgs s_Tree_eq) (defBody s_Tree_eq) (defScope s_Tree_eq) .none kV1 dc1 pm1 an1 cd1 ct1), sl1⟩) (c1 : PySem.W.codeIn K cd1 "Tree.__eq__" = true) (k1 : PySem.W.keepIn K (.ref f1) = true)
    (a2 : PySem.W.findIn K (.ref C) "__len__" = some (some (.ref f2))) (i2 : PySem.W.isFn K (.ref f2) = true) (l2 : K.lookup f2 = some ⟨oc2, od2, .func (PySem.W.fnOf "__len__" "Tree.__len__" (defArgs s_Tree_len) (defBody s_Tree_len) (defScope s_Tree_len) .none kV2 dc2 pm2 an2 cd2 ct2), sl2⟩) (c2 : PySem.W.codeIn K cd2 "Tree.__len__" = true) (k2 : PySem.W.keepIn K (.ref f2) = true)
    (a3 : PySem.W.findIn K (.ref C) "__contains__" = some (some (.ref f3))) (i3 : PySem.W.isFn K (.ref f3) = true) (l3 : K.lookup f3 = some ⟨oc3, od3, .func (PySem.W.fnOf "__contains__" "Tree.__contains__" (defArgs s_Tree_contains) (defBody s_Tree_contains) (defScope s_Tree_contains) .none kV3 dc3 pm3 an3 cd3 ct3), sl3⟩) (c3 : PySem.W.codeIn K cd3 "Tree.__contains__" = true) (k3 : PySem.W.keepIn K (.ref f3) = true)
    (a4 : PySem.W.findIn K (.ref C) "rows" = some (some (.ref f4))) (i4 : PySem.W.isFn K (.ref f4) = true) (l4 : K.lookup f4 = some ⟨oc4, od4, .func (PySem.W.fnOf "rows" "Tree.rows" (defArgs s_Tree_rows) (defBody s_Tree_rows) (defScope s_Tree_rows) .none kV4 dc4 pm4 an4 cd4 ct4), sl4⟩) (c4 : PySem.W.codeIn K cd4 "Tree.rows" = true) (k4 : PySem.W.keepIn K (.ref f4) = true)
    (a5 : PySem.W.findIn K (.ref C) "folder" = some (some (.ref f5))) (i5 : PySem.W.isFn K (.ref f5) = true) (l5 : K.lookup f5 = some ⟨oc5, od5, .func (PySem.W.fnOf "folder" "Tree.folder" (defArgs s_Tree_folder) (defBody s_Tree_folder) (defScope s_Tree_folder) .none kV5 dc5 pm5 an5 cd5 ct5), sl5⟩) (c5 : PySem.W.codeIn K cd5 "Tree.folder" = true) (k5 : PySem.W.keepIn K (.ref f5) = true)
    (a6 : PySem.W.findIn K (.ref C) "kind" = some (some (.ref f6))) (i6 : PySem.W.isFn K (.ref f6) = true) (l6 : K.lookup f6 = some ⟨oc6, od6, .func (PySem.W.fnOf "kind" "Tree.kind" (defArgs s_Tree_kind) (defBody s_Tree_kind) (defScope s_Tree_kind) .none kV6 dc6 pm6 an6 cd6 ct6), sl6⟩) (c6 : PySem.W.codeIn K cd6 "Tree.kind" = true) (k6 : PySem.W.keepIn K (.ref f6) = true)
    (a7 : PySem.W.findIn K (.ref C) "price" = some (some (.ref f7))) (i7 : PySem.W.isFn K (.ref f7) = true) (l7 : K.lookup f7 = some ⟨oc7, od7, .func (PySem.W.fnOf "price" "Tree.price" (defArgs s_Tree_price) (defBody s_Tree_price) (defScope s_Tree_price) .none kV7 dc7 pm7 an7 cd7 ct7), sl7⟩) (c7 : PySem.W.codeIn K cd7 "Tree.price" = true) (k7 : PySem.W.keepIn K (.ref f7) = true)
    (a8 : PySem.W.findIn K (.ref C) "inside" = some (some (.ref f8))) (i8 : PySem.W.isFn K (.ref f8) = true) (l8 : K.lookup f8 = some ⟨oc8, od8, .func (PySem.W.fnOf "inside" "Tree.inside" (defArgs s_Tree_inside) (defBody s_Tree_inside) (defScope s_Tree_inside) .none kV8 dc8 pm8 an8 cd8 ct8), sl8⟩) (c8 : PySem.W.codeIn K cd8 "Tree.inside" = true) (k8 : PySem.W.keepIn K (.ref f8) = true)
    (a9 : PySem.W.findIn K (.ref C) "below" = some (some (.ref f9))) (i9 : PySem.W.isFn K (.ref f9) = true) (l9 : K.lookup f9 = some ⟨oc9, od9, .func (PySem.W.fnOf "below" "Tree.below" (defArgs s_Tree_below) (defBody s_Tree_below) (defScope s_Tree_below) .none kV9 dc9 pm9 an9 cd9 ct9), sl9⟩) (c9 : PySem.W.codeIn K cd9 "Tree.below" = true) (k9 : PySem.W.keepIn K (.ref f9) = true) :
    ∃ C : Addr, TxT K mg C ∧ TxN K C ∧ C8.InsC K C ∧ (∃ (f : Addr) (fd : FuncData), Fun K "__init__" "Tree.__init__" s_Tree_init f fd ∧ Mk K C f ∧ Binds K fd ["self", "rows"] []) ∧ Nonempty (MethAt K C "__eq__" "Tree.__eq__" s_Tree_eq ["self", "other"]) ∧ Nonempty (MethAt K C "__len__" "Tree.__len__" s_Tree_len ["self"]) ∧ Nonempty (MethAt K C "__contains__" "Tree.__contains__" s_Tree_contains ["self", "x"]) ∧ Nonempty (MethAt K C "rows" "Tree.rows" s_Tree_rows ["self"]) ∧ Nonempty (MethAt K C "folder" "Tree.folder" s_Tree_folder ["self", "box"]) ∧ Nonempty (MethAt K C "kind" "Tree.kind" s_Tree_kind ["self", "box"]) ∧ Nonempty (MethAt K C "price" "Tree.price" s_Tree_price ["self", "box"]) ∧ Nonempty (MethAt K C "inside" "Tree.inside" s_Tree_inside ["self", "box"]) ∧ Nonempty (MethAt K C "below" "Tree.below" s_Tree_below ["self", "box"]) :=
  ⟨C, ⟨⟨pg, hd, po, sa⟩, nq, nf, nk, np, PySem.W.mg_of X G aC⟩, ⟨ne, ob, nfL, nfN, nfS, kit_no iC tC kL, kit_no iC tC kN, kit_no iC tC kS⟩, ⟨⟨pg, hd, po, sa⟩, ha, hn, htk, hm, kit_me⟩, ⟨f0, _, fun_mk l0 c0 k0, ⟨mk, a0, i0, kc⟩, (fun_mk l0 c0 k0).binds (fun _ _ _ _ _ _ us hl => match us, hl with | [_, _], _ => rfl)⟩, methAt a1 i1 l1 c1 k1 (fun _ _ _ _ _ _ us hl => match us, hl with | [_, _], _ => rfl), methAt a2 i2 l2 c2 k2 (fun _ _ _ _ _ _ us hl => match us, hl with | [_], _ => rfl), methAt a3 i3 l3 c3 k3 (fun _ _ _ _ _ _ us hl => match us, hl with | [_, _], _ => rfl), methAt a4 i4 l4 c4 k4 (fun _ _ _ _ _ _ us hl => match us, hl with | [_], _ => rfl), methAt a5 i5 l5 c5 k5 (fun _ _ _ _ _ _ us hl => match us, hl with | [_, _], _ => rfl), methAt a6 i6 l6 c6 k6 (fun _ _ _ _ _ _ us hl => match us, hl with | [_, _], _ => rfl), methAt a7 i7 l7 c7 k7 (fun _ _ _ _ _ _ us hl => match us, hl with | [_, _], _ => rfl), methAt a8 i8 l8 c8 k8 (fun _ _ _ _ _ _ us hl => match us, hl with | [_, _], _ => rfl), methAt a9 i9 l9 c9 k9 (fun _ _ _ _ _ _ us hl => match us, hl with | [_, _], _ => rfl)⟩
theorem freeAll {K : PySem.W.Frag} {h : Heap} {mg : Str → Option Value} (X : K.In h) (G : h.Ns mainGlobals mg)
    (z0 : PySem.W.nsIn K mainGlobals "len" = some none) (z1 : PySem.W.nsIn K mainGlobals "abs" = some none) (z2 : PySem.W.nsIn K mainGlobals "int" = some none) (z3 : PySem.W.nsIn K mainGlobals "str" = some none) (z4 : PySem.W.nsIn K mainGlobals "bool" = some none) (z5 : PySem.W.nsIn K mainGlobals "list" = some none) (z6 : PySem.W.nsIn K mainGlobals "tuple" = some none) (z7 : PySem.W.nsIn K mainGlobals "dict" = some none) (z8 : PySem.W.nsIn K mainGlobals "range" = some none) (z9 : PySem.W.nsIn K mainGlobals "enumerate" = some none) (z10 : PySem.W.nsIn K mainGlobals "isinstance" = some none) (z11 : PySem.W.nsIn K mainGlobals "all" = some none) : TxB mg :=
  ⟨PySem.W.mg_none_of X G z0, PySem.W.mg_none_of X G z1, PySem.W.mg_none_of X G z2, PySem.W.mg_none_of X G z3, PySem.W.mg_none_of X G z4, PySem.W.mg_none_of X G z5, PySem.W.mg_none_of X G z6, PySem.W.mg_none_of X G z7, PySem.W.mg_none_of X G z8, PySem.W.mg_none_of X G z9, PySem.W.mg_none_of X G z10, PySem.W.mg_none_of X G z11⟩
theorem constAll {K : PySem.W.Frag} {h : Heap} {mg : Str → Option Value} (X : K.In h) (G : h.Ns mainGlobals mg) (num : DefAt K mg "is_number" s_is_number ["thing", "least"]) {t1 t2 t3 : Tok} {kt : Addr} {od : Option Addr} {its : Array Value} {n : Nat} {sl : Array (Option Value)}
    (b1 : PySem.W.nsIn K mainGlobals "TOP" = some (some (.str "top" t1))) (b2 : PySem.W.nsIn K mainGlobals "FOLDER" = some (some (.str "folder" t2))) (b3 : PySem.W.nsIn K mainGlobals "LONGEST_NAME" = some (some (.int 8 t3))) (b4 : PySem.W.nsIn K mainGlobals "KINDS" = some (some (.ref kt)))
    (b5 : K.lookup kt = some ⟨.type "tuple", od, .seq its n, sl⟩) (b6 : its.size ≤ sizeLine) (b7 : Vals (kinds3.map V.str) its.toList) : Nonempty (TxC K mg) :=
  ⟨⟨⟨t1, PySem.W.mg_of X G b1⟩, ⟨t2, PySem.W.mg_of X G b2⟩, ⟨t3, PySem.W.mg_of X G b3⟩, kt, PySem.W.mg_of X G b4, num, ⟨_, its, n, b5, rfl, rfl, b6, b7⟩⟩⟩
theorem walk {l : PySem.W.OpenLaw} {q : Program} {loose : List Str} {XP : (Str → Option Value) → Heap → Prop} {YP : World → Heap → Prop} {d : DefRec} {K : Params → PySem.W.Frag} (hn : l.most = some 63) (hdf : d.params.defaults = [])
    (hY : ∀ (w : World) (h : Heap), YP w h → (K w.params).In h)
    (F : ∀ (w : World) (mg : Str → Option Value) (fa : Addr) (h : Heap), (K w.params).In h → h.Ns mainGlobals mg → mg d.name = some (.ref fa) →
      ∃ fd : FuncData, (∀ (s : Shared) (u : Value), BindsTo s fd ⟨[u], []⟩ [("_law_script", u)]) ∧ ∀ base : Heap, (K w.params).In base → base.Ns mainGlobals mg → FnOk l.prog w (K w.params) mg base CX0 8 fa fd ["_law_script"] (spLaw (K w.params))) :
    PySem.W.WalkO q loose XP YP l.row.toRowW d [] (fun f vs => PySem.call f vs) :=
  L2.walk_of (n := 63) (k := 8) (x := "_law_script") (CX := fun _ => CX0) (sp := fun w => spLaw (K w.params)) hn (by decide) hdf ⟨rfl, by decide, by decide⟩ hY F (fun _ _ a ns hl _ hS => ⟨a, ns, rfl, hS, hl, fun _ => rfl⟩) fun _ _ _ _ _ z => z
end Ts

set_option maxRecDepth 100000
open PySem PySem.W PyProof.Rows in
set_option maxRecDepth 100000 in
set_option maxHeartbeats 0 in
theorem PySem.Challenge.cw_turnsets_k01_trees_made_holds : PySem.Challenge.rw_turnsets_k01_trees_made.Holds := by
  w_on; o_law; k_head; (case hw => w_witness2)
  k_fill
  refine Ts.walk (l := PySem.Challenge.rw_turnsets_k01_trees_made) rfl rfl (fun w h Y => PySem.W.kIn_of Y) ?F
  case F =>
    intro w mg fa h KX G hmg
    obtain ⟨Disname, _⟩ : ∃ D : Ts.DefAt _ mg "is_name" Ts.s_is_name ["thing"], ∀ (s : Shared) (us : List Value), us.length = (["thing"] : List Str).length → BindsTo s D.fd ⟨us, []⟩ ((["thing"] : List Str).zip us) := by
      refine' Ts.defAt KX G ?a ?l ?c ?k ?b
      (case a => k_is)
      (case l => k_is)
      (case c => k_is)
      (case k => k_is)
      (case b => exact fun _ _ _ _ _ _ us hl => match us, hl with | [_], _ => rfl)
    obtain ⟨Disnumber, _⟩ : ∃ D : Ts.DefAt _ mg "is_number" Ts.s_is_number ["thing", "least"], ∀ (s : Shared) (us : List Value), us.length = (["thing", "least"] : List Str).length → BindsTo s D.fd ⟨us, []⟩ ((["thing", "least"] : List Str).zip us) := by
      refine' Ts.defAt KX G ?a ?l ?c ?k ?b
      (case a => k_is)
      (case l => k_is)
      (case c => k_is)
      (case k => k_is)
      (case b => exact fun _ _ _ _ _ _ us hl => match us, hl with | [_, _], _ => rfl)
    obtain ⟨Disprice, _⟩ : ∃ D : Ts.DefAt _ mg "is_price" Ts.s_is_price ["thing"], ∀ (s : Shared) (us : List Value), us.length = (["thing"] : List Str).length → BindsTo s D.fd ⟨us, []⟩ ((["thing"] : List Str).zip us) := by
      refine' Ts.defAt KX G ?a ?l ?c ?k ?b
      (case a => k_is)
      (case l => k_is)
      (case c => k_is)
      (case k => k_is)
      (case b => exact fun _ _ _ _ _ _ us hl => match us, hl with | [_], _ => rfl)
    obtain ⟨Disrow, _⟩ : ∃ D : Ts.DefAt _ mg "is_row" Ts.s_is_row ["thing", "taken", "homes"], ∀ (s : Shared) (us : List Value), us.length = (["thing", "taken", "homes"] : List Str).length → BindsTo s D.fd ⟨us, []⟩ ((["thing", "taken", "homes"] : List Str).zip us) := by
      refine' Ts.defAt KX G ?a ?l ?c ?k ?b
      (case a => k_is)
      (case l => k_is)
      (case c => k_is)
      (case k => k_is)
      (case b => exact fun _ _ _ _ _ _ us hl => match us, hl with | [_, _, _], _ => rfl)
    obtain ⟨Dcheckrows, _⟩ : ∃ D : Ts.DefAt _ mg "check_rows" Ts.s_check_rows ["rows", "names", "folders"], ∀ (s : Shared) (us : List Value), us.length = (["rows", "names", "folders"] : List Str).length → BindsTo s D.fd ⟨us, []⟩ ((["rows", "names", "folders"] : List Str).zip us) := by
      refine' Ts.defAt KX G ?a ?l ?c ?k ?b
      (case a => k_is)
      (case l => k_is)
      (case c => k_is)
      (case k => k_is)
      (case b => exact fun _ _ _ _ _ _ us hl => match us, hl with | [_, _, _], _ => rfl)
    obtain ⟨Dcheckbox, _⟩ : ∃ D : Ts.DefAt _ mg "check_box" Ts.s_check_box ["tree", "thing"], ∀ (s : Shared) (us : List Value), us.length = (["tree", "thing"] : List Str).length → BindsTo s D.fd ⟨us, []⟩ ((["tree", "thing"] : List Str).zip us) := by
      refine' Ts.defAt KX G ?a ?l ?c ?k ?b
      (case a => k_is)
      (case l => k_is)
      (case c => k_is)
      (case k => k_is)
      (case b => exact fun _ _ _ _ _ _ us hl => match us, hl with | [_, _], _ => rfl)
    obtain ⟨Displace, _⟩ : ∃ D : Ts.DefAt _ mg "is_place" Ts.s_is_place ["tree", "thing"], ∀ (s : Shared) (us : List Value), us.length = (["tree", "thing"] : List Str).length → BindsTo s D.fd ⟨us, []⟩ ((["tree", "thing"] : List Str).zip us) := by
      refine' Ts.defAt KX G ?a ?l ?c ?k ?b
      (case a => k_is)
      (case l => k_is)
      (case c => k_is)
      (case k => k_is)
      (case b => exact fun _ _ _ _ _ _ us hl => match us, hl with | [_, _], _ => rfl)
    obtain ⟨Dcheckplace, _⟩ : ∃ D : Ts.DefAt _ mg "check_place" Ts.s_check_place ["tree", "thing"], ∀ (s : Shared) (us : List Value), us.length = (["tree", "thing"] : List Str).length → BindsTo s D.fd ⟨us, []⟩ ((["tree", "thing"] : List Str).zip us) := by
      refine' Ts.defAt KX G ?a ?l ?c ?k ?b
      (case a => k_is)
      (case l => k_is)
      (case c => k_is)
      (case k => k_is)
      (case b => exact fun _ _ _ _ _ _ us hl => match us, hl with | [_, _], _ => rfl)
    obtain ⟨DLstream, _⟩ : ∃ D : Ts.DefAt _ mg "_law_stream" Ts.s_L_stream ["_law_script", "_law_k"], ∀ (s : Shared) (us : List Value), us.length = (["_law_script", "_law_k"] : List Str).length → BindsTo s D.fd ⟨us, []⟩ ((["_law_script", "_law_k"] : List Str).zip us) := by
      refine' Ts.defAt KX G ?a ?l ?c ?k ?b
      (case a => k_is)
      (case l => k_is)
      (case c => k_is)
      (case k => k_is)
      (case b => exact fun _ _ _ _ _ _ us hl => match us, hl with | [_, _], _ => rfl)
    obtain ⟨DLdraw, _⟩ : ∃ D : Ts.DefAt _ mg "_law_draw" Ts.s_L_draw ["_law_stream_here", "_law_many"], ∀ (s : Shared) (us : List Value), us.length = (["_law_stream_here", "_law_many"] : List Str).length → BindsTo s D.fd ⟨us, []⟩ ((["_law_stream_here", "_law_many"] : List Str).zip us) := by
      refine' Ts.defAt KX G ?a ?l ?c ?k ?b
      (case a => k_is)
      (case l => k_is)
      (case c => k_is)
      (case k => k_is)
      (case b => exact fun _ _ _ _ _ _ us hl => match us, hl with | [_, _], _ => rfl)
    obtain ⟨DLpick, _⟩ : ∃ D : Ts.DefAt _ mg "_law_pick" Ts.s_L_pick ["_law_stream_here", "_law_things"], ∀ (s : Shared) (us : List Value), us.length = (["_law_stream_here", "_law_things"] : List Str).length → BindsTo s D.fd ⟨us, []⟩ ((["_law_stream_here", "_law_things"] : List Str).zip us) := by
      refine' Ts.defAt KX G ?a ?l ?c ?k ?b
      (case a => k_is)
      (case l => k_is)
      (case c => k_is)
      (case k => k_is)
      (case b => exact fun _ _ _ _ _ _ us hl => match us, hl with | [_, _], _ => rfl)
    obtain ⟨DLname, _⟩ : ∃ D : Ts.DefAt _ mg "_law_name" Ts.s_L_name ["_law_stream_here"], ∀ (s : Shared) (us : List Value), us.length = (["_law_stream_here"] : List Str).length → BindsTo s D.fd ⟨us, []⟩ ((["_law_stream_here"] : List Str).zip us) := by
      refine' Ts.defAt KX G ?a ?l ?c ?k ?b
      (case a => k_is)
      (case l => k_is)
      (case c => k_is)
      (case k => k_is)
      (case b => exact fun _ _ _ _ _ _ us hl => match us, hl with | [_], _ => rfl)
    obtain ⟨DLkinds, _⟩ : ∃ D : Ts.DefAt _ mg "_law_kinds" Ts.s_L_kinds [], ∀ (s : Shared) (us : List Value), us.length = ([] : List Str).length → BindsTo s D.fd ⟨us, []⟩ (([] : List Str).zip us) := by
      refine' Ts.defAt KX G ?a ?l ?c ?k ?b
      (case a => k_is)
      (case l => k_is)
      (case c => k_is)
      (case k => k_is)
      (case b => exact fun _ _ _ _ _ _ us hl => match us, hl with | [], _ => rfl)
    obtain ⟨DLprices, _⟩ : ∃ D : Ts.DefAt _ mg "_law_prices" Ts.s_L_prices [], ∀ (s : Shared) (us : List Value), us.length = ([] : List Str).length → BindsTo s D.fd ⟨us, []⟩ (([] : List Str).zip us) := by
      refine' Ts.defAt KX G ?a ?l ?c ?k ?b
      (case a => k_is)
      (case l => k_is)
      (case c => k_is)
      (case k => k_is)
      (case b => exact fun _ _ _ _ _ _ us hl => match us, hl with | [], _ => rfl)
    obtain ⟨DLrows, _⟩ : ∃ D : Ts.DefAt _ mg "_law_rows" Ts.s_L_rows ["_law_stream_here", "_law_many", "_law_kinds_here", "_law_prices_here"], ∀ (s : Shared) (us : List Value), us.length = (["_law_stream_here", "_law_many", "_law_kinds_here", "_law_prices_here"] : List Str).length → BindsTo s D.fd ⟨us, []⟩ ((["_law_stream_here", "_law_many", "_law_kinds_here", "_law_prices_here"] : List Str).zip us) := by
      refine' Ts.defAt KX G ?a ?l ?c ?k ?b
      (case a => k_is)
      (case l => k_is)
      (case c => k_is)
      (case k => k_is)
      (case b => exact fun _ _ _ _ _ _ us hl => match us, hl with | [_, _, _, _], _ => rfl)
    obtain ⟨DLway, _⟩ : ∃ D : Ts.DefAt _ mg "_law_way" Ts.s_L_way ["_law_rows_here", "_law_box"], ∀ (s : Shared) (us : List Value), us.length = (["_law_rows_here", "_law_box"] : List Str).length → BindsTo s D.fd ⟨us, []⟩ ((["_law_rows_here", "_law_box"] : List Str).zip us) := by
      refine' Ts.defAt KX G ?a ?l ?c ?k ?b
      (case a => k_is)
      (case l => k_is)
      (case c => k_is)
      (case k => k_is)
      (case b => exact fun _ _ _ _ _ _ us hl => match us, hl with | [_, _], _ => rfl)
    obtain ⟨DLbelow, _⟩ : ∃ D : Ts.DefAt _ mg "_law_below" Ts.s_L_below ["_law_rows_here", "_law_box"], ∀ (s : Shared) (us : List Value), us.length = (["_law_rows_here", "_law_box"] : List Str).length → BindsTo s D.fd ⟨us, []⟩ ((["_law_rows_here", "_law_box"] : List Str).zip us) := by
      refine' Ts.defAt KX G ?a ?l ?c ?k ?b
      (case a => k_is)
      (case l => k_is)
      (case c => k_is)
      (case k => k_is)
      (case b => exact fun _ _ _ _ _ _ us hl => match us, hl with | [_, _], _ => rfl)
    obtain ⟨DLshows, _⟩ : ∃ D : Ts.DefAt _ mg "_law_shows" Ts.s_L_shows ["_law_tree", "_law_rows_here"], ∀ (s : Shared) (us : List Value), us.length = (["_law_tree", "_law_rows_here"] : List Str).length → BindsTo s D.fd ⟨us, []⟩ ((["_law_tree", "_law_rows_here"] : List Str).zip us) := by
      refine' Ts.defAt KX G ?a ?l ?c ?k ?b
      (case a => k_is)
      (case l => k_is)
      (case c => k_is)
      (case k => k_is)
      (case b => exact fun _ _ _ _ _ _ us hl => match us, hl with | [_, _], _ => rfl)
    obtain ⟨Dlaw, bL⟩ : ∃ D : Ts.DefAt _ mg "law" Ts.s_law ["_law_script"], ∀ (s : Shared) (us : List Value), us.length = (["_law_script"] : List Str).length → BindsTo s D.fd ⟨us, []⟩ ((["_law_script"] : List Str).zip us) := by
      refine' Ts.defAt KX G ?a ?l ?c ?k ?b
      (case a => k_is)
      (case l => k_is)
      (case c => k_is)
      (case k => k_is)
      (case b => exact fun _ _ _ _ _ _ us hl => match us, hl with | [_], _ => rfl)
    have B : Ts.TxB mg := by
      refine' Ts.freeAll KX G ?z0 ?z1 ?z2 ?z3 ?z4 ?z5 ?z6 ?z7 ?z8 ?z9 ?z10 ?z11
      (case z0 => k_is)
      (case z1 => k_is)
      (case z2 => k_is)
      (case z3 => k_is)
      (case z4 => k_is)
      (case z5 => k_is)
      (case z6 => k_is)
      (case z7 => k_is)
      (case z8 => k_is)
      (case z9 => k_is)
      (case z10 => k_is)
      (case z11 => k_is)
    obtain ⟨TC⟩ := by
      refine' Ts.constAll KX G Disnumber ?b1 ?b2 ?b3 ?b4 ?b5 ?b6 ?b7
      (case b1 => k_is)
      (case b2 => k_is)
      (case b3 => k_is)
      (case b4 => k_is)
      (case b5 => k_is)
      (case b6 => decide)
      (case b7 => exact .cons ⟨_, rfl⟩ (.cons ⟨_, rfl⟩ (.cons ⟨_, rfl⟩ .nil)))
    obtain ⟨C, T, N, I, ⟨fI, fdI, FI, MT, bI⟩, ⟨M_eq⟩, ⟨M_len⟩, ⟨M_contains⟩, ⟨M_rows⟩, ⟨M_folder⟩, ⟨M_kind⟩, ⟨M_price⟩, ⟨M_inside⟩, ⟨M_below⟩⟩ := by
      refine' Ts.treeAll KX G ?aC ?pg ?hd ?po ?sa ?mk ?kc ?nq ?nf ?nk ?np ?ne ?ob ?nfL ?nfN ?nfS ?iC ?tC ?kL ?kN ?kS ?ha ?hn ?htk ?hm ?a0 ?i0 ?l0 ?c0 ?k0 ?a1 ?i1 ?l1 ?c1 ?k1 ?a2 ?i2 ?l2 ?c2 ?k2 ?a3 ?i3 ?l3 ?c3 ?k3 ?a4 ?i4 ?l4 ?c4 ?k4 ?a5 ?i5 ?l5 ?c5 ?k5 ?a6 ?i6 ?l6 ?c6 ?k6 ?a7 ?i7 ?l7 ?c7 ?k7 ?a8 ?i8 ?l8 ?c8 ?k8 ?a9 ?i9 ?l9 ?c9 ?k9
      (case aC => k_is)
      (case pg => k_is)
      (case hd => k_is)
      (case po => k_is)
      (case sa => k_is)
      (case mk => k_is)
      (case kc => k_is)
      (case nq => k_is)
      (case nf => k_is)
      (case nk => k_is)
      (case np => k_is)
      (case ne => k_is)
      (case ob => k_is)
      (case nfL => k_is)
      (case nfN => k_is)
      (case nfS => k_is)
      (case iC => k_is)
      (case tC => k_is)
      (case kL => k_is)
      (case kN => k_is)
      (case kS => k_is)
      (case ha => k_is)
      (case hn => k_is)
      (case htk => k_is)
      (case hm => k_is)
      (case a0 => k_is)
      (case i0 => k_is)
      (case l0 => k_is)
      (case c0 => k_is)
      (case k0 => k_is)
      (case a1 => k_is)
      (case i1 => k_is)
      (case l1 => k_is)
      (case c1 => k_is)
      (case k1 => k_is)
      (case a2 => k_is)
      (case i2 => k_is)
      (case l2 => k_is)
      (case c2 => k_is)
      (case k2 => k_is)
      (case a3 => k_is)
      (case i3 => k_is)
      (case l3 => k_is)
      (case c3 => k_is)
      (case k3 => k_is)
      (case a4 => k_is)
      (case i4 => k_is)
      (case l4 => k_is)
      (case c4 => k_is)
      (case k4 => k_is)
      (case a5 => k_is)
      (case i5 => k_is)
      (case l5 => k_is)
      (case c5 => k_is)
      (case k5 => k_is)
      (case a6 => k_is)
      (case i6 => k_is)
      (case l6 => k_is)
      (case c6 => k_is)
      (case k6 => k_is)
      (case a7 => k_is)
      (case i7 => k_is)
      (case l7 => k_is)
      (case c7 => k_is)
      (case k7 => k_is)
      (case a8 => k_is)
      (case i8 => k_is)
      (case l8 => k_is)
      (case c8 => k_is)
      (case k8 => k_is)
      (case a9 => k_is)
      (case i9 => k_is)
      (case l9 => k_is)
      (case c9 => k_is)
      (case k9 => k_is)
    have e := hmg.symm.trans Dlaw.g
    cases e
    refine ⟨Dlaw.fd, fun s v => bL s [v] rfl, fun base _ _ => ?_⟩
    have Gc := Ts.ok_check_rows (P := PySem.Challenge.rw_turnsets_k01_trees_made.prog) (w := w) (base := base) Dcheckrows Disrow Disname Disprice B TC
    have GT := Ts.ok_Tree_init FI Dcheckrows Gc B TC T
    have Gb := Ts.ok_check_box (P := PySem.Challenge.rw_turnsets_k01_trees_made.prog) (w := w) (base := base) Dcheckbox M_contains B T
    have Gip := Ts.ok_is_place (P := PySem.Challenge.rw_turnsets_k01_trees_made.prog) (w := w) (base := base) Displace M_contains B TC T
    have Gpl := Ts.ok_check_place Dcheckplace Displace Gip
    have GF := Ts.ok_Tree_folder M_folder.F Dcheckbox Gb T
    have GK := Ts.ok_Tree_kind M_kind.F Dcheckbox Gb T
    have GP := Ts.ok_Tree_price M_price.F Dcheckbox Gb T
    have GI := Ts.ok_Tree_inside M_inside.F Dcheckplace Gpl T
    have GB := Ts.ok_Tree_below M_below.F Dcheckplace Gpl B T
    have GE := Ts.ok_Tree_eq (P := PySem.Challenge.rw_turnsets_k01_trees_made.prog) (w := w) (base := base) M_eq.F B T I
    have Gr := Ts.ok_rows (P := PySem.Challenge.rw_turnsets_k01_trees_made.prog) (w := w) (base := base) DLrows DLname DLpick DLdraw B
    have Gw := Ts.ok_Lbelow (P := PySem.Challenge.rw_turnsets_k01_trees_made.prog) (w := w) (base := base) DLbelow DLway B
    have Gsh := Ts.ok_shows DLshows B T DLbelow Gw M_len M_contains M_rows M_folder M_kind M_price M_inside M_below GF GK GP GI GB
    exact Ts.ok_law Dlaw B T N DLstream DLdraw DLrows DLkinds DLprices DLshows Gr Gsh MT bI GT M_eq GE M_len M_contains M_rows M_inside M_below GI GB
