import PyProof.Rows.All
import Wide.All
import OpenK.AllK
import Wide.FinOn
import KE.GoesMore
import KE.GoesEnum
import PyProof.EqAt
import PyProof.EqKinds
import PyProof.TupleCall
import PyProof.InstEq
import KE.KDictPairs
import KE.KFmtOwn
import HandS.ForMost
import HandS.Evl
import HandS.IsInst
import HandS.More
import HandS.ClsMeth
import HandS.Defaults
import HandS.CallLocal
import HandS.NoneIn
import HandS.SortInts
import HandS.Style
import HandS.Wide
import HandS.TupAny
import HandS.Slots
import HandS.SlotsOwn
import HandS.Walk
import HandS.Zip
import HandS.Rev
import HandS.Small
import KE.KOpsOwn
import HandS.ForExc
import HandS.TryMany
import HandS.ExcOwn
import HandS.WordsExc
import HandS.TryOnly
import HandS.ExcInit
import HandS.ExcCtx
import HandS.HotCalls
import HandS.Comp
import HandS.ExcField
import HandS.ExcInitHot
import HandS.OwnEq
import HandS.DictEq
import HandS.DeepEq
import KE.KOwnIter
import HandS.IterVal
import HandS.ExcIs
import KE.HD2
import PySem.Challenge.RW_seenrows_k02_filters_refused
set_option Elab.async false
set_option linter.all false
set_option maxRecDepth 100000
set_option maxHeartbeats 4000000
/-! Rules for instances of an own class: ==, !=, [], bool, + - * // % with a dunder of its own. -/
namespace SR
open PySem PySem.Spec PyProof.Rows L2

section
variable {X : Cx} {CX : CXT} {pins : List (Addr × Obj)} {σ : L2.St} {H : Hp} {s : Shared} {a C dx g : Addr} {fs : List (Str × V)} {fd : FuncData} {ps : List Str} {n : Nat} {sp : Sp} {E : XK}

theorem ins_inst (I : Inv X pins σ H s) (ea : H a = some (.ins C dx fs)) : ∃ od, PySem.W.InstAt s.heap a (PySem.W.instObj C dx) C (some od) := by
  obtain ⟨mA, O, _⟩ := ins_get I.hok ea
  obtain ⟨od, J, _⟩ := O.look
  exact ⟨od, J⟩

/-- x == y, x an instance of the class at C whose __eq__ is at g; y anything whose type is known -/
def rEqOwn (K : PySem.W.Frag) (C : Addr) (sp : Sp) (E : XK) : R2 := fun x y H Q => ∃ a dx fs t, x = .ref a ∧ H a = some (.ins C dx fs) ∧ TyX K H y t ∧ PySem.W.notFirst K C t = true ∧ sp [x, y] H (fun z H' => ∃ b, z = .bl b ∧ Q (.bl b) H') E
theorem op_eqOwn (hs : PySem.W.findIn X.K (.ref C) "__eq__" = some (some (.ref g))) (hf : PySem.W.isFn X.K (.ref g) = true) (F : FnOk X.prog X.w X.K X.mg X.base CX n g fd ps sp)
    (hr : Room n X.A) (hb : Binds X.K fd ps []) (hx : Passes CX X E) : OpR X (compareOp .Eq) (rEqOwn X.K C sp E) := by
  intro pins s σ H x y v u Q I rx ry h
  obtain ⟨a, dx, fs, t, rfl, ha, ty, hn, q⟩ := h
  cases (show v = Value.ref a from rx)
  obtain ⟨od, J⟩ := ins_inst I ha
  obtain ⟨P, Z, p, hx'⟩ := kit_of I ry ty
  obtain ⟨m, hF⟩ := I.fr
  show wpAny _ _ (richCompare .Eq (.ref a) u) _ _ _
  refine PySem.W.cmp_K (op := .Eq) (tb := t) hr.units0 hF I.ok.mod.kin J (Z.ty _ _ I.kIn p) hn hs hf ?_
  refine wpAny_mono (run_fn (us := [.ref a, u]) (vs := [.ref a, y]) F hr hb .nil hx I (.cons rfl (.cons ry .nil)) (by exact q)) (fun w s' z => ?_) fun _ _ x => x
  obtain ⟨z', H', I', rz, b, rfl, qz⟩ := z
  cases (show w = Value.bool b from rz)
  exact ⟨.bl b, H', I', rfl, qz⟩
end

section
variable {prog : Program} {w : World} {A : Around} {E : Value → Shared → Prop} {s : Shared} {K : PySem.W.Frag} {x C L f : Addr} {h₀ : Heap} {m : Str → Option Value} {ox : Obj} {od : Option Obj} {name : Str} {b tb : Value}
open PySem.W in
theorem ifBound_bi {M : Model} {id : String} {args : List Value} {Q : Option Value → Shared → Prop} (X : K.In s.heap) (I : InstAt s.heap x ox C od) (hs : findIn K (.ref C) name = some (some (.builtin id)))
    (hb : ∀ self, bindSpecial (.builtin id) self = pure (.builtin id, [self]))
    (h : wpAny M A (call (.builtin id) (.ref x :: args)) (fun v => Q (some v)) E s) : wpAny M A (callSpecialIfBound? (.ref x) name args) Q E s := by
  simp only [callSpecialIfBound?, bindSpecialIfBound?]
  refine wpAny_holding (wpAny_bind (wpAny_bind (wpAny_bind (I.type.here ((looks_findIn X hs).here ?_)))))
  refine wpAny_bind (wpAny_askSetting (wpAny_ite ?_))
  have fin : wpAny M A (call (.builtin id) ([.ref x] ++ args) >>= fun v => pure (some v)) Q E s := wpAny_bind (wpAny_mono h (fun v s' h' => wpAny_pure h') fun _ _ h' => h')
  split
  · exact wpAny_bind ((Looks.of_pure (hb _)).here (wpAny_pure (by exact fin)))
  · exact wpAny_tryCatch (wpAny_bind ((Looks.of_pure (hb _)).here (wpAny_pure (by exact fin))))
open PySem.W in
/-- a comparison whose first try gives a value -/
theorem cmp_first {op : CmpOp} {Q : Value → Shared → Prop} (hu : A.units < cLine) (X : K.In s.heap) (I : InstAt s.heap x ox C od) (hb : Looks (model prog w) s.heap (typeOf b) tb) (hn : notFirst K C tb = true)
    (one : wpAny (model prog w) A (tryCompare (.ref x) (cmpInfo op).2.1 b) (fun r s' => ∃ v, r = some v ∧ Q v s') E s) : wpAny (model prog w) A (richCompare op (.ref x) b) Q E s := by
  unfold richCompare
  simp only [oneThing_ref]
  refine wpAny_holding (wpAny_bind (wpAny_cRoomFor hu ?_))
  refine wpAny_bind (I.type.here (wpAny_bind (hb.here ?_)))
  split
  · rename_i q
    have e : subIn K tb (.ref C) = some false := by
      rcases Bool.or_eq_true_iff.mp hn with e | e
      · rw [beq_iff_eq.mp e] at q; simp at q
      · exact beq_iff_eq.mp e
    refine wpAny_bind ((looks_subIn X e).here ?_)
    simp only [Bool.false_eq_true, if_false]
    refine wpAny_bind (wpAny_mono one (fun r s' z => ?_) fun _ _ e => e)
    obtain ⟨v, rfl, hq⟩ := z
    exact wpAny_pure hq
  · refine wpAny_bind (wpAny_pure ?_)
    simp only [Bool.false_eq_true, if_false]
    refine wpAny_bind (wpAny_mono one (fun r s' z => ?_) fun _ _ e => e)
    obtain ⟨v, rfl, hq⟩ := z
    exact wpAny_pure hq
open PySem.W Builtin in
theorem obj_ne {Q : Value → Shared → Prop} (hu : A.in1.units < cLine) (X : K.In s.heap) (I : InstAt s.heap x ox C od) (hm : mroIn K C (.type "object") = some true) (hs : findIn K (.ref C) "__eq__" = some (some (.ref f))) (hf : isFn K (.ref f) = true)
    (h : wpAny (model prog w) A.in1 (call (.ref f) [.ref x, b]) (fun v s' => ∃ k, v = .bool k ∧ Q (.bool (!k)) s') E s) : wpAny (model prog w) A (call (.builtin "object.__ne__") [.ref x, b]) Q E s := by
  refine wpAny_call (codeAny_call_builtin PySem.F.cmp_object.ne.plain PySem.F.cmpEntry_ne (check_slot (i := "object.__ne__") (owner := "object") (n := "__ne__") PySem.F.cmpKind_ne PySem.F.cmpSplit_ne (I.type.andThen (looks_mroIn X hm)) (PySem.F.cmpArgs_ne _ _) ?_))
  unfold Builtin.«object.__ne__»
  refine wpAny_bind (m := slotArgs "__ne__" 1 _) (wpAny_pure ?_)
  refine wpAny_bind (m := cRoomFor _ _) (wpAny_cRoomFor hu ?_)
  refine wpAny_bind (m := callSpecialIfBound? (.ref x) (Str.ofString "__eq__") _) (ifBound_K X I hs hf (wpAny_mono h (fun r s' hq => ?_) fun _ _ y => y))
  obtain ⟨k, rfl, hq⟩ := hq
  refine wpAny_bind (m := truthy (.bool k)) (wpAny_truthy_bool ?_)
  exact wpAny_pure hq
open PySem.W in
theorem ne_own {Q : Value → Shared → Prop} (hu : A.units + 2 < cLine) (X : K.In s.heap) (I : InstAt s.heap x ox C od) (hb : Looks (model prog w) s.heap (typeOf b) tb) (hn : notFirst K C tb = true) (hm : mroIn K C (.type "object") = some true)
    (hne : findIn K (.ref C) "__ne__" = some (some (.builtin "object.__ne__"))) (hs : findIn K (.ref C) "__eq__" = some (some (.ref f))) (hf : isFn K (.ref f) = true)
    (h : wpAny (model prog w) A.in1 (call (.ref f) [.ref x, b]) (fun v s' => ∃ k, v = .bool k ∧ Q (.bool (!k)) s') E s) : wpAny (model prog w) A (richCompare .NotEq (.ref x) b) Q E s := by
  refine cmp_first (op := .NotEq) (by omega) X I hb hn ?_
  unfold tryCompare
  refine wpAny_bind (ifBound_bi X I hne PySem.F.cmp_object.ne.bind (obj_ne (by show A.units + 1 < cLine; omega) X I hm hs hf (wpAny_mono h (fun r s' hq => ?_) fun _ _ y => y)))
  obtain ⟨k, rfl, hq⟩ := hq
  exact ⟨k, rfl, wpAny_pure ⟨_, rfl, hq⟩⟩
end
section
variable {X : Cx} {CX : CXT} {pins : List (Addr × Obj)} {σ : L2.St} {H : Hp} {s : Shared} {a C dx g : Addr} {fs : List (Str × V)} {fd : FuncData} {ps : List Str} {n : Nat} {sp : Sp} {E : XK}
/-- the callee runs one room deeper -/
theorem run_fn1 {Q : VK} {us : List Value} {vs : List V} (F : FnOk X.prog X.w X.K X.mg X.base CX n g fd ps sp) (hr : Room (n + 1) X.A) (hb : Binds X.K fd ps []) (hx : Passes CX X E) (I : Inv X pins σ H s) (r : Vals vs us) (h : sp vs H Q E) :
    wpAny (model X.prog X.w) X.A.in1 (call (.ref g) us) (EP X pins σ Q) X.xe s := by
  have hl : (us ++ []).length = ps.length := by rw [List.append_nil, ← r.length]; exact F.len _ _ _ _ h
  have hb' := hb s us I.kIn hl
  rw [List.append_nil] at hb'
  refine wpAny_call (codeAny_mono (F.run X.A.in1 X.stack s H ⟨us, []⟩ us vs Q E hr.in1 I.env0.in1 hb' r h) fun r s' hq => ?_)
  cases r with
  | error e => exact hx pins σ H s e s' I hq
  | ok fl =>
    cases fl with
    | ret u => exact I.after hq
    | next => exact False.elim hq
    | brk => exact False.elim hq
    | cont => exact False.elim hq
def rNeOwn (K : PySem.W.Frag) (C : Addr) (sp : Sp) (E : XK) : R2 := fun x y H Q => ∃ a dx fs t, x = .ref a ∧ H a = some (.ins C dx fs) ∧ TyX K H y t ∧ PySem.W.notFirst K C t = true ∧ sp [x, y] H (fun z H' => ∃ b, z = .bl b ∧ Q (.bl (!b)) H') E
theorem op_neOwn (hs : PySem.W.findIn X.K (.ref C) "__eq__" = some (some (.ref g))) (hf : PySem.W.isFn X.K (.ref g) = true) (hne : PySem.W.findIn X.K (.ref C) "__ne__" = some (some (.builtin "object.__ne__"))) (hm : PySem.W.mroIn X.K C (.type "object") = some true)
    (F : FnOk X.prog X.w X.K X.mg X.base CX n g fd ps sp) (hr : Room (n + 1) X.A) (hb : Binds X.K fd ps []) (hx : Passes CX X E) : OpR X (compareOp .NotEq) (rNeOwn X.K C sp E) := by
  intro pins s σ H x y v u Q I rx ry h
  obtain ⟨a, dx, fs, t, rfl, ha, ty, hn, q⟩ := h
  cases (show v = Value.ref a from rx)
  obtain ⟨od, J⟩ := ins_inst I ha
  obtain ⟨P, Z, p, hx'⟩ := kit_of I ry ty
  show wpAny _ _ (richCompare .NotEq (.ref a) u) _ _ _
  refine ne_own (tb := t) (by have := hr.units; omega) I.kIn J (Z.ty _ _ I.kIn p) hn hm hne hs hf ?_
  refine wpAny_mono (run_fn1 (us := [.ref a, u]) (vs := [.ref a, y]) F hr hb hx I (.cons rfl (.cons ry .nil)) (by exact q)) (fun w s' z => ?_) fun _ _ x => x
  obtain ⟨z', H', I', rz, b, rfl, qz⟩ := z
  cases (show w = Value.bool b from rz)
  exact ⟨b, rfl, .bl (!b), H', I', rfl, qz⟩
end

section
variable {prog : Program} {w : World} {A : Around} {E : Value → Shared → Prop} {s : Shared} {K : PySem.W.Frag} {x C f : Addr} {ox : Obj} {od : Option Obj}
open PySem.W Builtin in
theorem truthy_own {M : Model} {Q : Bool → Shared → Prop} (X : K.In s.heap) (I : InstAt s.heap x ox C od) (hs : findIn K (.ref C) "__bool__" = some (some (.ref f))) (hf : isFn K (.ref f) = true)
    (h : wpAny M A (call (.ref f) [.ref x]) (fun v s' => ∃ b, v = .bool b ∧ Q b s') E s) : wpAny M A (truthy (.ref x)) Q E s := by
  unfold truthy
  refine wpAny_bind (m := callSpecial? (.ref x) (Str.ofString "__bool__")) (special_fn X I hs (beq_iff_eq.mp hf) (wpAny_mono h (fun r s' hr => ?_) fun _ _ y => y))
  obtain ⟨b, rfl, q⟩ := hr
  exact wpAny_pure q
open Builtin in
/-- bool(x) by x's truth -/
theorem bool_of {x : Value} {Q : Value → Shared → Prop} (h : wpAny (model prog w) A.in1.in1 (truthy x) (fun b s' => Q (.bool b) s') E s) : wpAny (model prog w) A (call (.type "bool") [x]) Q E s := by
  refine callType_codes (T := "bool") (Bi := Builtin.«object.__init__») (Q₁ := fun r s₁ => ∃ b, r = Value.bool b ∧ Q r s₁) PySem.F.called_bool (PySem.F.typeCall_bool_1 _) PySem.F.entry_object_init ?_ ?_
  · refine codeAny_of_tree ?_
    show wpAny _ A.in1.in1 (do checkBuiltinCall "bool.__new__" ⟨[.type "bool", x], []⟩; again (.builtin "bool.__new__" ⟨[.type "bool", x], []⟩)) _ _ s
    refine wpAny_bind (wpAny_of_eq (PySem.F.newCall_bool_1 _) (wpAny_pure ⟨plainId_quiet (by decide +kernel) _, codeAny_builtin PySem.F.entry_bool_new ?_⟩))
    rw [Around.under_plainId (by decide +kernel) _]
    unfold Builtin.«bool.__new__»
    refine wpAny_bind (wpAny_of_eq (a := true) (by first | rfl | kernel_rfl) ?_)
    refine PySem.W.KFB.if_not rfl ?_
    refine wpAny_bind (wpAny_of_eq (a := true) PySem.F.conv_sub_bool ?_)
    refine PySem.W.KFB.if_not rfl ?_
    refine wpAny_bind (m := someArgs "bool" 0 1 _) (wpAny_of_eq (a := [x]) (by first | rfl | kernel_rfl) ?_)
    refine wpAny_bind (wpAny_mono h (fun b s' q => ?_) fun _ _ y => y)
    exact wpAny_pure ⟨b, rfl, q⟩
  · rintro obj s₁ ⟨b, rfl, hq⟩
    exact ⟨rfl, PySem.F.args_object_init_2 _ _, object_init_meets PySem.F.called_bool.init.lookup PySem.F.called_bool.made (by decide) prog w A.in1 _ s₁ ⟨rfl, rfl, hq⟩⟩
end
section
variable {X : Cx} {CX : CXT} {pins : List (Addr × Obj)} {σ : L2.St} {H : Hp} {s : Shared} {a C dx g : Addr} {fs : List (Str × V)} {fd : FuncData} {ps : List Str} {n : Nat} {sp : Sp} {E : XK}
theorem run_fn2 {Q : VK} {us : List Value} {vs : List V} (F : FnOk X.prog X.w X.K X.mg X.base CX n g fd ps sp) (hr : Room (n + 2) X.A) (hb : Binds X.K fd ps []) (hx : Passes CX X E) (I : Inv X pins σ H s) (r : Vals vs us) (h : sp vs H Q E) :
    wpAny (model X.prog X.w) X.A.in1.in1 (call (.ref g) us) (EP X pins σ Q) X.xe s := by
  have hl : (us ++ []).length = ps.length := by rw [List.append_nil, ← r.length]; exact F.len _ _ _ _ h
  have hb' := hb s us I.kIn hl
  rw [List.append_nil] at hb'
  refine wpAny_call (codeAny_mono (F.run X.A.in1.in1 X.stack s H ⟨us, []⟩ us vs Q E (show Room (n + 1) X.A.in1 from Room.in1 hr).in1 I.env0.in1.in1 hb' r h) fun r s' hq => ?_)
  cases r with
  | error e => exact hx pins σ H s e s' I hq
  | ok fl =>
    cases fl with
    | ret u => exact I.after hq
    | next => exact False.elim hq
    | brk => exact False.elim hq
    | cont => exact False.elim hq
/-- the truth of an instance -/
def rTruOwn (C : Addr) (sp : Sp) (E : XK) : V → Hp → (Bool → Hp → Prop) → Prop := fun x H Q => ∃ a dx fs, x = .ref a ∧ H a = some (.ins C dx fs) ∧ sp [x] H (fun z H' => ∃ b, z = .bl b ∧ Q b H') E
theorem tru_own (hs : PySem.W.findIn X.K (.ref C) "__bool__" = some (some (.ref g))) (hf : PySem.W.isFn X.K (.ref g) = true) (F : FnOk X.prog X.w X.K X.mg X.base CX n g fd ps sp)
    (hr : Room n X.A) (hb : Binds X.K fd ps []) (hx : Passes CX X E) : TruR X (rTruOwn C sp E) := by
  intro pins s σ H x v Q I rx h
  obtain ⟨a, dx, fs, rfl, ha, q⟩ := h
  cases (show v = Value.ref a from rx)
  obtain ⟨od, J⟩ := ins_inst I ha
  refine truthy_own I.kIn J hs hf (wpAny_mono (run_fn (us := [.ref a]) (vs := [.ref a]) F hr hb .nil hx I (.cons rfl .nil) (by exact q)) (fun w s' z => ?_) fun _ _ x => x)
  obtain ⟨z', H', I', rz, b, rfl, qz⟩ := z
  cases (show w = Value.bool b from rz)
  exact ⟨b, rfl, H', I', qz⟩
def rBoolOwn (C : Addr) (sp : Sp) (E : XK) : List V → Hp → VK → Prop := fun xs H Q => ∃ a dx fs, xs = [.ref a] ∧ H a = some (.ins C dx fs) ∧ sp [.ref a] H (fun z H' => ∃ b, z = .bl b ∧ Q (.bl b) H') E
theorem call_boolOwn (hs : PySem.W.findIn X.K (.ref C) "__bool__" = some (some (.ref g))) (hf : PySem.W.isFn X.K (.ref g) = true) (F : FnOk X.prog X.w X.K X.mg X.base CX n g fd ps sp)
    (hr : Room (n + 2) X.A) (hb : Binds X.K fd ps []) (hx : Passes CX X E) : CallR X (.type "bool") (rBoolOwn C sp E) := by
  intro pins s σ H xs us Q I r h
  obtain ⟨a, dx, fs, rfl, ha, q⟩ := h
  obtain rfl := Vals.ref1 r
  obtain ⟨od, J⟩ := ins_inst I ha
  refine bool_of (truthy_own I.kIn J hs hf (wpAny_mono (run_fn2 (us := [.ref a]) (vs := [.ref a]) F hr hb hx I (.cons rfl .nil) (by exact q)) (fun w s' z => ?_) fun _ _ x => x))
  obtain ⟨z', H', I', rz, b, rfl, qz⟩ := z
  cases (show w = Value.bool b from rz)
  exact ⟨b, rfl, .bl b, H', I', rfl, qz⟩
/-- o[i] by an own __getitem__ -/
def rIxOwn (C : Addr) (sp : Sp) (E : XK) : R2 := fun x y H Q => ∃ a dx fs, x = .ref a ∧ H a = some (.ins C dx fs) ∧ sp [x, y] H Q E
def PlainIxO (b : Expr) : Prop := ∀ o i, subscripted b true o i = runValue (.builtin "lifetime.subscript" ⟨[o, i], []⟩)
theorem pe_ixOwn {a b : Expr} {ta tb : TE} {pos : Pos} (hs : PySem.W.findIn X.K (.ref C) "__getitem__" = some (some (.ref g))) (hf : PySem.W.fnIn X.K g = true) (hfn : PySem.W.isFn X.K (.ref g) = true) (F : FnOk X.prog X.w X.K X.mg X.base CX n g fd ps sp)
    (hr : Room (n + 1) X.A) (hb : Binds X.K fd ps []) (hx : Passes CX X E) (ha : PE X a ta) (hi : PE X b tb) (hsl : PlainIxO b) : PE X (.Subscript a b pos) (tOp (rIxOwn C sp E) ta tb) := by
  refine ⟨fun pins s σ H Q I h => ?_⟩
  refine Subscript_ (binT ha hi I h fun v u s2 x y H2 I2 rx ry q => ?_)
  obtain ⟨p, dx, fs, rfl, hp, q⟩ := q
  cases (show v = Value.ref p from rx)
  obtain ⟨od, J⟩ := ins_inst I2 hp
  obtain ⟨m, hF⟩ := I2.fr
  exact PySem.W.sub_K hF I2.ok.mod.kin J hs hf hfn (run_fn1 (us := [.ref p, u]) (vs := [.ref p, y]) F hr hb hx I2 (.cons rfl (.cons ry .nil)) q) (hsl _ _)
theorem not_ni {z : V} {v : Value} {P : Value → Shared → Prop} {s' : Shared} (r : RelV z v) (h : P v s') : PySem.W.CmpBack P v s' := SlX.cmpback r h
/-- x op y, both instances of the class at C -/
def rBinOwn (C : Addr) (sp : Sp) (E : XK) : R2 := fun x y H Q => ∃ a dx fs b dy gs, x = .ref a ∧ y = .ref b ∧ H a = some (.ins C dx fs) ∧ H b = some (.ins C dy gs) ∧ sp [x, y] H Q E
theorem op_binOwn {op : Operator} (hc : PySem.W.selfFirst X.K C = true) (hs : PySem.W.findIn X.K (.ref C) (PySem.dunder op.info.2) = some (some (.ref g))) (hf : PySem.W.isFn X.K (.ref g) = true) (F : FnOk X.prog X.w X.K X.mg X.base CX n g fd ps sp)
    (hr : Room n X.A) (hb : Binds X.K fd ps []) (hx : Passes CX X E) : OpR X (binaryOp op) (rBinOwn C sp E) := by
  intro pins s σ H x y v u Q I rx ry h
  obtain ⟨a, dx, fs, b, dy, gs, rfl, rfl, ha, hb', q⟩ := h
  cases (show v = Value.ref a from rx)
  cases (show u = Value.ref b from ry)
  obtain ⟨od, J⟩ := ins_inst I ha
  obtain ⟨od', J'⟩ := ins_inst I hb'
  obtain ⟨m, hF⟩ := I.fr
  refine PySem.W.binop_K (op := op) hF I.ok.mod.kin J J'.type hc hs hf ?_
  refine wpAny_mono (run_fn (us := [.ref a, .ref b]) (vs := [.ref a, .ref b]) F hr hb .nil hx I (.cons rfl (.cons rfl .nil)) (by exact q)) (fun w s' z => ?_) fun _ _ x => x
  obtain ⟨z', H', I', rz, qz⟩ := z
  exact not_ni rz ⟨z', H', I', rz, qz⟩
end
end SR
set_option maxRecDepth 100000
set_option maxHeartbeats 4000000
namespace SR
open PySem PySem.Spec PyProof.Rows L2

/-! ### either of two rules -/
section
variable {X : Cx}
theorem OpR.or {f : Value → Value → Sem Value} {r r' : R2} (h : OpR X f r) (h' : OpR X f r') : OpR X f (fun x y H Q => r x y H Q ∨ r' x y H Q) := by
  intro pins s σ H x y v u Q I rx ry q
  rcases q with q | q
  · exact h pins s σ H x y v u Q I rx ry q
  · exact h' pins s σ H x y v u Q I rx ry q
theorem TruR.or {r r' : V → Hp → (Bool → Hp → Prop) → Prop} (h : TruR X r) (h' : TruR X r') : TruR X (fun x H Q => r x H Q ∨ r' x H Q) := by
  intro pins s σ H x v Q I rx q
  rcases q with q | q
  · exact h pins s σ H x v Q I rx q
  · exact h' pins s σ H x v Q I rx q
theorem pi_or {tg iter : Expr} {w1 w2 : TI} (h1 : PI X tg iter w1) (h2 : PI X tg iter w2) : PI X tg iter (fun σ H R => w1 σ H R ∨ w2 σ H R) := by
  refine ⟨fun pins s σ H R I h => ?_⟩
  rcases h with h | h
  · exact h1.run pins s σ H R I h
  · exact h2.run pins s σ H R I h
theorem pg_or {tg : Expr} {g1 g2 : TG} (h1 : PG X tg g1) (h2 : PG X tg g2) : PG X tg (fun v σ H Q => g1 v σ H Q ∨ g2 v σ H Q) := by
  refine ⟨fun pins s σ H v u Q I r h => ?_⟩
  rcases h with h | h
  · exact h1.run pins s σ H v u Q I r h
  · exact h2.run pins s σ H v u Q I r h
theorem pe_or2 {e : Expr} {t1 t2 : TE} (h1 : PE X e t1) (h2 : PE X e t2) : PE X e (fun σ H Q => t1 σ H Q ∨ t2 σ H Q) := by
  refine ⟨fun pins s σ H Q I h => ?_⟩
  rcases h with h | h
  · exact h1.run pins s σ H Q I h
  · exact h2.run pins s σ H Q I h
end

/-! ### tuple(a list), the tuple told as its object; dict(such a tuple of pairs) -/
section
variable {X : Cx}
theorem call_tupleF : CallR X (.type "tuple") (fun xs H Q => ∃ p ys, xs = [.ref p] ∧ SqL X.K H p ys ∧ ∀ l o, H l = none → o.dict = none → Q (.ref l) (upd H l (.frz o (.tup ys)))) := by
  intro pins s σ H xs us Q I r h
  obtain ⟨p, ys, rfl, hq, q⟩ := h
  obtain ⟨u, rfl, rx⟩ := vals1 r
  cases rx
  obtain ⟨its, r', pl, hz⟩ := I.list hq
  have hlen := r'.length
  refine call_tuple_list pl.isList (fun h' kp => ?_) (by simp only [List.size_toArray] <;> omega)
  have I1 : Inv X pins σ H { s with heap := h' } := I.kept (t' := s.toks) kp
  have I2 : Inv X pins σ (upd H h'.objs.size (.frz { cls := .type "tuple", data := .seq its.toArray } (.tup ys))) { s with heap := h'.push { cls := .type "tuple", data := .seq its.toArray } } :=
    I1.laid (t' := s.toks) (fun b o e => Heap.get?_push_of_some _ e) (Nat.le_refl _) (show ObjOk X.prog X.w _ _ _ (.frz _ (.tup ys)) from ⟨Heap.get?_push_size _ rfl, hz, its, r', IsTup.new _ _⟩)
  exact ⟨.ref h'.objs.size, _, I2, rfl, q _ _ (I1.hok.fresh (Nat.le_refl _)) rfl⟩
theorem pairs_two {pins : List (Addr × Obj)} {σ : L2.St} {H : Hp} {s : Shared} (I : Inv X pins σ H s) : ∀ {ps : List Addr} {kvs : List (Key × V)}, Paired (fun p kv => SqT X.K H p [kV kv.1, kv.2]) ps kvs →
    ∃ (prs : List (Key × Value)) (us : List (Value × Value)), KV kvs prs ∧ prs.length = ps.length ∧ us.length = ps.length ∧ ∀ (j : Nat) (k v : Value), us[j]? = some (k, v) → ∃ (b : Addr) (kk : Key), ps[j]? = some b ∧ prs[j]? = some (kk, v) ∧ IsTup s.heap b #[k, v] ∧ keyIs kk k = true
  | _, _, .nil => ⟨[], [], .nil, rfl, rfl, fun j k v e => by simp at e⟩
  | _, _, .cons (a := p) (b := kv) h t => by
    obtain ⟨prs, us, r, hl, hl2, hp⟩ := pairs_two I t
    obtain ⟨its, rv, ht, _⟩ := I.tuple h
    obtain ⟨u, y, ei, ru, ry⟩ := vals2 rv
    subst ei
    refine ⟨(kv.1, y) :: prs, (u, y) :: us, .cons ⟨rfl, ry⟩ r, by rw [List.length_cons, List.length_cons, hl], by rw [List.length_cons, List.length_cons, hl2], fun j k v e => ?_⟩
    cases j with
    | zero =>
      have e' : (u, y) = (k, v) := Option.some.inj e
      injection e' with e1 e2
      subst e1 e2
      refine ⟨p, kv.1, rfl, rfl, ht, ?_⟩
      cases hk : kv.1 with
      | inl i =>
        rw [hk] at ru
        obtain ⟨t, e⟩ := (show ∃ t, u = Value.int i t from ru)
        rw [e]
        exact keyIs_int i t
      | inr z =>
        rw [hk] at ru
        obtain ⟨t, e⟩ := (show ∃ t, u = Value.str z t from ru)
        rw [e]
        exact keyIs_str z t
    | succ j =>
      obtain ⟨b, kk, e1, e2, e3, e4⟩ := hp j k v (by simpa using e)
      exact ⟨b, kk, by simpa using e1, by simpa using e2, e3, e4⟩
theorem call_dictT (hcalm : X.calm = true) : CallR X (.type "dict") (fun xs H Q => ∃ (a : Addr) (o : Obj) (ps : List Addr) (kvs : List (Key × V)), xs = [.ref a] ∧ o.dict = none ∧ H a = some (.frz o (.tup (ps.map V.ref))) ∧ Paired (fun p kv => SqT X.K H p [kV kv.1, kv.2]) ps kvs ∧
    ∀ p, H p = none → Q (.ref p) (upd H p (.dK (mergeK [] kvs)))) := by
  intro pins s σ H xs us Q I r q
  obtain ⟨a, o, ps, kvs, ex, hod, hq, hp, q⟩ := q
  subst ex
  obtain ⟨u, eu, rx⟩ := vals1 r
  subst eu
  cases rx
  obtain ⟨ho, hz, its, rv, o', ho', hc, n, hdat⟩ := (show ObjOk X.prog X.w H s.heap a (.frz o (.tup (ps.map V.ref))) from I.hok a _ hq)
  obtain rfl : o = o' := Option.some.inj (ho.symm.trans ho')
  have ei := refs_at rv
  subst ei
  rw [List.length_map] at hz
  obtain ⟨prs, us, rel, hl, hl2, hpr⟩ := pairs_two I hp
  have hkl : prs.length = kvs.length := rel.length.symm
  refine PySem.call_dict_pairs (knd := mixKind X.prog X.w) (kvs := prs) (PairArg.tuple a (ps.map Value.ref).toArray (fun j => ps.getD j 0) us) (I.ok.hd hcalm) ⟨⟨o, n, ho, hc, hod, hdat⟩, ?_⟩ ⟨?_, ?_⟩ (by rw [hl2]; exact hz) fun h' tk hd' k => ?_
  · refine ⟨by simp [hl2], fun j k v e => ?_⟩
    obtain ⟨b, kk, e1, e2, e3, e4⟩ := hpr j k v e
    have e5 : ps.getD j 0 = b := by simp [List.getD, e1]
    show (List.map Value.ref ps).toArray[j]? = some (Value.ref (ps.getD j 0)) ∧ PairAt s.heap (ps.getD j 0) k v
    rw [e5]
    exact ⟨by simp [e1], Or.inl e3⟩
  · rw [hl, hl2]
  · intro i key v e
    obtain ⟨b, kk, e1, e2, e3, e4⟩ := hpr i key v e
    exact ⟨kk, e2, e4⟩
  · have hm : (s.heap.objs.size == sysModules) = false := beq_eq_false_iff_ne.mpr (Nat.ne_of_gt I.big)
    have hlen : (mergeK [] kvs).length ≤ sizeLine := by
      refine Nat.le_trans (length_mergeK kvs []) ?_
      rw [List.length_nil, Nat.zero_add, rel.length, hl]
      exact hz
    exact ⟨.ref s.heap.objs.size, upd H s.heap.objs.size (.dK (mergeK [] kvs)), I.laid (t' := tk) (fun b ob e => k b ob (fun z => nomatch z) e) (Nat.le_refl _) (show ObjOk X.prog X.w _ _ _ (.dK (mergeK [] kvs)) from ⟨hlen, hm, merged [] prs, KV.merge rel .nil, hd'⟩), rfl, q _ (I.hok.fresh (Nat.le_refl _))⟩
end

/-! ### enumerate(a tuple) -/
theorem meets_enumerate_new1 {v : Value} {o : Obj} {Hh : Heap → Prop} (B : Begins v o Hh) :
    Meets (Builtin.«enumerate.__new__» ⟨[.type "enumerate", v], []⟩) (fun _ R s => Hh s.heap ∧
      R (.ok (.ret (.ref (s.heap.push o).objs.size))) { s with heap := (s.heap.push o).push { cls := .type "enumerate", data := .fields #[.none, .bool false, .ref s.heap.objs.size, rawInt 0, .none, .none] } }) :=
  .of_wp fun prog w A R s h => by
    obtain ⟨hp, g, d, tk, os⟩ := s; obtain ⟨h1, h⟩ := h
    have hsub := sub_enumerate
    have q1 : ∀ {A' : Around} {E : Value → Shared → Prop} {Q : Value → Shared → Prop}, Q (.ref hp.objs.size) ⟨hp.push o, g, d, tk, os⟩ → wpAny (model prog w) A' (pyIter v) Q E ⟨hp, g, d, tk, os⟩ :=
      fun q => B.iter prog w _ _ ⟨hp, g, d, tk, os⟩ _ h1 q
    wp_walk using q1
    refine wpAny_stack_any fun st => wpAny_pure ?_
    split
    · rename_i c _ _ _ _ _
      cases (c == Value.type "enumerate")
      · wp_walk using q1
        exact ⟨_, rfl, h⟩
      · wp_walk using q1
        exact ⟨_, rfl, h⟩
    · wp_walk using q1
      exact ⟨_, rfl, h⟩
section
variable {prog : Program} {w : World} {A : Around} {E : Value → Shared → Prop} {s : Shared}
theorem enum_begins1 {v : Value} {o : Obj} {Hh : Heap → Prop} {Q : Value → Shared → Prop} (B : Begins v o Hh) (h1 : Hh s.heap)
    (h : ∀ h', IsEnum h' (s.heap.objs.size + 1) s.heap.objs.size 0 .none → h'.get? s.heap.objs.size = some o → h'.objs.size = s.heap.objs.size + 2 →
      (∀ b o, s.heap.get? b = some o → h'.get? b = some o) → Q (.ref (s.heap.objs.size + 1)) { s with heap := h' }) :
    wpAny (model prog w) A (call (.type "enumerate") [v]) Q E s := by
  refine callType_new F.called_enumerate (by decide) (F.typeCall_enumerate_1 _) (F.newCall_enumerate_1 _) (fun obj => F.args_object_init_2 obj _) F.entry_enumerate_new
    (meets_enumerate_new1 B) ⟨h1, ?_⟩
  have hz : (s.heap.push o).objs.size = s.heap.objs.size + 1 := Heap.size_push ..
  show _ ∧ _
  rw [hz]
  have he : IsEnum ((s.heap.push o).push { cls := .type "enumerate", data := .fields #[.none, .bool false, .ref s.heap.objs.size, rawInt 0, .none, .none] }) (s.heap.objs.size + 1) s.heap.objs.size 0 .none := by
    have := Heap.get?_push_size (s.heap.push o) (o := { cls := .type "enumerate", data := .fields #[.none, .bool false, .ref s.heap.objs.size, rawInt 0, .none, .none] }) rfl
    rw [hz] at this; exact this
  refine ⟨⟨_, he, rfl⟩, h _ he (Heap.get?_push_of_some _ (Heap.get?_push_size _ B.free)) (by rw [Heap.size_push, hz]) fun b o x => Heap.get?_push_of_some _ (Heap.get?_push_of_some _ x)⟩
end
/-- the tuple at a, each item in a new pair -/
def IteT (K : PySem.W.Frag) (a : Addr) (xs : List V) : It :=
  ⟨fun i H => SqT K H a xs ∧ i < xs.length, fun i H v H' => ∃ T x, v = .ref T ∧ H T = none ∧ H' = upd H T (.tup [.int (i : Nat), x]) ∧ xs[i]? = some x, fun i H => SqT K H a xs ∧ xs.length ≤ i⟩
theorem turn_enumT {P : Program} {w : World} {K : PySem.W.Frag} {elts : List Expr} {kk : Nat} {tpos : Pos} (a e it : Addr) (xs : List V) :
    Turn P w K (.Tuple elts kk tpos) (IteT K a xs) [e, it] e (fun i h => (∃ old, IsEnum h e it ((i : Nat) : Int) old) ∧ h.IsTupleIter it a i ∧ e ≠ it ∧ i ≤ xs.length) where
  mem := by simp
  obj := fun i h st b hb => by
    obtain ⟨⟨old, he⟩, ⟨o, ho, hc, hd⟩, _⟩ := st
    have e' : b = e ∨ b = it := by simpa using hb
    rcases e' with z | z
    · rw [z]; exact ⟨_, he, fun v q => nomatch q⟩
    · rw [z]; exact ⟨o, ho, fun v q => by rw [hd] at q; cases q⟩
  keep := fun i h h' st k => let ⟨⟨old, he⟩, hi, hne⟩ := st; ⟨⟨old, k e (by simp) _ he⟩, hi.at fun o q => k it (by simp) o q, hne⟩
  item := by
    intro X hP hw hK hc i pins s σ H E I hf st hg
    subst hP hw hK
    obtain ⟨⟨old, he⟩, hit, hne, hile⟩ := st
    obtain ⟨hq, hlt⟩ := hg
    obtain ⟨its, rv, p, hz⟩ := I.tuple hq
    have hT : s.heap.IsTuple a its.toArray := p
    have hlen := rv.length
    have hel : e < s.heap.objs.size := Heap.lt_size he
    have hil : it < s.heap.objs.size := by obtain ⟨_, q, _⟩ := hit; exact Heap.lt_size q
    have hai : a ≠ it := by
      intro z
      subst z
      obtain ⟨o1, q1, c1, _⟩ := hit
      obtain ⟨o2, q2, c2, _⟩ := hT
      rw [q1] at q2
      cases q2
      rw [c1] at c2
      exact absurd c2 (by decide)
    have hea : e ≠ a := by
      intro z
      subst z
      obtain ⟨o2, q2, c2, _⟩ := hT
      rw [he] at q2
      have q3 := Option.some.inj q2
      subst q3
      exact absurd c2 (show ¬ (Value.type "enumerate" = Value.type "tuple") by decide)
    have D := Draws.tuple (prog := X.prog) (w := X.w) (A := X.A.in1) (by show X.A.handled = none; exact I.ok.hd hc) it a hai its.toArray
    refine wpAny_pyNext_enum_itemD D he ⟨hit, hT⟩ (by simp; omega) hne (by simp [hne, hea]) fun u h' tk hu ho hst' hTT hsz hk => ?_
    obtain ⟨x, hx⟩ : ∃ x, xs[i]? = some x := ⟨xs[i], List.getElem?_eq_getElem hlt⟩
    obtain ⟨u', hu', ru⟩ := rv.get hx
    have eu : u = u' := by
      have z : its.toArray[i]? = some u := hu
      rw [List.getElem?_toArray, hu'] at z
      exact (Option.some.inj z).symm
    subst eu
    refine ⟨_, rfl, wpAny_letOwnedTupleGo_enum (s := { s with heap := h', toks := tk + 1 }) ho fun h'' he' sb => ?_⟩
    have hT2 : h''.get? s.heap.objs.size = some { cls := .type "tuple", data := .seq #[.int i tk, u] } := (sb.2 _ (Nat.ne_of_gt hel)).trans hTT
    have new : ObjOk X.prog X.w (upd H s.heap.objs.size (.tup [.int (i : Nat), x])) h'' s.heap.objs.size (.tup [.int (i : Nat), x]) :=
      ⟨by show 2 ≤ sizeLine; decide, [.int i tk, u], .cons ⟨_, rfl⟩ (.cons ru .nil), ⟨_, hT2, rfl, _, rfl⟩⟩
    have I1 : Inv X pins σ (upd H s.heap.objs.size (.tup [.int (i : Nat), x])) { s with heap := h'', toks := tk + 1 } :=
      I.turnedNew (ch := [e, it]) (fun b ob hb q => (sb.2 b (fun z => hb (by simp [z]))).trans (hk b ob (fun z => hb (by simp [z])) (fun z => hb (by simp [z])) q)) hf (Nat.le_refl _) new
    refine ⟨.ref s.heap.objs.size, _, I1, rfl, ⟨_, x, rfl, I.hok.fresh (Nat.le_refl _), rfl, hx⟩, ⟨⟨u, ?_⟩, hst'.1.at fun o q => (sb.2 it (Ne.symm hne)).trans q, hne, hlt⟩, fun b hb => ?_⟩
    · have e1 : ((i + 1 : Nat) : Int) = (i : Int) + 1 := by omega
      rw [e1]; exact he'
    · have hb' : b < s.heap.objs.size := by
        have e' : b = e ∨ b = it := by simpa using hb
        rcases e' with z | z
        · rw [z]; exact hel
        · rw [z]; exact hil
      rw [upd_ne (Nat.ne_of_lt hb')]
      exact (hf b hb).1
  done := by
    intro X hP hw hK hc i pins s σ H E I hf st hg
    subst hP hw hK
    obtain ⟨⟨old, he⟩, hit, hne, hile⟩ := st
    obtain ⟨hq, hx⟩ := hg
    obtain ⟨its, rv, p, hz⟩ := I.tuple hq
    have hT : s.heap.IsTuple a its.toArray := p
    obtain ⟨f0, f1, f2, f3, f4, f5⟩ := hf it (by simp)
    have hl := rv.length
    have hai : a ≠ it := by
      intro z
      subst z
      obtain ⟨o1, q1, c1, _⟩ := hit
      obtain ⟨o2, q2, c2, _⟩ := hT
      rw [q1] at q2
      cases q2
      rw [c1] at c2
      exact absurd c2 (by decide)
    have D := Draws.tuple (prog := X.prog) (w := X.w) (A := X.A.in1) (by show X.A.handled = none; exact I.ok.hd hc) it a hai its.toArray
    have ei : i = its.toArray.size := by simp; omega
    subst ei
    exact wpAny_pyNext_enum_endD D he ⟨hit, hT⟩ fun h' eb => ⟨rfl, I.turned (t' := s.toks) (fun b o hb q => eb b o hb q) f0 f1 f3 f4 f5⟩
  self := fun A i s Q E st h => let ⟨⟨_, he⟩, _⟩ := st; wpAny_pyIter_enum he h
def iEnumT (K : PySem.W.Frag) (ta : TA) : TI := fun σ H R => ta σ H fun vs H1 => ∃ a xs, vs = [.ref a] ∧ SqT K H1 a xs ∧ R (IteT K a xs) H1
theorem pi_enumT {X : Cx} {e : Expr} {ta : TA} {p pos tpos : Pos} {elts : List Expr} {kk : Nat} (hg : Gl X "enumerate") (hm : X.mg "enumerate" = none) (ha : PA X [e] ta) (hs : starEach [e] X.env = [(false, eval e X.env)] := by rfl) :
    PI X (.Tuple elts kk tpos) (.Call (.Name "enumerate" p) [e] [] pos) (iEnumT X.K ta) := by
  refine ⟨fun pins s σ H R I h => ?_⟩
  refine Call_ (ld_blt I hg hm boot_enumerate (PyProof.Rows.callWith_type1 (thn (ha.run pos pins s σ H _ I h) fun us s1 ⟨vs, H1, I1, r1, q1⟩ => ?_) hs rfl))
  obtain ⟨a, xs, ex, hq, q⟩ := q1
  subst ex
  cases r1 with
  | cons r rr =>
    cases rr
    cases r
    obtain ⟨its, rv, p', hz⟩ := I1.tuple hq
    refine enum_begins1 (begins_tuple a its.toArray) p' fun h' he hit hsz hk => wpAny_pyIter_enum he ?_
    have I2 : Inv X pins σ H1 { s1 with heap := h' } := I1.kept (t' := s1.toks) hk
    refine ⟨s1.heap.objs.size + 1, [s1.heap.objs.size + 1, s1.heap.objs.size], _, _, H1, rfl, I2, turn_enumT a (s1.heap.objs.size + 1) s1.heap.objs.size xs, ⟨⟨.none, he⟩, ⟨_, hit, rfl, rfl⟩, Nat.succ_ne_self _, Nat.zero_le _⟩, fun b hb => ?_, q⟩
    have e' : b = s1.heap.objs.size + 1 ∨ b = s1.heap.objs.size := by simpa using hb
    have hle : s1.heap.objs.size ≤ b := by
      rcases e' with z | z
      · rw [z]; exact Nat.le_add_right _ _
      · rw [z]; exact Nat.le_refl _
    exact I1.fpOk hle (I1.hok.fresh hle)

/-! ### cls(e, ..), a local name that holds the class -/
section
variable {X : Cx} {CX : CXT} {k : Nat} {f C : Addr} {fd : FuncData} {ps : List Str} {sp : Sp} {dvs : List V} {ds : List Value} {E : XK} {x : Str} {p pos : Pos} {e : Expr} {es : List Expr} {t : TA} {i : Nat}
def tMakeL (i : Nat) (C : Addr) (sp : Sp) (dvs : List V) (E : XK) (t : TA) : TE := fun σ H Q => σ[i]? = some (some (.ref C)) ∧ tMake C sp dvs E t σ H Q
theorem pe_makeL (M : Mk X.K C f) (F : FnOk X.prog X.w X.K X.mg X.base CX k f fd ps sp) (hr : Room (k + 1) X.A) (hN : X.N[i]? = some x) (hv : Vis X.env.scope x) (hb : Binds X.K fd ps ds) (hd : Vals dvs ds) (hx : Passes CX X E)
    (ha : PA X (e :: es) t) (hdb : (x == ("__debug__" : Str)) = false := by decide) (hcd : (x == ("__classdict__" : Str)) = false := by decide) (he : starEach (e :: es) X.env = (false, eval e X.env) :: starEach es X.env := by rfl) (hpl : (backTo pos (starEach es X.env)).any (·.1) = false := by rfl) :
    PE X (.Call (.Name x p) (e :: es) [] pos) (tMakeL i C sp dvs E t) := by
  refine ⟨fun pins s σ H Q I h => ?_⟩
  obtain ⟨hs, ht⟩ := h
  refine wpAny_Call_Name_kw (thn ((pe_var (pos := p) hN hv hdb hcd).run pins s σ H (fun v H1 => v = .ref C ∧ H1 = H) I ⟨.ref C, hs, rfl, rfl⟩) fun u s1 ⟨v, H1, I1, r1, q1⟩ => ?_)
  obtain ⟨rfl, rfl⟩ := q1
  cases r1
  refine PySem.W.callWith_K (h₀ := X.base) I.ok.mod.kin M.kp (thn (ha.run pos pins s1 σ _ _ I1 ht) fun us s2 ⟨vs, H2, I2, r, q⟩ => ⟨I2.kIn, ?_⟩) he hpl
  exact run_make M F hr hb hd hx I2 r q
end
end SR
set_option maxRecDepth 100000
set_option maxHeartbeats 4000000
/-! What a value stands for: data of any depth, objects told by what they hold. -/
namespace SR
open PySem PySem.Spec PyProof.Rows L2 Evl

/-- a dict of ints, its pairs in order -/
def kvI (m : List (Int × Int)) : List (Key × V) := m.map fun q => (Sum.inl q.1, V.int q.2)
inductive D (ω : Type) where
  | non | bl (b : Bool) | int (i : Int) | str (x : Str) | lst (l : List (D ω)) | tup (l : List (D ω)) | dic (m : List (Int × Int)) | obj (w : ω)

/-- what an object of the program's own holds -/
structure OI (ω : Type) where
  at_ : Hp → Addr → ω → Prop
  mono : ∀ {H H' a w}, Ex H H' → at_ H a w → at_ H' a w

section
variable {ω : Type} (K : PySem.W.Frag) (O : OI ω) (H : Hp)
mutual
def At : D ω → V → Prop
  | .non, v => v = .non
  | .bl b, v => v = .bl b
  | .int i, v => v = .int i
  | .str x, v => v = .str x
  | .lst l, v => ∃ a vs, v = .ref a ∧ H a = some (.lst vs) ∧ AtL l vs
  | .tup l, v => ∃ a vs, v = .ref a ∧ SqT K H a vs ∧ AtL l vs
  | .dic m, v => ∃ a, v = .ref a ∧ H a = some (.dK (kvI m))
  | .obj w, v => ∃ a, v = .ref a ∧ O.at_ H a w
def AtL : List (D ω) → List V → Prop
  | [], vs => vs = []
  | d :: l, vs => ∃ v r, vs = v :: r ∧ At d v ∧ AtL l r
end
end
section
variable {ω : Type} {K : PySem.W.Frag} {O : OI ω} {H H' : Hp}
mutual
theorem At.mono (e : Ex H H') : ∀ {d : D ω} {v : V}, At K O H d v → At K O H' d v
  | .non, v, h => by simp only [At] at h ⊢; exact h
  | .bl b, v, h => by simp only [At] at h ⊢; exact h
  | .int i, v, h => by simp only [At] at h ⊢; exact h
  | .str x, v, h => by simp only [At] at h ⊢; exact h
  | .lst l, v, h => by
    simp only [At] at h ⊢
    obtain ⟨a, vs, e1, e2, e3⟩ := h
    exact ⟨a, vs, e1, e _ _ e2, AtL.mono e e3⟩
  | .tup l, v, h => by
    simp only [At] at h ⊢
    obtain ⟨a, vs, e1, e2, e3⟩ := h
    exact ⟨a, vs, e1, ex_t e e2, AtL.mono e e3⟩
  | .dic m, v, h => by
    simp only [At] at h ⊢
    obtain ⟨a, e1, e2⟩ := h
    exact ⟨a, e1, e _ _ e2⟩
  | .obj w, v, h => by
    simp only [At] at h ⊢
    obtain ⟨a, e1, e2⟩ := h
    exact ⟨a, e1, O.mono e e2⟩
theorem AtL.mono (e : Ex H H') : ∀ {l : List (D ω)} {vs : List V}, AtL K O H l vs → AtL K O H' l vs
  | [], vs, h => by simp only [AtL] at h ⊢; exact h
  | d :: l, vs, h => by
    simp only [AtL] at h ⊢
    obtain ⟨v, r, e1, e2, e3⟩ := h
    exact ⟨v, r, e1, At.mono e e2, AtL.mono e e3⟩
end
@[simp] theorem at_non {v : V} : At K O H .non v ↔ v = .non := by simp only [At]
@[simp] theorem at_bl {b : Bool} {v : V} : At K O H (.bl b) v ↔ v = .bl b := by simp only [At]
@[simp] theorem at_int {i : Int} {v : V} : At K O H (.int i) v ↔ v = .int i := by simp only [At]
@[simp] theorem at_str {x : Str} {v : V} : At K O H (.str x) v ↔ v = .str x := by simp only [At]
theorem at_lst {l : List (D ω)} {v : V} : At K O H (.lst l) v ↔ ∃ a vs, v = .ref a ∧ H a = some (.lst vs) ∧ AtL K O H l vs := by simp only [At]
theorem at_tup {l : List (D ω)} {v : V} : At K O H (.tup l) v ↔ ∃ a vs, v = .ref a ∧ SqT K H a vs ∧ AtL K O H l vs := by simp only [At]
theorem at_dic {m : List (Int × Int)} {v : V} : At K O H (.dic m) v ↔ ∃ a, v = .ref a ∧ H a = some (.dK (kvI m)) := by simp only [At]
theorem at_obj {w : ω} {v : V} : At K O H (.obj w) v ↔ ∃ a, v = .ref a ∧ O.at_ H a w := by simp only [At]
theorem atL_nil {vs : List V} : AtL K O H [] vs ↔ vs = [] := by simp only [AtL]
theorem atL_cons {d : D ω} {l : List (D ω)} {vs : List V} : AtL K O H (d :: l) vs ↔ ∃ v r, vs = v :: r ∧ At K O H d v ∧ AtL K O H l r := by simp only [AtL]
theorem AtL.len : ∀ {l : List (D ω)} {vs : List V}, AtL K O H l vs → vs.length = l.length
  | [], vs, h => by rw [atL_nil] at h; subst h; rfl
  | d :: l, vs, h => by
    obtain ⟨v, r, rfl, _, h3⟩ := atL_cons.mp h
    rw [List.length_cons, List.length_cons, AtL.len h3]
theorem AtL.get : ∀ {l : List (D ω)} {vs : List V} {i : Nat} {v : V}, AtL K O H l vs → vs[i]? = some v → ∃ d, l[i]? = some d ∧ At K O H d v
  | [], vs, i, v, h, e => by rw [atL_nil] at h; subst h; simp at e
  | d :: l, vs, i, v, h, e => by
    obtain ⟨w, r, rfl, h2, h3⟩ := atL_cons.mp h
    cases i with
    | zero =>
      have e' : w = v := Option.some.inj e
      subst e'
      exact ⟨d, rfl, h2⟩
    | succ i => exact AtL.get (i := i) h3 (by simpa using e)
theorem AtL.get' {l : List (D ω)} {vs : List V} {i : Nat} {d : D ω} (h : AtL K O H l vs) (e : l[i]? = some d) : ∃ v, vs[i]? = some v ∧ At K O H d v := by
  have hl := h.len
  have hi : i < l.length := (List.getElem?_eq_some_iff.mp e).1
  have e2 : vs[i]? = some vs[i] := List.getElem?_eq_getElem (by omega)
  obtain ⟨d', e3, e4⟩ := h.get e2
  rw [e] at e3
  cases e3
  exact ⟨_, e2, e4⟩
theorem AtL.app : ∀ {l m : List (D ω)} {vs ws : List V}, AtL K O H l vs → AtL K O H m ws → AtL K O H (l ++ m) (vs ++ ws)
  | [], m, vs, ws, h, g => by rw [atL_nil] at h; subst h; exact g
  | d :: l, m, vs, ws, h, g => by
    obtain ⟨w, r, rfl, h2, h3⟩ := atL_cons.mp h
    exact atL_cons.mpr ⟨w, r ++ ws, rfl, h2, AtL.app h3 g⟩
theorem AtL.one {d : D ω} {v : V} (h : At K O H d v) : AtL K O H [d] [v] := atL_cons.mpr ⟨v, [], rfl, h, atL_nil.mpr rfl⟩
theorem AtL.ints : ∀ {ns : List Int}, AtL K O H (ns.map D.int) (ns.map V.int)
  | [] => atL_nil.mpr rfl
  | n :: r => atL_cons.mpr ⟨_, _, rfl, at_int.mpr rfl, AtL.ints⟩
theorem AtL.ints' : ∀ {ns : List Int} {vs : List V}, AtL K O H (ns.map D.int) vs → vs = ns.map V.int
  | [], vs, h => atL_nil.mp h
  | n :: r, vs, h => by
    obtain ⟨v, w, rfl, h2, h3⟩ := atL_cons.mp h
    rw [at_int.mp h2, AtL.ints' h3]
    rfl
/-- the type that isinstance sees -/
theorem tyL {a : Addr} {vs : List V} (h : SqL K H a vs) : TyX K H (.ref a) (.type "list") := by
  rcases h with (h | ⟨o, h⟩) | ⟨o, its, n, h1, h2, _⟩
  · exact .base (.lst h)
  · exact .base (.frz h)
  · exact .kList h1 h2
theorem tyT {a : Addr} {vs : List V} (h : SqT K H a vs) : TyX K H (.ref a) (.type "tuple") := by
  rcases h with (h | ⟨o, h⟩) | ⟨o, its, n, h1, h2, _⟩
  · exact .base (.tup h)
  · exact .fTuple h
  · exact .kTuple h1 h2
/-- .. of data; T: of objects -/
def tyD (T : ω → Value) : D ω → Value
  | .non => .type "NoneType" | .bl _ => .type "bool" | .int _ => .type "int" | .str _ => .type "str" | .lst _ => .type "list" | .tup _ => .type "tuple" | .dic _ => .type "dict" | .obj w => T w
theorem ty_of {T : ω → Value} (hT : ∀ H a w, O.at_ H a w → TyX K H (.ref a) (T w)) {d : D ω} {v : V} (h : At K O H d v) : TyX K H v (tyD T d) := by
  cases d with
  | non => rw [at_non] at h; subst h; exact .base .non
  | bl b => rw [at_bl] at h; subst h; exact .base (.bl b)
  | int i => rw [at_int] at h; subst h; exact .base (.int i)
  | str x => rw [at_str] at h; subst h; exact .base (.str x)
  | lst l => obtain ⟨a, vs, rfl, h2, _⟩ := at_lst.mp h; exact tyL (sq_of h2)
  | tup l => obtain ⟨a, vs, rfl, h2, _⟩ := at_tup.mp h; exact tyT h2
  | dic m => obtain ⟨a, rfl, h2⟩ := at_dic.mp h; exact .base (.dK h2)
  | obj w => obtain ⟨a, rfl, h2⟩ := at_obj.mp h; exact hT _ _ _ h2
end
end SR
set_option maxRecDepth 100000
set_option maxHeartbeats 4000000
/-! Defs, methods, classes by what they promise, without their addresses. -/
namespace SR
open PySem PySem.Spec PyProof.Rows L2 Evl

/-- the built-in names that the module leaves as they are -/
structure Bi (mg : Str → Option Value) : Prop where
  len : mg "len" = none
  isinstance : mg "isinstance" = none
  int : mg "int" = none
  bool : mg "bool" = none
  list : mg "list" = none
  tuple : mg "tuple" = none
  dict : mg "dict" = none
  sorted : mg "sorted" = none
  enumerate : mg "enumerate" = none
  zip : mg "zip" = none
  range : mg "range" = none
  all : mg "all" = none
  any : mg "any" = none
  reversed : mg "reversed" = none
  sum : mg "sum" = none
  min : mg "min" = none
  max : mg "max" = none
  abs : mg "abs" = none

section
variable (P : Program) (w : World) (K : PySem.W.Frag) (mg : Str → Option Value) (base : Heap)
structure DefOk (k : Nat) (x : Str) (ps : List Str) (sp : Sp) : Prop where
  ex : ∃ f fd, mg x = some (.ref f) ∧ PySem.W.keepIn K (.ref f) = true ∧ Binds K fd ps [] ∧ FnOk P w K mg base CX0 k f fd ps sp
/-- .. its last parameters filled by the defaults ds -/
structure DefOkD (k : Nat) (x : Str) (ps : List Str) (dvs : List V) (sp : Sp) : Prop where
  ex : ∃ f fd ds, mg x = some (.ref f) ∧ PySem.W.keepIn K (.ref f) = true ∧ Binds K fd ps ds ∧ Vals dvs ds ∧ FnOk P w K mg base CX0 k f fd ps sp
structure MethOk (C : Addr) (k : Nat) (m : Str) (ps : List Str) (sp : Sp) : Prop where
  ex : ∃ f fd, Meth K C m f ∧ Binds K fd ps [] ∧ FnOk P w K mg base CX0 k f fd ps sp
structure MakeOk (C : Addr) (k : Nat) (x : Str) (ps : List Str) (dvs : List V) (sp : Sp) : Prop where
  ex : ∃ f fd ds, Mk K C f ∧ mg x = some (.ref C) ∧ Binds K fd ps ds ∧ Vals dvs ds ∧ FnOk P w K mg base CX0 k f fd ps sp
end
section
variable {P : Program} {w : World} {K : PySem.W.Frag} {mg : Str → Option Value} {base : Heap}
theorem defOk {x qual : Str} {st : Stmt} {f : Addr} {fd : FuncData} {ps : List Str} {k : Nat} {sp : Sp} (F : Fun K x qual st f fd) (hm : mg x = some (.ref f)) (G : FnOk P w K mg base CX0 k f fd ps sp) (b : Binds K fd ps []) : DefOk P w K mg base k x ps sp := ⟨f, fd, hm, F.kp, b, G⟩
end
section
variable {X : Cx} {k : Nat} {C : Addr} {ps : List Str} {sp : Sp} {dvs : List V} {x m : Str} {p pos apos : Pos} {e o : Expr} {es : List Expr} {ta : TE} {t : TA}
theorem pe_callD (h : DefOk X.prog X.w X.K X.mg X.base k x ps sp) (hr : Room k X.A) (ha : PA X (e :: es) t) (hg : Gl X x := by rfl) (hdb : (x == ("__debug__" : Str)) = false := by decide)
    (he : starEach (e :: es) X.env = (false, eval e X.env) :: starEach es X.env := by rfl) (hpl : (backTo pos (starEach es X.env)).any (·.1) = false := by rfl) : PE X (.Call (.Name x p) (e :: es) [] pos) (tCall sp [] E0 t) := by
  obtain ⟨f, fd, hm, hk, hb, F⟩ := h.ex
  exact pe_call F hr hg hm hk hb .nil pass0 ha hdb he hpl
theorem pe_callD0 (h : DefOk X.prog X.w X.K X.mg X.base k x ps sp) (hr : Room k X.A) (hg : Gl X x := by rfl) (hdb : (x == ("__debug__" : Str)) = false := by decide) : PE X (.Call (.Name x p) [] [] pos) (tCall sp [] E0 tNil) := by
  obtain ⟨f, fd, hm, hk, hb, F⟩ := h.ex
  exact pe_call0 F hr hg hm hk hb .nil pass0 hdb
theorem pe_methD {pl : Sem Bool} (c : Cls X.K C) (h : MethOk X.prog X.w X.K X.mg X.base C k m ps sp) (hr : Room k X.A) (he : PE X o ta) (ha : PA X (e :: es) t)
    (hst : starEach (e :: es) X.env = (false, eval e X.env) :: starEach es X.env := by rfl) (hpl : (backTo pos (starEach es X.env)).any (·.1) = false := by rfl)
    (ht : eval (.Call (.Attribute o m apos) (e :: es) [] pos) X.env = (do
      let ov ← eval o X.env
      standAt apos.atName
      let (f, first) ← holding [ov] (getMethod ov m pl)
      callWith pos f first (backTo pos (starEach (e :: es) X.env)) (backToKw pos (keywordEach [] X.env))) := by rfl) :
    PE X (.Call (.Attribute o m apos) (e :: es) [] pos) (tMeth C m sp [] E0 ta t) := by
  obtain ⟨f, fd, hm, hb, F⟩ := h.ex
  exact pe_meth he c hm F hr hb .nil pass0 ha hst hpl ht
theorem pe_methD0 {pl : Sem Bool} (c : Cls X.K C) (h : MethOk X.prog X.w X.K X.mg X.base C k m ps sp) (hr : Room k X.A) (he : PE X o ta)
    (ht : eval (.Call (.Attribute o m apos) [] [] pos) X.env = (do
      let ov ← eval o X.env
      standAt apos.atName
      let (f, first) ← holding [ov] (getMethod ov m pl)
      callWith pos f first (backTo pos (starEach [] X.env)) (backToKw pos (keywordEach [] X.env))) := by rfl) :
    PE X (.Call (.Attribute o m apos) [] [] pos) (tMeth C m sp [] E0 ta tNil) := by
  obtain ⟨f, fd, hm, hb, F⟩ := h.ex
  exact pe_meth0 he c hm F hr hb .nil pass0 ht
theorem pe_makeD (h : MakeOk X.prog X.w X.K X.mg X.base C k x ps dvs sp) (hr : Room (k + 1) X.A) (ha : PA X (e :: es) t) (hg : Gl X x := by rfl) (hdb : (x == ("__debug__" : Str)) = false := by decide)
    (he : starEach (e :: es) X.env = (false, eval e X.env) :: starEach es X.env := by rfl) (hpl : (backTo pos (starEach es X.env)).any (·.1) = false := by rfl) : PE X (.Call (.Name x p) (e :: es) [] pos) (tMake C sp dvs E0 t) := by
  obtain ⟨f, fd, ds, M, hm, hb, hd, F⟩ := h.ex
  exact pe_make M F hr hg hm hb hd pass0 ha hdb he hpl
theorem pe_makeDL {i : Nat} (h : MakeOk X.prog X.w X.K X.mg X.base C k x ps dvs sp) {y : Str} (hr : Room (k + 1) X.A) (ha : PA X (e :: es) t) (hN : X.N[i]? = some y := by rfl) (hv : Vis X.env.scope y := by first | exact Or.inl rfl | exact Or.inr (Or.inl rfl)) (hdb : (y == ("__debug__" : Str)) = false := by decide) (hcd : (y == ("__classdict__" : Str)) = false := by decide)
    (he : starEach (e :: es) X.env = (false, eval e X.env) :: starEach es X.env := by rfl) (hpl : (backTo pos (starEach es X.env)).any (·.1) = false := by rfl) : PE X (.Call (.Name y p) (e :: es) [] pos) (tMakeL i C sp dvs E0 t) := by
  obtain ⟨f, fd, ds, M, hm, hb, hd, F⟩ := h.ex
  exact pe_makeL M F hr hN hv hb hd pass0 ha hdb hcd he hpl
end
end SR
set_option maxRecDepth 100000
set_option maxHeartbeats 4000000
/-! Readings over a known part G of the heap H: what is in G stays; what a def is still filling stands in H alone. -/
namespace SR
open PySem PySem.Spec PyProof.Rows L2 Evl

/-- from (G, H) to (G', H') -/
structure Le (G H G' H' : Hp) : Prop where
  h : Ex H H'
  g : Ex G G'
  e : Ex G' H'
  f : ∀ a, G a = none → H a ≠ none → G' a = none
  t : ∀ a ps, G' a = some (.tbl ps) → G a = some (.tbl ps)
/-- no table of code objects -/
def NoTb (o : HO) : Prop := ∀ ps, o ≠ .tbl ps
section
variable {G H G1 H1 G2 H2 : Hp}
theorem Le.refl (e : Ex G H) : Le G H G H := ⟨Ex.refl _, Ex.refl _, e, fun _ h _ => h, fun _ _ h => h⟩
theorem Le.trans (a : Le G H G1 H1) (b : Le G1 H1 G2 H2) : Le G H G2 H2 where
  h := a.h.trans b.h
  g := a.g.trans b.g
  e := b.e
  f := fun x hg hh => b.f x (a.f x hg hh) fun z => by
    cases q : H x with
    | none => exact hh q
    | some o => rw [a.h x o q] at z; cases z
  t := fun x ps h => a.t x ps (b.t x ps h)
/-- the heap alone grows -/
theorem Le.heap (e : Ex G H) (x : Ex H H1) : Le G H G H1 := ⟨x, Ex.refl _, e.trans x, fun _ h _ => h, fun _ _ h => h⟩
theorem none_of_ex (e : Ex G H) {p : Addr} (h : H p = none) : G p = none := by
  cases q : G p with
  | none => rfl
  | some o => rw [e p o q] at h; cases h
/-- a new object, known -/
theorem Le.new (e : Ex G H) {p : Addr} {o : HO} (h : H p = none) (ht : NoTb o := by intro _ z; cases z) : Le G H (upd G p o) (upd H p o) where
  h := Ex.new h
  g := Ex.new (none_of_ex e h)
  e := fun a u q => by
    by_cases z : a = p
    · subst z; rw [upd_same] at q ⊢; exact q
    · rw [upd_ne z] at q ⊢; exact e a u q
  f := fun a hg hh => by
    by_cases z : a = p
    · subst z; exact absurd h hh
    · rw [upd_ne z]; exact hg
  t := fun a ps q => by
    by_cases z : a = p
    · subst z; rw [upd_same] at q; exact absurd (Option.some.inj q) (ht ps)
    · rw [upd_ne z] at q; exact q
/-- what was filled since (G, H) is known from now on -/
theorem Le.fix (e : Ex G H) (l : Le G H G1 H1) {p : Addr} {o : HO} (h : H p = none) (h1 : H1 p = some o) (ht : NoTb o := by intro _ z; cases z) : Le G H (upd G1 p o) H1 where
  h := l.h
  g := fun a u q => by
    by_cases z : a = p
    · subst z; rw [none_of_ex e h] at q; cases q
    · rw [upd_ne z]; exact l.g a u q
  e := fun a u q => by
    by_cases z : a = p
    · subst z; rw [upd_same] at q; rw [h1]; exact q
    · rw [upd_ne z] at q; exact l.e a u q
  f := fun a hg hh => by
    by_cases z : a = p
    · subst z; exact absurd h hh
    · rw [upd_ne z]; exact l.f a hg hh
  t := fun a ps q => by
    by_cases z : a = p
    · subst z; rw [upd_same] at q; exact absurd (Option.some.inj q) (ht ps)
    · rw [upd_ne z] at q; exact l.t a ps q
/-- what (G, H) does not know changes -/
theorem Le.mut (l : Le G H G1 H1) {p : Addr} {o : HO} (h : H p = none) (hg : G1 p = none) : Le G H G1 (upd H1 p o) where
  h := fun a u q => by
    rw [upd_ne (ne_of_none q h)]; exact l.h a u q
  g := l.g
  e := fun a u q => by
    rw [upd_ne (ne_of_none q hg)]; exact l.e a u q
  f := l.f
  t := l.t
/-- a fresh one, not known -/
theorem Le.newM (e : Ex G H) {p : Addr} {o : HO} (h : H p = none) : Le G H G (upd H p o) := (Le.refl e).mut h (none_of_ex e h)
/-- fresh behind is fresh ahead -/
theorem Le.back (l : Le G H G1 H1) {p : Addr} (h : H1 p = none) : H p = none := fresh_back l.h h
theorem Le.gnone (l : Le G H G1 H1) {p : Addr} (hg : G p = none) (hh : H p ≠ none) : G1 p = none := l.f p hg hh
/-- both parts -/
def hun (A B : Hp) : Hp := fun a => match A a with
  | some o => some o
  | none => B a
theorem hun_l {A B : Hp} : Ex A (hun A B) := fun a o h => by unfold hun; rw [h]
theorem hun_r {A B C : Hp} (h1 : Ex A C) (h2 : Ex B C) : Ex B (hun A B) := fun a o h => by
  unfold hun
  cases q : A a with
  | none => exact h
  | some u =>
    have e1 := h1 a u q
    have e2 := h2 a o h
    rw [e1] at e2
    exact e2
theorem hun_t {A B C : Hp} (h1 : ∀ a ps, A a = some (.tbl ps) → C a = some (.tbl ps)) (h2 : ∀ a ps, B a = some (.tbl ps) → C a = some (.tbl ps)) (a : Addr) (ps : Array Value) (h : hun A B a = some (.tbl ps)) : C a = some (.tbl ps) := by
  unfold hun at h
  cases q : A a with
  | none => rw [q] at h; exact h2 a ps h
  | some u => rw [q] at h; exact h1 a ps (q.trans h)
theorem hun_ex {A B C : Hp} (h1 : Ex A C) (h2 : Ex B C) : Ex (hun A B) C := fun a o h => by
  unfold hun at h
  cases q : A a with
  | none => rw [q] at h; exact h2 a o h
  | some u => rw [q] at h; rw [← h]; exact h1 a u q
end

section
variable {ω : Type} (K : PySem.W.Frag) (O : OI ω)
/-- the data is handed back: known behind -/
def RetG (d : D ω) (G H : Hp) (Q : VK) : Prop := ∀ v G2 H2, Le G H G2 H2 → At K O G2 d v → Q v H2
def EvD (te : TE) (σ : L2.St) (G : Hp) (d : D ω) : Prop := ∀ H1, Ex G H1 → ∀ Q : VK, RetG K O d G H1 Q → te σ H1 Q
def EvDA (ta : TA) (σ : L2.St) (G : Hp) (ds : List (D ω)) : Prop := ∀ H1, Ex G H1 → ∀ Q : List V → Hp → Prop, (∀ vs G2 H2, Le G H1 G2 H2 → AtL K O G2 ds vs → Q vs H2) → ta σ H1 Q
end
section
variable {ω : Type} {K : PySem.W.Frag} {O : OI ω} {G G' H : Hp} {te ta tb : TE} {σ : L2.St} {d : D ω} {v : V}
theorem RetG.mono {Q : VK} {G1 H1 : Hp} (l : Le G H G1 H1) (k : RetG K O d G H Q) : RetG K O d G1 H1 Q := fun v G2 H2 l2 a => k v G2 H2 (l.trans l2) a
theorem EvD.mono (e : Ex G G') (h : EvD K O te σ G d) : EvD K O te σ G' d := fun H1 e1 Q k => h H1 (e.trans e1) Q fun v G2 H2 l a =>
  k v (hun G2 G') H2 ⟨l.h, hun_r l.e (e1.trans l.h), hun_ex l.e (e1.trans l.h), (fun x hg hh => by
    unfold hun
    have g0 : G x = none := none_of_ex e hg
    rw [l.f x g0 hh]
    exact hg), hun_t (fun a ps q => e a _ (l.t a ps q)) fun _ _ q => q⟩ (a.mono hun_l)
theorem ed_var {i : Nat} (h : σ[i]? = some (some v)) (a : At K O G d v) : EvD K O (tVar i) σ G d := fun H1 e Q k => ⟨v, h, k v G H1 (Le.refl e) a⟩
theorem ed_of (h : Ev te σ G v) (a : At K O G d v) : EvD K O te σ G d := fun H1 e Q k => h H1 e Q fun H2 e2 => k v G H2 (Le.heap e e2) a
theorem eda_nil : EvDA K O tNil σ G [] := fun H1 e Q k => k [] G H1 (Le.refl e) (atL_nil.mpr rfl)
theorem eda_cons {tr : TA} {ds : List (D ω)} (h : EvD K O te σ G d) (hr : EvDA K O tr σ G ds) : EvDA K O (tCons te tr) σ G (d :: ds) := fun H1 e Q k =>
  h H1 e _ fun v G2 H2 l a => hr H2 ((l.g).trans l.e) _ fun vs G3 H3 l3 as => by
    have e3 : Ex G2 (hun G3 G2) := hun_r l3.e (l.e.trans l3.h)
    refine k (v :: vs) (hun G3 G2) H3 ⟨l.h.trans l3.h, l.g.trans e3, hun_ex l3.e (l.e.trans l3.h), fun x hg hh => ?_, hun_t l3.t l.t⟩ (atL_cons.mpr ⟨v, vs, rfl, a.mono e3, as.mono hun_l⟩)
    have n2 := l.f x hg hh
    have h2 : H2 x ≠ none := fun z => hh (fresh_back l.h z)
    unfold hun
    rw [l3.f x hg h2]
    exact n2
/-- a display -/
theorem ed_lst {ta : TA} {ds : List (D ω)} (h : EvDA K O ta σ G ds) (hl : ds.length ≤ 100000) : EvD K O (tLst ta) σ G (.lst ds) := fun H1 e Q k =>
  h H1 e _ fun vs G2 H2 l as => ⟨sz_of (by rw [as.len]; exact hl), fun p hp => k (.ref p) (upd G2 p (.lst vs)) _ (l.trans (Le.new l.e hp)) (at_lst.mpr ⟨p, vs, rfl, upd_same, as.mono (Ex.new (none_of_ex l.e hp))⟩)⟩
theorem ed_tup {ta : TA} {ds : List (D ω)} (h : EvDA K O ta σ G ds) (hl : ds.length ≤ 100000) : EvD K O (tTup ta) σ G (.tup ds) := fun H1 e Q k =>
  h H1 e _ fun vs G2 H2 l as => ⟨sz_of (by rw [as.len]; exact hl), fun p hp => k (.ref p) (upd G2 p (.tup vs)) _ (l.trans (Le.new l.e hp)) (at_tup.mpr ⟨p, vs, rfl, st_of upd_same, as.mono (Ex.new (none_of_ex l.e hp))⟩)⟩
end
end SR
set_option maxRecDepth 100000
set_option maxHeartbeats 4000000
namespace SR
open PySem PySem.Spec PyProof.Rows L2 Evl
section
variable {ω : Type} {K : PySem.W.Frag} {O : OI ω} {G G' H : Hp} {te ta tb tl : TE} {σ : L2.St} {d : D ω} {v : V}

theorem ev_ofD (h : EvD K O te σ G d) (one : ∀ G v', At K O G d v' → v' = v) : Ev te σ G v := fun H1 e Q q => h H1 e Q fun v' G2 H2 l a => by rw [one G2 v' a]; exact q H2 l.h
theorem ev_bl {b : Bool} (h : EvD K O te σ G (.bl b)) : Ev te σ G (.bl b) := ev_ofD h fun G v a => at_bl.mp a
theorem ev_int {i : Int} (h : EvD K O te σ G (.int i)) : Ev te σ G (.int i) := ev_ofD h fun G v a => at_int.mp a
theorem ev_non (h : EvD K O te σ G .non) : Ev te σ G .non := ev_ofD h fun G v a => at_non.mp a
theorem et_ofD {b : Bool} (h : EvD K O te σ G (.bl b)) : EvT (tB te) σ G b := et_B (ev_bl h)

/-! ### a def over data -/
def SpD (K : PySem.W.Frag) (O : OI ω) (R : List (D ω) → D ω → Prop) : Sp := fun vs H Q _ => ∃ G ds d, Ex G H ∧ AtL K O G ds vs ∧ R ds d ∧ RetG K O d G H Q
theorem ed_call {R : List (D ω) → D ω → Prop} {E : XK} {t : TA} {ds : List (D ω)} (h : EvDA K O t σ G ds) (r : R ds d) : EvD K O (tCall (SpD K O R) [] E t) σ G d := fun H1 e Q k =>
  h H1 e _ fun vs G2 H2 l as => ⟨G2, ds, d, l.e, by rw [List.append_nil]; exact as, r, k.mono l⟩

/-! ### sources -/
def Src (K : PySem.W.Frag) (O : OI ω) (wi : TI) (σ : L2.St) (G : Hp) (ds : List (D ω)) : Prop := ∀ H1, Ex G H1 → ∀ R : It → Hp → Prop,
  (∀ (J : It) (Gd : Hp → Prop) (Y : Nat → Hp → V → Hp → Prop) (G2 H2 : Hp), Le G H1 G2 H2 → Walk J ds.length Gd Y → (∀ H, Ex G2 H → Gd H) →
    (∀ i Gi Hi x Hi', Ex G2 Gi → Ex Gi Hi → i < ds.length → Y i Hi x Hi' → ∃ d Gi', ds[i]? = some d ∧ Le Gi Hi Gi' Hi' ∧ At K O Gi' d x) → R J H2) → wi σ H1 R
theorem src_list {ds : List (D ω)} (h : EvD K O tl σ G (.lst ds)) : Src K O (iList K tl) σ G ds := fun H1 e R k =>
  h H1 e _ fun v G2 H2 l a => by
    obtain ⟨p, vs, rfl, hs, as⟩ := at_lst.mp a
    refine ⟨p, rfl, ⟨vs, sq_of (l.e _ _ hs)⟩, ?_⟩
    have hl : vs.length = ds.length := as.len
    refine k (Itl K p) _ _ G2 H2 l (by rw [← hl]; exact walk_list (xs := vs)) (fun H x => sq_of (x _ _ hs)) fun i Gi Hi x Hi' eg eh hi y => ?_
    obtain ⟨rfl, hx⟩ := y
    obtain ⟨d, hd, ad⟩ := as.get hx
    exact ⟨d, Gi, hd, Le.refl eh, ad.mono eg⟩
theorem src_tup {ds : List (D ω)} (h : EvD K O tl σ G (.tup ds)) : Src K O (iTup K tl) σ G ds := fun H1 e R k =>
  h H1 e _ fun v G2 H2 l a => by
    obtain ⟨p, vs, rfl, hs, as⟩ := at_tup.mp a
    refine ⟨p, rfl, ⟨vs, ex_t l.e hs⟩, ?_⟩
    have hl : vs.length = ds.length := as.len
    refine k (Itt K p) _ _ G2 H2 l (by rw [← hl]; exact walk_tup (xs := vs)) (fun H x => ex_t x hs) fun i Gi Hi x Hi' eg eh hi y => ?_
    obtain ⟨rfl, hx⟩ := y
    obtain ⟨d, hd, ad⟩ := as.get hx
    exact ⟨d, Gi, hd, Le.refl eh, ad.mono eg⟩
theorem src_or1 {w1 w2 : TI} {ds : List (D ω)} (h : Src K O w1 σ G ds) : Src K O (fun σ H R => w1 σ H R ∨ w2 σ H R) σ G ds := fun H1 e R k => Or.inl (h H1 e R k)
theorem src_or2 {w1 w2 : TI} {ds : List (D ω)} (h : Src K O w2 σ G ds) : Src K O (fun σ H R => w1 σ H R ∨ w2 σ H R) σ G ds := fun H1 e R k => Or.inr (h H1 e R k)
def idxD (ds : List (D ω)) : List (D ω) := ds.zipIdx.map fun p => .tup [.int (p.2 : Nat), p.1]
theorem idxD_len {ds : List (D ω)} : (idxD ds).length = ds.length := by simp [idxD]
theorem idxD_get {ds : List (D ω)} {i : Nat} {d : D ω} (h : ds[i]? = some d) : (idxD ds)[i]? = some (.tup [.int (i : Nat), d]) := by
  simp [idxD, List.getElem?_zipIdx, h]
theorem src_enum {ta : TA} {ds : List (D ω)} (h : EvDA K O ta σ G [.lst ds]) : Src K O (iEnum K ta) σ G (idxD ds) := fun H1 e R k =>
  h H1 e _ fun vs G2 H2 l as => by
    obtain ⟨v, r, rfl, a, n⟩ := atL_cons.mp as
    obtain rfl := atL_nil.mp n
    obtain ⟨p, ws, rfl, hs, aw⟩ := at_lst.mp a
    refine ⟨p, ws, rfl, sq_of (l.e _ _ hs), ?_⟩
    have hl : ws.length = ds.length := aw.len
    refine k (Ite K p) _ _ G2 H2 l (by rw [idxD_len, ← hl]; exact walk_enum (xs := ws)) (fun H x => sq_of (x _ _ hs)) fun i Gi Hi x Hi' eg eh hi y => ?_
    obtain ⟨T, x1, x2, rfl, hT, rfl, h1, h2⟩ := y
    obtain ⟨d, hd, ad⟩ := aw.get h2
    have e1 : x1 = .int (i : Nat) := (Option.some.inj h1).symm
    subst e1
    refine ⟨_, upd Gi T (.tup [.int (i : Nat), x2]), idxD_get hd, Le.new eh hT, at_tup.mpr ⟨T, _, rfl, st_of upd_same, atL_cons.mpr ⟨_, _, rfl, at_int.mpr rfl, ?_⟩⟩⟩
    exact AtL.one ((ad.mono eg).mono (Ex.new (none_of_ex eh hT)))
theorem walk_enumT {a : Addr} {xs : List V} : Walk (IteT K a xs) xs.length (fun H => SqT K H a xs) (YPair (fun i => some (.int (i : Nat))) (fun i => xs[i]?)) := by
  refine ⟨fun i _ hi q => ⟨q, hi⟩, fun _ q => ⟨q, Nat.le_refl _⟩, fun i H v H' _ q y => ?_⟩
  obtain ⟨T, x, h1, h2, h3, h4⟩ := y
  exact ⟨T, .int (i : Nat), x, h1, h2, h3, rfl, h4⟩
theorem src_enumT {ta : TA} {ds : List (D ω)} (h : EvDA K O ta σ G [.tup ds]) : Src K O (iEnumT K ta) σ G (idxD ds) := fun H1 e R k =>
  h H1 e _ fun vs G2 H2 l as => by
    obtain ⟨v, r, rfl, a, n⟩ := atL_cons.mp as
    obtain rfl := atL_nil.mp n
    obtain ⟨p, ws, rfl, hs, aw⟩ := at_tup.mp a
    refine ⟨p, ws, rfl, ex_t l.e hs, ?_⟩
    have hl : ws.length = ds.length := aw.len
    refine k (IteT K p ws) _ _ G2 H2 l (by rw [idxD_len, ← hl]; exact walk_enumT (xs := ws)) (fun H x => ex_t x hs) fun i Gi Hi x Hi' eg eh hi y => ?_
    obtain ⟨T, x1, x2, rfl, hT, rfl, h1, h2⟩ := y
    obtain ⟨d, hd, ad⟩ := aw.get h2
    have e1 : x1 = .int (i : Nat) := (Option.some.inj h1).symm
    subst e1
    refine ⟨_, upd Gi T (.tup [.int (i : Nat), x2]), idxD_get hd, Le.new eh hT, at_tup.mpr ⟨T, _, rfl, st_of upd_same, atL_cons.mpr ⟨_, _, rfl, at_int.mpr rfl, ?_⟩⟩⟩
    exact AtL.one ((ad.mono eg).mono (Ex.new (none_of_ex eh hT)))
def zipD (ds es : List (D ω)) : List (D ω) := (ds.zip es).map fun p => .tup [p.1, p.2]
/-- zip of two lists -/
theorem src_zipL {ta : TA} {ds es : List (D ω)} (h : EvDA K O ta σ G [.lst ds, .lst es]) : Src K O (RZ.iZipA K ta) σ G (zipD ds es) := fun H1 e R k =>
  h H1 e _ fun vs G2 H2 l as => by
    obtain ⟨v, r, rfl, a, n⟩ := atL_cons.mp as
    obtain ⟨v', r', rfl, a', n'⟩ := atL_cons.mp n
    obtain rfl := atL_nil.mp n'
    obtain ⟨p, ws, rfl, hs, aw⟩ := at_lst.mp a
    obtain ⟨q, us, rfl, hs', aw'⟩ := at_lst.mp a'
    refine ⟨p, q, ws, us, rfl, Or.inl ⟨sq_of (l.e _ _ hs), sq_of (l.e _ _ hs'), ?_⟩⟩
    have hl : ws.length = ds.length := aw.len
    have hl' : us.length = es.length := aw'.len
    have hn : (zipD ds es).length = min ws.length us.length := by simp [zipD, hl, hl']
    refine k (Itz K p q) _ _ G2 H2 l (walk_zip hn) (fun H x => ⟨sq_of (x _ _ hs), sq_of (x _ _ hs')⟩) fun i Gi Hi x Hi' eg eh hi y => ?_
    obtain ⟨T, x1, x2, rfl, hT, rfl, h1, h2⟩ := y
    obtain ⟨d, hd, ad⟩ := aw.get h1
    obtain ⟨d', hd', ad'⟩ := aw'.get h2
    have e3 : (zipD ds es)[i]? = some (.tup [d, d']) := by
      simp [zipD, List.zip, List.getElem?_zipWith, hd, hd']
    refine ⟨_, upd Gi T (.tup [x1, x2]), e3, Le.new eh hT, at_tup.mpr ⟨T, _, rfl, st_of upd_same, atL_cons.mpr ⟨_, _, rfl, (ad.mono eg).mono (Ex.new (none_of_ex eh hT)), ?_⟩⟩⟩
    exact AtL.one ((ad'.mono eg).mono (Ex.new (none_of_ex eh hT)))
def rngD (lo : Int) (n : Nat) : List (D ω) := (List.range n).map fun i => .int (lo + (i : Nat))
theorem rngD_get {lo : Int} {n i : Nat} (h : i < n) : (rngD (ω := ω) lo n)[i]? = some (.int (lo + (i : Nat))) := by simp [rngD, h]
theorem src_r1 {ta : TA} {n : Int} (h : EvA ta σ G [.int n]) (hn : -(2 ^ 62) ≤ n ∧ n < 2 ^ 62) : Src K O (iRng1 ta) σ G (rngD (ω := ω) 0 n.toNat) := fun H1 e R k =>
  h H1 e _ fun H2 e2 => ⟨n, rfl, hn.1, hn.2, k (Itr 0 n.toNat) _ _ G H2 (Le.heap e e2) (by rw [show (rngD (ω := ω) 0 n.toNat).length = n.toNat by simp [rngD]]; exact walk_range) (fun _ _ => True.intro) fun i Gi Hi x Hi' eg eh hi y => by
    obtain ⟨rfl, rfl⟩ := y
    exact ⟨_, Gi, rngD_get (by simpa [rngD] using hi), Le.refl eh, at_int.mpr rfl⟩⟩
theorem src_r2 {ta : TA} {lo n : Int} (h : EvA ta σ G [.int lo, .int n]) (hn : -(2 ^ 62) ≤ lo ∧ lo < 2 ^ 62 ∧ -(2 ^ 62) ≤ n ∧ n < 2 ^ 62) : Src K O (iRng2 ta) σ G (rngD (ω := ω) lo (n - lo).toNat) := fun H1 e R k =>
  h H1 e _ fun H2 e2 => ⟨lo, n, rfl, hn, k (Itr lo (n - lo).toNat) _ _ G H2 (Le.heap e e2) (by rw [show (rngD (ω := ω) lo (n - lo).toNat).length = (n - lo).toNat by simp [rngD]]; exact walk_range) (fun _ _ => True.intro) fun i Gi Hi x Hi' eg eh hi y => by
    obtain ⟨rfl, rfl⟩ := y
    exact ⟨_, Gi, rngD_get (by simpa [rngD] using hi), Le.refl eh, at_int.mpr rfl⟩⟩

/-! ### targets -/
theorem tg_pair {j k : Nat} {d1 d2 : D ω} {x : V} {Q : L2.St → Hp → Prop} (a : At K O G (.tup [d1, d2]) x) (e : Ex G H) (q : ∀ x1 x2, At K O G d1 x1 → At K O G d2 x2 → Q ((σ.set j (some x1)).set k (some x2)) H) :
    gTup K 2 (gCons (gName j) (gCons (gName k) gNil)) x σ H Q := by
  obtain ⟨p, vs, rfl, hs, as⟩ := at_tup.mp a
  obtain ⟨x1, r, rfl, a1, n⟩ := atL_cons.mp as
  obtain ⟨x2, r2, rfl, a2, n2⟩ := atL_cons.mp n
  obtain rfl := atL_nil.mp n2
  exact ⟨p, _, rfl, ex_t e hs, rfl, x1, _, rfl, x2, _, rfl, rfl, q x1 x2 a1 a2⟩
theorem tg_pairL {j k : Nat} {d1 d2 : D ω} {x : V} {Q : L2.St → Hp → Prop} (a : At K O G (.lst [d1, d2]) x) (e : Ex G H) (q : ∀ x1 x2, At K O G d1 x1 → At K O G d2 x2 → Q ((σ.set j (some x1)).set k (some x2)) H) :
    gUnl K 2 (gCons (gName j) (gCons (gName k) gNil)) x σ H Q := by
  obtain ⟨p, vs, rfl, hs, as⟩ := at_lst.mp a
  obtain ⟨x1, r, rfl, a1, n⟩ := atL_cons.mp as
  obtain ⟨x2, r2, rfl, a2, n2⟩ := atL_cons.mp n
  obtain rfl := atL_nil.mp n2
  exact ⟨p, _, rfl, sq_of (e _ _ hs), rfl, x1, _, rfl, x2, _, rfl, rfl, q x1 x2 a1 a2⟩

/-! ### a comprehension -/
theorem take_snoc {α : Type} {l : List α} {i : Nat} {x : α} (h : l[i]? = some x) : l.take (i + 1) = l.take i ++ [x] := by
  rw [List.take_add_one, h]
  rfl
theorem ed_lcW {wi : TI} {g : TG} {tt : TT} {vs : List Nat} {ds : List (D ω)} (f : D ω → Bool) (m : D ω → D ω) (hs : Src K O wi σ G ds) (hz : ds.length ≤ 400000)
    (body : ∀ (i : Nat) (d : D ω) (x : V) (Gi Hi : Hp), ds[i]? = some d → Ex G Gi → Ex Gi Hi → At K O Gi d x → ∀ Q : L2.St → Hp → Prop,
      (∀ σ2 H2, Ex Hi H2 → wipe σ2 vs = wipe σ vs → EvT tt σ2 Gi (f d) → (f d = true → EvD K O te σ2 Gi (m d)) → Q σ2 H2) → g x (wipe σ vs) Hi Q) :
    EvD K O (tLc wi g tt te vs) σ G (.lst ((ds.filter f).map m)) := fun H1 e Q k => by
  refine hs H1 e _ fun J Gd Y G0 H0 l0 w hG yl => ?_
  intro Dl hD
  refine lc_it w (fun i H => ∃ Gi us, Le G0 H0 Gi H ∧ H Dl = some (.lst us) ∧ Gi Dl = none ∧ AtL K O Gi (((ds.take i).filter f).map m) us)
    ⟨G0, [], Le.newM l0.e hD, upd_same, none_of_ex l0.e hD, by simp; exact atL_nil.mpr rfl⟩ (fun i H _ p => ?_) (fun i x Hi Hi' hi p y => ?_) fun H p => ?_
  · obtain ⟨Gi, us, l, _⟩ := p
    exact hG H (l.g.trans l.e)
  · obtain ⟨Gi, us, l, hu, gn, as⟩ := p
    obtain ⟨d, Gi', hd, l', ad⟩ := yl i Gi Hi x Hi' l.g l.e hi y
    have tk := take_snoc hd
    have gn' : Gi' Dl = none := l'.gnone gn (by rw [hu]; exact fun z => nomatch z)
    have hu' : Hi' Dl = some (.lst us) := l'.h Dl _ hu
    have lt : Le G0 H0 Gi' Hi' := l.trans l'
    refine body i d x Gi' Hi' hd (l0.g.trans lt.g) l'.e ad _ fun σ2 H2 e2 hw ht he => ⟨hw, ?_⟩
    refine ht H2 (l'.e.trans e2) _ fun H3 e3 => ?_
    have e23 := e2.trans e3
    have lt3 : Le G0 H0 Gi' H3 := lt.trans (Le.heap l'.e e23)
    cases hf : f d with
    | false =>
      rw [if_neg Bool.false_ne_true]
      refine ⟨Gi', us, lt3, e23 Dl _ hu', gn', ?_⟩
      rw [tk, List.filter_append, List.filter_cons, if_neg (by rw [hf]; decide), List.filter_nil, List.append_nil]
      exact as.mono l'.g
    | true =>
      rw [if_pos rfl]
      refine he hf H3 (l'.e.trans e23) _ fun u G4 H4 l4 a4 => ?_
      have hu4 : H4 Dl = some (.lst us) := l4.h Dl _ (e23 Dl _ hu')
      have gn4 : G4 Dl = none := l4.gnone gn' (by rw [e23 Dl _ hu']; exact fun z => nomatch z)
      have ul : us.length ≤ i := by
        have := as.len
        have h2 := List.length_filter_le f (ds.take i)
        simp at this h2
        omega
      refine ⟨us, hu4, Nat.lt_of_lt_of_le (show us.length < 1000000 by omega) (of_decide_eq_true (id (Eq.refl true))), G4, us ++ [u], (lt3.trans l4).mut hD gn4, upd_same, gn4, ?_⟩
      rw [tk, List.filter_append, List.filter_cons, if_pos hf, List.filter_nil, List.map_append]
      exact (as.mono (l'.g.trans l4.g)).app (AtL.one a4)
  · obtain ⟨Gi, us, l, hu, gn, as⟩ := p
    rw [List.take_length] at as
    exact k (.ref Dl) (upd Gi Dl (.lst us)) H (l0.trans (Le.fix l0.e l hD hu)) (at_lst.mpr ⟨Dl, us, rfl, upd_same, as.mono (Ex.new gn)⟩)
theorem ed_lc {wi : TI} {g : TG} {tt : TT} {vs : List Nat} {ds : List (D ω)} (f : D ω → Bool) (m : D ω → D ω) (hs : Src K O wi σ G ds) (hz : ds.length ≤ 40000)
    (body : ∀ (i : Nat) (d : D ω) (x : V) (Gi Hi : Hp), ds[i]? = some d → Ex G Gi → Ex Gi Hi → At K O Gi d x → ∀ Q : L2.St → Hp → Prop,
      (∀ σ2 H2, Ex Hi H2 → wipe σ2 vs = wipe σ vs → EvT tt σ2 Gi (f d) → (f d = true → EvD K O te σ2 Gi (m d)) → Q σ2 H2) → g x (wipe σ vs) Hi Q) :
    EvD K O (tLc wi g tt te vs) σ G (.lst ((ds.filter f).map m)) := ed_lcW f m hs (by omega) body
end

/-! ### statements -/
section
variable {ω : Type} {K : PySem.W.Frag} {O : OI ω} {G G' H : Hp} {te ta tb tl : TE} {σ : L2.St} {d : D ω} {v : V} {De : Ends} {tu tw tz : TS} {g : TG} {t : TT}
theorem s_forS {wi : TI} {ds : List (D ω)} (hs : Src K O wi σ G ds) (e : Ex G H) (Pv : Nat → L2.St → Hp → Hp → Prop) (h0 : ∀ G0 H0, Le G H G0 H0 → Pv 0 σ G0 H0)
    (turn : ∀ G0 i d x σ' Gi Hi Gi' Hi', Ex G G0 → ds[i]? = some d → Ex G0 Gi → Ex Gi Hi → Pv i σ' Gi Hi → Le Gi Hi Gi' Hi' → At K O Gi' d x → ∀ N : L2.St → Hp → Prop,
      (∀ σ2 G2 H2, Ex Gi' G2 → Ex G2 H2 → Pv (i + 1) σ2 G2 H2 → N σ2 H2) → g x σ' Hi' fun σ2 H2 => tu { De with nx := N, ct := N, bk := De.nx } σ2 H2)
    (hd : ∀ σ' G' H', Ex G G' → Ex G' H' → Pv ds.length σ' G' H' → De.nx σ' H') : tFor wi g tu De σ H := by
  refine hs H e _ fun J Gd Y G0 H0 l0 w hG yl => ?_
  refine for_it w (fun i σ' H' => ∃ G', Ex G0 G' ∧ Ex G' H' ∧ Pv i σ' G' H') ⟨G0, Ex.refl _, l0.e, h0 G0 H0 l0⟩ (fun i σ' H' _ p => ?_) (fun i x σ' Hi Hi' hi p y => ?_) fun σ' H' p => ?_
  · obtain ⟨G', e1, e2, _⟩ := p
    exact hG H' (e1.trans e2)
  · obtain ⟨Gi, e1, e2, pv⟩ := p
    obtain ⟨d, Gi', hd', l', ad⟩ := yl i Gi Hi x Hi' e1 e2 hi y
    exact turn G0 i d x σ' Gi Hi Gi' Hi' l0.g hd' e1 e2 pv l' ad _ fun σ2 G2 H2 e3 e4 p4 => ⟨G2, (e1.trans l'.g).trans e3, e4, p4⟩
  · obtain ⟨G', e1, e2, pv⟩ := p
    exact hd σ' G' H' (l0.g.trans e1) e2 pv
theorem q_forS {wi : TI} {ds : List (D ω)} (hs : Src K O wi σ G ds) (e : Ex G H) (Pv : Nat → L2.St → Hp → Hp → Prop) (h0 : ∀ G0 H0, Le G H G0 H0 → Pv 0 σ G0 H0)
    (turn : ∀ G0 i d x σ' Gi Hi Gi' Hi', Ex G G0 → ds[i]? = some d → Ex G0 Gi → Ex Gi Hi → Pv i σ' Gi Hi → Le Gi Hi Gi' Hi' → At K O Gi' d x → ∀ N : L2.St → Hp → Prop,
      (∀ σ2 G2 H2, Ex Gi' G2 → Ex G2 H2 → Pv (i + 1) σ2 G2 H2 → N σ2 H2) → g x σ' Hi' fun σ2 H2 => tu { De with nx := N, ct := N, bk := tz De } σ2 H2)
    (hd : ∀ σ' G' H', Ex G G' → Ex G' H' → Pv ds.length σ' G' H' → tz De σ' H') : tSeq (tFor wi g tu) tz De σ H := s_forS (De := { De with nx := tz De }) hs e Pv h0 turn hd
theorem s_asgD {i : Nat} (h : EvD K O te σ G d) (e : Ex G H) (k : ∀ v G2 H2, Le G H G2 H2 → At K O G2 d v → De.nx (σ.set i (some v)) H2) : tAsg te (gName i) De σ H := h H e _ k
theorem q_asgD {i : Nat} (h : EvD K O te σ G d) (e : Ex G H) (k : ∀ v G2 H2, Le G H G2 H2 → At K O G2 d v → tz De (σ.set i (some v)) H2) : tSeq (tAsg te (gName i)) tz De σ H := h H e _ k
/-- a value: nothing known is added -/
theorem q_asgV {i : Nat} (h : Ev te σ G v) (e : Ex G H) (k : ∀ H2, Le G H G H2 → tz De (σ.set i (some v)) H2) : tSeq (tAsg te (gName i)) tz De σ H := h H e _ fun H2 e2 => k H2 (Le.heap e e2)
theorem s_asgV {i : Nat} (h : Ev te σ G v) (e : Ex G H) (k : ∀ H2, Le G H G H2 → De.nx (σ.set i (some v)) H2) : tAsg te (gName i) De σ H := h H e _ fun H2 e2 => k H2 (Le.heap e e2)
theorem s_retD (h : EvD K O te σ G d) (e : Ex G H) (k : RetG K O d G H De.rt) : tRet te De σ H := h H e _ k
theorem s_ifG {b : Bool} (h : EvT t σ G b) (e : Ex G H) (h1 : b = true → ∀ H2, Le G H G H2 → tu De σ H2) (h2 : b = false → ∀ H2, Le G H G H2 → tw De σ H2) : tIfS t tu tw De σ H := h H e _ fun H2 e2 => by
  cases b with
  | true =>
    rw [if_pos rfl]
    exact h1 rfl H2 (Le.heap e e2)
  | false =>
    rw [if_neg Bool.false_ne_true]
    exact h2 rfl H2 (Le.heap e e2)
theorem q_ifG {b : Bool} (h : EvT t σ G b) (e : Ex G H) (h1 : b = true → ∀ H2, Le G H G H2 → tu { De with nx := tz De } σ H2) (h2 : b = false → ∀ H2, Le G H G H2 → tw { De with nx := tz De } σ H2) : tSeq (tIfS t tu tw) tz De σ H := s_ifG (De := { De with nx := tz De }) h e h1 h2
theorem q_whenG {b : Bool} (h : EvT t σ G b) (e : Ex G H) (h1 : b = true → ∀ H2, Le G H G H2 → tu { De with nx := tz De } σ H2) (h2 : b = false → ∀ H2, Le G H G H2 → tz De σ H2) : tSeq (tIfS t tu tNext) tz De σ H := q_ifG h e h1 h2
/-- an if that is not taken -/
theorem q_skip (h : EvT t σ G false) (e : Ex G H) (k : ∀ H2, Le G H G H2 → tz De σ H2) : tSeq (tIfS t tu tNext) tz De σ H := q_ifG h e (fun z => nomatch z) fun _ H2 l => k H2 l
/-- a truth told by pt_truth, pt_truthR -/
theorem et_tru {b : Bool} (h : Ev te σ G (.bl b)) : EvT (fun σ H Q => te σ H fun x H' => ∃ k, TruV K x H' k ∧ Q k H') σ G b := fun H1 e Q q => h H1 e _ fun H2 e2 => ⟨b, rfl, q H2 e2⟩
end
end SR
set_option maxRecDepth 100000
set_option maxHeartbeats 4000000
namespace SR
open PySem PySem.Spec PyProof.Rows L2 Evl
/-! ### isinstance, told for data -/
section
variable {ω : Type} {K : PySem.W.Frag} {O : OI ω} {T : ω → Value}
/-- what the classes of objects answer -/
structure OT (K : PySem.W.Frag) (O : OI ω) (T : ω → Value) : Prop where
  ty : ∀ H a w, O.at_ H a w → TyX K H (.ref a) (T w)
  int : ∀ w, PySem.W.kitOne K (T w) (.type "int") = some false
  bool : ∀ w, PySem.W.kitOne K (T w) (.type "bool") = some false
  list : ∀ w, PySem.W.kitOne K (T w) (.type "list") = some false
  tuple : ∀ w, PySem.W.kitOne K (T w) (.type "tuple") = some false
def dInt : D ω → Bool | .int _ => true | _ => false
def dBool : D ω → Bool | .bl _ => true | _ => false
def dIntB : D ω → Bool | .int _ => true | .bl _ => true | _ => false
def dLst : D ω → Bool | .lst _ => true | _ => false
def dTup : D ω → Bool | .tup _ => true | _ => false
def dSeq : D ω → Bool | .lst _ => true | .tup _ => true | _ => false
theorem kit_int (h : OT K O T) (d : D ω) : PySem.W.kitOne K (tyD T d) (.type "int") = some (dIntB d) := by
  cases d with
  | obj w => exact h.int w
  | _ => first | exact kit_ty (r := false) (by decide +kernel) | exact kit_ty (r := true) (by decide +kernel)
theorem kit_bool (h : OT K O T) (d : D ω) : PySem.W.kitOne K (tyD T d) (.type "bool") = some (dBool d) := by
  cases d with
  | obj w => exact h.bool w
  | _ => first | exact kit_ty (r := false) (by decide +kernel) | exact kit_ty (r := true) (by decide +kernel)
theorem kit_list (h : OT K O T) (d : D ω) : PySem.W.kitOne K (tyD T d) (.type "list") = some (dLst d) := by
  cases d with
  | obj w => exact h.list w
  | _ => first | exact kit_ty (r := false) (by decide +kernel) | exact kit_ty (r := true) (by decide +kernel)
theorem kit_tuple (h : OT K O T) (d : D ω) : PySem.W.kitOne K (tyD T d) (.type "tuple") = some (dTup d) := by
  cases d with
  | obj w => exact h.tuple w
  | _ => first | exact kit_ty (r := false) (by decide +kernel) | exact kit_ty (r := true) (by decide +kernel)
theorem kit_seq (h : OT K O T) (d : D ω) : PySem.W.kitAny K (tyD T d) [.type "list", .type "tuple"] = some (dSeq d) := by
  refine kitAny_cons (kit_list h d) (fun hb => kitAny_cons (kit_tuple h d) (fun hb2 => ?_) fun hb2 => ?_) (fun hb => ?_)
  · rw [kitAny_nil]
    cases d <;> simp_all [dLst, dTup, dSeq]
  · cases d <;> simp_all [dLst, dTup, dSeq]
  · cases d <;> simp_all [dLst, dTup, dSeq]
end


/-! ### tests on data, as values and as truths -/
section
variable {ω : Type} {K : PySem.W.Frag} {O : OI ω} {T : ω → Value} {G : Hp} {te : TE} {σ : L2.St} {d : D ω}
theorem isi_int (OK : OT K O T) (h : EvD K O te σ G d) : Ev (tCB (rIsi K) (tCons te (tCons (tC (.ty "int")) tNil))) σ G (.bl (dIntB d)) := fun H1 e Q q =>
  h H1 e _ fun v G2 H2 l a => ⟨v, .ty "int", _, _, _, rfl, .ty _, (ty_of OK.ty (a.mono l.e)), kit_int OK d, q H2 l.h⟩
theorem isi_bool (OK : OT K O T) (h : EvD K O te σ G d) : Ev (tCB (rIsi K) (tCons te (tCons (tC (.ty "bool")) tNil))) σ G (.bl (dBool d)) := fun H1 e Q q =>
  h H1 e _ fun v G2 H2 l a => ⟨v, .ty "bool", _, _, _, rfl, .ty _, (ty_of OK.ty (a.mono l.e)), kit_bool OK d, q H2 l.h⟩
theorem isi_list (OK : OT K O T) (h : EvD K O te σ G d) : Ev (tCB (rIsi K) (tCons te (tCons (tC (.ty "list")) tNil))) σ G (.bl (dLst d)) := fun H1 e Q q =>
  h H1 e _ fun v G2 H2 l a => ⟨v, .ty "list", _, _, _, rfl, .ty _, (ty_of OK.ty (a.mono l.e)), kit_list OK d, q H2 l.h⟩
theorem isi_tuple (OK : OT K O T) (h : EvD K O te σ G d) : Ev (tCB (rIsi K) (tCons te (tCons (tC (.ty "tuple")) tNil))) σ G (.bl (dTup d)) := fun H1 e Q q =>
  h H1 e _ fun v G2 H2 l a => ⟨v, .ty "tuple", _, _, _, rfl, .ty _, (ty_of OK.ty (a.mono l.e)), kit_tuple OK d, q H2 l.h⟩
theorem isi_seq (OK : OT K O T) (h : EvD K O te σ G d) : Ev (tCB (rIsiT K) (tCons te (tCons (tTup (tCons (tC (.ty "list")) (tCons (tC (.ty "tuple")) tNil))) tNil))) σ G (.bl (dSeq d)) := fun H1 e Q q =>
  h H1 e _ fun v G2 H2 l a => ⟨by show 2 ≤ sizeLine; decide, fun p hp => ⟨v, p, _, _, [.type "list", .type "tuple"], _, rfl, upd_same, .cons (.ty _) (.cons (.ty _) .nil), ty_of OK.ty ((a.mono l.e).mono (Ex.new hp)), kit_seq OK d, q _ (l.h.trans (Ex.new hp))⟩⟩
/-- one item of a list or tuple -/
def dItem : D ω → Nat → Option (D ω) | .lst l, i => l[i]? | .tup l, i => l[i]? | _, _ => none
def dLen : D ω → Nat | .lst l => l.length | .tup l => l.length | _ => 0
theorem ed_item {ti : TE} {i : Nat} {c : D ω} (h : EvD K O te σ G d) (hi : Ev ti σ G (.int (i : Nat))) (hc : dItem d i = some c) : EvD K O (tOp (fun x y H Q => rIxL K x y H Q ∨ rIxT K x y H Q) te ti) σ G c := fun H1 e Q k =>
  h H1 e _ fun v G2 H2 l a => hi H2 (e.trans l.h) _ fun H3 e3 => by
    cases d with
    | lst ds =>
      obtain ⟨p, vs, rfl, hs, as⟩ := at_lst.mp a
      obtain ⟨x, hx, ax⟩ := as.get' (i := i) hc
      exact Or.inl ⟨p, vs, _, x, rfl, rfl, sq_of ((l.e.trans e3) _ _ hs), atI_nat hx, k x G2 H3 (l.trans (Le.heap l.e e3)) ax⟩
    | tup ds =>
      obtain ⟨p, vs, rfl, hs, as⟩ := at_tup.mp a
      obtain ⟨x, hx, ax⟩ := as.get' (i := i) hc
      exact Or.inr ⟨p, vs, _, x, rfl, rfl, ex_t (l.e.trans e3) hs, atI_nat hx, k x G2 H3 (l.trans (Le.heap l.e e3)) ax⟩
    | _ => cases hc
theorem ed_itemL {ti : TE} {i : Nat} {c : D ω} {ds : List (D ω)} (h : EvD K O te σ G (.lst ds)) (hi : Ev ti σ G (.int (i : Nat))) (hc : ds[i]? = some c) : EvD K O (tOp (rIxL K) te ti) σ G c := fun H1 e Q k =>
  h H1 e _ fun v G2 H2 l a => hi H2 (e.trans l.h) _ fun H3 e3 => by
    obtain ⟨p, vs, rfl, hs, as⟩ := at_lst.mp a
    obtain ⟨x, hx, ax⟩ := as.get' (i := i) hc
    exact ⟨p, vs, _, x, rfl, rfl, sq_of ((l.e.trans e3) _ _ hs), atI_nat hx, k x G2 H3 (l.trans (Le.heap l.e e3)) ax⟩
theorem ed_itemT {ti : TE} {i : Nat} {c : D ω} {ds : List (D ω)} (h : EvD K O te σ G (.tup ds)) (hi : Ev ti σ G (.int (i : Nat))) (hc : ds[i]? = some c) : EvD K O (tOp (rIxT K) te ti) σ G c := fun H1 e Q k =>
  h H1 e _ fun v G2 H2 l a => hi H2 (e.trans l.h) _ fun H3 e3 => by
    obtain ⟨p, vs, rfl, hs, as⟩ := at_tup.mp a
    obtain ⟨x, hx, ax⟩ := as.get' (i := i) hc
    exact ⟨p, vs, _, x, rfl, rfl, ex_t (l.e.trans e3) hs, atI_nat hx, k x G2 H3 (l.trans (Le.heap l.e e3)) ax⟩
theorem len_d (h : EvD K O te σ G d) (hs : dSeq d = true) : Ev (tCB (fun xs H Q => ∃ p ys, xs = [V.ref p] ∧ (SqL K H p ys ∨ SqT K H p ys) ∧ Q (.int ys.length) H) (tCons te tNil)) σ G (.int (dLen d : Nat)) := fun H1 e Q q =>
  h H1 e _ fun v G2 H2 l a => by
    cases d with
    | lst ds =>
      obtain ⟨p, vs, rfl, hs, as⟩ := at_lst.mp a
      refine ⟨p, vs, rfl, Or.inl (sq_of (l.e _ _ hs)), ?_⟩
      rw [as.len]
      exact q H2 l.h
    | tup ds =>
      obtain ⟨p, vs, rfl, hs, as⟩ := at_tup.mp a
      refine ⟨p, vs, rfl, Or.inr (ex_t l.e hs), ?_⟩
      rw [as.len]
      exact q H2 l.h
    | _ => cases hs
end
theorem inV_int {i : Int} : ∀ {ns : List Int}, inV (.int i) (ns.map V.int) = ns.contains i
  | [] => rfl
  | n :: r => by
    have ih := inV_int (i := i) (ns := r)
    show (eqV (.int n) (.int i) || inV (.int i) (r.map V.int)) = (n :: r).contains i
    rw [ih, List.contains_cons]
    congr 1
    show (n == i) = (i == n)
    exact BEq.comm
end SR
set_option maxRecDepth 100000
set_option maxHeartbeats 4000000
namespace SR
open PySem PySem.Spec PyProof.Rows L2 Evl
/-! ### pairs of ints as a dict -/
def getI (m : List (Int × Int)) (o : Int) : Option Int := (m.find? fun q => decide (q.1 = o)).map (·.2)
def putI (m : List (Int × Int)) (o c : Int) : List (Int × Int) := if (m.any fun q => decide (q.1 = o)) = true then m.map (fun q => if q.1 = o then (q.1, c) else q) else m ++ [(o, c)]
theorem valV_kvI {o : Int} : ∀ {m : List (Int × Int)}, valV (kvI m) (Sum.inl o) = (getI m o).map V.int
  | [] => rfl
  | q :: r => by
    have ih := valV_kvI (o := o) (m := r)
    by_cases h : q.1 = o
    · have e : valV (kvI (q :: r)) (Sum.inl o : Key) = some (V.int q.2) := valV_pos (p := ((Sum.inl q.1 : Key), V.int q.2)) (by show (Sum.inl q.1 : Key) = Sum.inl o; rw [h])
      rw [e]
      simp [getI, h]
    · have e : valV (kvI (q :: r)) (Sum.inl o : Key) = valV (kvI r) (Sum.inl o) := valV_neg (p := ((Sum.inl q.1 : Key), V.int q.2)) (by show ¬ (Sum.inl q.1 : Key) = Sum.inl o; intro z; injection z with z; exact h z)
      rw [e, ih]
      simp [getI, h]
theorem any_kvI {o : Int} {m : List (Int × Int)} : ((kvI m).any fun kv => decide (kv.1 = (Sum.inl o : Key))) = m.any fun q => decide (q.1 = o) := by
  unfold kvI
  rw [List.any_map]
  congr 1
  funext q
  show decide ((Sum.inl q.1 : Key) = Sum.inl o) = decide (q.1 = o)
  exact decide_eq_decide.mpr ⟨fun z => by injection z, fun z => by rw [z]⟩
theorem putK_kvI {o c : Int} {m : List (Int × Int)} : putK (kvI m) (Sum.inl o) (V.int c) = kvI (putI m o c) := by
  unfold putK putI
  rw [any_kvI]
  by_cases h : (m.any fun q => decide (q.1 = o)) = true
  · rw [if_pos h, if_pos h]
    unfold kvI
    rw [List.map_map, List.map_map]
    refine List.map_congr_left fun q _ => ?_
    show (if (Sum.inl q.1 : Key) = Sum.inl o then ((Sum.inl q.1 : Key), V.int c) else (Sum.inl q.1, V.int q.2)) = (Sum.inl (if q.1 = o then (q.1, c) else q).1, V.int (if q.1 = o then (q.1, c) else q).2)
    by_cases hq : q.1 = o
    · rw [if_pos hq, if_pos (by rw [hq])]
    · rw [if_neg hq, if_neg (by intro z; injection z with z; exact hq z)]
  · rw [if_neg h, if_neg h]
    unfold kvI
    rw [List.map_append]
    rfl
theorem optInt_inj {a b : Option Int} (h : a.map V.int = b.map V.int) : a = b := by
  cases a <;> cases b <;> simp at h ⊢
  exact h
theorem getI_put {m : List (Int × Int)} {o c j : Int} : getI (putI m o c) j = if j = o then some c else getI m j := by
  refine optInt_inj ?_
  rw [← valV_kvI, ← putK_kvI, valV_put]
  by_cases h : j = o
  · rw [if_pos (by rw [h]), if_pos h]
    rfl
  · rw [if_neg (by intro z; injection z with z; exact h z), if_neg h, valV_kvI]
theorem len_put {m : List (Int × Int)} {o c : Int} : (putI m o c).length ≤ m.length + 1 := by
  unfold putI
  split <;> simp
theorem keys_put {m : List (Int × Int)} {o c : Int} : (putI m o c).map (·.1) = if (m.any fun q => decide (q.1 = o)) = true then m.map (·.1) else m.map (·.1) ++ [o] := by
  unfold putI
  split
  · rw [List.map_map]
    refine List.map_congr_left fun q _ => ?_
    show (if q.1 = o then (q.1, c) else q).1 = q.1
    split <;> rfl
  · rw [List.map_append]
    rfl
theorem any_keys {m : List (Int × Int)} {o : Int} : (m.any fun q => decide (q.1 = o)) = true ↔ o ∈ m.map (·.1) := by
  rw [List.any_eq_true, List.mem_map]
  exact ⟨fun ⟨q, h1, h2⟩ => ⟨q, h1, of_decide_eq_true h2⟩, fun ⟨q, h1, h2⟩ => ⟨q, h1, decide_eq_true h2⟩⟩
theorem nd_put {m : List (Int × Int)} {o c : Int} (h : (m.map (·.1)).Nodup) : ((putI m o c).map (·.1)).Nodup := by
  rw [keys_put]
  split
  · exact h
  · rename_i n
    rw [List.nodup_append]
    refine ⟨h, by simp, fun a ha b hb => ?_⟩
    rw [List.mem_singleton] at hb
    subst hb
    intro z
    subst z
    exact n (any_keys.mpr ha)
theorem getI_some {m : List (Int × Int)} {o : Int} : (getI m o).isSome = true ↔ o ∈ m.map (·.1) := by
  unfold getI
  rw [Option.isSome_map, List.find?_isSome, List.mem_map]
  exact ⟨fun ⟨q, h1, h2⟩ => ⟨q, h1, of_decide_eq_true h2⟩, fun ⟨q, h1, h2⟩ => ⟨q, h1, decide_eq_true h2⟩⟩
section
variable {ω : Type} {K : PySem.W.Frag} {O : OI ω} {G H : Hp} {td ty tx te ta tb : TE} {σ : L2.St} {a : Addr} {m : List (Int × Int)} {o z c : Int} {v : V} {De : Ends} {tz : TS}
theorem rd_ex {H H' : Hp} {a : Addr} {u : HO} (e : Ex H H') (h : Rd H a u) : Rd H' a u := ex_rd e h
theorem ev_dget2 (hd : Ev td σ G (.ref a)) (hm : G a = some (.dK (kvI m))) (hy : Ev ty σ G (.int o)) (hx : Ev tx σ G (.int z)) : Ev (tDGet2 td ty tx) σ G (.int ((getI m o).getD z)) := fun H1 e Q q =>
  hd H1 e _ fun H2 e2 => ⟨a, rfl, Or.inl ⟨kvI m, Or.inl (e2 a _ (e a _ hm))⟩, hy H2 (e.trans e2) _ fun H3 e3 => hx H3 ((e.trans e2).trans e3) _ fun H4 e4 =>
    ⟨_, DGet.k (k := Sum.inl o) (((e.trans e2).trans e3).trans e4 a _ hm), by
      rw [valV_kvI]
      have q' := q H4 ((e2.trans e3).trans e4)
      cases hg : getI m o with
      | none => rw [hg] at q'; exact q'
      | some x => rw [hg] at q'; exact q'⟩⟩
theorem ev_dget (hd : Ev td σ G (.ref a)) (hm : G a = some (.dK (kvI m))) (hy : Ev ty σ G (.int o)) (hc : getI m o = some c) : Ev (tDGet td ty) σ G (.int c) := fun H1 e Q q =>
  hd H1 e _ fun H2 e2 => hy H2 (e.trans e2) _ fun H3 e3 => ⟨a, .int c, rfl, by
      have h1 := DGet.k (k := Sum.inl o) ((e.trans e2).trans e3 a _ hm)
      rw [valV_kvI, hc] at h1
      exact h1, q H3 (e2.trans e3)⟩
theorem s_setD (hm : H a = some (.dK (kvI m))) (h : Ev te σ H (.int c)) (ho : Ev ta σ H (.ref a)) (hi : Ev tb σ H (.int o)) (hz : m.length < 1000000) (k : ∀ H1, Ex H H1 → De.nx σ (upd H1 a (.dK (kvI (putI m o c))))) :
    tAsg te (gSub ta tb rSetD) De σ H := h H (Ex.refl H) _ fun H1 e1 => ho H1 e1 _ fun H2 e2 => hi H2 (e1.trans e2) _ fun H3 e3 =>
  ⟨a, _, rfl, DPut.k (k := Sum.inl o) (v := .int c) (((e1.trans e2).trans e3) a _ hm) (by unfold kvI; rw [List.length_map]; exact Nat.lt_of_lt_of_le hz (of_decide_eq_true (id (Eq.refl true)))), by
    rw [putK_kvI]
    exact k H3 ((e1.trans e2).trans e3)⟩
theorem q_setD (hm : H a = some (.dK (kvI m))) (h : Ev te σ H (.int c)) (ho : Ev ta σ H (.ref a)) (hi : Ev tb σ H (.int o)) (hz : m.length < 1000000) (k : ∀ H1, Ex H H1 → tz De σ (upd H1 a (.dK (kvI (putI m o c))))) :
    tSeq (tAsg te (gSub ta tb rSetD)) tz De σ H := s_setD (De := { De with nx := tz De }) hm h ho hi hz k
/-- {} -/
theorem q_newD {i : Nat} (k : ∀ p, H p = none → tz De (σ.set i (some (.ref p))) (upd H p (.dK []))) : tSeq (tAsg tDNewK (gName i)) tz De σ H := fun p hp => k p hp

/-! ### a dict's keys walked under a lock -/
mutual
def noObj : D ω → Bool
  | .lst l => noObjL l
  | .tup l => noObjL l
  | .dic _ => false
  | .obj _ => false
  | _ => true
def noObjL : List (D ω) → Bool
  | [] => true
  | d :: l => noObj d && noObjL l
end
theorem sql_swap {A B : Hp} {od : Obj} {kvs : List (Key × V)} {p : Addr} {xs : List V} (hne : ∀ x, x ≠ a → A x = B x) (hA : A a = some (.frz od (.dK kvs))) (h : SqL K A p xs) : SqL K B p xs := by
  rcases h with (h | ⟨o, h⟩) | h
  · have n : p ≠ a := by intro z; subst z; rw [hA] at h; cases h
    exact .inl (.inl (by rw [← hne p n]; exact h))
  · have n : p ≠ a := by intro z; subst z; rw [hA] at h; cases h
    exact .inl (.inr ⟨o, by rw [← hne p n]; exact h⟩)
  · exact .inr h
theorem sqt_swap {A B : Hp} {od : Obj} {kvs : List (Key × V)} {p : Addr} {xs : List V} (hne : ∀ x, x ≠ a → A x = B x) (hA : A a = some (.frz od (.dK kvs))) (h : SqT K A p xs) : SqT K B p xs := by
  rcases h with (h | ⟨o, h⟩) | h
  · have n : p ≠ a := by intro z; subst z; rw [hA] at h; cases h
    exact .inl (.inl (by rw [← hne p n]; exact h))
  · have n : p ≠ a := by intro z; subst z; rw [hA] at h; cases h
    exact .inl (.inr ⟨o, by rw [← hne p n]; exact h⟩)
  · exact .inr h
mutual
theorem at_swap {A B : Hp} {od : Obj} {kvs : List (Key × V)} (hne : ∀ x, x ≠ a → A x = B x) (hA : A a = some (.frz od (.dK kvs))) : ∀ {d : D ω} {v : V}, noObj d = true → At K O A d v → At K O B d v
  | .non, v, _, h => by rw [at_non] at h ⊢; exact h
  | .bl b, v, _, h => by rw [at_bl] at h ⊢; exact h
  | .int i, v, _, h => by rw [at_int] at h ⊢; exact h
  | .str x, v, _, h => by rw [at_str] at h ⊢; exact h
  | .lst l, v, n, h => by
    obtain ⟨p, vs, e, hs, as⟩ := at_lst.mp h
    have np : p ≠ a := by intro z; subst z; rw [hA] at hs; cases hs
    exact at_lst.mpr ⟨p, vs, e, (by rw [← hne p np]; exact hs), atL_swap hne hA (by simpa only [noObj] using n) as⟩
  | .tup l, v, n, h => by
    obtain ⟨p, vs, e, hs, as⟩ := at_tup.mp h
    exact at_tup.mpr ⟨p, vs, e, sqt_swap hne hA hs, atL_swap hne hA (by simpa only [noObj] using n) as⟩
  | .dic m, v, n, h => by simp only [noObj] at n; cases n
  | .obj w, v, n, h => by simp only [noObj] at n; cases n
theorem atL_swap {A B : Hp} {od : Obj} {kvs : List (Key × V)} (hne : ∀ x, x ≠ a → A x = B x) (hA : A a = some (.frz od (.dK kvs))) : ∀ {l : List (D ω)} {vs : List V}, noObjL l = true → AtL K O A l vs → AtL K O B l vs
  | [], vs, _, h => by rw [atL_nil] at h ⊢; exact h
  | d :: l, vs, n, h => by
    obtain ⟨v, r, e, h1, h2⟩ := atL_cons.mp h
    simp only [noObjL, Bool.and_eq_true] at n
    exact atL_cons.mpr ⟨v, r, e, at_swap hne hA n.1 h1, atL_swap hne hA n.2 h2⟩
end
/-- a comprehension over a known dict: within, the dict stands locked -/
theorem ed_lock {t : TE} {d : D ω} {u : HO} (hm : G a = some u) (hu : Mut (some u)) (hk : ∃ kvs, u = .dK kvs) (n : noObj d = true) (h : ∀ od, EvD K O t σ (upd G a (.frz od u)) d) : EvD K O (tLockE t) σ G d := fun H1 e Q k => by
  obtain ⟨kvs, rfl⟩ := hk
  refine ⟨a, _, e a _ hm, hu, fun od => ?_⟩
  have e1 : Ex (upd G a (.frz od (.dK kvs))) (upd H1 a (.frz od (.dK kvs))) := fun x y q => by
    by_cases z : x = a
    · subst z; rw [upd_same] at q ⊢; exact q
    · rw [upd_ne z] at q ⊢; exact e x y q
  refine h od _ e1 _ fun v G2 H2 l av => ⟨l.h a _ upd_same, ?_⟩
  have hG2 : G2 a = some (.frz od (.dK kvs)) := l.g a _ upd_same
  have hH2 : H2 a = some (.frz od (.dK kvs)) := l.h a _ upd_same
  refine k v (upd G2 a (.dK kvs)) (upd H2 a (.dK kvs)) ⟨fun x y q => ?_, fun x y q => ?_, fun x y q => ?_, fun x hg hh => ?_, fun x ps q => ?_⟩ (at_swap (fun x z => by rw [upd_ne z]) hG2 n av)
  · by_cases z : x = a
    · subst z; rw [upd_same, ← q]; exact (e x _ hm).symm
    · rw [upd_ne z]; exact l.h x y (by rw [upd_ne z]; exact q)
  · by_cases z : x = a
    · subst z; rw [upd_same, ← q]; exact hm.symm
    · rw [upd_ne z]; exact l.g x y (by rw [upd_ne z]; exact q)
  · by_cases z : x = a
    · subst z; rw [upd_same] at q ⊢; exact q
    · rw [upd_ne z] at q ⊢; exact l.e x y q
  · by_cases z : x = a
    · subst z; rw [hm] at hg; cases hg
    · rw [upd_ne z]; exact l.f x (by rw [upd_ne z]; exact hg) (by rw [upd_ne z]; exact hh)
  · by_cases z : x = a
    · subst z; rw [upd_same] at q; cases q
    · rw [upd_ne z] at q
      have := l.t x ps q
      rwa [upd_ne z] at this
/-- its keys -/
theorem src_keys {od : Obj} (hd : Ev td σ G (.ref a)) (hm : G a = some (.frz od (.dK (kvI m)))) : Src K O (iKeys td) σ G (m.map fun q => D.int q.1) := fun H1 e R k =>
  hd H1 e _ fun H2 e2 => by
    refine ⟨a, od, rfl, Or.inl ⟨kvI m, e2 a _ (e a _ hm), ?_⟩⟩
    refine k (Itk a od (kvI m)) _ _ G H2 (Le.heap e e2) (by rw [show (m.map fun q => (D.int q.1 : D ω)).length = (kvI m).length by simp [kvI]]; exact walk_keys) (fun H x => x a _ hm) fun i Gi Hi x Hi' eg eh hi y => ?_
    obtain ⟨rfl, kk, vv, h1, rfl⟩ := y
    have hi' : i < m.length := by simpa using hi
    have e3 : (kvI m)[i]? = some (Sum.inl (m[i]).1, V.int (m[i]).2) := by simp [kvI, hi']
    rw [e3] at h1
    cases h1
    exact ⟨.int (m[i]).1, Gi, by simp [hi'], Le.refl eh, at_int.mpr rfl⟩
end
end SR
set_option maxRecDepth 100000
set_option maxHeartbeats 4000000
namespace SR
open PySem PySem.Spec PyProof.Rows L2 Evl
/-! ### sorted ints -/
def srt (l : List Int) : List Int := l.mergeSort fun a b => decide (a ≤ b)
theorem srt_perm {l : List Int} : (srt l).Perm l := List.mergeSort_perm l _
theorem srt_pair {l : List Int} : (srt l).Pairwise (· ≤ ·) := by
  have h := List.pairwise_mergeSort (le := fun a b : Int => decide (a ≤ b)) (fun a b c h1 h2 => decide_eq_true (Int.le_trans (of_decide_eq_true h1) (of_decide_eq_true h2))) (fun a b => by
    rcases Int.le_total a b with h | h
    · simp [h]
    · simp [h]) l
  exact h.imp fun h => of_decide_eq_true h
theorem srt_one {l m : List Int} (h : m.Perm l) (p : m.Pairwise (· ≤ ·)) : m = srt l := PySem.W.ksm_same (h.trans srt_perm.symm) p srt_pair
section
variable {ω : Type} {K : PySem.W.Frag} {O : OI ω} {G H : Hp} {te : TE} {σ : L2.St}
theorem ed_sorted {ns : List Int} (h : EvD K O te σ G (.lst (ns.map D.int))) : EvD K O (tCB (rSortedI K) (tCons te tNil)) σ G (.lst ((srt ns).map D.int)) := fun H1 e Q k =>
  h H1 e _ fun v G2 H2 l a => by
    obtain ⟨p, vs, rfl, hs, as⟩ := at_lst.mp a
    obtain rfl := AtL.ints' as
    refine ⟨p, ns, rfl, sq_of (l.e _ _ hs), fun ns' q hp hq hn => ?_⟩
    obtain rfl := srt_one hp hq
    exact k (.ref q) (upd G2 q _) _ (l.trans (Le.new l.e hn)) (at_lst.mpr ⟨q, _, rfl, upd_same, AtL.ints⟩)
end
/-! ### rows of two ints, their sums by the first -/
def rowD {ω : Type} (c : D ω) (q : Int × Int) : Prop := c = .lst [.int q.1, .int q.2] ∨ c = .tup [.int q.1, .int q.2]
def pairD {ω : Type} (q : Int × Int) : D ω := .tup [.int q.1, .int q.2]
inductive RowsL {ω : Type} : List (D ω) → List (Int × Int) → Prop where
  | nil : RowsL [] []
  | cons {c q l r} (h : rowD c q) (t : RowsL l r) : RowsL (c :: l) (q :: r)
def RowsD {ω : Type} (d : D ω) (rows : List (Int × Int)) : Prop := ∃ l, (d = .lst l ∨ d = .tup l) ∧ RowsL l rows
theorem RowsL.len {ω : Type} {l : List (D ω)} {r : List (Int × Int)} (h : RowsL l r) : l.length = r.length := by
  induction h with
  | nil => rfl
  | cons _ _ ih => simp [ih]
theorem RowsL.get {ω : Type} {l : List (D ω)} {r : List (Int × Int)} (h : RowsL l r) : ∀ {i : Nat} {c : D ω}, l[i]? = some c → ∃ q, r[i]? = some q ∧ rowD c q := by
  induction h with
  | nil => intro i c e; simp at e
  | cons h t ih =>
    intro i c e
    cases i with
    | zero =>
      have e' := Option.some.inj e
      subst e'
      exact ⟨_, rfl, h⟩
    | succ i => exact ih (i := i) (by simpa using e)
theorem RowsL.pairs {ω : Type} : ∀ {r : List (Int × Int)}, RowsL (ω := ω) (r.map pairD) r
  | [] => .nil
  | q :: r => .cons (Or.inr rfl) RowsL.pairs
def step (p : Int) (m : List (Int × Int)) (q : Int × Int) : List (Int × Int) := putI m q.1 (((getI m q.1).getD 0 + q.2).fmod p)
def sums (p : Int) (rows : List (Int × Int)) : List (Int × Int) := rows.foldl (step p) []
theorem sums_more {p : Int} {rows : List (Int × Int)} {i : Nat} {q : Int × Int} (h : rows[i]? = some q) : sums p (rows.take (i + 1)) = step p (sums p (rows.take i)) q := by
  unfold sums
  rw [take_snoc h, List.foldl_append]
  rfl
theorem sums_len {p : Int} : ∀ {rows m : List (Int × Int)}, (rows.foldl (step p) m).length ≤ m.length + rows.length
  | [], m => by simp
  | q :: r, m => by
    have h1 := sums_len (p := p) (rows := r) (m := step p m q)
    have h2 := len_put (m := m) (o := q.1) (c := ((getI m q.1).getD 0 + q.2).fmod p)
    rw [List.foldl_cons, List.length_cons]
    unfold step at h1
    unfold step
    omega
theorem sums_nd {p : Int} : ∀ {rows m : List (Int × Int)}, (m.map (·.1)).Nodup → ((rows.foldl (step p) m).map (·.1)).Nodup
  | [], m, h => h
  | q :: r, m, h => sums_nd (rows := r) (m := step p m q) (nd_put h)
def coef (p : Int) (rows : List (Int × Int)) (o : Int) : Int := (getI (sums p rows) o).getD 0
def coll (p : Int) (rows : List (Int × Int)) : List (Int × Int) := ((srt ((sums p rows).map (·.1))).filter fun o => coef p rows o != 0).map fun o => (o, coef p rows o)
/-- the coefficient: the sum of the second ones at the place, modulo p -/
def tot (rows : List (Int × Int)) (o : Int) : Int := (rows.filter fun q => q.1 == o).foldl (fun s q => s + q.2) 0
theorem et_yes {σ : L2.St} {G : Hp} : EvT tYes σ G true := fun H1 _ Q q => q H1 (Ex.refl H1)
theorem noObj_ints {ω : Type} : ∀ {l : List Int}, noObjL (ω := ω) (l.map D.int) = true
  | [] => rfl
  | n :: r => by
    show (noObj (D.int n : D ω) && noObjL (r.map D.int)) = true
    rw [noObj_ints]
    rfl
theorem ev_int1 {te : TE} {σ : L2.St} {G : Hp} {i : Int} (h : Ev te σ G (.int i)) : Ev (tCB (fun xs H Q => (∃ i, xs = [V.int i] ∧ Q (.int i) H) ∨ ∃ k, xs = [V.bl k] ∧ Q (.int (if k then 1 else 0)) H) (tCons te tNil)) σ G (.int i) := fun H1 e Q q =>
  h H1 e _ fun H2 e2 => Or.inl ⟨i, rfl, q H2 e2⟩
theorem et_truI {te : TE} {K : PySem.W.Frag} {σ : L2.St} {G : Hp} {i : Int} (h : Ev te σ G (.int i)) : EvT (fun σ H Q => te σ H fun x H' => ∃ k, TruV K x H' k ∧ Q k H') σ G (i != 0) := fun H1 e Q q => h H1 e _ fun H2 e2 => ⟨i != 0, rfl, q H2 e2⟩
end SR
set_option maxRecDepth 100000
set_option maxHeartbeats 4000000
/-! The rules whose readings name the written part, with that part told: for a comprehension's block. -/
namespace SR
open PySem PySem.Spec PyProof.Rows L2 Evl
def tTruK (K : PySem.W.Frag) (ta : TE) : TT := fun σ H Q => ta σ H fun x H' => ∃ k, TruV K x H' k ∧ Q k H'
section
variable {X : Cx} {a b e : Expr} {es : List Expr} {ta tb : TE} {t : TA} {tg : TGs} {pos p : Pos} {n k : Nat} {x : Str} {f : Str}
theorem pt_truK (K : PySem.W.Frag) (ha : PE X a ta) (he : ∀ whole, isTrue a X.env whole = (do let v ← whole; standAt a.pos; holding [v] (truthy v))) (hK : X.K = K := by rfl) : PT X a (tTruK K ta) := by
  subst hK
  exact pt_truth ha he
theorem pe_ixK (K : PySem.W.Frag) (ha : PE X a ta) (hb : PE X b tb) (hs : PlainIx b) (hK : X.K = K := by rfl) : PE X (.Subscript a b pos) (tOp (fun x y H Q => rIxL K x y H Q ∨ rIxT K x y H Q) ta tb) := by
  subst hK
  exact pe_ix (IxR.or ix_list ix_tup) ha hb hs
theorem pe_ixLK (K : PySem.W.Frag) (ha : PE X a ta) (hb : PE X b tb) (hs : PlainIx b) (hK : X.K = K := by rfl) : PE X (.Subscript a b pos) (tOp (rIxL K) ta tb) := by
  subst hK
  exact pe_ix ix_list ha hb hs
theorem pe_ixTK (K : PySem.W.Frag) (ha : PE X a ta) (hb : PE X b tb) (hs : PlainIx b) (hK : X.K = K := by rfl) : PE X (.Subscript a b pos) (tOp (rIxT K) ta tb) := by
  subst hK
  exact pe_ix ix_tup ha hb hs
theorem pg_tupK (K : PySem.W.Frag) (hc : X.calm = true) (h : PGs X es tg) (hn : (assignEach es X.env).length = k := by rfl) (hst : (assignEach es X.env).findIdx? (·.1) = none := by rfl) (hK : X.K = K := by rfl) : PG X (.Tuple es n pos) (gTup K k tg) := by
  subst hK
  exact pg_tup hc h hn hst
theorem pe_fldK (K : PySem.W.Frag) (he : PE X e ta) (hb : attributeBase e f X.env (eval e X.env) = eval e X.env := by rfl) (hK : X.K = K := by rfl) : PE X (.Attribute e f pos) (tFld K ta f) := by
  subst hK
  exact pe_fld he hb
theorem cr_allK (K : PySem.W.Frag) (hc : X.calm = true) (hK : X.K = K := by rfl) : CallR X (.builtin "all") (rAll K) := by
  subst hK
  exact cr_all hc
theorem cr_anyK (K : PySem.W.Frag) (hc : X.calm = true) (hK : X.K = K := by rfl) : CallR X (.builtin "any") (rAny K) := by
  subst hK
  exact cr_any hc
theorem call_lenK (K : PySem.W.Frag) (hK : X.K = K := by rfl) : CallR X (.builtin "len") (fun xs H Q => ∃ p ys, xs = [V.ref p] ∧ (SqL K H p ys ∨ SqT K H p ys) ∧ Q (.int ys.length) H) := by
  subst hK
  exact call_len_seq
theorem call_isiK' (K : PySem.W.Frag) (hK : X.K = K := by rfl) : CallR X (.builtin "isinstance") (rIsi K) := by
  subst hK
  exact call_isi
theorem call_isiTK (K : PySem.W.Frag) (hK : X.K = K := by rfl) : CallR X (.builtin "isinstance") (rIsiT K) := by
  subst hK
  exact call_isiT
end
end SR
set_option maxRecDepth 100000
set_option maxHeartbeats 4000000
namespace SR
open PySem PySem.Spec PyProof.Rows L2 Evl
theorem putI_new {a : List (Int × Int)} {o c : Int} (h : o ∉ a.map (·.1)) : putI a o c = a ++ [(o, c)] := by
  unfold putI
  rw [if_neg (fun z => h (any_keys.mp z))]
theorem mergeK_kvI : ∀ {b a : List (Int × Int)}, ((a ++ b).map (·.1)).Nodup → mergeK (kvI a) (kvI b) = kvI (a ++ b)
  | [], a, _ => by rw [List.append_nil]; rfl
  | q :: r, a, h => by
    have hn : q.1 ∉ a.map (·.1) := by
      rw [List.map_append, List.map_cons, List.nodup_append] at h
      intro z
      exact h.2.2 q.1 z q.1 (List.mem_cons_self ..) rfl
    show mergeK (putK (kvI a) (Sum.inl q.1) (V.int q.2)) (kvI r) = kvI (a ++ q :: r)
    rw [putK_kvI, putI_new hn]
    have e : a ++ q :: r = (a ++ [q]) ++ r := by simp
    rw [e]
    exact mergeK_kvI (by rw [← e]; exact h)
theorem nd_map_fst {l : List Int} {f : Int → Int} : ((l.map fun o => (o, f o)).map (·.1)) = l := by
  rw [List.map_map]
  exact List.map_id' l
theorem coll_nd {p : Int} {rows : List (Int × Int)} : ((coll p rows).map (·.1)).Nodup := by
  unfold coll
  rw [nd_map_fst]
  exact (srt_perm.nodup_iff.mpr (sums_nd (rows := rows) (m := []) List.nodup_nil)).filter _
theorem coll_len {p : Int} {rows : List (Int × Int)} : (coll p rows).length ≤ rows.length := by
  unfold coll
  rw [List.length_map]
  refine Nat.le_trans (List.length_filter_le ..) ?_
  rw [srt_perm.length_eq, List.length_map]
  have h5 := sums_len (p := p) (rows := rows) (m := [])
  simp only [List.length_nil] at h5
  unfold sums
  omega
/-! ### what a Filter holds -/
structure FilS where
  p : Int
  ps : List (Int × Int)
def flds (p : Int) (tp kd : Addr) : List (Str × V) := [("prime", .int p), ("pairs", .ref tp), ("coefficients", .ref kd)]
abbrev TsAt (K : PySem.W.Frag) (H : Hp) (ts : List Addr) (ps : List (Int × Int)) : Prop := Paired (fun t q => SqT K H t [.int q.1, .int q.2]) ts ps
def FilAt (K : PySem.W.Frag) (C : Addr) (H : Hp) (a : Addr) (w : FilS) : Prop := ∃ dx tp o ts kd, H a = some (.ins C dx (flds w.p tp kd)) ∧ o.dict = none ∧ H tp = some (.frz o (.tup (ts.map V.ref))) ∧ TsAt K H ts w.ps ∧ H kd = some (.dK (kvI w.ps))
theorem TsAt.mono {K : PySem.W.Frag} {H H' : Hp} (e : Ex H H') {ts : List Addr} {ps : List (Int × Int)} (h : TsAt K H ts ps) : TsAt K H' ts ps := Paired.mapP h fun _ _ q => ex_t e q
def FilO (K : PySem.W.Frag) (C : Addr) : OI FilS where
  at_ := FilAt K C
  mono := fun e ⟨dx, tp, o, ts, kd, h1, h2, h3, h4, h5⟩ => ⟨dx, tp, o, ts, kd, e _ _ h1, h2, e _ _ h3, h4.mono e, e _ _ h5⟩
theorem atL_pairs {ω : Type} {K : PySem.W.Frag} {O : OI ω} {H : Hp} : ∀ {ts : List Addr} {ps : List (Int × Int)}, TsAt K H ts ps → AtL K O H (ps.map pairD) (ts.map V.ref)
  | _, _, .nil => atL_nil.mpr rfl
  | _, _, .cons h t => atL_cons.mpr ⟨_, _, rfl, at_tup.mpr ⟨_, _, rfl, h, atL_cons.mpr ⟨_, _, rfl, at_int.mpr rfl, atL_cons.mpr ⟨_, _, rfl, at_int.mpr rfl, atL_nil.mpr rfl⟩⟩⟩, atL_pairs t⟩
theorem pairs_atL {ω : Type} {K : PySem.W.Frag} {O : OI ω} {H : Hp} : ∀ {ps : List (Int × Int)} {vs : List V}, AtL K O H (ps.map pairD) vs → ∃ ts : List Addr, vs = ts.map V.ref ∧ TsAt K H ts ps
  | [], vs, h => ⟨[], by rw [atL_nil.mp h]; rfl, .nil⟩
  | q :: r, vs, h => by
    obtain ⟨v, w, rfl, h1, h2⟩ := atL_cons.mp h
    obtain ⟨t, us, rfl, hs, as⟩ := at_tup.mp h1
    obtain ⟨x1, r1, rfl, a1, n1⟩ := atL_cons.mp as
    obtain ⟨x2, r2, rfl, a2, n2⟩ := atL_cons.mp n1
    obtain rfl := atL_nil.mp n2
    obtain rfl := at_int.mp a1
    obtain rfl := at_int.mp a2
    obtain ⟨ts, rfl, ht⟩ := pairs_atL h2
    exact ⟨t :: ts, rfl, .cons hs ht⟩
/-- the class as the top has made it, for its fields -/
structure FilC (K : PySem.W.Frag) (C : Addr) : Prop where
  cl : Cls K C
  n1 : NoAttr K C "prime"
  n2 : NoAttr K C "pairs"
  n3 : NoAttr K C "coefficients"
theorem lk1 {p : Int} {tp kd : Addr} : (flds p tp kd).lookup ("prime" : Str) = some (.int p) := by
  unfold flds
  simp [List.lookup]
theorem lk2 {p : Int} {tp kd : Addr} : (flds p tp kd).lookup ("pairs" : Str) = some (.ref tp) := by
  unfold flds
  have h : (("pairs" : Str) == "prime") = false := by decide +kernel
  simp [List.lookup, h]
theorem lk3 {p : Int} {tp kd : Addr} : (flds p tp kd).lookup ("coefficients" : Str) = some (.ref kd) := by
  unfold flds
  have h : (("coefficients" : Str) == "prime") = false := by decide +kernel
  have h2 : (("coefficients" : Str) == "pairs") = false := by decide +kernel
  simp [List.lookup, h, h2]
theorem lkN {p : Int} {tp kd : Addr} {m : Str} (h1 : (m == "prime") = false) (h2 : (m == "pairs") = false) (h3 : (m == "coefficients") = false) : (flds p tp kd).lookup m = none := by
  unfold flds
  simp [List.lookup, h1, h2, h3]
section
variable {K : PySem.W.Frag} {C : Addr} {G H : Hp} {te ta : TE} {σ : L2.St} {w : FilS}
theorem ev_prime (c : FilC K C) (h : EvD K (FilO K C) te σ G (.obj w)) : Ev (tFld K te "prime") σ G (.int w.p) := fun H1 e Q q =>
  h H1 e _ fun v G2 H2 l a => by
    obtain ⟨x, rfl, dx, tp, o, ts, kd, h1, h2, h3, h4, h5⟩ := at_obj.mp a
    exact ⟨x, C, dx, _, _, rfl, l.e _ _ h1, c.cl, c.n1, lk1, q H2 l.h⟩
/-- self.pairs: the tuple -/
theorem ed_pairs (c : FilC K C) (h : EvD K (FilO K C) te σ G (.obj w)) : EvD K (FilO K C) (tFld K te "pairs") σ G (.tup (w.ps.map pairD)) := fun H1 e Q k =>
  h H1 e _ fun v G2 H2 l a => by
    obtain ⟨x, rfl, dx, tp, o, ts, kd, h1, h2, h3, h4, h5⟩ := at_obj.mp a
    exact ⟨x, C, dx, _, _, rfl, l.e _ _ h1, c.cl, c.n2, lk2, k _ G2 H2 l (at_tup.mpr ⟨tp, _, rfl, Or.inl (Or.inr ⟨o, h3⟩), atL_pairs h4⟩)⟩
theorem ed_coefs (c : FilC K C) (h : EvD K (FilO K C) te σ G (.obj w)) : EvD K (FilO K C) (tFld K te "coefficients") σ G (.dic w.ps) := fun H1 e Q k =>
  h H1 e _ fun v G2 H2 l a => by
    obtain ⟨x, rfl, dx, tp, o, ts, kd, h1, h2, h3, h4, h5⟩ := at_obj.mp a
    exact ⟨x, C, dx, _, _, rfl, l.e _ _ h1, c.cl, c.n3, lk3, k _ G2 H2 l (at_dic.mpr ⟨kd, rfl, h5⟩)⟩
end
end SR
set_option maxRecDepth 100000
set_option maxHeartbeats 4000000
namespace SR
open PySem PySem.Spec PyProof.Rows L2 Evl
/-! ### == of plain data -/
mutual
def toP {ω : Type} : D ω → PyData
  | .non => .none | .bl b => .bool b | .int i => .int i | .str x => .str x
  | .lst l => .list (toPL l) | .tup l => .tuple (toPL l) | .dic _ => .none | .obj _ => .none
def toPL {ω : Type} : List (D ω) → List PyData
  | [] => []
  | d :: l => toP d :: toPL l
end
section
variable {ω : Type} {K : PySem.W.Frag} {O : OI ω} {H : Hp}
mutual
theorem dp_of : ∀ {d : D ω} {v : V}, noObj d = true → At K O H d v → Dp K H v (toP d)
  | .non, v, _, h => by rw [at_non.mp h]; exact .non
  | .bl b, v, _, h => by rw [at_bl.mp h]; exact .bl b
  | .int i, v, _, h => by rw [at_int.mp h]; exact .int i
  | .str x, v, _, h => by rw [at_str.mp h]; exact .str x
  | .lst l, v, n, h => by
    obtain ⟨a, vs, rfl, hs, as⟩ := at_lst.mp h
    exact .lst (sq_of hs) (dpl_of (by simpa only [noObj] using n) as)
  | .tup l, v, n, h => by
    obtain ⟨a, vs, rfl, hs, as⟩ := at_tup.mp h
    exact .tup hs (dpl_of (by simpa only [noObj] using n) as)
  | .dic m, v, n, h => by simp only [noObj] at n; cases n
  | .obj w, v, n, h => by simp only [noObj] at n; cases n
theorem dpl_of : ∀ {l : List (D ω)} {vs : List V}, noObjL l = true → AtL K O H l vs → DpAll K H vs (toPL l)
  | [], vs, _, h => by rw [atL_nil.mp h]; exact .nil
  | d :: l, vs, n, h => by
    obtain ⟨v, r, rfl, h1, h2⟩ := atL_cons.mp h
    simp only [noObjL, Bool.and_eq_true] at n
    exact .cons (dp_of n.1 h1) (dpl_of n.2 h2)
end
end
theorem ev_eqD {ω : Type} {K : PySem.W.Frag} {O : OI ω} {G : Hp} {ta tb : TE} {σ : L2.St} {d e : D ω} {b : Bool} (h1 : EvD K O ta σ G d) (h2 : EvD K O tb σ G e) (n1 : noObj d = true) (n2 : noObj e = true) (s1 : SeqAt.shaped (toP d) = true) (s2 : SeqAt.shaped (toP e) = true) (hb : PyData.eqv (toP d) (toP e) = b) :
    Ev (tOp (rEqD K) ta tb) σ G (.bl b) := fun H1 e1 Q q =>
  h1 H1 e1 _ fun v G2 H2 l a => h2 H2 (e1.trans l.h) _ fun u G3 H3 l3 a3 => ⟨toP d, toP e, dp_of n1 ((a.mono l.e).mono l3.h), dp_of n2 (a3.mono l3.e), s1, s2, by rw [hb]; exact q H3 (l.h.trans l3.h)⟩
theorem ev_neD {ω : Type} {K : PySem.W.Frag} {O : OI ω} {G : Hp} {ta tb : TE} {σ : L2.St} {d e : D ω} {b : Bool} (h1 : EvD K O ta σ G d) (h2 : EvD K O tb σ G e) (n1 : noObj d = true) (n2 : noObj e = true) (s1 : SeqAt.shaped (toP d) = true) (s2 : SeqAt.shaped (toP e) = true) (hb : PyData.eqv (toP d) (toP e) = b) :
    Ev (tOp (rNeD K) ta tb) σ G (.bl (!b)) := fun H1 e1 Q q =>
  h1 H1 e1 _ fun v G2 H2 l a => h2 H2 (e1.trans l.h) _ fun u G3 H3 l3 a3 => ⟨toP d, toP e, dp_of n1 ((a.mono l.e).mono l3.h), dp_of n2 (a3.mono l3.e), s1, s2, by rw [hb]; exact q H3 (l.h.trans l3.h)⟩
/-! ### lists of pairs of ints -/
theorem noObj_pairs {ω : Type} : ∀ {ps : List (Int × Int)}, noObjL (ω := ω) (ps.map pairD) = true
  | [] => rfl
  | q :: r => by
    show (noObj (pairD q : D ω) && noObjL (r.map pairD)) = true
    rw [noObj_pairs]
    rfl
theorem lay_pairs {ω : Type} : ∀ {ps : List (Int × Int)}, PyData.canLayAll0 (toPL (ω := ω) (ps.map pairD)) = true ∧ PyData.depthAll (toPL (ω := ω) (ps.map pairD)) ≤ 1
  | [] => ⟨rfl, Nat.zero_le _⟩
  | q :: r => by
    have ih := lay_pairs (ω := ω) (ps := r)
    refine ⟨?_, ?_⟩
    · show (PyData.canLay0 (toP (pairD q : D ω)) && PyData.canLayAll0 (toPL (r.map pairD))) = true
      rw [ih.1]
      rfl
    · show max (PyData.depth (toP (pairD q : D ω))) (PyData.depthAll (toPL (r.map pairD))) ≤ 1
      have h1 : PyData.depth (toP (pairD q : D ω)) = 1 := rfl
      rw [h1]
      have := ih.2
      omega
theorem shaped_tup {ω : Type} {ps : List (Int × Int)} : SeqAt.shaped (toP (D.tup (ω := ω) (ps.map pairD))) = true := by
  have h := lay_pairs (ω := ω) (ps := ps)
  show (PyData.canLayAll0 (toPL (ps.map pairD)) && decide (PyData.depthAll (toPL (ω := ω) (ps.map pairD)) + 1 ≤ 64)) = true
  rw [h.1, decide_eq_true (by have := h.2; omega)]
  rfl
theorem shaped_lst {ω : Type} {ps : List (Int × Int)} : SeqAt.shaped (toP (D.lst (ω := ω) (ps.map pairD))) = true := by
  have h := lay_pairs (ω := ω) (ps := ps)
  show (PyData.canLayAll0 (toPL (ps.map pairD)) && decide (PyData.depthAll (toPL (ω := ω) (ps.map pairD)) + 1 ≤ 64)) = true
  rw [h.1, decide_eq_true (by have := h.2; omega)]
  rfl
theorem eqv_pairs {ω : Type} : ∀ {ps qs : List (Int × Int)}, PyData.eqvAll (toPL (ω := ω) (ps.map pairD)) (toPL (ω := ω) (qs.map pairD)) = decide (ps = qs)
  | [], [] => rfl
  | [], q :: s => rfl
  | p :: r, [] => rfl
  | p :: r, q :: s => by
    have ih := eqv_pairs (ω := ω) (ps := r) (qs := s)
    show (PyData.eqv (toP (pairD p : D ω)) (toP (pairD q : D ω)) && PyData.eqvAll (toPL (r.map pairD)) (toPL (s.map pairD))) = decide (p :: r = q :: s)
    rw [ih]
    have h1 : PyData.eqv (toP (pairD p : D ω)) (toP (pairD q : D ω)) = decide (p = q) := by
      show ((p.1 == q.1) && ((p.2 == q.2) && true)) = decide (p = q)
      obtain ⟨a, b⟩ := p
      obtain ⟨c, d⟩ := q
      by_cases h : a = c <;> by_cases h' : b = d <;> simp [h, h']
    rw [h1]
    by_cases h : p = q <;> by_cases h' : r = s <;> simp [h, h']
/-! ### list(t), bool(t), tests of a tuple -/
section
variable {ω : Type} {K : PySem.W.Frag} {O : OI ω} {G : Hp} {te : TE} {σ : L2.St} {l : List (D ω)}
abbrev rListOf (K : PySem.W.Frag) : List V → Hp → VK → Prop := fun xs H Q => ∃ p ys, xs = [V.ref p] ∧ (SqL K H p ys ∨ SqT K H p ys) ∧ ∀ l, H l = none → Q (.ref l) (upd H l (.lst ys))
theorem ed_listT (h : EvD K O te σ G (.tup l)) : EvD K O (tCB (rListOf K) (tCons te tNil)) σ G (.lst l) := fun H1 e Q k =>
  h H1 e _ fun v G2 H2 le a => by
    obtain ⟨p, vs, rfl, hs, as⟩ := at_tup.mp a
    exact ⟨p, vs, rfl, Or.inr (ex_t le.e hs), fun q hq => k _ (upd G2 q (.lst vs)) _ (le.trans (Le.new le.e hq)) (at_lst.mpr ⟨q, vs, rfl, upd_same, as.mono (Ex.new (none_of_ex le.e hq))⟩)⟩
theorem ed_listL (h : EvD K O te σ G (.lst l)) : EvD K O (tCB (rListOf K) (tCons te tNil)) σ G (.lst l) := fun H1 e Q k =>
  h H1 e _ fun v G2 H2 le a => by
    obtain ⟨p, vs, rfl, hs, as⟩ := at_lst.mp a
    exact ⟨p, vs, rfl, Or.inl (sq_of (le.e _ _ hs)), fun q hq => k _ (upd G2 q (.lst vs)) _ (le.trans (Le.new le.e hq)) (at_lst.mpr ⟨q, vs, rfl, upd_same, as.mono (Ex.new (none_of_ex le.e hq))⟩)⟩
theorem et_truT (h : EvD K O te σ G (.tup l)) : EvT (tTruK K te) σ G (!l.isEmpty) := fun H1 e Q q =>
  h H1 e _ fun v G2 H2 le a => by
    obtain ⟨p, vs, rfl, hs, as⟩ := at_tup.mp a
    refine ⟨!l.isEmpty, Or.inr (Or.inl ⟨vs, ex_t le.e hs, ?_⟩), q H2 le.h⟩
    have h1 := as.len
    cases vs <;> cases l <;> first | rfl | simp at h1
theorem et_truL (h : EvD K O te σ G (.lst l)) : EvT (tTruK K te) σ G (!l.isEmpty) := fun H1 e Q q =>
  h H1 e _ fun v G2 H2 le a => by
    obtain ⟨p, vs, rfl, hs, as⟩ := at_lst.mp a
    refine ⟨!l.isEmpty, Or.inl ⟨vs, sq_of (le.e _ _ hs), ?_⟩, q H2 le.h⟩
    have h1 := as.len
    cases vs <;> cases l <;> first | rfl | simp at h1
end
section
variable {X : Cx}
def rBoolT (K : PySem.W.Frag) : List V → Hp → VK → Prop := fun xs H Q => ∃ (a : Addr) (zs : List V), xs = [.ref a] ∧ SqT K H a zs ∧ Q (.bl (!zs.isEmpty)) H
theorem call_boolT (K : PySem.W.Frag) (hK : X.K = K := by rfl) : CallR X (.type "bool") (rBoolT K) := by
  subst hK
  intro pins s σ H xs us Q I r h
  obtain ⟨a, zs, rfl, hq, q⟩ := h
  obtain rfl := Vals.ref1 r
  obtain ⟨its, rv, pl, hz⟩ := I.tuple hq
  have hl := line63
  have hlen := rv.length
  refine bool_of (truthy_tuple pl (by simp only [List.size_toArray]; omega) ?_)
  exact ⟨.bl (!zs.isEmpty), H, I.tok _, by rw [isEmpty_of rv]; rfl, q⟩
end
theorem ev_boolT {ω : Type} {K : PySem.W.Frag} {O : OI ω} {G : Hp} {te : TE} {σ : L2.St} {l : List (D ω)} (h : EvD K O te σ G (.tup l)) : Ev (tCB (rBoolT K) (tCons te tNil)) σ G (.bl (!l.isEmpty)) := fun H1 e Q q =>
  h H1 e _ fun v G2 H2 le a => by
    obtain ⟨p, vs, rfl, hs, as⟩ := at_tup.mp a
    refine ⟨p, vs, rfl, ex_t le.e hs, ?_⟩
    have h1 := as.len
    have e2 : (!vs.isEmpty) = !l.isEmpty := by cases vs <;> cases l <;> first | rfl | simp at h1
    rw [e2]
    exact q H2 le.h
end SR
set_option maxRecDepth 100000
set_option maxHeartbeats 4000000
namespace SR
open PySem PySem.Spec PyProof.Rows L2 Evl
def topS (i : Nat) : Stmt := PySem.Challenge.pw_seenrows_k02_filters_refused.main.body.getD i (.Pass ⟨0, 0, 0, 0⟩)
section
variable {ω : Type} {P : Program} {w : World} {K : PySem.W.Frag} {mg : Str → Option Value} {base : Heap} {O : OI ω} {Ty : ω → Value}
/-! ### is_int -/
def rIsInt : List (D ω) → D ω → Prop := fun ds r => ∃ d, ds = [d] ∧ r = .bl (dInt d)
abbrev is_int_S : Stmt := topS 9
abbrev is_int_N : List Str := ["thing"]
theorem is_int_sc : FnScope is_int_N ["thing"] (defScope is_int_S) := ⟨rfl, rfl, rfl, by decide +kernel, rfl, by decide +kernel, by decide +kernel⟩
theorem ok_is_int {f : Addr} {fd : FuncData} (F : Fun K "is_int" "is_int" is_int_S f fd) (B : Bi mg) (OK : OT K O Ty) : FnOk P w K mg base CX0 1 f fd ["thing"] (SpD K O rIsInt) := by
  refine F.ok is_int_sc (fun vs H Q E h => ?_) (fun cdv A outer s H vs Q E hr h => ?_)
  · obtain ⟨G, ds, d, e, as, ⟨d0, rfl, rfl⟩, k⟩ := h
    exact as.len
  · obtain ⟨G, ds, d, e, as, ⟨d0, rfl, rfl⟩, k⟩ := h
    obtain ⟨v, r, rfl, a, n⟩ := atL_cons.mp as
    obtain rfl := atL_nil.mp n
    refine ⟨_, (pss_one (ps_ret (pe_and (pe_callB (call_isiK' K) (by rfl) B.isinstance (by decide +kernel) (pa_cons (pv 0) (pa_cons (pe_bltn (v := .ty "int") (by rfl) B.int (by decide +kernel) rfl) pa_nil))) (pe_one (pe_not (pe_callB (call_isiK' K) (by rfl) B.isinstance (by decide +kernel) (pa_cons (pv 0) (pa_cons (pe_bltn (v := .ty "bool") (by rfl) B.bool (by decide +kernel) rfl) pa_nil)))))))), ?_⟩
    exact s_retD (ed_of (ev_is (ev_andV (isi_int OK (ed_var (i := 0) rfl a)) fun _ => ev_notV (isi_bool OK (ed_var (i := 0) rfl a))) (by cases d0 <;> rfl)) (at_bl.mpr rfl)) e k
/-! ### is_list -/
def rIsList : List (D ω) → D ω → Prop := fun ds r => ∃ d, ds = [d] ∧ r = .bl (dSeq d)
abbrev is_list_S : Stmt := topS 10
abbrev is_list_N : List Str := ["thing"]
theorem is_list_sc : FnScope is_list_N ["thing"] (defScope is_list_S) := ⟨rfl, rfl, rfl, by decide +kernel, rfl, by decide +kernel, by decide +kernel⟩
theorem ok_is_list {f : Addr} {fd : FuncData} (F : Fun K "is_list" "is_list" is_list_S f fd) (B : Bi mg) (OK : OT K O Ty) : FnOk P w K mg base CX0 1 f fd ["thing"] (SpD K O rIsList) := by
  refine F.ok is_list_sc (fun vs H Q E h => ?_) (fun cdv A outer s H vs Q E hr h => ?_)
  · obtain ⟨G, ds, d, e, as, ⟨d0, rfl, rfl⟩, k⟩ := h
    exact as.len
  · obtain ⟨G, ds, d, e, as, ⟨d0, rfl, rfl⟩, k⟩ := h
    obtain ⟨v, r, rfl, a, n⟩ := atL_cons.mp as
    obtain rfl := atL_nil.mp n
    refine ⟨_, (pss_one (ps_ret (pe_callB (call_isiTK K) (by rfl) B.isinstance (by decide +kernel) (pa_cons (pv 0) (pa_cons (pe_tup (pa_cons (pe_bltn (v := .ty "list") (by rfl) B.list (by decide +kernel) rfl) (pa_cons (pe_bltn (v := .ty "tuple") (by rfl) B.tuple (by decide +kernel) rfl) pa_nil))) pa_nil))))), ?_⟩
    exact s_retD (ed_of (isi_seq OK (ed_var rfl a)) (at_bl.mpr rfl)) e k
/-! ### is_prime -/
def primes : List Int := [2, 3, 5, 7]
def dPrime : D ω → Bool | .int i => primes.contains i | _ => false
def rIsPrime : List (D ω) → D ω → Prop := fun ds r => ∃ d, ds = [d] ∧ r = .bl (dPrime d)
abbrev is_prime_S : Stmt := topS 11
abbrev is_prime_N : List Str := ["thing"]
theorem is_prime_sc : FnScope is_prime_N ["thing"] (defScope is_prime_S) := ⟨rfl, rfl, rfl, by decide +kernel, rfl, by decide +kernel, by decide +kernel⟩
theorem ok_is_prime {f a_PRIMES : Addr} {fd : FuncData} (F : Fun K "is_prime" "is_prime" is_prime_S f fd) (g_PRIMES : mg "PRIMES" = some (.ref a_PRIMES)) (pr : ∀ H, SqT K H a_PRIMES (primes.map V.int)) (h_is_int : DefOk P w K mg base 1 "is_int" ["thing"] (SpD K O rIsInt)) :
    FnOk P w K mg base CX0 2 f fd ["thing"] (SpD K O rIsPrime) := by
  refine F.ok is_prime_sc (fun vs H Q E h => ?_) (fun cdv A outer s H vs Q E hr h => ?_)
  · obtain ⟨G, ds, d, e, as, ⟨d0, rfl, rfl⟩, k⟩ := h
    exact as.len
  · obtain ⟨G, ds, d, e, as, ⟨d0, rfl, rfl⟩, k⟩ := h
    obtain ⟨v, r, rfl, a, n⟩ := atL_cons.mp as
    obtain rfl := atL_nil.mp n
    refine ⟨_, (pss_one (ps_ret (pe_and (pe_callD h_is_int (hr.mono (by first | decide | exact Nat.le_refl _)) (pa_cons (pv 0) pa_nil)) (pe_one (pe_cmpR op_in_seq (pv 0) (pe_glob (v := .ref a_PRIMES) rfl g_PRIMES rfl) rfl))))), ?_⟩
    refine s_retD (ed_of (v := .bl (dPrime d0)) (ev_is (ev_andV (a := dInt d0) (b := dPrime d0) (ev_bl (ed_call (eda_cons (ed_var (i := 0) rfl a) eda_nil) ⟨d0, rfl, rfl⟩)) fun hb => ?_) (by cases d0 <;> rfl)) (at_bl.mpr rfl)) e k
    cases d0 with
    | int i =>
      rw [at_int] at a
      subst a
      refine ev_is (ev_op (ev_var (i := 0) rfl) ev_c (rv_isT (pr G) rfl rfl)) ?_
      show V.bl (inV (.int i) (primes.map V.int)) = V.bl (primes.contains i)
      rw [inV_int]
    | _ => cases hb
/-! ### is_term -/
def dTerm : D ω → Bool
  | .lst [.int _, .int _] => true
  | .tup [.int _, .int _] => true
  | _ => false
def rIsTerm : List (D ω) → D ω → Prop := fun ds r => ∃ d, ds = [d] ∧ r = .bl (dTerm d)
theorem dTerm_of {d : D ω} (h : dTerm d = true) : ∃ i j, d = .lst [.int i, .int j] ∨ d = .tup [.int i, .int j] := by
  unfold dTerm at h
  split at h
  · exact ⟨_, _, Or.inl rfl⟩
  · exact ⟨_, _, Or.inr rfl⟩
  · cases h
theorem dItem_of {d : D ω} (hs : dSeq d = true) (hl : dLen d = 2) : ∃ a b, dItem d 0 = some a ∧ dItem d 1 = some b ∧ (dInt a && dInt b) = dTerm d := by
  cases d with
  | lst l =>
    match l, hl with
    | [a, b], _ => exact ⟨a, b, rfl, rfl, by cases a <;> cases b <;> rfl⟩
  | tup l =>
    match l, hl with
    | [a, b], _ => exact ⟨a, b, rfl, rfl, by cases a <;> cases b <;> rfl⟩
  | _ => cases hs
theorem dTerm_no {d : D ω} (h : dSeq d = true → dLen d ≠ 2) : dTerm d = false := by
  cases q : dTerm d with
  | false => rfl
  | true =>
    obtain ⟨i, j, rfl | rfl⟩ := dTerm_of q
    · exact absurd rfl (h rfl)
    · exact absurd rfl (h rfl)
abbrev is_term_S : Stmt := topS 12
abbrev is_term_N : List Str := ["thing"]
theorem is_term_sc : FnScope is_term_N ["thing"] (defScope is_term_S) := ⟨rfl, rfl, rfl, by decide +kernel, rfl, by decide +kernel, by decide +kernel⟩
theorem ok_is_term {f : Addr} {fd : FuncData} (F : Fun K "is_term" "is_term" is_term_S f fd) (B : Bi mg) (h_is_int : DefOk P w K mg base 1 "is_int" ["thing"] (SpD K O rIsInt)) (h_is_list : DefOk P w K mg base 1 "is_list" ["thing"] (SpD K O rIsList)) :
    FnOk P w K mg base CX0 2 f fd ["thing"] (SpD K O rIsTerm) := by
  refine F.ok is_term_sc (fun vs H Q E h => ?_) (fun cdv A outer s H vs Q E hr h => ?_)
  · obtain ⟨G, ds, d, e, as, ⟨d0, rfl, rfl⟩, k⟩ := h
    exact as.len
  · obtain ⟨G, ds, d, e, as, ⟨d0, rfl, rfl⟩, k⟩ := h
    obtain ⟨v, r, rfl, a, n⟩ := atL_cons.mp as
    obtain rfl := atL_nil.mp n
    refine ⟨_, (pss_one (ps_ret (pe_and (pe_callD h_is_list (hr.mono (by first | decide | exact Nat.le_refl _)) (pa_cons (pv 0) pa_nil)) (pe_and (pe_cmpR op_eq (pe_callB (call_lenK K) (by rfl) B.len (by decide +kernel) (pa_cons (pv 0) pa_nil)) pe_int (nomark _)) (pe_and (pe_callD h_is_int (hr.mono (by first | decide | exact Nat.le_refl _)) (pa_cons (pe_ixK K (pv 0) pe_int (fun _ _ => rfl)) pa_nil)) (pe_one (pe_callD h_is_int (hr.mono (by first | decide | exact Nat.le_refl _)) (pa_cons (pe_ixK K (pv 0) pe_int (fun _ _ => rfl)) pa_nil)))))))), ?_⟩
    refine s_retD (ed_of (v := .bl (dTerm d0)) ?_ (at_bl.mpr rfl)) e k
    have hv : EvD K O (tVar 0) [some v] G d0 := ed_var rfl a
    by_cases hs : dSeq d0 = true ∧ dLen d0 = 2
    · obtain ⟨x, y, hx, hy, hxy⟩ := dItem_of hs.1 hs.2
      refine ev_is (ev_andV (a := true) (b := dTerm d0) (ev_is (ev_bl (ed_call (eda_cons hv eda_nil) ⟨d0, rfl, rfl⟩)) (by rw [hs.1])) fun _ => ?_) rfl
      refine ev_is (ev_andV (a := true) (b := dTerm d0) (ev_is (ev_op (len_d hv hs.1) ev_c (rv_eq rfl)) (by rw [hs.2]; rfl)) fun _ => ?_) rfl
      refine ev_is (ev_andV (a := dInt x) (b := dInt y) (ev_bl (ed_call (eda_cons (ed_item hv (i := 0) ev_c hx) eda_nil) ⟨x, rfl, rfl⟩)) fun _ => ?_) (by rw [hxy])
      exact ev_bl (ed_call (eda_cons (ed_item hv (i := 1) ev_c hy) eda_nil) ⟨y, rfl, rfl⟩)
    · have hn : dTerm d0 = false := dTerm_no fun h1 h2 => hs ⟨h1, h2⟩
      rw [hn]
      refine ev_is (ev_andV (a := dSeq d0) (b := false) (ev_bl (ed_call (eda_cons hv eda_nil) ⟨d0, rfl, rfl⟩)) fun h1 => ?_) (by cases dSeq d0 <;> rfl)
      refine ev_is (ev_andV (a := false) (b := false) (ev_is (ev_op (len_d hv h1) ev_c (rv_eq rfl)) ?_) fun z => nomatch z) rfl
      have z : ¬ (V.int (dLen d0 : Nat) = V.int 2) := fun q => hs ⟨h1, by injection q with q; omega⟩
      show V.bl (decide (V.int (dLen d0 : Nat) = V.int 2)) = V.bl false
      rw [decide_eq_false z]
/-! ### first_bad_term -/
def badL : List (D ω) → Option Nat
  | [] => none
  | d :: l => if dTerm d then (badL l).map (· + 1) else some 0
def dBad : D ω → D ω
  | .lst l => match badL l with | none => .non | some i => .int (i : Nat)
  | .tup l => match badL l with | none => .non | some i => .int (i : Nat)
  | _ => .int 0
def rBad : List (D ω) → D ω → Prop := fun ds r => ∃ d, ds = [d] ∧ r = dBad d
theorem badL_at : ∀ {l : List (D ω)} {i : Nat} {d : D ω}, l[i]? = some d → (∀ j, j < i → ∀ c, l[j]? = some c → dTerm c = true) → dTerm d = false → badL l = some i
  | [], i, d, h, _, _ => by simp at h
  | c :: l, 0, d, h, _, hb => by
    have e : c = d := Option.some.inj h
    subst e
    unfold badL
    rw [hb]
    rfl
  | c :: l, i + 1, d, h, hp, hb => by
    unfold badL
    rw [hp 0 (Nat.succ_pos _) c rfl, if_pos rfl, badL_at (i := i) (by simpa using h) (fun j hj c' hc => hp (j + 1) (by omega) c' (by simpa using hc)) hb]
    rfl
theorem badL_none : ∀ {l : List (D ω)}, (∀ c, c ∈ l → dTerm c = true) → badL l = none
  | [], _ => rfl
  | c :: l, h => by
    unfold badL
    rw [h c (List.mem_cons_self ..), if_pos rfl, badL_none fun c' hc => h c' (List.mem_cons_of_mem _ hc)]
    rfl
abbrev first_bad_term_S : Stmt := topS 13
abbrev first_bad_term_N : List Str := ["terms", "index", "thing"]
theorem first_bad_term_sc : FnScope first_bad_term_N ["terms"] (defScope first_bad_term_S) := ⟨rfl, rfl, rfl, by decide +kernel, rfl, by decide +kernel, by decide +kernel⟩
theorem ok_first_bad_term {f : Addr} {fd : FuncData} (F : Fun K "first_bad_term" "first_bad_term" first_bad_term_S f fd) (B : Bi mg) (h_is_term : DefOk P w K mg base 2 "is_term" ["thing"] (SpD K O rIsTerm)) (h_is_list : DefOk P w K mg base 1 "is_list" ["thing"] (SpD K O rIsList)) :
    FnOk P w K mg base CX0 3 f fd ["terms"] (SpD K O rBad) := by
  refine F.ok first_bad_term_sc (fun vs H Q E h => ?_) (fun cdv A outer s H vs Q E hr h => ?_)
  · obtain ⟨G, ds, d, e, as, ⟨d0, rfl, rfl⟩, k⟩ := h
    exact as.len
  · obtain ⟨G, ds, d, e, as, ⟨d0, rfl, rfl⟩, k⟩ := h
    obtain ⟨v, r, rfl, a, n⟩ := atL_cons.mp as
    obtain rfl := atL_nil.mp n
    refine ⟨_, (pss_cons (ps_if (pt_not (pt_val (pe_callD h_is_list (hr.mono (by first | decide | exact Nat.le_refl _)) (pa_cons (pv 0) pa_nil)))) (pss_one (ps_ret pe_int)) pss_nil)
    (pss_cons (ps_for PassesOwn.never rfl (pi_or (pi_enum (by rfl) B.enumerate (pa_cons (pv 0) pa_nil)) (pi_enumT (by rfl) B.enumerate (pa_cons (pv 0) pa_nil))) (pg_tupK (k := 2) K rfl (pgs_cons (pg_name (i := 1) first_bad_term_sc.nd rfl (Or.inl rfl)) (pgs_cons (pg_name (i := 2) first_bad_term_sc.nd rfl (Or.inl rfl)) pgs_nil))) (pss_one (ps_if (pt_not (pt_val (pe_callD h_is_term (hr.mono (by first | decide | exact Nat.le_refl _)) (pa_cons (pv 2) pa_nil)))) (pss_one (ps_ret (pv 1))) pss_nil)))
    (pss_one (ps_ret pe_non)))), ?_⟩
    have hv : EvD K O (tVar 0) [some v, none, none] G d0 := ed_var rfl a
    refine q_ifG (b := !dSeq d0) (et_not (et_ofD (ed_call (eda_cons hv eda_nil) ⟨d0, rfl, rfl⟩))) e (fun hb H2 l => ?_) (fun hb H2 l => ?_)
    · refine s_retD (ed_of (v := .int 0) ev_c ?_) l.e (k.mono l)
      cases d0 <;> first | exact at_int.mpr rfl | cases hb
    · have hs : dSeq d0 = true := by cases q : dSeq d0 <;> first | rfl | (rw [q] at hb; cases hb)
      obtain ⟨items, hi, src⟩ : ∃ items : List (D ω), (dBad d0 = match badL items with | none => .non | some i => .int (i : Nat)) ∧ Src K O (fun σ H R => iEnum K (tCons (tVar 0) tNil) σ H R ∨ iEnumT K (tCons (tVar 0) tNil) σ H R) [some v, none, none] G (idxD items) := by
        cases d0 with
        | lst l => exact ⟨l, rfl, src_or1 (src_enum (eda_cons hv eda_nil))⟩
        | tup l => exact ⟨l, rfl, src_or2 (src_enumT (eda_cons hv eda_nil))⟩
        | _ => cases hs
      refine q_forS src l.e (fun i σ' G' H' => Le G H G' H' ∧ (∃ x y, σ' = [some v, x, y]) ∧ ∀ j, j < i → ∀ c, items[j]? = some c → dTerm c = true) (fun G0 H0 l0 => ⟨l.trans l0, ⟨_, _, rfl⟩, fun j hj => absurd hj (Nat.not_lt_zero _)⟩) ?_ ?_
      · intro G0 i d x σ' Gi Hi Gi' Hi' e0 hd e1 e2 p l' ad N hN
        obtain ⟨p1, ⟨x0, y0, rfl⟩, p3⟩ := p
        have hil : i < items.length := by
          have := (List.getElem?_eq_some_iff.mp hd).1
          rw [idxD_len] at this
          exact this
        have hc : items[i]? = some items[i] := List.getElem?_eq_getElem hil
        rw [idxD_get hc] at hd
        obtain rfl := (Option.some.inj hd).symm
        refine tg_pair ad l'.e fun x1 x2 a1 a2 => ?_
        obtain rfl := at_int.mp a1
        have hx2 : EvD K O (tVar 2) [some v, some (.int (i : Nat)), some x2] Gi' items[i] := ed_var rfl a2
        refine s_ifG (b := !dTerm items[i]) (et_not (et_ofD (ed_call (eda_cons hx2 eda_nil) ⟨_, rfl, rfl⟩))) l'.e (fun hb H3 l3 => ?_) (fun hb H3 l3 => ?_)
        · have hb' : dTerm items[i] = false := by cases q : dTerm items[i] <;> first | rfl | (rw [q] at hb; cases hb)
          refine s_retD (d := dBad d0) (ed_of (v := .int (i : Nat)) (ev_var rfl) ?_) l3.e (k.mono (p1.trans (l'.trans l3)))
          rw [hi, badL_at hc p3 hb']
          exact at_int.mpr rfl
        · have hb' : dTerm items[i] = true := by cases q : dTerm items[i] <;> first | rfl | (rw [q] at hb; cases hb)
          refine hN _ Gi' H3 (Ex.refl _) l3.e ⟨p1.trans (l'.trans l3), ⟨_, _, rfl⟩, fun j hj c hcj => ?_⟩
          by_cases q : j < i
          · exact p3 j q c hcj
          · have : j = i := by omega
            subst this
            rw [hc] at hcj
            cases hcj
            exact hb'
      · intro σ' G' H' e1 e2 p
        obtain ⟨p1, ⟨x0, y0, rfl⟩, p3⟩ := p
        refine s_retD (d := dBad d0) (ed_of (v := .non) ev_c ?_) e2 (k.mono p1)
        rw [hi, badL_none fun c hc => by
          obtain ⟨j, hj, rfl⟩ := List.mem_iff_getElem.mp hc
          exact p3 j (by rw [idxD_len]; exact hj) _ (List.getElem?_eq_getElem hj)]
        exact at_non.mpr rfl
/-! ### collected -/
def rColl : List (D ω) → D ω → Prop := fun ds r => ∃ p d rows, ds = [.int p, d] ∧ 0 < p ∧ RowsD d rows ∧ rows.length ≤ 30000 ∧ r = .lst ((coll p rows).map pairD)
abbrev collected_S : Stmt := topS 31
abbrev collected_N : List Str := ["prime", "pairs", "sums", "offsets", "offset", "coefficient"]
theorem collected_sc : FnScope collected_N ["prime", "pairs"] (defScope collected_S) := ⟨rfl, rfl, rfl, by decide +kernel, rfl, by decide +kernel, by decide +kernel⟩
theorem ok_collected {f : Addr} {fd : FuncData} (F : Fun K "collected" "collected" collected_S f fd) (B : Bi mg) : FnOk P w K mg base CX0 1 f fd ["prime", "pairs"] (SpD K O rColl) := by
  refine F.ok collected_sc (fun vs H Q E h => ?_) (fun cdv A outer s H vs Q E hr h => ?_)
  · obtain ⟨G, ds, d, e, as, ⟨p, d0, rows, rfl, _⟩, k⟩ := h
    exact as.len
  · obtain ⟨G, ds, d, e, as, ⟨p, d0, rows, rfl, hp, ⟨l, hl, hrows⟩, hz, rfl⟩, k⟩ := h
    obtain ⟨v0, r, rfl, a0, n⟩ := atL_cons.mp as
    obtain rfl := at_int.mp a0
    obtain ⟨v, r, rfl, a, n⟩ := atL_cons.mp n
    obtain rfl := atL_nil.mp n
    have hu := hu_of hr
    refine ⟨_, (pss_cons (ps_set (i := 2) collected_sc.nd rfl (Or.inr rfl) pe_dnewK)
    (pss_cons (ps_for PassesOwn.never rfl (pi_or (pi_list (pv 1)) (pi_tup (pv 1))) (pg_or (pg_tupK (k := 2) K rfl (pgs_cons (pg_name (i := 4) collected_sc.nd rfl (Or.inl rfl)) (pgs_cons (pg_name (i := 5) collected_sc.nd rfl (Or.inl rfl)) pgs_nil))) (pg_unl rfl (pgs_cons (pg_name (i := 4) collected_sc.nd rfl (Or.inl rfl)) (pgs_cons (pg_name (i := 5) collected_sc.nd rfl (Or.inl rfl)) pgs_nil)))) (pss_one (ps_asg (pe_op op_modN (pe_op op_add (pe_dget2 (by exact hu) (pv 2) (pv 4) pe_int ⟨rfl, rfl, rfl, rfl⟩) (pv 5)) (pv 0)) (pg_sub (pv 2) (pv 4) (set_dict (by exact hu))))))
    (pss_cons (ps_set (i := 3) collected_sc.nd rfl (Or.inl rfl) (pe_callB cr_sortedI (by rfl) B.sorted (by decide +kernel) (pa_cons (pe_lock (pe_lc (own := [("offset", 4)]) rfl collected_sc.nd (pi_keys (pv 2)) (blkOk_by (N := collected_N) (sc := defScope collected_S) (by decide +kernel)) (fun _ _ _ _ _ => (pg_name (i := 4) collected_sc.nd rfl (Or.inl rfl))) (fun _ _ _ _ _ => pts_nil) (fun _ _ _ _ _ => by exact (pe_callTy call_int1 (by rfl) B.int (by decide +kernel) (pa_cons (pv 4) pa_nil))))) pa_nil)))
    (pss_one (ps_ret (pe_lc (own := [("offset", 4)]) rfl collected_sc.nd (pi_list (pv 3)) (blkOk_by (N := collected_N) (sc := defScope collected_S) (by decide +kernel)) (fun _ _ _ _ _ => (pg_name (i := 4) collected_sc.nd rfl (Or.inl rfl))) (fun _ _ _ _ _ => by exact pts_one (pt_truK K (pe_dget (by exact hu) (pv 2) (pv 4) (fun _ _ => rfl)) (by intro _; rfl))) (fun _ _ _ _ _ => by exact (pe_tup (pa_cons (pv 4) (pa_cons (pe_dget (by exact hu) (pv 2) (pv 4) (fun _ _ => rfl)) pa_nil)))))))))), ?_⟩
    refine q_newD fun q hq => ?_
    have l1 : Le G H G (upd H q (.dK [])) := Le.newM e hq
    have src : Src K O (fun σ H R => iList K (tVar 1) σ H R ∨ iTup K (tVar 1) σ H R) [some (.int p), some v, some (.ref q), none, none, none] G l := by
      rcases hl with rfl | rfl
      · exact src_or1 (src_list (ed_var rfl a))
      · exact src_or2 (src_tup (ed_var rfl a))
    refine q_forS src l1.e (fun i σ' G' H' => Le G H G' H' ∧ (∃ x y, σ' = [some (.int p), some v, some (.ref q), none, x, y]) ∧ H' q = some (.dK (kvI (sums p (rows.take i)))) ∧ G' q = none)
      (fun G0 H0 l0 => ⟨l1.trans l0, ⟨_, _, rfl⟩, l0.h q _ upd_same, l0.gnone (none_of_ex e hq) (by rw [upd_same]; exact fun z => nomatch z)⟩) ?_ ?_
    · intro G0 i d x σ' Gi Hi Gi' Hi' e0 hd e1 e2 pv l' ad N hN
      obtain ⟨p1, ⟨x0, y0, rfl⟩, p3, p4⟩ := pv
      obtain ⟨⟨o, c⟩, hq2, hrow⟩ := hrows.get hd
      have h3 : Hi' q = some (.dK (kvI (sums p (rows.take i)))) := l'.h q _ p3
      have g3 : Gi' q = none := l'.gnone p4 (by rw [p3]; exact fun z => nomatch z)
      have body : ∀ (De : Ends) (hn : De.nx = N), tAsg (tOp (rI (fun _ j => j ≠ 0) fun i j => V.int (i.fmod j)) (tOp (rI0 fun i j => V.int (i + j)) (tDGet2 (tVar 2) (tVar 4) (tC (.int 0))) (tVar 5)) (tVar 0)) (gSub (tVar 2) (tVar 4) rSetD) De [some (.int p), some v, some (.ref q), none, some (.int o), some (.int c)] Hi' := by
        intro De hn
        refine s_setD h3 (c := ((getI (sums p (rows.take i)) o).getD 0 + c).fmod p) (o := o) (ev_op (ev_op (ev_dget2 (ev_var rfl) h3 (ev_var rfl) ev_c) (ev_var rfl) rv_I0) (ev_var rfl) (rv_I (by omega))) (ev_var rfl) (ev_var rfl) ?_ fun H4 e4 => ?_
        · have h5 := sums_len (p := p) (rows := rows.take i) (m := [])
          have h6 : (rows.take i).length ≤ rows.length := by rw [List.length_take]; omega
          show (sums p (rows.take i)).length < 1000000
          unfold sums
          simp only [List.length_nil] at h5
          omega
        · rw [hn]
          refine hN _ Gi' _ (Ex.refl _) (Le.mut (p1.trans (l'.trans (Le.heap l'.e e4))) hq g3).e ⟨Le.mut (p1.trans (l'.trans (Le.heap l'.e e4))) hq g3, ⟨_, _, rfl⟩, ?_, g3⟩
          rw [sums_more hq2]
          exact upd_same
      rcases hrow with rfl | rfl
      · refine Or.inr (tg_pairL ad l'.e fun x1 x2 a1 a2 => ?_)
        obtain rfl := at_int.mp a1
        obtain rfl := at_int.mp a2
        exact body _ rfl
      · refine Or.inl (tg_pair ad l'.e fun x1 x2 a1 a2 => ?_)
        obtain rfl := at_int.mp a1
        obtain rfl := at_int.mp a2
        exact body _ rfl
    · intro σ' G' H' e1 e2 pv
      obtain ⟨p1, ⟨x0, y0, rfl⟩, p3, p4⟩ := pv
      rw [hrows.len, List.take_length] at p3
      have lf := Le.fix e p1 hq p3
      have hml : (sums p rows).length ≤ 30000 := by
        have h5 := sums_len (p := p) (rows := rows) (m := [])
        simp only [List.length_nil] at h5
        show (rows.foldl (step p) []).length ≤ 30000
        omega
      have hm : (upd G' q (.dK (kvI (sums p rows)))) q = some (.dK (kvI (sums p rows))) := upd_same
      have ho : EvD K O (tLockE (tLc (iKeys (tVar 2)) (gName 4) tYes (tCB (fun xs H Q => (∃ i, xs = [V.int i] ∧ Q (.int i) H) ∨ ∃ k, xs = [V.bl k] ∧ Q (.int (if k then 1 else 0)) H) (tCons (tVar 4) tNil)) [4])) [some (.int p), some v, some (.ref q), none, x0, y0] (upd G' q (.dK (kvI (sums p rows)))) (.lst (((sums p rows).map (·.1)).map D.int)) := by
        refine ed_lock hm True.intro ⟨_, rfl⟩ ?_ fun od => ?_
        · show noObjL _ = true
          exact noObj_ints
        · have h7 := ed_lc (K := K) (O := O) (te := tCB (fun xs H Q => (∃ i, xs = [V.int i] ∧ Q (.int i) H) ∨ ∃ k, xs = [V.bl k] ∧ Q (.int (if k then 1 else 0)) H) (tCons (tVar 4) tNil)) (tt := tYes) (vs := [4]) (g := gName 4) (fun _ => true) (fun d => d) (src_keys (O := O) (td := tVar 2) (σ := [some (.int p), some v, some (.ref q), none, x0, y0]) (ev_var rfl) (upd_same (a := q) (o := .frz od (.dK (kvI (sums p rows)))) (H := upd G' q (.dK (kvI (sums p rows)))))) (by rw [List.length_map]; exact Nat.le_trans hml (by omega)) ?_
          · have e8 : (((sums p rows).map fun q => (D.int q.1 : D ω)).filter fun _ => true).map (fun d => d) = ((sums p rows).map (·.1)).map D.int := by
              rw [List.filter_eq_self.mpr (fun _ _ => rfl), List.map_id', List.map_map]
              rfl
            rw [e8] at h7
            exact h7
          · intro i d x Gi Hi hd eg eh ad Q' hQ
            obtain ⟨w, rfl⟩ : ∃ w, d = D.int w := by
              have hi : i < (sums p rows).length := by
                have := (List.getElem?_eq_some_iff.mp hd).1
                rw [List.length_map] at this
                exact this
              rw [List.getElem?_map, List.getElem?_eq_getElem hi] at hd
              exact ⟨_, (Option.some.inj hd).symm⟩
            obtain rfl := at_int.mp ad
            exact hQ _ Hi (Ex.refl _) rfl et_yes fun _ => ed_of (ev_int1 (ev_var rfl)) (at_int.mpr rfl)
      refine q_asgD (ed_sorted ho) lf.e fun vo G5 H5 l5 ao => ?_
      have hm5 : G5 q = some (.dK (kvI (sums p rows))) := l5.g q _ hm
      refine s_retD ?_ l5.e (k.mono (lf.trans l5))
      have h8 := ed_lc (K := K) (O := O) (te := tTup (tCons (tVar 4) (tCons (tDGet (tVar 2) (tVar 4)) tNil))) (tt := tTruK K (tDGet (tVar 2) (tVar 4))) (vs := [4]) (g := gName 4) (fun d => match d with | .int o => coef p rows o != 0 | _ => false) (fun d => match d with | .int o => pairD (o, coef p rows o) | _ => d)
        (src_list (tl := tVar 3) (σ := [some (.int p), some v, some (.ref q), some vo, x0, y0]) (ed_var rfl ao)) (by rw [List.length_map, srt_perm.length_eq, List.length_map]; exact Nat.le_trans hml (by omega)) ?_
      · have e8 : ∀ l : List Int, ((l.map (D.int (ω := ω))).filter fun d => match d with | .int o => coef p rows o != 0 | _ => false).map (fun d => match d with | .int o => pairD (o, coef p rows o) | _ => d) = ((l.filter fun o => coef p rows o != 0).map fun o => (o, coef p rows o)).map pairD := by
          intro l
          induction l with
          | nil => rfl
          | cons o r ih =>
            rw [List.map_cons, List.filter_cons, List.filter_cons]
            by_cases ho : (coef p rows o != 0) = true
            · simp only [ho, if_true, List.map_cons]
              rw [ih]
            · simp only [ho, if_false]
              exact ih
        rw [e8] at h8
        exact h8
      · intro i d x Gi Hi hd eg eh ad Q' hQ
        obtain ⟨o, ho', rfl⟩ : ∃ o, o ∈ srt ((sums p rows).map (·.1)) ∧ d = D.int o := by
          have hi : i < (srt ((sums p rows).map (·.1))).length := by
            have := (List.getElem?_eq_some_iff.mp hd).1
            rw [List.length_map] at this
            exact this
          rw [List.getElem?_map, List.getElem?_eq_getElem hi] at hd
          exact ⟨_, List.getElem_mem hi, (Option.some.inj hd).symm⟩
        obtain rfl := at_int.mp ad
        have hmem : o ∈ (sums p rows).map (·.1) := srt_perm.mem_iff.mp ho'
        obtain ⟨c, hc⟩ := Option.isSome_iff_exists.mp (getI_some.mpr hmem)
        have hco : coef p rows o = c := by unfold coef; rw [hc]; rfl
        have hg := eg q _ hm5
        refine hQ _ Hi (Ex.refl _) rfl ?_ fun _ => ?_
        · show EvT _ _ _ (coef p rows o != 0)
          rw [hco]
          exact et_truI (ev_dget (ev_var rfl) hg (ev_var rfl) hc)
        · show EvD _ _ _ _ _ (pairD (o, coef p rows o))
          rw [hco]
          exact ed_tup (eda_cons (ed_of (ev_var rfl) (at_int.mpr rfl)) (eda_cons (ed_of (ev_dget (ev_var rfl) hg (ev_var rfl) hc) (at_int.mpr rfl)) eda_nil)) (by show 2 ≤ 100000; decide)
end
end SR

set_option maxRecDepth 100000
set_option maxHeartbeats 0
namespace SR
open PySem PySem.W L2
/-! ### what the top leaves, as far as it is asked -/
def KK0 : Params → PySem.W.Frag := fun P => [
  (nat_lit 2, ⟨.none, none, (.dict #[] 0), #[]⟩),
  (nat_lit 3, ⟨(.type "dict"), none, (.dict #[⟨PyData.keyHash P (Str.ofString "__name__"), (.str (Str.ofString "__name__") 165), (.str (Str.ofString "law_seenrows_k02_filters_refused") 782)⟩, ⟨PyData.keyHash P (Str.ofString "__doc__"), (.str (Str.ofString "__doc__") 166), .none⟩, ⟨PyData.keyHash P (Str.ofString "__package__"), (.str (Str.ofString "__package__") 167), .none⟩, ⟨PyData.keyHash P (Str.ofString "__loader__"), (.str (Str.ofString "__loader__") 168), (.builtin "__main__.__loader__#opaque")⟩, ⟨PyData.keyHash P (Str.ofString "__spec__"), (.str (Str.ofString "__spec__") 169), .none⟩, ⟨PyData.keyHash P (Str.ofString "__annotations__"), (.str (Str.ofString "__annotations__") 170), (.ref 6)⟩, ⟨PyData.keyHash P (Str.ofString "__builtins__"), (.str (Str.ofString "__builtins__") 171), (.ref 4)⟩, ⟨PyData.keyHash P (Str.ofString "__file__"), (.str (Str.ofString "__file__") 173), (.str (Str.ofString "/claim/cut.py") 172)⟩, ⟨PyData.keyHash P (Str.ofString "__cached__"), (.str (Str.ofString "__cached__") 174), .none⟩, ⟨PyData.keyHash P (Str.ofString "_wall"), (.str (Str.ofString "_wall") 193), (.ref 21)⟩, ⟨PyData.keyHash P (Str.ofString "SeenError"), (.str (Str.ofString "SeenError") 213), (.ref 31)⟩, ⟨PyData.keyHash P (Str.ofString "BadPrime"), (.str (Str.ofString "BadPrime") 238), (.ref 51)⟩, ⟨PyData.keyHash P (Str.ofString "BadTerm"), (.str (Str.ofString "BadTerm") 263), (.ref 70)⟩, ⟨PyData.keyHash P (Str.ofString "UnlikePrimes"), (.str (Str.ofString "UnlikePrimes") 279), (.ref 82)⟩, ⟨PyData.keyHash P (Str.ofString "ZeroFilter"), (.str (Str.ofString "ZeroFilter") 295), (.ref 94)⟩, ⟨PyData.keyHash P (Str.ofString "PRIMES"), (.str (Str.ofString "PRIMES") 302), (.ref 97)⟩, ⟨PyData.keyHash P (Str.ofString "is_int"), (.str (Str.ofString "is_int") 309), (.ref 104)⟩, ⟨PyData.keyHash P (Str.ofString "is_list"), (.str (Str.ofString "is_list") 316), (.ref 111)⟩, ⟨PyData.keyHash P (Str.ofString "is_prime"), (.str (Str.ofString "is_prime") 323), (.ref 118)⟩, ⟨PyData.keyHash P (Str.ofString "is_term"), (.str (Str.ofString "is_term") 330), (.ref 125)⟩, ⟨PyData.keyHash P (Str.ofString "first_bad_term"), (.str (Str.ofString "first_bad_term") 339), (.ref 132)⟩, ⟨PyData.keyHash P (Str.ofString "NARROW"), (.str (Str.ofString "NARROW") 343), (.int 3 342)⟩, ⟨PyData.keyHash P (Str.ofString "NARROW_BITS"), (.str (Str.ofString "NARROW_BITS") 345), (.int 8 344)⟩, ⟨PyData.keyHash P (Str.ofString "WIDE"), (.str (Str.ofString "WIDE") 347), (.int 8 346)⟩, ⟨PyData.keyHash P (Str.ofString "WIDE_BITS"), (.str (Str.ofString "WIDE_BITS") 349), (.int 19 348)⟩, ⟨PyData.keyHash P (Str.ofString "BLOCK"), (.str (Str.ofString "BLOCK") 351), (.int 1024 350)⟩, ⟨PyData.keyHash P (Str.ofString "SLOT"), (.str (Str.ofString "SLOT") 353), (.int 12 352)⟩, ⟨PyData.keyHash P (Str.ofString "pack"), (.str (Str.ofString "pack") 359), (.ref 137)⟩, ⟨PyData.keyHash P (Str.ofString "unpack"), (.str (Str.ofString "unpack") 365), (.ref 142)⟩, ⟨PyData.keyHash P (Str.ofString "slot_mask"), (.str (Str.ofString "slot_mask") 376), (.ref 149)⟩, ⟨PyData.keyHash P (Str.ofString "lowered"), (.str (Str.ofString "lowered") 387), (.ref 156)⟩, ⟨PyData.keyHash P (Str.ofString "narrow_mask"), (.str (Str.ofString "narrow_mask") 394), (.ref 163)⟩, ⟨PyData.keyHash P (Str.ofString "without"), (.str (Str.ofString "without") 405), (.ref 170)⟩, ⟨PyData.keyHash P (Str.ofString "multiplied"), (.str (Str.ofString "multiplied") 422), (.ref 177)⟩, ⟨PyData.keyHash P (Str.ofString "NEAR"), (.str (Str.ofString "NEAR") 426), (.int 1000 425)⟩, ⟨PyData.keyHash P (Str.ofString "inverse"), (.str (Str.ofString "inverse") 434), (.ref 184)⟩, ⟨PyData.keyHash P (Str.ofString "collected"), (.str (Str.ofString "collected") 440), (.ref 189)⟩, ⟨PyData.keyHash P (Str.ofString "long_division"), (.str (Str.ofString "long_division") 446), (.ref 194)⟩, ⟨PyData.keyHash P (Str.ofString "divided_from_above"), (.str (Str.ofString "divided_from_above") 463), (.ref 201)⟩, ⟨PyData.keyHash P (Str.ofString "divided_from_below"), (.str (Str.ofString "divided_from_below") 483), (.ref 208)⟩, ⟨PyData.keyHash P (Str.ofString "remainder"), (.str (Str.ofString "remainder") 493), (.ref 215)⟩, ⟨PyData.keyHash P (Str.ofString "near_pairs"), (.str (Str.ofString "near_pairs") 499), (.ref 220)⟩, ⟨PyData.keyHash P (Str.ofString "power_digits"), (.str (Str.ofString "power_digits") 514), (.ref 227)⟩, ⟨PyData.keyHash P (Str.ofString "stride_of"), (.str (Str.ofString "stride_of") 522), (.ref 234)⟩, ⟨PyData.keyHash P (Str.ofString "packed_powers"), (.str (Str.ofString "packed_powers") 538), (.ref 241)⟩, ⟨PyData.keyHash P (Str.ofString "packed_sum"), (.str (Str.ofString "packed_sum") 544), (.ref 246)⟩, ⟨PyData.keyHash P (Str.ofString "check_primes"), (.str (Str.ofString "check_primes") 554), (.ref 253)⟩, ⟨PyData.keyHash P (Str.ofString "check_division"), (.str (Str.ofString "check_division") 562), (.ref 260)⟩, ⟨PyData.keyHash P (Str.ofString "scaled"), (.str (Str.ofString "scaled") 568), (.ref 265)⟩, ⟨PyData.keyHash P (Str.ofString "places"), (.str (Str.ofString "places") 574), (.ref 270)⟩, ⟨PyData.keyHash P (Str.ofString "is_dense"), (.str (Str.ofString "is_dense") 582), (.ref 277)⟩, ⟨PyData.keyHash P (Str.ofString "product"), (.str (Str.ofString "product") 588), (.ref 282)⟩, ⟨PyData.keyHash P (Str.ofString "divisor_of"), (.str (Str.ofString "divisor_of") 595), (.ref 289)⟩, ⟨PyData.keyHash P (Str.ofString "Filter"), (.str (Str.ofString "Filter") 781), (.ref 438)⟩, ⟨PyData.keyHash P (Str.ofString "_law_spring"), (.str (Str.ofString "_law_spring") 790), (.ref 449)⟩, ⟨PyData.keyHash P (Str.ofString "_law_draw"), (.str (Str.ofString "_law_draw") 801), (.ref 456)⟩, ⟨PyData.keyHash P (Str.ofString "_law_pick"), (.str (Str.ofString "_law_pick") 809), (.ref 463)⟩, ⟨PyData.keyHash P (Str.ofString "_law_same"), (.str (Str.ofString "_law_same") 815), (.ref 468)⟩, ⟨PyData.keyHash P (Str.ofString "_law_held"), (.str (Str.ofString "_law_held") 821), (.ref 473)⟩, ⟨PyData.keyHash P (Str.ofString "_law_pairs"), (.str (Str.ofString "_law_pairs") 827), (.ref 478)⟩, ⟨PyData.keyHash P (Str.ofString "_law_prime"), (.str (Str.ofString "_law_prime") 834), (.ref 485)⟩, ⟨PyData.keyHash P (Str.ofString "_law_frozen"), (.str (Str.ofString "_law_frozen") 840), (.ref 490)⟩, ⟨PyData.keyHash P (Str.ofString "_law_tried"), (.str (Str.ofString "_law_tried") 850), (.ref 497)⟩, ⟨PyData.keyHash P (Str.ofString "_law_odd_terms"), (.str (Str.ofString "_law_odd_terms") 857), (.ref 504)⟩, ⟨PyData.keyHash P (Str.ofString "_law_odd_primes"), (.str (Str.ofString "_law_odd_primes") 863), (.ref 511)⟩, ⟨PyData.keyHash P (Str.ofString "law"), (.str (Str.ofString "law") 869), (.ref 516)⟩] 66), #[]⟩),
  (nat_lit 22, ⟨(.type "tuple"), none, (.seq #[(.type "ValueError")] 0), #[]⟩),
  (nat_lit 30, ⟨(.type "dict"), none, (.dict #[⟨PyData.keyHash P (Str.ofString "__module__"), (.str (Str.ofString "__module__") 203), (.str (Str.ofString "seenrows.errors") 194)⟩, ⟨PyData.keyHash P (Str.ofString "__firstlineno__"), (.str (Str.ofString "__firstlineno__") 207), (.int 5 206)⟩, ⟨PyData.keyHash P (Str.ofString "__static_attributes__"), (.str (Str.ofString "__static_attributes__") 208), (.ref 29)⟩, ⟨PyData.keyHash P (Str.ofString "__weakref__"), (.str (Str.ofString "__weakref__") 210), (.ref 32)⟩, ⟨PyData.keyHash P (Str.ofString "__doc__"), (.str (Str.ofString "__doc__") 211), .none⟩] 3), #[]⟩),
  (nat_lit 31, ⟨(.type "type"), none, (.cls ⟨(Str.ofString "SeenError"), [(.type "ValueError")], [(.ref 31), (.type "ValueError"), (.type "Exception"), (.type "BaseException"), (.type "object")], 30, (Str.ofString "SeenError"), true, [], [(.ref 51), (.ref 70), (.ref 82), (.ref 94)], false, none, false⟩), #[(some (.ref 22)), none, (some (.str (Str.ofString "SeenError") 196)), (some (.str (Str.ofString "SeenError") 204)), (some (.builtin "ValueError.__new__")), (some (.bool true))]⟩),
  (nat_lit 35, ⟨(.type "tuple"), none, (.seq #[(.ref 31)] 0), #[]⟩),
  (nat_lit 47, ⟨(.type "code"), none, (.fields #[(.str (Str.ofString "__init__") 226), (.str (Str.ofString "BadPrime.__init__") 227), (.str (Str.ofString "/claim/cut.py") 228), (.int 9 0), (.int 2 0), (.int 0 0), (.int 0 0), (.int 3 0), (.ref 42), (.bool true), (.int 181 0), (.ref 43), .none, (.ref 44), (.ref 45), (.ref 46), (.int 231 0), (.int 9 0), (.str (Str.ofString "/claim/cut.py") 232)]), #[]⟩),
  (nat_lit 48, ⟨(.type "function"), none, (.func (PySem.W.fnOf (Str.ofString "__init__") (Str.ofString "BadPrime.__init__") (defArgs (inClass (topS 3) 0)) (defBody (inClass (topS 3) 0)) (defScope (inClass (topS 3) 0)) .none .none .none (.str (Str.ofString "seenrows.errors") 194) none (.ref 47) .none)), #[]⟩),
  (nat_lit 50, ⟨(.type "dict"), none, (.dict #[⟨PyData.keyHash P (Str.ofString "__module__"), (.str (Str.ofString "__module__") 221), (.str (Str.ofString "seenrows.errors") 194)⟩, ⟨PyData.keyHash P (Str.ofString "__firstlineno__"), (.str (Str.ofString "__firstlineno__") 225), (.int 7 224)⟩, ⟨PyData.keyHash P (Str.ofString "__init__"), (.str (Str.ofString "__init__") 233), (.ref 48)⟩, ⟨PyData.keyHash P (Str.ofString "__static_attributes__"), (.str (Str.ofString "__static_attributes__") 235), (.ref 49)⟩, ⟨PyData.keyHash P (Str.ofString "__doc__"), (.str (Str.ofString "__doc__") 236), .none⟩] 2), #[]⟩),
  (nat_lit 51, ⟨(.type "type"), none, (.cls ⟨(Str.ofString "BadPrime"), [(.ref 31)], [(.ref 51), (.ref 31), (.type "ValueError"), (.type "Exception"), (.type "BaseException"), (.type "object")], 50, (Str.ofString "BadPrime"), true, [], [], false, none, false⟩), #[(some (.ref 35)), none, (some (.str (Str.ofString "BadPrime") 214)), (some (.str (Str.ofString "BadPrime") 222)), (some (.builtin "ValueError.__new__")), (some (.bool true))]⟩),
  (nat_lit 54, ⟨(.type "tuple"), none, (.seq #[(.ref 31)] 0), #[]⟩),
  (nat_lit 66, ⟨(.type "code"), none, (.fields #[(.str (Str.ofString "__init__") 251), (.str (Str.ofString "BadTerm.__init__") 252), (.str (Str.ofString "/claim/cut.py") 253), (.int 13 0), (.int 2 0), (.int 0 0), (.int 0 0), (.int 3 0), (.ref 61), (.bool true), (.int 181 0), (.ref 62), .none, (.ref 63), (.ref 64), (.ref 65), (.int 256 0), (.int 13 0), (.str (Str.ofString "/claim/cut.py") 257)]), #[]⟩),
  (nat_lit 67, ⟨(.type "function"), none, (.func (PySem.W.fnOf (Str.ofString "__init__") (Str.ofString "BadTerm.__init__") (defArgs (inClass (topS 4) 0)) (defBody (inClass (topS 4) 0)) (defScope (inClass (topS 4) 0)) .none .none .none (.str (Str.ofString "seenrows.errors") 194) none (.ref 66) .none)), #[]⟩),
  (nat_lit 69, ⟨(.type "dict"), none, (.dict #[⟨PyData.keyHash P (Str.ofString "__module__"), (.str (Str.ofString "__module__") 246), (.str (Str.ofString "seenrows.errors") 194)⟩, ⟨PyData.keyHash P (Str.ofString "__firstlineno__"), (.str (Str.ofString "__firstlineno__") 250), (.int 11 249)⟩, ⟨PyData.keyHash P (Str.ofString "__init__"), (.str (Str.ofString "__init__") 258), (.ref 67)⟩, ⟨PyData.keyHash P (Str.ofString "__static_attributes__"), (.str (Str.ofString "__static_attributes__") 260), (.ref 68)⟩, ⟨PyData.keyHash P (Str.ofString "__doc__"), (.str (Str.ofString "__doc__") 261), .none⟩] 2), #[]⟩),
  (nat_lit 70, ⟨(.type "type"), none, (.cls ⟨(Str.ofString "BadTerm"), [(.ref 31)], [(.ref 70), (.ref 31), (.type "ValueError"), (.type "Exception"), (.type "BaseException"), (.type "object")], 69, (Str.ofString "BadTerm"), true, [], [], false, none, false⟩), #[(some (.ref 54)), none, (some (.str (Str.ofString "BadTerm") 239)), (some (.str (Str.ofString "BadTerm") 247)), (some (.builtin "ValueError.__new__")), (some (.bool true))]⟩),
  (nat_lit 97, ⟨(.type "tuple"), none, (.seq #[(.int 2 298), (.int 3 299), (.int 5 300), (.int 7 301)] 0), #[]⟩),
  (nat_lit 103, ⟨(.type "code"), none, (.fields #[(.str (Str.ofString "is_int") 303), (.str (Str.ofString "is_int") 304), (.str (Str.ofString "/claim/cut.py") 305), (.int 21 0), (.int 1 0), (.int 0 0), (.int 0 0), (.int 3 0), (.ref 98), (.bool true), (.int 181 0), (.ref 99), .none, (.ref 100), (.ref 101), (.ref 102), (.int 307 0), (.int 21 0), (.str (Str.ofString "/claim/cut.py") 308)]), #[]⟩),
  (nat_lit 104, ⟨(.type "function"), none, (.func (PySem.W.fnOf (Str.ofString "is_int") (Str.ofString "is_int") (defArgs (topS 9)) (defBody (topS 9)) (defScope (topS 9)) .none .none .none (.str (Str.ofString "seenrows.kinds") 296) none (.ref 103) .none)), #[]⟩),
  (nat_lit 110, ⟨(.type "code"), none, (.fields #[(.str (Str.ofString "is_list") 310), (.str (Str.ofString "is_list") 311), (.str (Str.ofString "/claim/cut.py") 312), (.int 23 0), (.int 1 0), (.int 0 0), (.int 0 0), (.int 3 0), (.ref 105), (.bool true), (.int 181 0), (.ref 106), .none, (.ref 107), (.ref 108), (.ref 109), (.int 314 0), (.int 23 0), (.str (Str.ofString "/claim/cut.py") 315)]), #[]⟩),
  (nat_lit 111, ⟨(.type "function"), none, (.func (PySem.W.fnOf (Str.ofString "is_list") (Str.ofString "is_list") (defArgs (topS 10)) (defBody (topS 10)) (defScope (topS 10)) .none .none .none (.str (Str.ofString "seenrows.kinds") 296) none (.ref 110) .none)), #[]⟩),
  (nat_lit 117, ⟨(.type "code"), none, (.fields #[(.str (Str.ofString "is_prime") 317), (.str (Str.ofString "is_prime") 318), (.str (Str.ofString "/claim/cut.py") 319), (.int 25 0), (.int 1 0), (.int 0 0), (.int 0 0), (.int 3 0), (.ref 112), (.bool true), (.int 181 0), (.ref 113), .none, (.ref 114), (.ref 115), (.ref 116), (.int 321 0), (.int 25 0), (.str (Str.ofString "/claim/cut.py") 322)]), #[]⟩),
  (nat_lit 118, ⟨(.type "function"), none, (.func (PySem.W.fnOf (Str.ofString "is_prime") (Str.ofString "is_prime") (defArgs (topS 11)) (defBody (topS 11)) (defScope (topS 11)) .none .none .none (.str (Str.ofString "seenrows.kinds") 296) none (.ref 117) .none)), #[]⟩),
  (nat_lit 124, ⟨(.type "code"), none, (.fields #[(.str (Str.ofString "is_term") 324), (.str (Str.ofString "is_term") 325), (.str (Str.ofString "/claim/cut.py") 326), (.int 27 0), (.int 1 0), (.int 0 0), (.int 0 0), (.int 3 0), (.ref 119), (.bool true), (.int 181 0), (.ref 120), .none, (.ref 121), (.ref 122), (.ref 123), (.int 328 0), (.int 27 0), (.str (Str.ofString "/claim/cut.py") 329)]), #[]⟩),
  (nat_lit 125, ⟨(.type "function"), none, (.func (PySem.W.fnOf (Str.ofString "is_term") (Str.ofString "is_term") (defArgs (topS 12)) (defBody (topS 12)) (defScope (topS 12)) .none .none .none (.str (Str.ofString "seenrows.kinds") 296) none (.ref 124) .none)), #[]⟩),
  (nat_lit 131, ⟨(.type "code"), none, (.fields #[(.str (Str.ofString "first_bad_term") 331), (.str (Str.ofString "first_bad_term") 332), (.str (Str.ofString "/claim/cut.py") 333), (.int 29 0), (.int 1 0), (.int 0 0), (.int 0 0), (.int 3 0), (.ref 126), (.bool true), (.int 181 0), (.ref 127), .none, (.ref 128), (.ref 129), (.ref 130), (.int 337 0), (.int 29 0), (.str (Str.ofString "/claim/cut.py") 338)]), #[]⟩),
  (nat_lit 132, ⟨(.type "function"), none, (.func (PySem.W.fnOf (Str.ofString "first_bad_term") (Str.ofString "first_bad_term") (defArgs (topS 13)) (defBody (topS 13)) (defScope (topS 13)) .none .none .none (.str (Str.ofString "seenrows.kinds") 296) none (.ref 131) .none)), #[]⟩),
  (nat_lit 188, ⟨(.type "code"), none, (.fields #[(.str (Str.ofString "collected") 435), (.str (Str.ofString "collected") 436), (.str (Str.ofString "/claim/cut.py") 437), (.int 75 0), (.int 2 0), (.int 0 0), (.int 0 0), (.int 3 0), (.ref 185), (.bool true), (.int 181 0), (.ref 186), .none, .none, .none, (.ref 187), (.int 438 0), (.int 75 0), (.str (Str.ofString "/claim/cut.py") 439)]), #[]⟩),
  (nat_lit 189, ⟨(.type "function"), none, (.func (PySem.W.fnOf (Str.ofString "collected") (Str.ofString "collected") (defArgs (topS 31)) (defBody (topS 31)) (defScope (topS 31)) .none .none .none (.str (Str.ofString "seenrows.remainders") 423) none (.ref 188) .none)), #[]⟩),
  (nat_lit 297, ⟨(.type "tuple"), none, (.seq #[] 0), #[]⟩),
  (nat_lit 298, ⟨(.type "tuple"), none, (.seq #[(.ref 297)] 0), #[]⟩),
  (nat_lit 304, ⟨(.type "code"), none, (.fields #[(.str (Str.ofString "__init__") 608), (.str (Str.ofString "Filter.__init__") 609), (.str (Str.ofString "/claim/cut.py") 610), (.int 199 0), (.int 3 0), (.int 0 0), (.int 0 0), (.int 3 0), (.ref 299), (.bool true), (.int 181 0), (.ref 300), .none, (.ref 301), (.ref 302), (.ref 303), (.int 615 0), (.int 199 0), (.str (Str.ofString "/claim/cut.py") 616)]), #[]⟩),
  (nat_lit 305, ⟨(.type "function"), none, (.func (PySem.W.fnOf (Str.ofString "__init__") (Str.ofString "Filter.__init__") (defArgs (inClass (topS 49) 0)) (defBody (inClass (topS 49) 0)) (defScope (inClass (topS 49) 0)) (.ref 298) .none .none (.str (Str.ofString "seenrows.filters") 545) none (.ref 304) .none)), #[]⟩),
  (nat_lit 311, ⟨(.type "code"), none, (.fields #[(.str (Str.ofString "shift") 618), (.str (Str.ofString "Filter.shift") 619), (.str (Str.ofString "/claim/cut.py") 620), (.int 209 0), (.int 3 0), (.int 0 0), (.int 0 0), (.int 3 0), (.ref 306), (.bool true), (.int 181 0), (.ref 307), .none, (.ref 308), (.ref 309), (.ref 310), (.int 624 0), (.int 209 0), (.str (Str.ofString "/claim/cut.py") 625)]), #[]⟩),
  (nat_lit 312, ⟨(.type "function"), none, (.func (PySem.W.fnOf (Str.ofString "shift") (Str.ofString "Filter.shift") (defArgs (inClass (topS 49) 1)) (defBody (inClass (topS 49) 1)) (defScope (inClass (topS 49) 1)) .none .none .none (.str (Str.ofString "seenrows.filters") 545) (some 315) (.ref 311) .none)), #[]⟩),
  (nat_lit 313, ⟨(.type "dict"), none, (.dict #[⟨PyData.keyHash P (Str.ofString "__module__"), (.str (Str.ofString "__module__") 627), (.str (Str.ofString "seenrows.filters") 545)⟩, ⟨PyData.keyHash P (Str.ofString "__name__"), (.str (Str.ofString "__name__") 630), (.str (Str.ofString "shift") 629)⟩, ⟨PyData.keyHash P (Str.ofString "__qualname__"), (.str (Str.ofString "__qualname__") 633), (.str (Str.ofString "Filter.shift") 632)⟩, ⟨PyData.keyHash P (Str.ofString "__doc__"), (.str (Str.ofString "__doc__") 635), .none⟩, ⟨PyData.keyHash P (Str.ofString "__annotations__"), (.str (Str.ofString "__annotations__") 637), (.ref 315)⟩] 5), #[]⟩),
  (nat_lit 314, ⟨(.type "classmethod"), (some 313), (.fields #[(.ref 312), (.bool false)]), #[]⟩),
  (nat_lit 321, ⟨(.type "code"), none, (.fields #[(.str (Str.ofString "terms") 639), (.str (Str.ofString "Filter.terms") 640), (.str (Str.ofString "/claim/cut.py") 641), (.int 213 0), (.int 1 0), (.int 0 0), (.int 0 0), (.int 3 0), (.ref 316), (.bool true), (.int 181 0), (.ref 317), .none, (.ref 318), (.ref 319), (.ref 320), (.int 643 0), (.int 213 0), (.str (Str.ofString "/claim/cut.py") 644)]), #[]⟩),
  (nat_lit 322, ⟨(.type "function"), none, (.func (PySem.W.fnOf (Str.ofString "terms") (Str.ofString "Filter.terms") (defArgs (inClass (topS 49) 2)) (defBody (inClass (topS 49) 2)) (defScope (inClass (topS 49) 2)) .none .none .none (.str (Str.ofString "seenrows.filters") 545) none (.ref 321) .none)), #[]⟩),
  (nat_lit 437, ⟨(.type "dict"), none, (.dict #[⟨PyData.keyHash P (Str.ofString "__module__"), (.str (Str.ofString "__module__") 603), (.str (Str.ofString "seenrows.filters") 545)⟩, ⟨PyData.keyHash P (Str.ofString "__firstlineno__"), (.str (Str.ofString "__firstlineno__") 607), (.int 197 606)⟩, ⟨PyData.keyHash P (Str.ofString "__init__"), (.str (Str.ofString "__init__") 617), (.ref 305)⟩, ⟨PyData.keyHash P (Str.ofString "shift"), (.str (Str.ofString "shift") 638), (.ref 314)⟩, ⟨PyData.keyHash P (Str.ofString "terms"), (.str (Str.ofString "terms") 645), (.ref 322)⟩, ⟨PyData.keyHash P (Str.ofString "low"), (.str (Str.ofString "low") 652), (.ref 329)⟩, ⟨PyData.keyHash P (Str.ofString "high"), (.str (Str.ofString "high") 659), (.ref 336)⟩, ⟨PyData.keyHash P (Str.ofString "span"), (.str (Str.ofString "span") 666), (.ref 343)⟩, ⟨PyData.keyHash P (Str.ofString "normal"), (.str (Str.ofString "normal") 672), (.ref 348)⟩, ⟨PyData.keyHash P (Str.ofString "__call__"), (.str (Str.ofString "__call__") 680), (.ref 355)⟩, ⟨PyData.keyHash P (Str.ofString "__bool__"), (.str (Str.ofString "__bool__") 687), (.ref 362)⟩, ⟨PyData.keyHash P (Str.ofString "__eq__"), (.str (Str.ofString "__eq__") 695), (.ref 369)⟩, ⟨PyData.keyHash P (Str.ofString "__getitem__"), (.str (Str.ofString "__getitem__") 703), (.ref 376)⟩, ⟨PyData.keyHash P (Str.ofString "__iter__"), (.str (Str.ofString "__iter__") 710), (.ref 383)⟩, ⟨PyData.keyHash P (Str.ofString "__neg__"), (.str (Str.ofString "__neg__") 717), (.ref 390)⟩, ⟨PyData.keyHash P (Str.ofString "__add__"), (.str (Str.ofString "__add__") 725), (.ref 397)⟩, ⟨PyData.keyHash P (Str.ofString "__sub__"), (.str (Str.ofString "__sub__") 733), (.ref 404)⟩, ⟨PyData.keyHash P (Str.ofString "__mul__"), (.str (Str.ofString "__mul__") 741), (.ref 411)⟩, ⟨PyData.keyHash P (Str.ofString "__rmul__"), (.str (Str.ofString "__rmul__") 749), (.ref 418)⟩, ⟨PyData.keyHash P (Str.ofString "__pow__"), (.str (Str.ofString "__pow__") 755), (.ref 423)⟩, ⟨PyData.keyHash P (Str.ofString "__mod__"), (.str (Str.ofString "__mod__") 763), (.ref 430)⟩, ⟨PyData.keyHash P (Str.ofString "__floordiv__"), (.str (Str.ofString "__floordiv__") 769), (.ref 435)⟩, ⟨PyData.keyHash P (Str.ofString "__static_attributes__"), (.str (Str.ofString "__static_attributes__") 773), (.ref 436)⟩, ⟨PyData.keyHash P (Str.ofString "__dict__"), (.str (Str.ofString "__dict__") 775), (.ref 439)⟩, ⟨PyData.keyHash P (Str.ofString "__weakref__"), (.str (Str.ofString "__weakref__") 777), (.ref 440)⟩, ⟨PyData.keyHash P (Str.ofString "__doc__"), (.str (Str.ofString "__doc__") 778), .none⟩, ⟨PyData.keyHash P (Str.ofString "__hash__"), (.str (Str.ofString "__hash__") 779), .none⟩] 5), #[]⟩),
  (nat_lit 438, ⟨(.type "type"), none, (.cls ⟨(Str.ofString "Filter"), [(.type "object")], [(.ref 438), (.type "object")], 437, (Str.ofString "Filter"), true, [], [], false, none, false⟩), #[none, none, (some (.str (Str.ofString "Filter") 596)), (some (.str (Str.ofString "Filter") 604)), (some (.builtin "object.__new__")), (some (.bool true))]⟩),
  (nat_lit 448, ⟨(.type "code"), none, (.fields #[(.str (Str.ofString "_law_spring") 784), (.str (Str.ofString "_law_spring") 785), (.str (Str.ofString "/claim/cut.py") 786), (.int 304 0), (.int 1 0), (.int 0 0), (.int 0 0), (.int 3 0), (.ref 443), (.bool true), (.int 181 0), (.ref 444), .none, (.ref 445), (.ref 446), (.ref 447), (.int 788 0), (.int 304 0), (.str (Str.ofString "/claim/cut.py") 789)]), #[]⟩),
  (nat_lit 449, ⟨(.type "function"), none, (.func (PySem.W.fnOf (Str.ofString "_law_spring") (Str.ofString "_law_spring") (defArgs (topS 51)) (defBody (topS 51)) (defScope (topS 51)) .none .none .none (.str (Str.ofString "law_seenrows_k02_filters_refused") 782) none (.ref 448) .none)), #[]⟩),
  (nat_lit 455, ⟨(.type "code"), none, (.fields #[(.str (Str.ofString "_law_draw") 791), (.str (Str.ofString "_law_draw") 792), (.str (Str.ofString "/claim/cut.py") 793), (.int 306 0), (.int 2 0), (.int 0 0), (.int 0 0), (.int 3 0), (.ref 450), (.bool true), (.int 181 0), (.ref 451), .none, (.ref 452), (.ref 453), (.ref 454), (.int 799 0), (.int 306 0), (.str (Str.ofString "/claim/cut.py") 800)]), #[]⟩),
  (nat_lit 456, ⟨(.type "function"), none, (.func (PySem.W.fnOf (Str.ofString "_law_draw") (Str.ofString "_law_draw") (defArgs (topS 52)) (defBody (topS 52)) (defScope (topS 52)) .none .none .none (.str (Str.ofString "law_seenrows_k02_filters_refused") 782) none (.ref 455) .none)), #[]⟩),
  (nat_lit 462, ⟨(.type "code"), none, (.fields #[(.str (Str.ofString "_law_pick") 802), (.str (Str.ofString "_law_pick") 803), (.str (Str.ofString "/claim/cut.py") 804), (.int 320 0), (.int 2 0), (.int 0 0), (.int 0 0), (.int 3 0), (.ref 457), (.bool true), (.int 181 0), (.ref 458), .none, (.ref 459), (.ref 460), (.ref 461), (.int 807 0), (.int 320 0), (.str (Str.ofString "/claim/cut.py") 808)]), #[]⟩),
  (nat_lit 463, ⟨(.type "function"), none, (.func (PySem.W.fnOf (Str.ofString "_law_pick") (Str.ofString "_law_pick") (defArgs (topS 53)) (defBody (topS 53)) (defScope (topS 53)) .none .none .none (.str (Str.ofString "law_seenrows_k02_filters_refused") 782) none (.ref 462) .none)), #[]⟩),
  (nat_lit 467, ⟨(.type "code"), none, (.fields #[(.str (Str.ofString "_law_same") 810), (.str (Str.ofString "_law_same") 811), (.str (Str.ofString "/claim/cut.py") 812), (.int 322 0), (.int 2 0), (.int 0 0), (.int 0 0), (.int 3 0), (.ref 464), (.bool true), (.int 181 0), (.ref 465), .none, .none, .none, (.ref 466), (.int 813 0), (.int 322 0), (.str (Str.ofString "/claim/cut.py") 814)]), #[]⟩),
  (nat_lit 468, ⟨(.type "function"), none, (.func (PySem.W.fnOf (Str.ofString "_law_same") (Str.ofString "_law_same") (defArgs (topS 54)) (defBody (topS 54)) (defScope (topS 54)) .none .none .none (.str (Str.ofString "law_seenrows_k02_filters_refused") 782) none (.ref 467) .none)), #[]⟩),
  (nat_lit 472, ⟨(.type "code"), none, (.fields #[(.str (Str.ofString "_law_held") 816), (.str (Str.ofString "_law_held") 817), (.str (Str.ofString "/claim/cut.py") 818), (.int 330 0), (.int 2 0), (.int 0 0), (.int 0 0), (.int 3 0), (.ref 469), (.bool true), (.int 181 0), (.ref 470), .none, .none, .none, (.ref 471), (.int 819 0), (.int 330 0), (.str (Str.ofString "/claim/cut.py") 820)]), #[]⟩),
  (nat_lit 473, ⟨(.type "function"), none, (.func (PySem.W.fnOf (Str.ofString "_law_held") (Str.ofString "_law_held") (defArgs (topS 55)) (defBody (topS 55)) (defScope (topS 55)) .none .none .none (.str (Str.ofString "law_seenrows_k02_filters_refused") 782) none (.ref 472) .none)), #[]⟩),
  (nat_lit 477, ⟨(.type "code"), none, (.fields #[(.str (Str.ofString "_law_pairs") 822), (.str (Str.ofString "_law_pairs") 823), (.str (Str.ofString "/claim/cut.py") 824), (.int 338 0), (.int 1 0), (.int 0 0), (.int 0 0), (.int 3 0), (.ref 474), (.bool true), (.int 181 0), (.ref 475), .none, .none, .none, (.ref 476), (.int 825 0), (.int 338 0), (.str (Str.ofString "/claim/cut.py") 826)]), #[]⟩),
  (nat_lit 478, ⟨(.type "function"), none, (.func (PySem.W.fnOf (Str.ofString "_law_pairs") (Str.ofString "_law_pairs") (defArgs (topS 56)) (defBody (topS 56)) (defScope (topS 56)) .none .none .none (.str (Str.ofString "law_seenrows_k02_filters_refused") 782) none (.ref 477) .none)), #[]⟩),
  (nat_lit 484, ⟨(.type "code"), none, (.fields #[(.str (Str.ofString "_law_prime") 828), (.str (Str.ofString "_law_prime") 829), (.str (Str.ofString "/claim/cut.py") 830), (.int 340 0), (.int 1 0), (.int 0 0), (.int 0 0), (.int 3 0), (.ref 479), (.bool true), (.int 181 0), (.ref 480), .none, (.ref 481), (.ref 482), (.ref 483), (.int 832 0), (.int 340 0), (.str (Str.ofString "/claim/cut.py") 833)]), #[]⟩),
  (nat_lit 485, ⟨(.type "function"), none, (.func (PySem.W.fnOf (Str.ofString "_law_prime") (Str.ofString "_law_prime") (defArgs (topS 57)) (defBody (topS 57)) (defScope (topS 57)) .none .none .none (.str (Str.ofString "law_seenrows_k02_filters_refused") 782) none (.ref 484) .none)), #[]⟩),
  (nat_lit 489, ⟨(.type "code"), none, (.fields #[(.str (Str.ofString "_law_frozen") 835), (.str (Str.ofString "_law_frozen") 836), (.str (Str.ofString "/claim/cut.py") 837), (.int 342 0), (.int 1 0), (.int 0 0), (.int 0 0), (.int 3 0), (.ref 486), (.bool true), (.int 181 0), (.ref 487), .none, .none, .none, (.ref 488), (.int 838 0), (.int 342 0), (.str (Str.ofString "/claim/cut.py") 839)]), #[]⟩),
  (nat_lit 490, ⟨(.type "function"), none, (.func (PySem.W.fnOf (Str.ofString "_law_frozen") (Str.ofString "_law_frozen") (defArgs (topS 58)) (defBody (topS 58)) (defScope (topS 58)) .none .none .none (.str (Str.ofString "law_seenrows_k02_filters_refused") 782) none (.ref 489) .none)), #[]⟩),
  (nat_lit 496, ⟨(.type "code"), none, (.fields #[(.str (Str.ofString "_law_tried") 841), (.str (Str.ofString "_law_tried") 842), (.str (Str.ofString "/claim/cut.py") 843), (.int 344 0), (.int 2 0), (.int 0 0), (.int 0 0), (.int 3 0), (.ref 491), (.bool true), (.int 181 0), (.ref 492), .none, (.ref 493), (.ref 494), (.ref 495), (.int 848 0), (.int 344 0), (.str (Str.ofString "/claim/cut.py") 849)]), #[]⟩),
  (nat_lit 497, ⟨(.type "function"), none, (.func (PySem.W.fnOf (Str.ofString "_law_tried") (Str.ofString "_law_tried") (defArgs (topS 59)) (defBody (topS 59)) (defScope (topS 59)) .none .none .none (.str (Str.ofString "law_seenrows_k02_filters_refused") 782) none (.ref 496) .none)), #[]⟩),
  (nat_lit 503, ⟨(.type "code"), none, (.fields #[(.str (Str.ofString "_law_odd_terms") 851), (.str (Str.ofString "_law_odd_terms") 852), (.str (Str.ofString "/claim/cut.py") 853), (.int 352 0), (.int 0 0), (.int 0 0), (.int 0 0), (.int 3 0), (.ref 498), (.bool true), (.int 181 0), (.ref 499), .none, (.ref 500), (.ref 501), (.ref 502), (.int 855 0), (.int 352 0), (.str (Str.ofString "/claim/cut.py") 856)]), #[]⟩),
  (nat_lit 504, ⟨(.type "function"), none, (.func (PySem.W.fnOf (Str.ofString "_law_odd_terms") (Str.ofString "_law_odd_terms") (defArgs (topS 60)) (defBody (topS 60)) (defScope (topS 60)) .none .none .none (.str (Str.ofString "law_seenrows_k02_filters_refused") 782) none (.ref 503) .none)), #[]⟩)]
def KA0 : List Addr := [nat_lit 2, nat_lit 3, nat_lit 22, nat_lit 30, nat_lit 31, nat_lit 35, nat_lit 47, nat_lit 48, nat_lit 50, nat_lit 51, nat_lit 54, nat_lit 66, nat_lit 67, nat_lit 69, nat_lit 70, nat_lit 97, nat_lit 103, nat_lit 104, nat_lit 110, nat_lit 111, nat_lit 117, nat_lit 118, nat_lit 124, nat_lit 125, nat_lit 131, nat_lit 132, nat_lit 188, nat_lit 189, nat_lit 297, nat_lit 298, nat_lit 304, nat_lit 305, nat_lit 311, nat_lit 312, nat_lit 313, nat_lit 314, nat_lit 321, nat_lit 322, nat_lit 437, nat_lit 438, nat_lit 448, nat_lit 449, nat_lit 455, nat_lit 456, nat_lit 462, nat_lit 463, nat_lit 467, nat_lit 468, nat_lit 472, nat_lit 473, nat_lit 477, nat_lit 478, nat_lit 484, nat_lit 485, nat_lit 489, nat_lit 490, nat_lit 496, nat_lit 497, nat_lit 503, nat_lit 504]
def KK1 : Params → PySem.W.Frag := fun P => [
  (nat_lit 510, ⟨(.type "code"), none, (.fields #[(.str (Str.ofString "_law_odd_primes") 858), (.str (Str.ofString "_law_odd_primes") 859), (.str (Str.ofString "/claim/cut.py") 860), (.int 355 0), (.int 0 0), (.int 0 0), (.int 0 0), (.int 3 0), (.ref 505), (.bool true), (.int 181 0), (.ref 506), .none, (.ref 507), (.ref 508), (.ref 509), (.int 861 0), (.int 355 0), (.str (Str.ofString "/claim/cut.py") 862)]), #[]⟩),
  (nat_lit 511, ⟨(.type "function"), none, (.func (PySem.W.fnOf (Str.ofString "_law_odd_primes") (Str.ofString "_law_odd_primes") (defArgs (topS 61)) (defBody (topS 61)) (defScope (topS 61)) .none .none .none (.str (Str.ofString "law_seenrows_k02_filters_refused") 782) none (.ref 510) .none)), #[]⟩),
  (nat_lit 515, ⟨(.type "code"), none, (.fields #[(.str (Str.ofString "law") 864), (.str (Str.ofString "law") 865), (.str (Str.ofString "/claim/cut.py") 866), (.int 357 0), (.int 1 0), (.int 0 0), (.int 0 0), (.int 3 0), (.ref 512), (.bool true), (.int 181 0), (.ref 513), .none, .none, .none, (.ref 514), (.int 867 0), (.int 357 0), (.str (Str.ofString "/claim/cut.py") 868)]), #[]⟩),
  (nat_lit 516, ⟨(.type "function"), none, (.func (PySem.W.fnOf (Str.ofString "law") (Str.ofString "law") (defArgs (topS 62)) (defBody (topS 62)) (defScope (topS 62)) .none .none .none (.str (Str.ofString "law_seenrows_k02_filters_refused") 782) none (.ref 515) .none)), #[]⟩)]
def KA1 : List Addr := [nat_lit 510, nat_lit 511, nat_lit 515, nat_lit 516]
def KK : Params → PySem.W.Frag := fun P =>
  (nat_lit 2, ⟨.none, none, (.dict #[] 0), #[]⟩) ::
  (nat_lit 3, ⟨(.type "dict"), none, (.dict #[⟨PyData.keyHash P (Str.ofString "__name__"), (.str (Str.ofString "__name__") 165), (.str (Str.ofString "law_seenrows_k02_filters_refused") 782)⟩, ⟨PyData.keyHash P (Str.ofString "__doc__"), (.str (Str.ofString "__doc__") 166), .none⟩, ⟨PyData.keyHash P (Str.ofString "__package__"), (.str (Str.ofString "__package__") 167), .none⟩, ⟨PyData.keyHash P (Str.ofString "__loader__"), (.str (Str.ofString "__loader__") 168), (.builtin "__main__.__loader__#opaque")⟩, ⟨PyData.keyHash P (Str.ofString "__spec__"), (.str (Str.ofString "__spec__") 169), .none⟩, ⟨PyData.keyHash P (Str.ofString "__annotations__"), (.str (Str.ofString "__annotations__") 170), (.ref 6)⟩, ⟨PyData.keyHash P (Str.ofString "__builtins__"), (.str (Str.ofString "__builtins__") 171), (.ref 4)⟩, ⟨PyData.keyHash P (Str.ofString "__file__"), (.str (Str.ofString "__file__") 173), (.str (Str.ofString "/claim/cut.py") 172)⟩, ⟨PyData.keyHash P (Str.ofString "__cached__"), (.str (Str.ofString "__cached__") 174), .none⟩, ⟨PyData.keyHash P (Str.ofString "_wall"), (.str (Str.ofString "_wall") 193), (.ref 21)⟩, ⟨PyData.keyHash P (Str.ofString "SeenError"), (.str (Str.ofString "SeenError") 213), (.ref 31)⟩, ⟨PyData.keyHash P (Str.ofString "BadPrime"), (.str (Str.ofString "BadPrime") 238), (.ref 51)⟩, ⟨PyData.keyHash P (Str.ofString "BadTerm"), (.str (Str.ofString "BadTerm") 263), (.ref 70)⟩, ⟨PyData.keyHash P (Str.ofString "UnlikePrimes"), (.str (Str.ofString "UnlikePrimes") 279), (.ref 82)⟩, ⟨PyData.keyHash P (Str.ofString "ZeroFilter"), (.str (Str.ofString "ZeroFilter") 295), (.ref 94)⟩, ⟨PyData.keyHash P (Str.ofString "PRIMES"), (.str (Str.ofString "PRIMES") 302), (.ref 97)⟩, ⟨PyData.keyHash P (Str.ofString "is_int"), (.str (Str.ofString "is_int") 309), (.ref 104)⟩, ⟨PyData.keyHash P (Str.ofString "is_list"), (.str (Str.ofString "is_list") 316), (.ref 111)⟩, ⟨PyData.keyHash P (Str.ofString "is_prime"), (.str (Str.ofString "is_prime") 323), (.ref 118)⟩, ⟨PyData.keyHash P (Str.ofString "is_term"), (.str (Str.ofString "is_term") 330), (.ref 125)⟩, ⟨PyData.keyHash P (Str.ofString "first_bad_term"), (.str (Str.ofString "first_bad_term") 339), (.ref 132)⟩, ⟨PyData.keyHash P (Str.ofString "NARROW"), (.str (Str.ofString "NARROW") 343), (.int 3 342)⟩, ⟨PyData.keyHash P (Str.ofString "NARROW_BITS"), (.str (Str.ofString "NARROW_BITS") 345), (.int 8 344)⟩, ⟨PyData.keyHash P (Str.ofString "WIDE"), (.str (Str.ofString "WIDE") 347), (.int 8 346)⟩, ⟨PyData.keyHash P (Str.ofString "WIDE_BITS"), (.str (Str.ofString "WIDE_BITS") 349), (.int 19 348)⟩, ⟨PyData.keyHash P (Str.ofString "BLOCK"), (.str (Str.ofString "BLOCK") 351), (.int 1024 350)⟩, ⟨PyData.keyHash P (Str.ofString "SLOT"), (.str (Str.ofString "SLOT") 353), (.int 12 352)⟩, ⟨PyData.keyHash P (Str.ofString "pack"), (.str (Str.ofString "pack") 359), (.ref 137)⟩, ⟨PyData.keyHash P (Str.ofString "unpack"), (.str (Str.ofString "unpack") 365), (.ref 142)⟩, ⟨PyData.keyHash P (Str.ofString "slot_mask"), (.str (Str.ofString "slot_mask") 376), (.ref 149)⟩, ⟨PyData.keyHash P (Str.ofString "lowered"), (.str (Str.ofString "lowered") 387), (.ref 156)⟩, ⟨PyData.keyHash P (Str.ofString "narrow_mask"), (.str (Str.ofString "narrow_mask") 394), (.ref 163)⟩, ⟨PyData.keyHash P (Str.ofString "without"), (.str (Str.ofString "without") 405), (.ref 170)⟩, ⟨PyData.keyHash P (Str.ofString "multiplied"), (.str (Str.ofString "multiplied") 422), (.ref 177)⟩, ⟨PyData.keyHash P (Str.ofString "NEAR"), (.str (Str.ofString "NEAR") 426), (.int 1000 425)⟩, ⟨PyData.keyHash P (Str.ofString "inverse"), (.str (Str.ofString "inverse") 434), (.ref 184)⟩, ⟨PyData.keyHash P (Str.ofString "collected"), (.str (Str.ofString "collected") 440), (.ref 189)⟩, ⟨PyData.keyHash P (Str.ofString "long_division"), (.str (Str.ofString "long_division") 446), (.ref 194)⟩, ⟨PyData.keyHash P (Str.ofString "divided_from_above"), (.str (Str.ofString "divided_from_above") 463), (.ref 201)⟩, ⟨PyData.keyHash P (Str.ofString "divided_from_below"), (.str (Str.ofString "divided_from_below") 483), (.ref 208)⟩, ⟨PyData.keyHash P (Str.ofString "remainder"), (.str (Str.ofString "remainder") 493), (.ref 215)⟩, ⟨PyData.keyHash P (Str.ofString "near_pairs"), (.str (Str.ofString "near_pairs") 499), (.ref 220)⟩, ⟨PyData.keyHash P (Str.ofString "power_digits"), (.str (Str.ofString "power_digits") 514), (.ref 227)⟩, ⟨PyData.keyHash P (Str.ofString "stride_of"), (.str (Str.ofString "stride_of") 522), (.ref 234)⟩, ⟨PyData.keyHash P (Str.ofString "packed_powers"), (.str (Str.ofString "packed_powers") 538), (.ref 241)⟩, ⟨PyData.keyHash P (Str.ofString "packed_sum"), (.str (Str.ofString "packed_sum") 544), (.ref 246)⟩, ⟨PyData.keyHash P (Str.ofString "check_primes"), (.str (Str.ofString "check_primes") 554), (.ref 253)⟩, ⟨PyData.keyHash P (Str.ofString "check_division"), (.str (Str.ofString "check_division") 562), (.ref 260)⟩, ⟨PyData.keyHash P (Str.ofString "scaled"), (.str (Str.ofString "scaled") 568), (.ref 265)⟩, ⟨PyData.keyHash P (Str.ofString "places"), (.str (Str.ofString "places") 574), (.ref 270)⟩, ⟨PyData.keyHash P (Str.ofString "is_dense"), (.str (Str.ofString "is_dense") 582), (.ref 277)⟩, ⟨PyData.keyHash P (Str.ofString "product"), (.str (Str.ofString "product") 588), (.ref 282)⟩, ⟨PyData.keyHash P (Str.ofString "divisor_of"), (.str (Str.ofString "divisor_of") 595), (.ref 289)⟩, ⟨PyData.keyHash P (Str.ofString "Filter"), (.str (Str.ofString "Filter") 781), (.ref 438)⟩, ⟨PyData.keyHash P (Str.ofString "_law_spring"), (.str (Str.ofString "_law_spring") 790), (.ref 449)⟩, ⟨PyData.keyHash P (Str.ofString "_law_draw"), (.str (Str.ofString "_law_draw") 801), (.ref 456)⟩, ⟨PyData.keyHash P (Str.ofString "_law_pick"), (.str (Str.ofString "_law_pick") 809), (.ref 463)⟩, ⟨PyData.keyHash P (Str.ofString "_law_same"), (.str (Str.ofString "_law_same") 815), (.ref 468)⟩, ⟨PyData.keyHash P (Str.ofString "_law_held"), (.str (Str.ofString "_law_held") 821), (.ref 473)⟩, ⟨PyData.keyHash P (Str.ofString "_law_pairs"), (.str (Str.ofString "_law_pairs") 827), (.ref 478)⟩, ⟨PyData.keyHash P (Str.ofString "_law_prime"), (.str (Str.ofString "_law_prime") 834), (.ref 485)⟩, ⟨PyData.keyHash P (Str.ofString "_law_frozen"), (.str (Str.ofString "_law_frozen") 840), (.ref 490)⟩, ⟨PyData.keyHash P (Str.ofString "_law_tried"), (.str (Str.ofString "_law_tried") 850), (.ref 497)⟩, ⟨PyData.keyHash P (Str.ofString "_law_odd_terms"), (.str (Str.ofString "_law_odd_terms") 857), (.ref 504)⟩, ⟨PyData.keyHash P (Str.ofString "_law_odd_primes"), (.str (Str.ofString "_law_odd_primes") 863), (.ref 511)⟩, ⟨PyData.keyHash P (Str.ofString "law"), (.str (Str.ofString "law") 869), (.ref 516)⟩] 66), #[]⟩) ::
  (nat_lit 22, ⟨(.type "tuple"), none, (.seq #[(.type "ValueError")] 0), #[]⟩) ::
  (nat_lit 30, ⟨(.type "dict"), none, (.dict #[⟨PyData.keyHash P (Str.ofString "__module__"), (.str (Str.ofString "__module__") 203), (.str (Str.ofString "seenrows.errors") 194)⟩, ⟨PyData.keyHash P (Str.ofString "__firstlineno__"), (.str (Str.ofString "__firstlineno__") 207), (.int 5 206)⟩, ⟨PyData.keyHash P (Str.ofString "__static_attributes__"), (.str (Str.ofString "__static_attributes__") 208), (.ref 29)⟩, ⟨PyData.keyHash P (Str.ofString "__weakref__"), (.str (Str.ofString "__weakref__") 210), (.ref 32)⟩, ⟨PyData.keyHash P (Str.ofString "__doc__"), (.str (Str.ofString "__doc__") 211), .none⟩] 3), #[]⟩) ::
  (nat_lit 31, ⟨(.type "type"), none, (.cls ⟨(Str.ofString "SeenError"), [(.type "ValueError")], [(.ref 31), (.type "ValueError"), (.type "Exception"), (.type "BaseException"), (.type "object")], 30, (Str.ofString "SeenError"), true, [], [(.ref 51), (.ref 70), (.ref 82), (.ref 94)], false, none, false⟩), #[(some (.ref 22)), none, (some (.str (Str.ofString "SeenError") 196)), (some (.str (Str.ofString "SeenError") 204)), (some (.builtin "ValueError.__new__")), (some (.bool true))]⟩) ::
  (nat_lit 35, ⟨(.type "tuple"), none, (.seq #[(.ref 31)] 0), #[]⟩) ::
  (nat_lit 47, ⟨(.type "code"), none, (.fields #[(.str (Str.ofString "__init__") 226), (.str (Str.ofString "BadPrime.__init__") 227), (.str (Str.ofString "/claim/cut.py") 228), (.int 9 0), (.int 2 0), (.int 0 0), (.int 0 0), (.int 3 0), (.ref 42), (.bool true), (.int 181 0), (.ref 43), .none, (.ref 44), (.ref 45), (.ref 46), (.int 231 0), (.int 9 0), (.str (Str.ofString "/claim/cut.py") 232)]), #[]⟩) ::
  (nat_lit 48, ⟨(.type "function"), none, (.func (PySem.W.fnOf (Str.ofString "__init__") (Str.ofString "BadPrime.__init__") (defArgs (inClass (topS 3) 0)) (defBody (inClass (topS 3) 0)) (defScope (inClass (topS 3) 0)) .none .none .none (.str (Str.ofString "seenrows.errors") 194) none (.ref 47) .none)), #[]⟩) ::
  (nat_lit 50, ⟨(.type "dict"), none, (.dict #[⟨PyData.keyHash P (Str.ofString "__module__"), (.str (Str.ofString "__module__") 221), (.str (Str.ofString "seenrows.errors") 194)⟩, ⟨PyData.keyHash P (Str.ofString "__firstlineno__"), (.str (Str.ofString "__firstlineno__") 225), (.int 7 224)⟩, ⟨PyData.keyHash P (Str.ofString "__init__"), (.str (Str.ofString "__init__") 233), (.ref 48)⟩, ⟨PyData.keyHash P (Str.ofString "__static_attributes__"), (.str (Str.ofString "__static_attributes__") 235), (.ref 49)⟩, ⟨PyData.keyHash P (Str.ofString "__doc__"), (.str (Str.ofString "__doc__") 236), .none⟩] 2), #[]⟩) ::
  (nat_lit 51, ⟨(.type "type"), none, (.cls ⟨(Str.ofString "BadPrime"), [(.ref 31)], [(.ref 51), (.ref 31), (.type "ValueError"), (.type "Exception"), (.type "BaseException"), (.type "object")], 50, (Str.ofString "BadPrime"), true, [], [], false, none, false⟩), #[(some (.ref 35)), none, (some (.str (Str.ofString "BadPrime") 214)), (some (.str (Str.ofString "BadPrime") 222)), (some (.builtin "ValueError.__new__")), (some (.bool true))]⟩) ::
  (nat_lit 54, ⟨(.type "tuple"), none, (.seq #[(.ref 31)] 0), #[]⟩) ::
  (nat_lit 66, ⟨(.type "code"), none, (.fields #[(.str (Str.ofString "__init__") 251), (.str (Str.ofString "BadTerm.__init__") 252), (.str (Str.ofString "/claim/cut.py") 253), (.int 13 0), (.int 2 0), (.int 0 0), (.int 0 0), (.int 3 0), (.ref 61), (.bool true), (.int 181 0), (.ref 62), .none, (.ref 63), (.ref 64), (.ref 65), (.int 256 0), (.int 13 0), (.str (Str.ofString "/claim/cut.py") 257)]), #[]⟩) ::
  (nat_lit 67, ⟨(.type "function"), none, (.func (PySem.W.fnOf (Str.ofString "__init__") (Str.ofString "BadTerm.__init__") (defArgs (inClass (topS 4) 0)) (defBody (inClass (topS 4) 0)) (defScope (inClass (topS 4) 0)) .none .none .none (.str (Str.ofString "seenrows.errors") 194) none (.ref 66) .none)), #[]⟩) ::
  (nat_lit 69, ⟨(.type "dict"), none, (.dict #[⟨PyData.keyHash P (Str.ofString "__module__"), (.str (Str.ofString "__module__") 246), (.str (Str.ofString "seenrows.errors") 194)⟩, ⟨PyData.keyHash P (Str.ofString "__firstlineno__"), (.str (Str.ofString "__firstlineno__") 250), (.int 11 249)⟩, ⟨PyData.keyHash P (Str.ofString "__init__"), (.str (Str.ofString "__init__") 258), (.ref 67)⟩, ⟨PyData.keyHash P (Str.ofString "__static_attributes__"), (.str (Str.ofString "__static_attributes__") 260), (.ref 68)⟩, ⟨PyData.keyHash P (Str.ofString "__doc__"), (.str (Str.ofString "__doc__") 261), .none⟩] 2), #[]⟩) ::
  (nat_lit 70, ⟨(.type "type"), none, (.cls ⟨(Str.ofString "BadTerm"), [(.ref 31)], [(.ref 70), (.ref 31), (.type "ValueError"), (.type "Exception"), (.type "BaseException"), (.type "object")], 69, (Str.ofString "BadTerm"), true, [], [], false, none, false⟩), #[(some (.ref 54)), none, (some (.str (Str.ofString "BadTerm") 239)), (some (.str (Str.ofString "BadTerm") 247)), (some (.builtin "ValueError.__new__")), (some (.bool true))]⟩) ::
  (nat_lit 97, ⟨(.type "tuple"), none, (.seq #[(.int 2 298), (.int 3 299), (.int 5 300), (.int 7 301)] 0), #[]⟩) ::
  (nat_lit 103, ⟨(.type "code"), none, (.fields #[(.str (Str.ofString "is_int") 303), (.str (Str.ofString "is_int") 304), (.str (Str.ofString "/claim/cut.py") 305), (.int 21 0), (.int 1 0), (.int 0 0), (.int 0 0), (.int 3 0), (.ref 98), (.bool true), (.int 181 0), (.ref 99), .none, (.ref 100), (.ref 101), (.ref 102), (.int 307 0), (.int 21 0), (.str (Str.ofString "/claim/cut.py") 308)]), #[]⟩) ::
  (nat_lit 104, ⟨(.type "function"), none, (.func (PySem.W.fnOf (Str.ofString "is_int") (Str.ofString "is_int") (defArgs (topS 9)) (defBody (topS 9)) (defScope (topS 9)) .none .none .none (.str (Str.ofString "seenrows.kinds") 296) none (.ref 103) .none)), #[]⟩) ::
  (nat_lit 110, ⟨(.type "code"), none, (.fields #[(.str (Str.ofString "is_list") 310), (.str (Str.ofString "is_list") 311), (.str (Str.ofString "/claim/cut.py") 312), (.int 23 0), (.int 1 0), (.int 0 0), (.int 0 0), (.int 3 0), (.ref 105), (.bool true), (.int 181 0), (.ref 106), .none, (.ref 107), (.ref 108), (.ref 109), (.int 314 0), (.int 23 0), (.str (Str.ofString "/claim/cut.py") 315)]), #[]⟩) ::
  (nat_lit 111, ⟨(.type "function"), none, (.func (PySem.W.fnOf (Str.ofString "is_list") (Str.ofString "is_list") (defArgs (topS 10)) (defBody (topS 10)) (defScope (topS 10)) .none .none .none (.str (Str.ofString "seenrows.kinds") 296) none (.ref 110) .none)), #[]⟩) ::
  (nat_lit 117, ⟨(.type "code"), none, (.fields #[(.str (Str.ofString "is_prime") 317), (.str (Str.ofString "is_prime") 318), (.str (Str.ofString "/claim/cut.py") 319), (.int 25 0), (.int 1 0), (.int 0 0), (.int 0 0), (.int 3 0), (.ref 112), (.bool true), (.int 181 0), (.ref 113), .none, (.ref 114), (.ref 115), (.ref 116), (.int 321 0), (.int 25 0), (.str (Str.ofString "/claim/cut.py") 322)]), #[]⟩) ::
  (nat_lit 118, ⟨(.type "function"), none, (.func (PySem.W.fnOf (Str.ofString "is_prime") (Str.ofString "is_prime") (defArgs (topS 11)) (defBody (topS 11)) (defScope (topS 11)) .none .none .none (.str (Str.ofString "seenrows.kinds") 296) none (.ref 117) .none)), #[]⟩) ::
  (nat_lit 124, ⟨(.type "code"), none, (.fields #[(.str (Str.ofString "is_term") 324), (.str (Str.ofString "is_term") 325), (.str (Str.ofString "/claim/cut.py") 326), (.int 27 0), (.int 1 0), (.int 0 0), (.int 0 0), (.int 3 0), (.ref 119), (.bool true), (.int 181 0), (.ref 120), .none, (.ref 121), (.ref 122), (.ref 123), (.int 328 0), (.int 27 0), (.str (Str.ofString "/claim/cut.py") 329)]), #[]⟩) ::
  (nat_lit 125, ⟨(.type "function"), none, (.func (PySem.W.fnOf (Str.ofString "is_term") (Str.ofString "is_term") (defArgs (topS 12)) (defBody (topS 12)) (defScope (topS 12)) .none .none .none (.str (Str.ofString "seenrows.kinds") 296) none (.ref 124) .none)), #[]⟩) ::
  (nat_lit 131, ⟨(.type "code"), none, (.fields #[(.str (Str.ofString "first_bad_term") 331), (.str (Str.ofString "first_bad_term") 332), (.str (Str.ofString "/claim/cut.py") 333), (.int 29 0), (.int 1 0), (.int 0 0), (.int 0 0), (.int 3 0), (.ref 126), (.bool true), (.int 181 0), (.ref 127), .none, (.ref 128), (.ref 129), (.ref 130), (.int 337 0), (.int 29 0), (.str (Str.ofString "/claim/cut.py") 338)]), #[]⟩) ::
  (nat_lit 132, ⟨(.type "function"), none, (.func (PySem.W.fnOf (Str.ofString "first_bad_term") (Str.ofString "first_bad_term") (defArgs (topS 13)) (defBody (topS 13)) (defScope (topS 13)) .none .none .none (.str (Str.ofString "seenrows.kinds") 296) none (.ref 131) .none)), #[]⟩) ::
  (nat_lit 188, ⟨(.type "code"), none, (.fields #[(.str (Str.ofString "collected") 435), (.str (Str.ofString "collected") 436), (.str (Str.ofString "/claim/cut.py") 437), (.int 75 0), (.int 2 0), (.int 0 0), (.int 0 0), (.int 3 0), (.ref 185), (.bool true), (.int 181 0), (.ref 186), .none, .none, .none, (.ref 187), (.int 438 0), (.int 75 0), (.str (Str.ofString "/claim/cut.py") 439)]), #[]⟩) ::
  (nat_lit 189, ⟨(.type "function"), none, (.func (PySem.W.fnOf (Str.ofString "collected") (Str.ofString "collected") (defArgs (topS 31)) (defBody (topS 31)) (defScope (topS 31)) .none .none .none (.str (Str.ofString "seenrows.remainders") 423) none (.ref 188) .none)), #[]⟩) ::
  (nat_lit 297, ⟨(.type "tuple"), none, (.seq #[] 0), #[]⟩) ::
  (nat_lit 298, ⟨(.type "tuple"), none, (.seq #[(.ref 297)] 0), #[]⟩) ::
  (nat_lit 304, ⟨(.type "code"), none, (.fields #[(.str (Str.ofString "__init__") 608), (.str (Str.ofString "Filter.__init__") 609), (.str (Str.ofString "/claim/cut.py") 610), (.int 199 0), (.int 3 0), (.int 0 0), (.int 0 0), (.int 3 0), (.ref 299), (.bool true), (.int 181 0), (.ref 300), .none, (.ref 301), (.ref 302), (.ref 303), (.int 615 0), (.int 199 0), (.str (Str.ofString "/claim/cut.py") 616)]), #[]⟩) ::
  (nat_lit 305, ⟨(.type "function"), none, (.func (PySem.W.fnOf (Str.ofString "__init__") (Str.ofString "Filter.__init__") (defArgs (inClass (topS 49) 0)) (defBody (inClass (topS 49) 0)) (defScope (inClass (topS 49) 0)) (.ref 298) .none .none (.str (Str.ofString "seenrows.filters") 545) none (.ref 304) .none)), #[]⟩) ::
  (nat_lit 311, ⟨(.type "code"), none, (.fields #[(.str (Str.ofString "shift") 618), (.str (Str.ofString "Filter.shift") 619), (.str (Str.ofString "/claim/cut.py") 620), (.int 209 0), (.int 3 0), (.int 0 0), (.int 0 0), (.int 3 0), (.ref 306), (.bool true), (.int 181 0), (.ref 307), .none, (.ref 308), (.ref 309), (.ref 310), (.int 624 0), (.int 209 0), (.str (Str.ofString "/claim/cut.py") 625)]), #[]⟩) ::
  (nat_lit 312, ⟨(.type "function"), none, (.func (PySem.W.fnOf (Str.ofString "shift") (Str.ofString "Filter.shift") (defArgs (inClass (topS 49) 1)) (defBody (inClass (topS 49) 1)) (defScope (inClass (topS 49) 1)) .none .none .none (.str (Str.ofString "seenrows.filters") 545) (some 315) (.ref 311) .none)), #[]⟩) ::
  (nat_lit 313, ⟨(.type "dict"), none, (.dict #[⟨PyData.keyHash P (Str.ofString "__module__"), (.str (Str.ofString "__module__") 627), (.str (Str.ofString "seenrows.filters") 545)⟩, ⟨PyData.keyHash P (Str.ofString "__name__"), (.str (Str.ofString "__name__") 630), (.str (Str.ofString "shift") 629)⟩, ⟨PyData.keyHash P (Str.ofString "__qualname__"), (.str (Str.ofString "__qualname__") 633), (.str (Str.ofString "Filter.shift") 632)⟩, ⟨PyData.keyHash P (Str.ofString "__doc__"), (.str (Str.ofString "__doc__") 635), .none⟩, ⟨PyData.keyHash P (Str.ofString "__annotations__"), (.str (Str.ofString "__annotations__") 637), (.ref 315)⟩] 5), #[]⟩) ::
  (nat_lit 314, ⟨(.type "classmethod"), (some 313), (.fields #[(.ref 312), (.bool false)]), #[]⟩) ::
  (nat_lit 321, ⟨(.type "code"), none, (.fields #[(.str (Str.ofString "terms") 639), (.str (Str.ofString "Filter.terms") 640), (.str (Str.ofString "/claim/cut.py") 641), (.int 213 0), (.int 1 0), (.int 0 0), (.int 0 0), (.int 3 0), (.ref 316), (.bool true), (.int 181 0), (.ref 317), .none, (.ref 318), (.ref 319), (.ref 320), (.int 643 0), (.int 213 0), (.str (Str.ofString "/claim/cut.py") 644)]), #[]⟩) ::
  (nat_lit 322, ⟨(.type "function"), none, (.func (PySem.W.fnOf (Str.ofString "terms") (Str.ofString "Filter.terms") (defArgs (inClass (topS 49) 2)) (defBody (inClass (topS 49) 2)) (defScope (inClass (topS 49) 2)) .none .none .none (.str (Str.ofString "seenrows.filters") 545) none (.ref 321) .none)), #[]⟩) ::
  (nat_lit 437, ⟨(.type "dict"), none, (.dict #[⟨PyData.keyHash P (Str.ofString "__module__"), (.str (Str.ofString "__module__") 603), (.str (Str.ofString "seenrows.filters") 545)⟩, ⟨PyData.keyHash P (Str.ofString "__firstlineno__"), (.str (Str.ofString "__firstlineno__") 607), (.int 197 606)⟩, ⟨PyData.keyHash P (Str.ofString "__init__"), (.str (Str.ofString "__init__") 617), (.ref 305)⟩, ⟨PyData.keyHash P (Str.ofString "shift"), (.str (Str.ofString "shift") 638), (.ref 314)⟩, ⟨PyData.keyHash P (Str.ofString "terms"), (.str (Str.ofString "terms") 645), (.ref 322)⟩, ⟨PyData.keyHash P (Str.ofString "low"), (.str (Str.ofString "low") 652), (.ref 329)⟩, ⟨PyData.keyHash P (Str.ofString "high"), (.str (Str.ofString "high") 659), (.ref 336)⟩, ⟨PyData.keyHash P (Str.ofString "span"), (.str (Str.ofString "span") 666), (.ref 343)⟩, ⟨PyData.keyHash P (Str.ofString "normal"), (.str (Str.ofString "normal") 672), (.ref 348)⟩, ⟨PyData.keyHash P (Str.ofString "__call__"), (.str (Str.ofString "__call__") 680), (.ref 355)⟩, ⟨PyData.keyHash P (Str.ofString "__bool__"), (.str (Str.ofString "__bool__") 687), (.ref 362)⟩, ⟨PyData.keyHash P (Str.ofString "__eq__"), (.str (Str.ofString "__eq__") 695), (.ref 369)⟩, ⟨PyData.keyHash P (Str.ofString "__getitem__"), (.str (Str.ofString "__getitem__") 703), (.ref 376)⟩, ⟨PyData.keyHash P (Str.ofString "__iter__"), (.str (Str.ofString "__iter__") 710), (.ref 383)⟩, ⟨PyData.keyHash P (Str.ofString "__neg__"), (.str (Str.ofString "__neg__") 717), (.ref 390)⟩, ⟨PyData.keyHash P (Str.ofString "__add__"), (.str (Str.ofString "__add__") 725), (.ref 397)⟩, ⟨PyData.keyHash P (Str.ofString "__sub__"), (.str (Str.ofString "__sub__") 733), (.ref 404)⟩, ⟨PyData.keyHash P (Str.ofString "__mul__"), (.str (Str.ofString "__mul__") 741), (.ref 411)⟩, ⟨PyData.keyHash P (Str.ofString "__rmul__"), (.str (Str.ofString "__rmul__") 749), (.ref 418)⟩, ⟨PyData.keyHash P (Str.ofString "__pow__"), (.str (Str.ofString "__pow__") 755), (.ref 423)⟩, ⟨PyData.keyHash P (Str.ofString "__mod__"), (.str (Str.ofString "__mod__") 763), (.ref 430)⟩, ⟨PyData.keyHash P (Str.ofString "__floordiv__"), (.str (Str.ofString "__floordiv__") 769), (.ref 435)⟩, ⟨PyData.keyHash P (Str.ofString "__static_attributes__"), (.str (Str.ofString "__static_attributes__") 773), (.ref 436)⟩, ⟨PyData.keyHash P (Str.ofString "__dict__"), (.str (Str.ofString "__dict__") 775), (.ref 439)⟩, ⟨PyData.keyHash P (Str.ofString "__weakref__"), (.str (Str.ofString "__weakref__") 777), (.ref 440)⟩, ⟨PyData.keyHash P (Str.ofString "__doc__"), (.str (Str.ofString "__doc__") 778), .none⟩, ⟨PyData.keyHash P (Str.ofString "__hash__"), (.str (Str.ofString "__hash__") 779), .none⟩] 5), #[]⟩) ::
  (nat_lit 438, ⟨(.type "type"), none, (.cls ⟨(Str.ofString "Filter"), [(.type "object")], [(.ref 438), (.type "object")], 437, (Str.ofString "Filter"), true, [], [], false, none, false⟩), #[none, none, (some (.str (Str.ofString "Filter") 596)), (some (.str (Str.ofString "Filter") 604)), (some (.builtin "object.__new__")), (some (.bool true))]⟩) ::
  (nat_lit 448, ⟨(.type "code"), none, (.fields #[(.str (Str.ofString "_law_spring") 784), (.str (Str.ofString "_law_spring") 785), (.str (Str.ofString "/claim/cut.py") 786), (.int 304 0), (.int 1 0), (.int 0 0), (.int 0 0), (.int 3 0), (.ref 443), (.bool true), (.int 181 0), (.ref 444), .none, (.ref 445), (.ref 446), (.ref 447), (.int 788 0), (.int 304 0), (.str (Str.ofString "/claim/cut.py") 789)]), #[]⟩) ::
  (nat_lit 449, ⟨(.type "function"), none, (.func (PySem.W.fnOf (Str.ofString "_law_spring") (Str.ofString "_law_spring") (defArgs (topS 51)) (defBody (topS 51)) (defScope (topS 51)) .none .none .none (.str (Str.ofString "law_seenrows_k02_filters_refused") 782) none (.ref 448) .none)), #[]⟩) ::
  (nat_lit 455, ⟨(.type "code"), none, (.fields #[(.str (Str.ofString "_law_draw") 791), (.str (Str.ofString "_law_draw") 792), (.str (Str.ofString "/claim/cut.py") 793), (.int 306 0), (.int 2 0), (.int 0 0), (.int 0 0), (.int 3 0), (.ref 450), (.bool true), (.int 181 0), (.ref 451), .none, (.ref 452), (.ref 453), (.ref 454), (.int 799 0), (.int 306 0), (.str (Str.ofString "/claim/cut.py") 800)]), #[]⟩) ::
  (nat_lit 456, ⟨(.type "function"), none, (.func (PySem.W.fnOf (Str.ofString "_law_draw") (Str.ofString "_law_draw") (defArgs (topS 52)) (defBody (topS 52)) (defScope (topS 52)) .none .none .none (.str (Str.ofString "law_seenrows_k02_filters_refused") 782) none (.ref 455) .none)), #[]⟩) ::
  (nat_lit 462, ⟨(.type "code"), none, (.fields #[(.str (Str.ofString "_law_pick") 802), (.str (Str.ofString "_law_pick") 803), (.str (Str.ofString "/claim/cut.py") 804), (.int 320 0), (.int 2 0), (.int 0 0), (.int 0 0), (.int 3 0), (.ref 457), (.bool true), (.int 181 0), (.ref 458), .none, (.ref 459), (.ref 460), (.ref 461), (.int 807 0), (.int 320 0), (.str (Str.ofString "/claim/cut.py") 808)]), #[]⟩) ::
  (nat_lit 463, ⟨(.type "function"), none, (.func (PySem.W.fnOf (Str.ofString "_law_pick") (Str.ofString "_law_pick") (defArgs (topS 53)) (defBody (topS 53)) (defScope (topS 53)) .none .none .none (.str (Str.ofString "law_seenrows_k02_filters_refused") 782) none (.ref 462) .none)), #[]⟩) ::
  (nat_lit 467, ⟨(.type "code"), none, (.fields #[(.str (Str.ofString "_law_same") 810), (.str (Str.ofString "_law_same") 811), (.str (Str.ofString "/claim/cut.py") 812), (.int 322 0), (.int 2 0), (.int 0 0), (.int 0 0), (.int 3 0), (.ref 464), (.bool true), (.int 181 0), (.ref 465), .none, .none, .none, (.ref 466), (.int 813 0), (.int 322 0), (.str (Str.ofString "/claim/cut.py") 814)]), #[]⟩) ::
  (nat_lit 468, ⟨(.type "function"), none, (.func (PySem.W.fnOf (Str.ofString "_law_same") (Str.ofString "_law_same") (defArgs (topS 54)) (defBody (topS 54)) (defScope (topS 54)) .none .none .none (.str (Str.ofString "law_seenrows_k02_filters_refused") 782) none (.ref 467) .none)), #[]⟩) ::
  (nat_lit 472, ⟨(.type "code"), none, (.fields #[(.str (Str.ofString "_law_held") 816), (.str (Str.ofString "_law_held") 817), (.str (Str.ofString "/claim/cut.py") 818), (.int 330 0), (.int 2 0), (.int 0 0), (.int 0 0), (.int 3 0), (.ref 469), (.bool true), (.int 181 0), (.ref 470), .none, .none, .none, (.ref 471), (.int 819 0), (.int 330 0), (.str (Str.ofString "/claim/cut.py") 820)]), #[]⟩) ::
  (nat_lit 473, ⟨(.type "function"), none, (.func (PySem.W.fnOf (Str.ofString "_law_held") (Str.ofString "_law_held") (defArgs (topS 55)) (defBody (topS 55)) (defScope (topS 55)) .none .none .none (.str (Str.ofString "law_seenrows_k02_filters_refused") 782) none (.ref 472) .none)), #[]⟩) ::
  (nat_lit 477, ⟨(.type "code"), none, (.fields #[(.str (Str.ofString "_law_pairs") 822), (.str (Str.ofString "_law_pairs") 823), (.str (Str.ofString "/claim/cut.py") 824), (.int 338 0), (.int 1 0), (.int 0 0), (.int 0 0), (.int 3 0), (.ref 474), (.bool true), (.int 181 0), (.ref 475), .none, .none, .none, (.ref 476), (.int 825 0), (.int 338 0), (.str (Str.ofString "/claim/cut.py") 826)]), #[]⟩) ::
  (nat_lit 478, ⟨(.type "function"), none, (.func (PySem.W.fnOf (Str.ofString "_law_pairs") (Str.ofString "_law_pairs") (defArgs (topS 56)) (defBody (topS 56)) (defScope (topS 56)) .none .none .none (.str (Str.ofString "law_seenrows_k02_filters_refused") 782) none (.ref 477) .none)), #[]⟩) ::
  (nat_lit 484, ⟨(.type "code"), none, (.fields #[(.str (Str.ofString "_law_prime") 828), (.str (Str.ofString "_law_prime") 829), (.str (Str.ofString "/claim/cut.py") 830), (.int 340 0), (.int 1 0), (.int 0 0), (.int 0 0), (.int 3 0), (.ref 479), (.bool true), (.int 181 0), (.ref 480), .none, (.ref 481), (.ref 482), (.ref 483), (.int 832 0), (.int 340 0), (.str (Str.ofString "/claim/cut.py") 833)]), #[]⟩) ::
  (nat_lit 485, ⟨(.type "function"), none, (.func (PySem.W.fnOf (Str.ofString "_law_prime") (Str.ofString "_law_prime") (defArgs (topS 57)) (defBody (topS 57)) (defScope (topS 57)) .none .none .none (.str (Str.ofString "law_seenrows_k02_filters_refused") 782) none (.ref 484) .none)), #[]⟩) ::
  (nat_lit 489, ⟨(.type "code"), none, (.fields #[(.str (Str.ofString "_law_frozen") 835), (.str (Str.ofString "_law_frozen") 836), (.str (Str.ofString "/claim/cut.py") 837), (.int 342 0), (.int 1 0), (.int 0 0), (.int 0 0), (.int 3 0), (.ref 486), (.bool true), (.int 181 0), (.ref 487), .none, .none, .none, (.ref 488), (.int 838 0), (.int 342 0), (.str (Str.ofString "/claim/cut.py") 839)]), #[]⟩) ::
  (nat_lit 490, ⟨(.type "function"), none, (.func (PySem.W.fnOf (Str.ofString "_law_frozen") (Str.ofString "_law_frozen") (defArgs (topS 58)) (defBody (topS 58)) (defScope (topS 58)) .none .none .none (.str (Str.ofString "law_seenrows_k02_filters_refused") 782) none (.ref 489) .none)), #[]⟩) ::
  (nat_lit 496, ⟨(.type "code"), none, (.fields #[(.str (Str.ofString "_law_tried") 841), (.str (Str.ofString "_law_tried") 842), (.str (Str.ofString "/claim/cut.py") 843), (.int 344 0), (.int 2 0), (.int 0 0), (.int 0 0), (.int 3 0), (.ref 491), (.bool true), (.int 181 0), (.ref 492), .none, (.ref 493), (.ref 494), (.ref 495), (.int 848 0), (.int 344 0), (.str (Str.ofString "/claim/cut.py") 849)]), #[]⟩) ::
  (nat_lit 497, ⟨(.type "function"), none, (.func (PySem.W.fnOf (Str.ofString "_law_tried") (Str.ofString "_law_tried") (defArgs (topS 59)) (defBody (topS 59)) (defScope (topS 59)) .none .none .none (.str (Str.ofString "law_seenrows_k02_filters_refused") 782) none (.ref 496) .none)), #[]⟩) ::
  (nat_lit 503, ⟨(.type "code"), none, (.fields #[(.str (Str.ofString "_law_odd_terms") 851), (.str (Str.ofString "_law_odd_terms") 852), (.str (Str.ofString "/claim/cut.py") 853), (.int 352 0), (.int 0 0), (.int 0 0), (.int 0 0), (.int 3 0), (.ref 498), (.bool true), (.int 181 0), (.ref 499), .none, (.ref 500), (.ref 501), (.ref 502), (.int 855 0), (.int 352 0), (.str (Str.ofString "/claim/cut.py") 856)]), #[]⟩) ::
  (nat_lit 504, ⟨(.type "function"), none, (.func (PySem.W.fnOf (Str.ofString "_law_odd_terms") (Str.ofString "_law_odd_terms") (defArgs (topS 60)) (defBody (topS 60)) (defScope (topS 60)) .none .none .none (.str (Str.ofString "law_seenrows_k02_filters_refused") 782) none (.ref 503) .none)), #[]⟩) ::
  (nat_lit 510, ⟨(.type "code"), none, (.fields #[(.str (Str.ofString "_law_odd_primes") 858), (.str (Str.ofString "_law_odd_primes") 859), (.str (Str.ofString "/claim/cut.py") 860), (.int 355 0), (.int 0 0), (.int 0 0), (.int 0 0), (.int 3 0), (.ref 505), (.bool true), (.int 181 0), (.ref 506), .none, (.ref 507), (.ref 508), (.ref 509), (.int 861 0), (.int 355 0), (.str (Str.ofString "/claim/cut.py") 862)]), #[]⟩) ::
  (nat_lit 511, ⟨(.type "function"), none, (.func (PySem.W.fnOf (Str.ofString "_law_odd_primes") (Str.ofString "_law_odd_primes") (defArgs (topS 61)) (defBody (topS 61)) (defScope (topS 61)) .none .none .none (.str (Str.ofString "law_seenrows_k02_filters_refused") 782) none (.ref 510) .none)), #[]⟩) ::
  (nat_lit 515, ⟨(.type "code"), none, (.fields #[(.str (Str.ofString "law") 864), (.str (Str.ofString "law") 865), (.str (Str.ofString "/claim/cut.py") 866), (.int 357 0), (.int 1 0), (.int 0 0), (.int 0 0), (.int 3 0), (.ref 512), (.bool true), (.int 181 0), (.ref 513), .none, .none, .none, (.ref 514), (.int 867 0), (.int 357 0), (.str (Str.ofString "/claim/cut.py") 868)]), #[]⟩) ::
  (nat_lit 516, ⟨(.type "function"), none, (.func (PySem.W.fnOf (Str.ofString "law") (Str.ofString "law") (defArgs (topS 62)) (defBody (topS 62)) (defScope (topS 62)) .none .none .none (.str (Str.ofString "law_seenrows_k02_filters_refused") 782) none (.ref 515) .none)), #[]⟩) :: []
def KA : List Addr := [nat_lit 2, nat_lit 3, nat_lit 22, nat_lit 30, nat_lit 31, nat_lit 35, nat_lit 47, nat_lit 48, nat_lit 50, nat_lit 51, nat_lit 54, nat_lit 66, nat_lit 67, nat_lit 69, nat_lit 70, nat_lit 97, nat_lit 103, nat_lit 104, nat_lit 110, nat_lit 111, nat_lit 117, nat_lit 118, nat_lit 124, nat_lit 125, nat_lit 131, nat_lit 132, nat_lit 188, nat_lit 189, nat_lit 297, nat_lit 298, nat_lit 304, nat_lit 305, nat_lit 311, nat_lit 312, nat_lit 313, nat_lit 314, nat_lit 321, nat_lit 322, nat_lit 437, nat_lit 438, nat_lit 448, nat_lit 449, nat_lit 455, nat_lit 456, nat_lit 462, nat_lit 463, nat_lit 467, nat_lit 468, nat_lit 472, nat_lit 473, nat_lit 477, nat_lit 478, nat_lit 484, nat_lit 485, nat_lit 489, nat_lit 490, nat_lit 496, nat_lit 497, nat_lit 503, nat_lit 504, nat_lit 510, nat_lit 511, nat_lit 515, nat_lit 516]
def LO : List PySem.Str := ([PySem.Str.ofString "_wall", PySem.Str.ofString "__name__", PySem.Str.ofString "SeenError", PySem.Str.ofString "BadPrime", PySem.Str.ofString "BadTerm", PySem.Str.ofString "UnlikePrimes", PySem.Str.ofString "ZeroFilter", PySem.Str.ofString "PRIMES", PySem.Str.ofString "is_int", PySem.Str.ofString "is_list", PySem.Str.ofString "is_prime", PySem.Str.ofString "is_term", PySem.Str.ofString "first_bad_term", PySem.Str.ofString "NARROW", PySem.Str.ofString "NARROW_BITS", PySem.Str.ofString "WIDE", PySem.Str.ofString "WIDE_BITS", PySem.Str.ofString "BLOCK", PySem.Str.ofString "SLOT", PySem.Str.ofString "pack", PySem.Str.ofString "unpack", PySem.Str.ofString "slot_mask", PySem.Str.ofString "lowered", PySem.Str.ofString "narrow_mask", PySem.Str.ofString "without", PySem.Str.ofString "multiplied", PySem.Str.ofString "NEAR", PySem.Str.ofString "inverse", PySem.Str.ofString "collected", PySem.Str.ofString "long_division", PySem.Str.ofString "divided_from_above", PySem.Str.ofString "divided_from_below", PySem.Str.ofString "remainder", PySem.Str.ofString "near_pairs", PySem.Str.ofString "power_digits", PySem.Str.ofString "stride_of", PySem.Str.ofString "packed_powers", PySem.Str.ofString "packed_sum", PySem.Str.ofString "check_primes", PySem.Str.ofString "check_division"] : List PySem.Str) ++ ([PySem.Str.ofString "scaled", PySem.Str.ofString "places", PySem.Str.ofString "is_dense", PySem.Str.ofString "product", PySem.Str.ofString "divisor_of", PySem.Str.ofString "Filter", PySem.Str.ofString "_law_spring", PySem.Str.ofString "_law_draw", PySem.Str.ofString "_law_pick", PySem.Str.ofString "_law_same", PySem.Str.ofString "_law_held", PySem.Str.ofString "_law_pairs", PySem.Str.ofString "_law_prime", PySem.Str.ofString "_law_frozen", PySem.Str.ofString "_law_tried", PySem.Str.ofString "_law_odd_terms", PySem.Str.ofString "_law_odd_primes"] : List PySem.Str)
def VV : PySem.Program := PySem.W.view PySem.Challenge.pw_seenrows_k02_filters_refused [62]
end SR
lay_quick PySem.Challenge.pw_seenrows_k02_filters_refused SR.KK0 SR.KK1 SR.VV SR.LO
set_option maxRecDepth 100000
set_option maxHeartbeats 0
namespace SR
open PySem PySem.W HeadRun PyProof.Rows PySem.Calls
theorem look_l (w : World) (os : OsState) : (endF (stepQ (denQ tabQ) PySem.W.Fast.tw13593246688715572613 w) 3587 PySem.W.Fast.tw13593246688715572613 w os).map (fun s => looksF PySem.W.Fast.tw13593246688715572613 (boot_heap w.params) s.abs) = some true := by kernel_rfl
theorem look_s (w : World) (os : OsState) : (endF (stepQ (denQ tabQ) PySem.W.Fast.tw13593246688715572613 w) 3587 PySem.W.Fast.tw13593246688715572613 w os).map (fun s => seenQ PySem.W.Fast.tw12481167789305635118 PySem.W.Fast.tw4387945433670703405 (importedModules PySem.W.Fast.tw13593246688715572613.main.body) (fun s => xlAt PySem.W.Fast.tw12481167789305635118 [] s && recOk (RowW.records (OpenRow.toRowW (PySem.W.OpenLaw.row PySem.Challenge.rw_seenrows_k02_filters_refused))) s) s.abs) = some (openGood PySem.W.Fast.tw12481167789305635118 PySem.W.Fast.tw4387945433670703405) := by kernel_rfl
theorem look_k0 (w : World) (os : OsState) : (endF (stepQ (denQ tabQ) PySem.W.Fast.tw13593246688715572613 w) 3587 PySem.W.Fast.tw13593246688715572613 w os).map (fun s => KA0.map (getT s)) = some ((PySem.W.Fast.tw8986227453893839255 w.params).map fun x => some x.2) := by kernel_rfl
theorem look_k1 (w : World) (os : OsState) : (endF (stepQ (denQ tabQ) PySem.W.Fast.tw13593246688715572613 w) 3587 PySem.W.Fast.tw13593246688715572613 w os).map (fun s => KA1.map (getT s)) = some ((PySem.W.Fast.tw17149621385884660539 w.params).map fun x => some x.2) := by kernel_rfl
theorem map_app {α β γ : Type} {x : Option α} {as bs : List β} {g : α → β → γ} {c d : List γ} (h1 : Option.map (fun s => as.map (g s)) x = some c) (h2 : Option.map (fun s => bs.map (g s)) x = some d) : Option.map (fun s => (as ++ bs).map (g s)) x = some (c ++ d) := by
  cases x with
  | none => cases h1
  | some s =>
    have e1 : as.map (g s) = c := Option.some.inj h1
    have e2 : bs.map (g s) = d := Option.some.inj h2
    show some ((as ++ bs).map (g s)) = _
    rw [List.map_append, e1, e2]
theorem triple {α β γ δ : Type} {x : Option α} {f : α → β} {g : α → γ} {h : α → δ} {b : β} {c : γ} {d : δ} (h1 : Option.map f x = some b) (h2 : Option.map g x = some c) (h3 : Option.map h x = some d) : Option.map (fun s => (f s, g s, h s)) x = some (b, c, d) := by
  cases x with
  | none => cases h1
  | some s =>
    have e1 : f s = b := Option.some.inj h1
    have e2 : g s = c := Option.some.inj h2
    have e3 : h s = d := Option.some.inj h3
    show some (f s, g s, h s) = some (b, c, d)
    rw [e1, e2, e3]
theorem ka_eq : KA = (KA0 ++ KA1) := by kernel_rfl
theorem kk_eq (P : Params) : KK P = (KK0 P ++ KK1 P) := by kernel_rfl
theorem kk_as (P : Params) : KA = (KK P).map (·.1) := by kernel_rfl
theorem look_k (w : World) (os : OsState) : (endF (stepQ (denQ tabQ) PySem.W.Fast.tw13593246688715572613 w) 3587 PySem.W.Fast.tw13593246688715572613 w os).map (fun s => KA.map (getT s)) = some ((KK w.params).map fun x => some x.2) := by
  rw [ka_eq, kk_eq, List.map_append, show KK0 = PySem.W.Fast.tw8986227453893839255 from PySem.W.Fast.te8986227453893839255, show KK1 = PySem.W.Fast.tw17149621385884660539 from PySem.W.Fast.te17149621385884660539]
  exact map_app (look_k0 w os) (look_k1 w os)
theorem run_all (w : World) : RunEq (PySem.W.OpenLaw.row PySem.Challenge.rw_seenrows_k02_filters_refused) VV (kHook KK KA kk_as) (fun s => KA.map (getT s)) 3587 LO w := by
  intro os
  show (endF (stepQ (denQ tabQ) PySem.Challenge.pw_seenrows_k02_filters_refused w) 3587 PySem.Challenge.pw_seenrows_k02_filters_refused w os).map (fun s => (looksF PySem.Challenge.pw_seenrows_k02_filters_refused (boot_heap w.params) s.abs, seenQ VV LO (importedModules PySem.Challenge.pw_seenrows_k02_filters_refused.main.body) (fun s => xlAt VV [] s && recOk (RowW.records (OpenRow.toRowW (PySem.W.OpenLaw.row PySem.Challenge.rw_seenrows_k02_filters_refused))) s) s.abs, KA.map (getT s))) = some (true, openGood VV LO, (KK w.params).map fun x => some x.2)
  rw [show PySem.Challenge.pw_seenrows_k02_filters_refused = PySem.W.Fast.tw13593246688715572613 from PySem.W.Fast.te13593246688715572613, show VV = PySem.W.Fast.tw12481167789305635118 from PySem.W.Fast.te12481167789305635118, show LO = PySem.W.Fast.tw4387945433670703405 from PySem.W.Fast.te4387945433670703405]
  exact triple (look_l w os) (look_s w os) (look_k w os)
theorem ob_eq (s : SharedT) : (KA.map (getT s)) = (kHook KK KA kk_as).obs s.abs := List.map_congr_left fun a _ => getT_eq s a
end SR
set_option maxRecDepth 100000
set_option maxHeartbeats 4000000
namespace SR
open PySem PySem.Spec PyProof.Rows L2 Evl
theorem funD_ok {P : Program} {w : World} {K : PySem.W.Frag} {mg : Str → Option Value} {base : Heap} {x qual : Str} {st : Stmt} {dvs : List V} {kws : List (Str × V)} {f : Addr} {fd : FuncData} {N ps : List Str} {k : Nat} {sp : Sp}
    (F : FunD K x qual (defArgs st) (defBody st) (defScope st) dvs kws f fd) (S : FnScope N ps (defScope st)) (len : ∀ vs H Q E, sp vs H Q E → vs.length = ps.length)
    (hbody : ∀ (cdv : Value) (A : Around) (outer : List Env) (s : Shared) (H : Hp) (vs : List V) (Q : VK) (E : XK), Room k (A.deeper (envOfC qual (defScope st) s.heap.objs.size f cdv)) → sp vs H Q E →
      ∃ t, PSs (cxOf CX0 P w K mg base N qual (defScope st) f cdv A outer s H E).nox (defBody st) t ∧ t { nx := fun _ H' => Q .non H', rt := Q } (start N vs) H) : FnOk P w K mg base CX0 (k + 1) f fd ps sp :=
  FunD.ok F S len fun cdv A outer s H vs Q E hr h => by
    obtain ⟨t, h1, h2⟩ := hbody cdv A outer s H vs Q E hr h
    exact ⟨t, h1.nox, h2⟩
/-! ### Filter.__init__, good arguments -/
def spInit (K : PySem.W.Frag) (C : Addr) : Sp := fun vs H Q _ => ∃ (G H1 : Hp) (x dx : Addr) (p : Int) (v : V) (d : D FilS) (rows : List (Int × Int)), vs = [.ref x, .int p, v] ∧ Ex G H1 ∧ H1 x = none ∧ H1 dx = none ∧ dx ≠ x ∧ H = upd (upd H1 dx (.own x)) x (.ins C dx []) ∧
  At K (FilO K C) G d v ∧ RowsD d rows ∧ rows.length ≤ 30000 ∧ primes.contains p = true ∧ ∀ G2 H2, Le G H1 G2 H2 → FilAt K C G2 x ⟨p, coll p rows⟩ → Q .non H2
theorem rows_bad {ω : Type} {d : D ω} {rows : List (Int × Int)} (h : RowsD d rows) : dBad d = .non := by
  obtain ⟨l, hl, hr⟩ := h
  have hb : badL l = none := badL_none fun c hc => by
    obtain ⟨j, hj, rfl⟩ := List.mem_iff_getElem.mp hc
    obtain ⟨q, _, h1⟩ := hr.get (List.getElem?_eq_getElem hj)
    rcases h1 with h1 | h1 <;> rw [h1] <;> rfl
  rcases hl with rfl | rfl
  · show (match badL l with | none => D.non | some i => D.int (i : Nat)) = D.non
    rw [hb]
  · show (match badL l with | none => D.non | some i => D.int (i : Nat)) = D.non
    rw [hb]
theorem prime_pos {p : Int} (h : primes.contains p = true) : 0 < p := by
  have h1 : p ∈ primes := List.contains_iff_mem.mp h
  unfold primes at h1
  simp at h1
  omega
theorem putF_len {f : Str} {v : V} : ∀ {fs : List (Str × V)}, (putF f v fs).length ≤ fs.length + 1
  | [] => Nat.le_refl _
  | (g, x) :: r => by
    show (if g = f then (g, v) :: r else (g, x) :: putF f v r).length ≤ _
    split
    · simp
    · have := putF_len (f := f) (v := v) (fs := r)
      simp only [List.length_cons]
      omega
theorem flds_eq {p : Int} {tp kd : Addr} : putF "coefficients" (.ref kd) (putF "pairs" (.ref tp) (putF "prime" (.int p) [])) = flds p tp kd := by
  have h1 : ¬ (("prime" : Str) = "pairs") := by decide +kernel
  have h2 : ¬ (("prime" : Str) = "coefficients") := by decide +kernel
  have h3 : ¬ (("pairs" : Str) = "coefficients") := by decide +kernel
  unfold flds
  simp [putF, h1, h2, h3]
theorem ts_kv {K : PySem.W.Frag} {H : Hp} : ∀ {ts : List Addr} {ps : List (Int × Int)}, TsAt K H ts ps → Paired (fun p (kv : Key × V) => SqT K H p [kV kv.1, kv.2]) ts (kvI ps)
  | _, _, .nil => .nil
  | _, _, .cons h t => .cons h (ts_kv t)
section
variable {P : Program} {w : World} {K : PySem.W.Frag} {mg : Str → Option Value} {base : Heap} {C : Addr} {Ty : FilS → Value}
abbrev Filter___init___S : Stmt := inClass (topS 49) 0
abbrev Filter___init___N : List Str := ["self", "prime", "terms", "index"]
theorem Filter___init___sc : FnScope Filter___init___N ["self", "prime", "terms"] (defScope Filter___init___S) := ⟨rfl, rfl, rfl, by decide +kernel, rfl, by decide +kernel, by decide +kernel⟩
theorem ok_init {f : Addr} {fd : FuncData} {dvs : List V} {kws : List (Str × V)} (F : FunD K "__init__" "Filter.__init__" (defArgs Filter___init___S) (defBody Filter___init___S) (defScope Filter___init___S) dvs kws f fd) (B : Bi mg) (c : FilC K C)
    (h_is_prime : DefOk P w K mg base 2 "is_prime" ["thing"] (SpD K (FilO K C) rIsPrime)) (h_first_bad_term : DefOk P w K mg base 3 "first_bad_term" ["terms"] (SpD K (FilO K C) rBad)) (h_collected : DefOk P w K mg base 1 "collected" ["prime", "pairs"] (SpD K (FilO K C) rColl)) :
    FnOk P w K mg base CX0 4 f fd ["self", "prime", "terms"] (spInit K C) := by
  refine funD_ok F Filter___init___sc (fun vs H Q E h => ?_) (fun cdv A outer s H vs Q E hr h => ?_)
  · obtain ⟨G, H1, x, dx, p, v, d, rows, rfl, _⟩ := h
    rfl
  · obtain ⟨G, H1, x, dx, p, v, d, rows, rfl, e, hx, hdx, hne, rfl, a, hrows, hz, hp, k⟩ := h
    refine ⟨_, (pss_cons (ps_if (pt_not (pt_val (pe_callD h_is_prime (hr.mono (by first | decide | exact Nat.le_refl _)) (pa_cons (pv 1) pa_nil)))) (pss_one ps_never) pss_nil)
    (pss_cons (ps_set (i := 3) Filter___init___sc.nd rfl (Or.inl rfl) (pe_callD h_first_bad_term (hr.mono (by first | decide | exact Nat.le_refl _)) (pa_cons (pv 2) pa_nil)))
    (pss_cons (ps_if (pt_cmpR op_notN (pv 3) pe_non (nomark _)) (pss_one ps_never) pss_nil)
    (pss_cons (ps_fld (pv 0) (pv 1) rfl)
    (pss_cons (ps_fld (pv 0) (pe_callTy call_tupleF (by rfl) B.tuple (by decide +kernel) (pa_cons (pe_callD h_collected (hr.mono (by first | decide | exact Nat.le_refl _)) (pa_cons (pv 1) (pa_cons (pv 2) pa_nil))) pa_nil)) rfl)
    (pss_one (ps_fld (pv 0) (pe_callTy (call_dictT rfl) (by rfl) B.dict (by decide +kernel) (pa_cons (pe_fldK K (pv 0)) pa_nil)) rfl))))))), ?_⟩
    have l0 : Le G H1 G (upd H1 dx (.own x)) := Le.newM e hdx
    have l1 : Le G H1 G (upd (upd H1 dx (.own x)) x (.ins C dx [])) := l0.trans (Le.newM l0.e (by rw [upd_ne (Ne.symm hne)]; exact hx))
    have gx : G x = none := none_of_ex e hx
    have hv1 : ∀ y, EvD K (FilO K C) (tVar 1) [some (.ref x), some (.int p), some v, y] G (.int p) := fun y => ed_var rfl (at_int.mpr rfl)
    have hv2 : ∀ y, EvD K (FilO K C) (tVar 2) [some (.ref x), some (.int p), some v, y] G d := fun y => ed_var rfl a
    refine q_skip (et_is (et_not (et_ofD (ed_call (eda_cons (hv1 _) eda_nil) ⟨_, rfl, rfl⟩))) (by show (!primes.contains p) = false; rw [hp]; rfl)) l1.e fun H2 l2 => ?_
    refine q_asgV (v := .non) (ev_non (ed_call (eda_cons (hv2 _) eda_nil) ⟨d, rfl, (rows_bad hrows).symm⟩)) l2.e fun H3 l3 => ?_
    refine q_skip (et_is (et_test (b := false) (ev_op (z := .bl (!decide (V.non = V.non))) (ev_var (i := 3) rfl) ev_c fun H4 e4 Q q => ⟨rfl, q H4 (Ex.refl H4)⟩)) rfl) l3.e fun H4 l4 => ?_
    have l14 := ((l1.trans l2).trans l3).trans l4
    have hx4 : H4 x = some (.ins C dx []) := l4.h x _ (l3.h x _ (l2.h x _ upd_same))
    refine ⟨_, rfl, _, rfl, x, C, dx, [], rfl, hx4, c.cl, c.n1, (by decide), ?_⟩
    have l5 := l14.mut (o := .ins C dx (putF "prime" (.int p) [])) hx gx
    refine ed_call (K := K) (O := FilO K C) (R := rColl) (ds := [.int p, d]) (d := .lst ((coll p rows).map pairD)) (eda_cons (hv1 _) (eda_cons (hv2 _) eda_nil)) ⟨p, d, rows, rfl, prime_pos hp, hrows, hz, rfl⟩ _ l5.e _ fun vl G6 H6 l6 al => ?_
    obtain ⟨la, vs, rfl, hs, as⟩ := at_lst.mp al
    obtain ⟨ts, rfl, hts⟩ := pairs_atL as
    refine ⟨la, _, rfl, sq_of (l6.e _ _ hs), fun tp o htp ho => ?_⟩
    have l7 := Le.new l6.e (o := .frz o (.tup (ts.map V.ref))) htp
    have hx6 : H6 x = some (.ins C dx (putF "prime" (.int p) [])) := l6.h x _ upd_same
    have gx6 : G6 x = none := l6.gnone gx (by rw [upd_same]; exact fun z => nomatch z)
    have hx7 : (upd H6 tp (.frz o (.tup (ts.map V.ref)))) x = some (.ins C dx (putF "prime" (.int p) [])) := l7.h x _ hx6
    have gx7 : (upd G6 tp (.frz o (.tup (ts.map V.ref)))) x = none := l7.gnone gx6 (by rw [hx6]; exact fun z => nomatch z)
    refine ⟨_, rfl, x, C, dx, _, rfl, hx7, c.cl, c.n2, (Nat.lt_of_le_of_lt putF_len (by decide)), ?_⟩
    have l8 := ((l5.trans l6).trans l7).mut (o := .ins C dx (putF "pairs" (.ref tp) (putF "prime" (.int p) []))) hx gx7
    have hl2 : (putF "pairs" (.ref tp) (putF "prime" (.int p) [])).lookup ("pairs" : Str) = some (V.ref tp) := by rw [lookup_putF, if_pos rfl]
    refine ⟨_, rfl, x, C, dx, _, _, rfl, upd_same, c.cl, c.n2, hl2, tp, o, ts, kvI (coll p rows), rfl, ho, ?_, ?_, fun kd hkd => ?_⟩
    · rw [upd_ne (by intro z; subst z; rw [hx6] at htp; cases htp), upd_same]
    · exact ts_kv ((hts.mono l7.g).mono l8.e)
    have hmk : mergeK [] (kvI (coll p rows)) = kvI (coll p rows) := by
      have h9 := mergeK_kvI (a := []) (b := coll p rows) (by rw [List.nil_append]; exact coll_nd)
      rw [List.nil_append] at h9
      exact h9
    rw [hmk]
    have l9 := Le.new l8.e (o := .dK (kvI (coll p rows))) hkd
    have kx : kd ≠ x := by intro z; subst z; rw [upd_same] at hkd; cases hkd
    have gx9 : (upd (upd G6 tp (.frz o (.tup (ts.map V.ref)))) kd (.dK (kvI (coll p rows)))) x = none := by rw [upd_ne (Ne.symm kx)]; exact gx7
    refine ⟨_, rfl, x, C, dx, _, rfl, (by rw [upd_ne (Ne.symm kx)]; exact upd_same), c.cl, c.n3, (Nat.lt_of_le_of_lt putF_len (Nat.lt_of_le_of_lt (Nat.succ_le_succ putF_len) (by show 1 + 1 < 1000; decide))), ?_⟩
    have l10 := (l8.trans l9).mut (o := .ins C dx (putF "coefficients" (.ref kd) (putF "pairs" (.ref tp) (putF "prime" (.int p) [])))) hx gx9
    have l11 := Le.fix e l10 hx upd_same
    refine k _ _ l11 ⟨dx, tp, o, ts, kd, ?_, ho, ?_, ?_, ?_⟩
    · rw [upd_same, flds_eq]
    · have n1 : tp ≠ x := by intro z; subst z; rw [hx6] at htp; cases htp
      have n2 : tp ≠ kd := by
        intro z
        subst z
        rw [upd_ne n1, upd_same] at hkd
        cases hkd
      rw [upd_ne n1, upd_ne n2, upd_same]
    · exact ((hts.mono l7.g).mono l9.g).mono (Ex.new gx9)
    · rw [upd_ne kx, upd_same]
end
end SR
set_option maxRecDepth 100000
set_option maxHeartbeats 4000000
namespace SR
open PySem PySem.Spec PyProof.Rows L2 Evl
section
variable {K : PySem.W.Frag} {C : Addr} {G H : Hp} {te ta tb ti : TE} {σ : L2.St} {w : FilS} {t : TA}
/-- f.m(..), m no field -/
theorem ed_meth {R : List (D FilS) → D FilS → Prop} {m : Str} {ds : List (D FilS)} {d : D FilS} {E : XK} (ho : EvD K (FilO K C) te σ G (.obj w)) (ha : EvDA K (FilO K C) t σ G ds) (r : R (.obj w :: ds) d)
    (h1 : (m == "prime") = false := by decide +kernel) (h2 : (m == "pairs") = false := by decide +kernel) (h3 : (m == "coefficients") = false := by decide +kernel) : EvD K (FilO K C) (tMeth C m (SpD K (FilO K C) R) [] E te t) σ G d := fun H1 e Q k =>
  ho H1 e _ fun v G2 H2 l a => by
    obtain ⟨x, rfl, dx, tp, o, ts, kd, g1, g2, g3, g4, g5⟩ := at_obj.mp a
    refine ⟨x, dx, _, rfl, l.e _ _ g1, lkN h1 h2 h3, ha H2 ((e.trans l.h)) _ fun vs G3 H3 l3 as => ?_⟩
    have e2 : Ex G2 H3 := l.e.trans l3.h
    have e3 : Ex G2 (hun G3 G2) := hun_r l3.e e2
    refine ⟨hun G3 G2, .obj w :: ds, d, hun_ex l3.e e2, ?_, r, fun u G4 H4 l4 b => k u G4 H4 ⟨(l.h.trans l3.h).trans l4.h, (l.g.trans e3).trans l4.g, l4.e, fun y hg hh => ?_, fun y ps q => hun_t l3.t l.t y ps (l4.t y ps q)⟩ b⟩
    · rw [List.append_nil]
      exact atL_cons.mpr ⟨_, _, rfl, a.mono e3, as.mono hun_l⟩
    · have n2 := l.f y hg hh
      have h2' : H2 y ≠ none := fun z => hh (fresh_back l.h z)
      have h3' : H3 y ≠ none := fun z => h2' (fresh_back l3.h z)
      refine l4.f y ?_ h3'
      unfold hun
      rw [l3.f y hg h2']
      exact n2
theorem ed_lastT {ω : Type} {O : OI ω} {ds : List (D ω)} {c : D ω} (h : EvD K O te σ G (.tup ds)) (hi : Ev ti σ G (.int (-1))) (hc : ds[ds.length - 1]? = some c) : EvD K O (tOp (rIxT K) te ti) σ G c := fun H1 e Q k =>
  h H1 e _ fun v G2 H2 l a => hi H2 (e.trans l.h) _ fun H3 e3 => by
    obtain ⟨p, vs, rfl, hs, as⟩ := at_tup.mp a
    obtain ⟨x, hx, ax⟩ := as.get' hc
    have hl := as.len
    have hpos : 0 < ds.length := by
      have := (List.getElem?_eq_some_iff.mp hc).1
      omega
    refine ⟨p, vs, _, x, rfl, rfl, ex_t (l.e.trans e3) hs, ?_, k x G2 H3 (l.trans (Le.heap l.e e3)) ax⟩
    unfold atI ixN
    rw [if_neg (by decide), if_pos (by omega)]
    rw [← hl] at hx
    have e5 : ((-1 : Int) + (vs.length : Int)).toNat = vs.length - 1 := by omega
    show vs[((-1 : Int) + (vs.length : Int)).toNat]? = some x
    rw [e5]
    exact hx
theorem ev_neg1 : Ev (tUn (rU fun i => .int (-i)) (tC (.int 1))) σ G (.int (-1)) := ev_un ev_c ru_neg
end
section
variable {ω : Type} {K : PySem.W.Frag} {O : OI ω} {G : Hp} {td ty tx : TE} {σ : L2.St} {m : List (Int × Int)} {o z c : Int}
theorem ev_dget2D (h : EvD K O td σ G (.dic m)) (hy : Ev ty σ G (.int o)) (hx : Ev tx σ G (.int z)) : Ev (tDGet2 td ty tx) σ G (.int ((getI m o).getD z)) := fun H1 e Q q =>
  h H1 e _ fun v G2 H2 l a => by
    obtain ⟨d, rfl, hd⟩ := at_dic.mp a
    refine ⟨d, rfl, Or.inl ⟨kvI m, Or.inl (l.e _ _ hd)⟩, hy H2 (e.trans l.h) _ fun H3 e3 => hx H3 ((e.trans l.h).trans e3) _ fun H4 e4 => ⟨_, DGet.k (k := Sum.inl o) ((l.e.trans e3).trans e4 d _ hd), ?_⟩⟩
    rw [valV_kvI]
    have q' := q H4 ((l.h.trans e3).trans e4)
    cases hg : getI m o with
    | none => rw [hg] at q'; exact q'
    | some x => rw [hg] at q'; exact q'
theorem ev_dgetD (h : EvD K O td σ G (.dic m)) (hy : Ev ty σ G (.int o)) (hc : getI m o = some c) : Ev (tDGet td ty) σ G (.int c) := fun H1 e Q q =>
  h H1 e _ fun v G2 H2 l a => by
    obtain ⟨d, rfl, hd⟩ := at_dic.mp a
    refine hy H2 (e.trans l.h) _ fun H3 e3 => ⟨d, .int c, rfl, ?_, q H3 (l.h.trans e3)⟩
    have h1 := DGet.k (k := Sum.inl o) ((l.e.trans e3) d _ hd)
    rw [valV_kvI, hc] at h1
    exact h1
end
end SR
set_option maxRecDepth 100000
set_option maxHeartbeats 4000000
/-! The source of drawn numbers: a list that the law's helpers change; what stands beside it stays. -/
namespace SR
open PySem PySem.Spec PyProof.Rows L2 Evl
/-- from (G, H) to (G', H'), s and q may change -/
structure LeX (s q : Addr) (G H G' H' : Hp) : Prop where
  h : ∀ a o, a ≠ s → a ≠ q → H a = some o → H' a = some o
  g : Ex G G'
  e : Ex G' H'
  f : ∀ a, G a = none → H a ≠ none → G' a = none
  k : ∀ a, H a ≠ none → H' a ≠ none
  t : ∀ a ps, G' a = some (.tbl ps) → G a = some (.tbl ps)
section
variable {s q : Addr} {G H G1 H1 G2 H2 : Hp}
theorem Le.x (l : Le G H G1 H1) : LeX s q G H G1 H1 := ⟨fun a o _ _ e => l.h a o e, l.g, l.e, l.f, fun a h z => h (fresh_back l.h z), l.t⟩
theorem LeX.trans (a : LeX s q G H G1 H1) (b : LeX s q G1 H1 G2 H2) : LeX s q G H G2 H2 := ⟨fun x o n m e => b.h x o n m (a.h x o n m e), a.g.trans b.g, b.e, fun x hg hh => b.f x (a.f x hg hh) (a.k x hh), fun x h => b.k x (a.k x h), fun x ps h => a.t x ps (b.t x ps h)⟩
theorem LeX.refl (e : Ex G H) : LeX s q G H G H := (Le.refl e).x
theorem LeX.mutS (l : LeX s q G H G1 H1) {o : HO} (hg : G1 s = none) : LeX s q G H G1 (upd H1 s o) where
  h := fun a u n m e => by rw [upd_ne n]; exact l.h a u n m e
  g := l.g
  e := fun a u e => by rw [upd_ne (ne_of_none e hg)]; exact l.e a u e
  f := l.f
  t := l.t
  k := fun a h => by
    by_cases z : a = s
    · subst z; rw [upd_same]; exact fun z => nomatch z
    · rw [upd_ne z]; exact l.k a h
theorem LeX.mutQ (l : LeX s q G H G1 H1) {o : HO} (hg : G1 q = none) : LeX s q G H G1 (upd H1 q o) where
  h := fun a u n m e => by rw [upd_ne m]; exact l.h a u n m e
  g := l.g
  e := fun a u e => by rw [upd_ne (ne_of_none e hg)]; exact l.e a u e
  f := l.f
  t := l.t
  k := fun a h => by
    by_cases z : a = q
    · subst z; rw [upd_same]; exact fun z => nomatch z
    · rw [upd_ne z]; exact l.k a h
theorem LeX.gnone (l : LeX s q G H G1 H1) {p : Addr} (hg : G p = none) (hh : H p ≠ none) : G1 p = none := l.f p hg hh
theorem LeX.back (l : LeX s q G H G1 H1) {p : Addr} (h : H1 p = none) : H p = none := by
  cases e : H p with
  | none => rfl
  | some o => exact absurd h (l.k p (by rw [e]; exact fun z => nomatch z))
/-- an object filled since -/
theorem LeX.mut (l : LeX s q G H G1 H1) {p : Addr} {o : HO} (h : H p = none) (hg : G1 p = none) : LeX s q G H G1 (upd H1 p o) where
  h := fun a u n m e => by rw [upd_ne (ne_of_none e h)]; exact l.h a u n m e
  g := l.g
  e := fun a u e => by rw [upd_ne (ne_of_none e hg)]; exact l.e a u e
  f := l.f
  t := l.t
  k := fun a h' => by
    by_cases z : a = p
    · subst z; rw [upd_same]; exact fun z => nomatch z
    · rw [upd_ne z]; exact l.k a h'
theorem LeX.fix (e : Ex G H) (l : LeX s q G H G1 H1) {p : Addr} {o : HO} (h : H p = none) (h1 : H1 p = some o) (ht : NoTb o := by intro _ z; cases z) : LeX s q G H (upd G1 p o) H1 where
  h := l.h
  g := fun a u r => by
    by_cases z : a = p
    · subst z; rw [none_of_ex e h] at r; cases r
    · rw [upd_ne z]; exact l.g a u r
  e := fun a u r => by
    by_cases z : a = p
    · subst z; rw [upd_same] at r; rw [h1]; exact r
    · rw [upd_ne z] at r; exact l.e a u r
  f := fun a hg hh => by
    by_cases z : a = p
    · subst z; exact absurd h hh
    · rw [upd_ne z]; exact l.f a hg hh
  k := l.k
  t := fun a ps r => by
    by_cases z : a = p
    · subst z; rw [upd_same] at r; exact absurd (Option.some.inj r) (ht ps)
    · rw [upd_ne z] at r; exact l.t a ps r
end
/-- what the source holds: its cells at q, a rest, at most n draws done, a seed -/
structure Spr (H : Hp) (s q : Addr) (n : Nat) : Prop where
  ex : ∃ (cells : List Int) (r m sd : Int), H s = some (.lst [.ref q, .int r, .int m, .int sd]) ∧ H q = some (.lst (cells.map V.int)) ∧ cells.length ≤ 63 ∧ 0 ≤ m ∧ m ≤ n ∧ 0 ≤ sd ∧ sd < 2147483647
theorem Spr.keep {s q : Addr} {n k : Nat} {H H' : Hp} (p : Spr H s q n) (h : ∀ a o, H a = some o → H' a = some o) (hn : n ≤ k) : Spr H' s q k := by
  obtain ⟨cells, r, m, sd, h1, h2, h3, h4, h5, h6, h7⟩ := p.ex
  exact ⟨cells, r, m, sd, h _ _ h1, h _ _ h2, h3, h4, by omega, h6, h7⟩
theorem Spr.sne {s q : Addr} {n : Nat} {H : Hp} (p : Spr H s q n) : H s ≠ none := by
  obtain ⟨cells, r, m, sd, h1, _⟩ := p.ex
  rw [h1]; exact fun z => nomatch z
theorem Spr.qne {s q : Addr} {n : Nat} {H : Hp} (p : Spr H s q n) : H q ≠ none := by
  obtain ⟨cells, r, m, sd, h1, h2, _⟩ := p.ex
  rw [h2]; exact fun z => nomatch z
theorem Spr.ne {s q : Addr} {n : Nat} {H : Hp} (p : Spr H s q n) : s ≠ q := by
  obtain ⟨cells, r, m, sd, h1, h2, _⟩ := p.ex
  intro z
  subst z
  rw [h1] at h2
  have h3 := Option.some.inj h2
  injection h3 with h3
  cases cells with
  | nil => cases h3
  | cons c cs => simp at h3
/-- a def over the source and data: R tells which data may come -/
def SpX (K : PySem.W.Frag) {ω : Type} (O : OI ω) (add : Nat) (Pre : List (D ω) → Prop) (R : List (D ω) → D ω → Prop) : Sp := fun vs H Q _ => ∃ G s q n ds ws, vs = .ref s :: ws ∧ Ex G H ∧ G s = none ∧ G q = none ∧ Spr H s q n ∧ n + add ≤ 1000000 ∧ AtL K O G ds ws ∧ Pre ds ∧
  ∀ d v G2 H2, R ds d → LeX s q G H G2 H2 → Spr H2 s q (n + add) → At K O G2 d v → Q v H2
end SR
set_option maxRecDepth 100000
set_option maxHeartbeats 4000000
namespace SR
open PySem PySem.Spec PyProof.Rows L2 Evl
theorem walk_zipT {K : PySem.W.Frag} {a b : Addr} {xs ys : List V} {n : Nat} (hn : n = min xs.length ys.length) : Walk (RZ.ItzT K a b) n (fun H => SqT K H a xs ∧ SqT K H b ys) (YPair (fun i => xs[i]?) (fun i => ys[i]?)) := by
  subst hn
  refine ⟨fun i _ hi q => ?_, fun _ q => ⟨xs, ys, q.1, q.2, by omega⟩, fun i H v H' _ q y => ?_⟩
  · have h1 : i < xs.length := by omega
    have h2 : i < ys.length := by omega
    exact ⟨xs, ys, xs[i], ys[i], q.1, q.2, by simp [h1], by simp [h2]⟩
  · obtain ⟨T, x, z, h1, h2, h3, h4, h5⟩ := y
    exact ⟨T, x, z, h1, h2, h3, h4 xs q.1, h5 ys q.2⟩
section
variable {ω : Type} {K : PySem.W.Frag} {O : OI ω} {G : Hp} {te : TE} {σ : L2.St} {d : D ω} {T : ω → Value}
theorem src_zipT {ta : TA} {ds es : List (D ω)} (h : EvDA K O ta σ G [.tup ds, .tup es]) : Src K O (RZ.iZipA K ta) σ G (zipD ds es) := fun H1 e R k =>
  h H1 e _ fun vs G2 H2 l as => by
    obtain ⟨v, r, rfl, a, n⟩ := atL_cons.mp as
    obtain ⟨v', r', rfl, a', n'⟩ := atL_cons.mp n
    obtain rfl := atL_nil.mp n'
    obtain ⟨p, ws, rfl, hs, aw⟩ := at_tup.mp a
    obtain ⟨q, us, rfl, hs', aw'⟩ := at_tup.mp a'
    refine ⟨p, q, ws, us, rfl, Or.inr ⟨ex_t l.e hs, ex_t l.e hs', ?_⟩⟩
    have hl : ws.length = ds.length := aw.len
    have hl' : us.length = es.length := aw'.len
    have hn : (zipD ds es).length = min ws.length us.length := by simp [zipD, hl, hl']
    refine k (RZ.ItzT K p q) _ _ G2 H2 l (walk_zipT hn) (fun H x => ⟨ex_t x hs, ex_t x hs'⟩) fun i Gi Hi x Hi' eg eh hi y => ?_
    obtain ⟨T, x1, x2, rfl, hT, rfl, h1, h2⟩ := y
    obtain ⟨d, hd, ad⟩ := aw.get h1
    obtain ⟨d', hd', ad'⟩ := aw'.get h2
    have e3 : (zipD ds es)[i]? = some (.tup [d, d']) := by
      simp [zipD, List.zip, List.getElem?_zipWith, hd, hd']
    refine ⟨_, upd Gi T (.tup [x1, x2]), e3, Le.new eh hT, at_tup.mpr ⟨T, _, rfl, st_of upd_same, atL_cons.mpr ⟨_, _, rfl, (ad.mono eg).mono (Ex.new (none_of_ex eh hT)), ?_⟩⟩⟩
    exact AtL.one ((ad'.mono eg).mono (Ex.new (none_of_ex eh hT)))
theorem kit_ils (h : OT K O T) (d : D ω) : PySem.W.kitAny K (tyD T d) [.type "int", .type "list", .type "tuple"] = some (dIntB d || dSeq d) := by
  refine kitAny_cons (kit_int h d) (fun hb => ?_) (fun hb => by rw [hb]; rfl)
  rw [hb, Bool.false_or]
  exact kit_seq h d
theorem isi_ils (OK : OT K O T) (h : EvD K O te σ G d) : Ev (tCB (rIsiT K) (tCons te (tCons (tTup (tCons (tC (.ty "int")) (tCons (tC (.ty "list")) (tCons (tC (.ty "tuple")) tNil)))) tNil))) σ G (.bl (dIntB d || dSeq d)) := fun H1 e Q q =>
  h H1 e _ fun v G2 H2 l a => ⟨by show 3 ≤ sizeLine; decide, fun p hp => ⟨v, p, _, _, [.type "int", .type "list", .type "tuple"], _, rfl, upd_same, .cons (.ty _) (.cons (.ty _) (.cons (.ty _) .nil)), ty_of OK.ty ((a.mono l.e).mono (Ex.new hp)), kit_ils OK d, q _ (l.h.trans (Ex.new hp))⟩⟩
/-- all([..]) of truth values that are all True -/
theorem AtL.bools {bs : List Bool} {vs : List V} (h : AtL K O G (bs.map D.bl) vs) : vs = bs.map V.bl := by
  induction bs generalizing vs with
  | nil => exact atL_nil.mp h
  | cons b r ih =>
    obtain ⟨v, w, rfl, h1, h2⟩ := atL_cons.mp h
    rw [at_bl.mp h1, ih h2]
    rfl
theorem ev_allD {bs : List Bool} (h : EvD K O te σ G (.lst (bs.map D.bl))) : Ev (tCB (rAll K) (tCons te tNil)) σ G (.bl (bs.all id)) := fun H1 e Q q =>
  h H1 e _ fun v G2 H2 l a => by
    obtain ⟨p, vs, rfl, hs, as⟩ := at_lst.mp a
    obtain rfl := as.bools
    exact ⟨p, bs, rfl, sq_of (l.e _ _ hs), q H2 l.h⟩
theorem ev_anyD {bs : List Bool} (h : EvD K O te σ G (.lst (bs.map D.bl))) : Ev (tCB (rAny K) (tCons te tNil)) σ G (.bl (bs.any id)) := fun H1 e Q q =>
  h H1 e _ fun v G2 H2 l a => by
    obtain ⟨p, vs, rfl, hs, as⟩ := at_lst.mp a
    obtain rfl := as.bools
    exact ⟨p, bs, rfl, sq_of (l.e _ _ hs), q H2 l.h⟩
/-- within a lock -/
theorem ev_dgetF {td ty : TE} {a : Addr} {od : Obj} {m : List (Int × Int)} {o c : Int} (hd : Ev td σ G (.ref a)) (hm : G a = some (.frz od (.dK (kvI m)))) (hy : Ev ty σ G (.int o)) (hc : getI m o = some c) : Ev (tDGet td ty) σ G (.int c) := fun H1 e Q q =>
  hd H1 e _ fun H2 e2 => hy H2 (e.trans e2) _ fun H3 e3 => ⟨a, .int c, rfl, Or.inl ⟨kvI m, Sum.inl o, Or.inr ⟨od, (e.trans e2).trans e3 a _ hm⟩, rfl, by rw [valV_kvI, hc]; rfl⟩, q H3 (e2.trans e3)⟩
end
/-! ### depth -/
mutual
def dep {ω : Type} : D ω → Nat
  | .lst l => depL l + 1
  | .tup l => depL l + 1
  | _ => 0
def depL {ω : Type} : List (D ω) → Nat
  | [] => 0
  | d :: l => max (dep d) (depL l)
end
theorem depL_le {ω : Type} : ∀ {l : List (D ω)} {d : D ω}, d ∈ l → dep d ≤ depL l
  | c :: l, d, h => by
    show dep d ≤ max (dep c) (depL l)
    rcases List.mem_cons.mp h with rfl | h
    · exact Nat.le_max_left _ _
    · exact Nat.le_trans (depL_le h) (Nat.le_max_right _ _)
theorem noObjL_mem {ω : Type} : ∀ {l : List (D ω)} {d : D ω}, noObjL l = true → d ∈ l → noObj d = true
  | c :: l, d, n, h => by
    simp only [noObjL, Bool.and_eq_true] at n
    rcases List.mem_cons.mp h with rfl | h
    · exact n.1
    · exact noObjL_mem n.2 h
end SR
set_option maxRecDepth 100000
set_option maxHeartbeats 4000000
namespace SR
open PySem PySem.Spec PyProof.Rows L2 Evl
section
variable (P : Program) (w : World) (K : PySem.W.Frag) (mg : Str → Option Value) (base : Heap)
/-- a special method of the class at C -/
structure DunOk (C : Addr) (k : Nat) (m : Str) (ps : List Str) (sp : Sp) : Prop where
  ex : ∃ g fd, PySem.W.findIn K (.ref C) m = some (some (.ref g)) ∧ PySem.W.isFn K (.ref g) = true ∧ PySem.W.fnIn K g = true ∧ Binds K fd ps [] ∧ FnOk P w K mg base CX0 k g fd ps sp
end
section
variable {X : Cx} {k : Nat} {C : Addr} {ps : List Str} {sp : Sp} {a b : Expr} {ta tb : TE} {pos : Pos}
theorem call_boolD (h : DunOk X.prog X.w X.K X.mg X.base C k "__bool__" ps sp) (hr : Room (k + 2) X.A) : CallR X (.type "bool") (rBoolOwn C sp E0) := by
  obtain ⟨g, fd, hs, hf, _, hb, F⟩ := h.ex
  exact call_boolOwn hs hf F hr hb pass0
theorem tru_D (h : DunOk X.prog X.w X.K X.mg X.base C k "__bool__" ps sp) (hr : Room k X.A) : TruR X (rTruOwn C sp E0) := by
  obtain ⟨g, fd, hs, hf, _, hb, F⟩ := h.ex
  exact tru_own hs hf F hr hb pass0
theorem pe_ixD (h : DunOk X.prog X.w X.K X.mg X.base C k "__getitem__" ps sp) (hr : Room (k + 1) X.A) (ha : PE X a ta) (hi : PE X b tb) (hsl : PlainIxO b) : PE X (.Subscript a b pos) (tOp (rIxOwn C sp E0) ta tb) := by
  obtain ⟨g, fd, hs, hf, hf2, hb, F⟩ := h.ex
  exact pe_ixOwn hs hf2 hf F hr hb pass0 ha hi hsl
theorem op_eqDun (K : PySem.W.Frag) (h : DunOk X.prog X.w X.K X.mg X.base C k "__eq__" ps sp) (hr : Room k X.A) (hK : X.K = K := by rfl) : OpR X (compareOp .Eq) (rEqOwn K C sp E0) := by
  subst hK
  obtain ⟨g, fd, hs, hf, _, hb, F⟩ := h.ex
  exact op_eqOwn hs hf F hr hb pass0
theorem op_neDun (K : PySem.W.Frag) (h : DunOk X.prog X.w X.K X.mg X.base C k "__eq__" ps sp) (hne : PySem.W.findIn X.K (.ref C) "__ne__" = some (some (.builtin "object.__ne__"))) (hm : PySem.W.mroIn X.K C (.type "object") = some true) (hr : Room (k + 1) X.A) (hK : X.K = K := by rfl) : OpR X (compareOp .NotEq) (rNeOwn K C sp E0) := by
  subst hK
  obtain ⟨g, fd, hs, hf, _, hb, F⟩ := h.ex
  exact op_neOwn hs hf hne hm F hr hb pass0
end
section
variable {K : PySem.W.Frag} {C : Addr} {G H : Hp} {te ta tb ti : TE} {σ : L2.St} {w : FilS} {R : List (D FilS) → D FilS → Prop}
theorem ev_boolF {b : Bool} (h : EvD K (FilO K C) te σ G (.obj w)) (r : R [.obj w] (.bl b)) : Ev (tCB (rBoolOwn C (SpD K (FilO K C) R) E0) (tCons te tNil)) σ G (.bl b) := fun H1 e Q q =>
  h H1 e _ fun v G2 H2 l a => by
    obtain ⟨x, rfl, dx, tp, o, ts, kd, h1, _⟩ := at_obj.mp a
    exact ⟨x, dx, _, rfl, l.e _ _ h1, G2, [.obj w], .bl b, l.e, AtL.one a, r, fun v G3 H3 l3 a3 => ⟨b, at_bl.mp a3, q H3 (l.h.trans l3.h)⟩⟩
theorem et_truF {b : Bool} (h : EvD K (FilO K C) te σ G (.obj w)) (r : R [.obj w] (.bl b)) : EvT (fun σ H Q => te σ H fun x H' => rTruOwn C (SpD K (FilO K C) R) E0 x H' Q) σ G b := fun H1 e Q q =>
  h H1 e _ fun v G2 H2 l a => by
    obtain ⟨x, rfl, dx, tp, o, ts, kd, h1, _⟩ := at_obj.mp a
    exact ⟨x, dx, _, rfl, l.e _ _ h1, G2, [.obj w], .bl b, l.e, AtL.one a, r, fun v G3 H3 l3 a3 => ⟨b, at_bl.mp a3, q H3 (l.h.trans l3.h)⟩⟩
theorem ed_getF {d : D FilS} {o : Int} (h : EvD K (FilO K C) te σ G (.obj w)) (hi : Ev ti σ G (.int o)) (r : R [.obj w, .int o] d) : EvD K (FilO K C) (tOp (rIxOwn C (SpD K (FilO K C) R) E0) te ti) σ G d := fun H1 e Q k =>
  h H1 e _ fun v G2 H2 l a => hi H2 (e.trans l.h) _ fun H3 e3 => by
    obtain ⟨x, rfl, dx, tp, oo, ts, kd, h1, h2⟩ := at_obj.mp a
    exact ⟨x, dx, _, rfl, e3 _ _ (l.e _ _ h1), G2, [.obj w, .int o], d, l.e.trans e3, atL_cons.mpr ⟨_, _, rfl, a, AtL.one (at_int.mpr rfl)⟩, r, fun v G4 H4 l4 a4 => k v G4 H4 ((l.trans (Le.heap l.e e3)).trans l4) a4⟩
/-- f == x -/
theorem ev_eqF {b : Bool} {d : D FilS} {T : FilS → Value} (hT : ∀ H a w, (FilO K C).at_ H a w → TyX K H (.ref a) (T w)) (hn : ∀ d : D FilS, PySem.W.notFirst K C (tyD T d) = true) (h : EvD K (FilO K C) ta σ G (.obj w)) (h2 : EvD K (FilO K C) tb σ G d) (r : R [.obj w, d] (.bl b)) : Ev (tOp (rEqOwn K C (SpD K (FilO K C) R) E0) ta tb) σ G (.bl b) := fun H1 e Q q =>
  h H1 e _ fun v G2 H2 l a => h2 H2 (e.trans l.h) _ fun u G3 H3 l3 a3 => by
    obtain ⟨x, rfl, dx, tp, o, ts, kd, h1, _⟩ := at_obj.mp a
    have e2 : Ex G2 H3 := l.e.trans l3.h
    exact ⟨x, dx, _, _, rfl, e2 _ _ h1, ty_of hT (a3.mono l3.e), hn d, hun G3 G2, [.obj w, d], .bl b, hun_ex l3.e e2, atL_cons.mpr ⟨_, _, rfl, a.mono (hun_r l3.e e2), AtL.one (a3.mono hun_l)⟩, r, fun v G4 H4 l4 a4 => ⟨b, at_bl.mp a4, q H4 ((l.h.trans l3.h).trans l4.h)⟩⟩
theorem ev_neF {b : Bool} {d : D FilS} {T : FilS → Value} (hT : ∀ H a w, (FilO K C).at_ H a w → TyX K H (.ref a) (T w)) (hn : ∀ d : D FilS, PySem.W.notFirst K C (tyD T d) = true) (h : EvD K (FilO K C) ta σ G (.obj w)) (h2 : EvD K (FilO K C) tb σ G d) (r : R [.obj w, d] (.bl b)) : Ev (tOp (rNeOwn K C (SpD K (FilO K C) R) E0) ta tb) σ G (.bl (!b)) := fun H1 e Q q =>
  h H1 e _ fun v G2 H2 l a => h2 H2 (e.trans l.h) _ fun u G3 H3 l3 a3 => by
    obtain ⟨x, rfl, dx, tp, o, ts, kd, h1, _⟩ := at_obj.mp a
    have e2 : Ex G2 H3 := l.e.trans l3.h
    exact ⟨x, dx, _, _, rfl, e2 _ _ h1, ty_of hT (a3.mono l3.e), hn d, hun G3 G2, [.obj w, d], .bl b, hun_ex l3.e e2, atL_cons.mpr ⟨_, _, rfl, a.mono (hun_r l3.e e2), AtL.one (a3.mono hun_l)⟩, r, fun v G4 H4 l4 a4 => ⟨b, at_bl.mp a4, q H4 ((l.h.trans l3.h).trans l4.h)⟩⟩
theorem ed_lastL {ω : Type} {O : OI ω} {ds : List (D ω)} {c : D ω} (h : EvD K O te σ G (.lst ds)) (hi : Ev ti σ G (.int (-1))) (hc : ds[ds.length - 1]? = some c) : EvD K O (tOp (rIxL K) te ti) σ G c := fun H1 e Q k =>
  h H1 e _ fun v G2 H2 l a => hi H2 (e.trans l.h) _ fun H3 e3 => by
    obtain ⟨p, vs, rfl, hs, as⟩ := at_lst.mp a
    obtain ⟨x, hx, ax⟩ := as.get' hc
    have hl := as.len
    have hpos : 0 < ds.length := by
      have := (List.getElem?_eq_some_iff.mp hc).1
      omega
    refine ⟨p, vs, _, x, rfl, rfl, sq_of ((l.e.trans e3) _ _ hs), ?_, k x G2 H3 (l.trans (Le.heap l.e e3)) ax⟩
    unfold atI ixN
    rw [if_neg (by decide), if_pos (by omega)]
    rw [← hl] at hx
    have e5 : ((-1 : Int) + (vs.length : Int)).toNat = vs.length - 1 := by omega
    show vs[((-1 : Int) + (vs.length : Int)).toNat]? = some x
    rw [e5]
    exact hx
/-- xs + ys -/
theorem ed_cat {ω : Type} {O : OI ω} {ds es : List (D ω)} (h1 : EvD K O ta σ G (.lst ds)) (h2 : EvD K O tb σ G (.lst es)) (hz : ds.length + es.length ≤ 100000) : EvD K O (tOp rCat ta tb) σ G (.lst (ds ++ es)) := fun H1 e Q k =>
  h1 H1 e _ fun v G2 H2 l a => h2 H2 (e.trans l.h) _ fun u G3 H3 l3 a3 => by
    obtain ⟨p, vs, rfl, hs, as⟩ := at_lst.mp a
    obtain ⟨q, us, rfl, hs3, as3⟩ := at_lst.mp a3
    have e2 : Ex G2 H3 := l.e.trans l3.h
    have lw : Le G H1 (hun G3 G2) H3 := ⟨l.h.trans l3.h, l.g.trans (hun_r l3.e e2), hun_ex l3.e e2, (fun y hg hh => by
      have n2 := l.f y hg hh
      have h2' : H2 y ≠ none := fun z => hh (fresh_back l.h z)
      have g0 : G y = none := hg
      unfold hun
      rw [l3.f y g0 h2']
      exact n2), hun_t l3.t l.t⟩
    refine ⟨p, q, vs, us, rfl, rfl, e2 _ _ hs, l3.e _ _ hs3, sz_of (by rw [as.len, as3.len]; exact hz), fun m hm => ?_⟩
    have ln := Le.new (o := .lst (vs ++ us)) lw.e hm
    refine k _ (upd (hun G3 G2) m (.lst (vs ++ us))) _ (lw.trans ln) (at_lst.mpr ⟨m, _, rfl, upd_same, ?_⟩)
    exact (((as.mono (hun_r l3.e e2)).app (as3.mono hun_l)).mono ln.g)
end
section
variable {ω : Type} {K : PySem.W.Frag} {O : OI ω} {G H : Hp} {ta : TA} {σ : L2.St} {De : Ends} {tz : TS} {i j : Nat}
theorem q_par {x y : V} (h : EvA ta σ G [x, y]) (e : Ex G H) (k : ∀ H2, Le G H G H2 → tz De ((σ.set i (some x)).set j (some y)) H2) : tSeq (tPar i j ta) tz De σ H := h H e _ fun H2 e2 => ⟨x, y, rfl, k H2 (Le.heap e e2)⟩
theorem q_parD {d1 d2 : D ω} (h : EvDA K O ta σ G [d1, d2]) (e : Ex G H) (k : ∀ x y G2 H2, Le G H G2 H2 → At K O G2 d1 x → At K O G2 d2 y → tz De ((σ.set i (some x)).set j (some y)) H2) : tSeq (tPar i j ta) tz De σ H := h H e _ fun vs G2 H2 l as => by
  obtain ⟨x, r, rfl, a1, n⟩ := atL_cons.mp as
  obtain ⟨y, r, rfl, a2, n⟩ := atL_cons.mp n
  obtain rfl := atL_nil.mp n
  exact ⟨x, y, rfl, k x y G2 H2 l a1 a2⟩
end
end SR
set_option maxRecDepth 100000
set_option maxHeartbeats 4000000
namespace SR
open PySem PySem.Spec PyProof.Rows L2 Evl
/-- the sum of the second ones at a place -/
def totl : List (Int × Int) → Int → Int
  | [], _ => 0
  | q :: r, o => (if q.1 = o then q.2 else 0) + totl r o
theorem totl_append {a b : List (Int × Int)} {o : Int} : totl (a ++ b) o = totl a o + totl b o := by
  induction a with
  | nil => show totl b o = 0 + totl b o; omega
  | cons q r ih =>
    show (if q.1 = o then q.2 else 0) + totl (r ++ b) o = (if q.1 = o then q.2 else 0) + totl r o + totl b o
    rw [ih]
    omega
theorem totl_one {q : Int × Int} {o : Int} : totl [q] o = if q.1 = o then q.2 else 0 := by
  show (if q.1 = o then q.2 else 0) + 0 = _
  omega
theorem totl_rev {a : List (Int × Int)} {o : Int} : totl a.reverse o = totl a o := by
  induction a with
  | nil => rfl
  | cons q r ih =>
    rw [List.reverse_cons, totl_append, ih, totl_one]
    show totl r o + _ = (if q.1 = o then q.2 else 0) + totl r o
    omega
theorem coef_fold {p : Int} (hp : 0 < p) {o : Int} : ∀ {rows m : List (Int × Int)}, 0 ≤ (getI m o).getD 0 → (getI m o).getD 0 < p → (getI (rows.foldl (step p) m) o).getD 0 = ((getI m o).getD 0 + totl rows o) % p
  | [], m, h0, h1 => by
    show (getI m o).getD 0 = ((getI m o).getD 0 + 0) % p
    rw [Int.add_zero, Int.emod_eq_of_lt h0 h1]
  | q :: r, m, h0, h1 => by
    have hs : (getI (step p m q) o).getD 0 = if o = q.1 then ((getI m q.1).getD 0 + q.2) % p else (getI m o).getD 0 := by
      unfold step
      rw [getI_put, Int.fmod_eq_emod_of_nonneg _ (by omega)]
      split <;> rfl
    have h0' : 0 ≤ (getI (step p m q) o).getD 0 := by
      rw [hs]
      split
      · exact Int.emod_nonneg _ (by omega)
      · exact h0
    have h1' : (getI (step p m q) o).getD 0 < p := by
      rw [hs]
      split
      · exact Int.emod_lt_of_pos _ hp
      · exact h1
    have ih := coef_fold hp (o := o) (rows := r) (m := step p m q) h0' h1'
    show (getI (r.foldl (step p) (step p m q)) o).getD 0 = ((getI m o).getD 0 + ((if q.1 = o then q.2 else 0) + totl r o)) % p
    rw [ih, hs]
    by_cases h : o = q.1
    · rw [if_pos h, if_pos h.symm, h, Int.emod_add_emod]
      congr 1
      omega
    · rw [if_neg h, if_neg (fun z => h z.symm)]
      congr 1
      omega
theorem coef_is {p : Int} (hp : 0 < p) {rows : List (Int × Int)} {o : Int} : coef p rows o = totl rows o % p := by
  unfold coef sums
  rw [coef_fold hp (m := []) (by exact Int.le_refl 0) (by exact hp)]
  show (0 + totl rows o) % p = _
  rw [Int.zero_add]
theorem coef_ne {p : Int} {rows : List (Int × Int)} {o : Int} (h : coef p rows o ≠ 0) : o ∈ (sums p rows).map (·.1) := by
  refine getI_some.mp ?_
  unfold coef at h
  cases e : getI (sums p rows) o with
  | none => rw [e] at h; exact absurd rfl h
  | some c => rfl
theorem keys_nd {p : Int} {rows : List (Int × Int)} : (srt ((sums p rows).map (·.1))).Nodup := srt_perm.nodup_iff.mpr (sums_nd (rows := rows) (m := []) List.nodup_nil)
/-- the coefficients tell the list -/
theorem coll_ext {p p' : Int} {a b : List (Int × Int)} (h : ∀ o, coef p a o = coef p' b o) : coll p a = coll p' b := by
  have e1 : ((srt ((sums p a).map (·.1))).filter fun o => coef p a o != 0) = (srt ((sums p' b).map (·.1))).filter fun o => coef p' b o != 0 := by
    refine List.Perm.eq_of_pairwise (le := fun x y : Int => x ≤ y) (fun x y _ _ h1 h2 => Int.le_antisymm h1 h2) (srt_pair.filter _) (srt_pair.filter _) ((List.perm_ext_iff_of_nodup (keys_nd.filter _) (keys_nd.filter _)).mpr fun o => ?_)
    rw [List.mem_filter, List.mem_filter]
    constructor
    · rintro ⟨h1, h2⟩
      have h3 : coef p' b o ≠ 0 := by rw [← h o]; simpa using h2
      exact ⟨srt_perm.mem_iff.mpr (coef_ne h3), by simpa using h3⟩
    · rintro ⟨h1, h2⟩
      have h3 : coef p a o ≠ 0 := by rw [h o]; simpa using h2
      exact ⟨srt_perm.mem_iff.mpr (coef_ne h3), by simpa using h3⟩
  unfold coll
  rw [e1]
  exact List.map_congr_left fun o _ => by rw [h o]
theorem coll_tot {p : Int} (hp : 0 < p) {a b : List (Int × Int)} (h : ∀ o, ∃ z, totl a o = totl b o + p * z) : coll p a = coll p b := coll_ext fun o => by
  obtain ⟨z, hz⟩ := h o
  rw [coef_is hp, coef_is hp, hz, Int.add_mul_emod_self_left]
/-- a look-up of the list is the coefficient -/
theorem getI_coll {p : Int} {a : List (Int × Int)} {o : Int} : (getI (coll p a) o).getD 0 = coef p a o := by
  have key : ∀ l : List Int, (getI (l.map fun o => (o, coef p a o)) o) = if o ∈ l then some (coef p a o) else none := by
    intro l
    induction l with
    | nil => rfl
    | cons x r ih =>
      unfold getI at ih ⊢
      rw [List.map_cons, List.find?_cons]
      by_cases h : x = o
      · subst h
        rw [decide_eq_true rfl, if_pos (List.mem_cons_self ..)]
        rfl
      · rw [decide_eq_false h]
        rw [ih]
        by_cases h2 : o ∈ r
        · rw [if_pos h2, if_pos (List.mem_cons_of_mem _ h2)]
        · rw [if_neg h2, if_neg (by intro z; rcases List.mem_cons.mp z with z | z; exact h z.symm; exact h2 z)]
  unfold coll
  rw [key]
  by_cases h : coef p a o = 0
  · rw [h]
    split <;> rfl
  · rw [if_pos (List.mem_filter.mpr ⟨srt_perm.mem_iff.mpr (coef_ne h), by simpa using h⟩)]
    rfl
/-- one more at a place: another list -/
theorem coll_more {p : Int} (hp : 1 < p) {a : List (Int × Int)} {o : Int} : coll p (a ++ [(o, 1)]) ≠ coll p a := by
  intro h
  have h1 := getI_coll (p := p) (a := a ++ [(o, 1)]) (o := o)
  rw [h, getI_coll, coef_is (by omega), coef_is (by omega), totl_append, totl_one] at h1
  simp only [if_true] at h1
  have h2 := Int.emod_nonneg (totl a o) (show p ≠ 0 by omega)
  have h3 := Int.emod_lt_of_pos (totl a o) (show 0 < p by omega)
  have h4 := Int.emod_add_mul_ediv (totl a o) p
  have h5 := Int.emod_add_mul_ediv (totl a o + 1) p
  rw [← h1] at h5
  have h6 : p * ((totl a o + 1) / p) - p * (totl a o / p) = 1 := by omega
  rw [← Int.mul_sub] at h6
  have h7 : p ∣ 1 := ⟨_, h6.symm⟩
  have h8 := Int.le_of_dvd (by decide) h7
  omega
section
variable {ω : Type} {K : PySem.W.Frag} {O : OI ω} {G : Hp} {te : TE} {σ : L2.St} {l : List (D ω)}
theorem AtL.rev : ∀ {l : List (D ω)} {vs : List V}, AtL K O G l vs → AtL K O G l.reverse vs.reverse
  | [], vs, h => by rw [atL_nil.mp h]; exact atL_nil.mpr rfl
  | d :: l, vs, h => by
    obtain ⟨v, r, rfl, h1, h2⟩ := atL_cons.mp h
    rw [List.reverse_cons, List.reverse_cons]
    exact (AtL.rev h2).app (AtL.one h1)
theorem AtL.take : ∀ {n : Nat} {l : List (D ω)} {vs : List V}, AtL K O G l vs → AtL K O G (l.take n) (vs.take n)
  | 0, l, vs, h => atL_nil.mpr rfl
  | n + 1, [], vs, h => by rw [atL_nil.mp h]; exact atL_nil.mpr rfl
  | n + 1, d :: l, vs, h => by
    obtain ⟨v, r, rfl, h1, h2⟩ := atL_cons.mp h
    exact atL_cons.mpr ⟨v, _, rfl, h1, AtL.take (n := n) h2⟩
theorem AtL.drop : ∀ {n : Nat} {l : List (D ω)} {vs : List V}, AtL K O G l vs → AtL K O G (l.drop n) (vs.drop n)
  | 0, l, vs, h => h
  | n + 1, [], vs, h => by rw [atL_nil.mp h]; exact atL_nil.mpr rfl
  | n + 1, d :: l, vs, h => by
    obtain ⟨v, r, rfl, h1, h2⟩ := atL_cons.mp h
    exact AtL.drop (n := n) h2
theorem ed_rev (h : EvD K O te σ G (.lst l)) : EvD K O (tRevL K te) σ G (.lst l.reverse) := fun H1 e Q k =>
  h H1 e _ fun v G2 H2 le a => by
    obtain ⟨p, vs, rfl, hs, as⟩ := at_lst.mp a
    exact ⟨p, vs, rfl, sq_of (le.e _ _ hs), fun q hq => k _ (upd G2 q (.lst vs.reverse)) _ (le.trans (Le.new le.e hq)) (at_lst.mpr ⟨q, _, rfl, upd_same, as.rev.mono (Ex.new (none_of_ex le.e hq))⟩)⟩
end
end SR
set_option maxRecDepth 100000
set_option maxHeartbeats 4000000
/-! Own operators: with an int, in place. -/
namespace SR
open PySem PySem.Spec PyProof.Rows L2
section
variable {prog : Program} {w : World} {M : Model} {A : Around} {E : Value → Shared → Prop} {s : Shared} {K : PySem.W.Frag} {x C L f : Addr} {h₀ : Heap} {m : Str → Option Value} {ox : Obj} {od : Option Obj} {nm : String}
open PySem.W
/-- the class has no in-place method of that name -/
theorem fillsI_none {h : Heap} {cd : ClassData} {add : Bool} (X : K.In h) (hc : clsIn K C = some cd) (hm : cd.mro = [.ref C, .type "object"]) (h1 : findIn K (.ref C) (dunderI nm) = some none) (h2 : findIn K (.type "object") (dunderI nm) = some none) : Looks M h (fillsInplaceSlot (.ref C) nm add) false := by
  intro A Q E s k q
  have Lm : Looks M h (mroOf (.ref C)) cd.mro := (looks_clsIn X hc).andThen (f := fun cd => pure cd.mro) .now
  have Lm' := Lm.keeps k
  obtain ⟨hh, g, d, tt, os⟩ := s
  have X' : K.In hh := X.keeps k
  have L1 : Looks M hh (typeLookup (.ref C) (dunderI nm)) none := looks_findIn X' h1
  have L2 : Looks M hh (typeLookup (.type "object") (dunderI nm)) none := looks_findIn X' h2
  unfold fillsInplaceSlot
  refine wpAny_bind (Lm'.at ?_)
  rw [hm, List.anyM_cons, List.anyM_cons, List.anyM_nil]
  refine wpAny_bind ?_
  repeat lk
  exact q
theorem ip_K {op : Operator} {b : Value} {Q : Value → Shared → Prop} {cd : ClassData} (F : Fr h₀ L s.heap m) (X₀ : K.In h₀) (I : InstAt s.heap x ox C od) (hb : Looks (model prog w) s.heap (typeOf b) (.ref C)) (hc : clsIn K C = some cd) (hm : cd.mro = [.ref C, .type "object"])
    (h1 : findIn K (.ref C) (dunderI op.info.2) = some none) (h2 : findIn K (.type "object") (dunderI op.info.2) = some none) (hs : findIn K (.ref C) (PySem.dunder op.info.2) = some (some (.ref f))) (hf : isFn K (.ref f) = true)
    (h : wpAny (model prog w) A (call (.ref f) [.ref x, b]) (PySem.W.CmpBack Q) E s) : wpAny (model prog w) A (inplaceOp op (.ref x) b) Q E s := by
  have X := X₀.keeps F.keep
  unfold inplaceOp
  refine wpAny_holding (wpAny_bind (I.type.here (wpAny_bind ((fillsI_none X hc hm h1 h2).here ?_))))
  simp only [Bool.false_eq_true, if_false]
  refine wpAny_bind ?_
  unfold binaryOp1
  refine wpAny_bind (I.type.here (wpAny_bind (hb.here (wpAny_bind ((fills_K X hc hm hs).here ?_)))))
  simp only [beq_self_eq_true, if_true]
  refine wpAny_bind (wpAny_pure ?_)
  simp only [Bool.and_false, Bool.false_eq_true, if_false, Bool.false_and]
  refine wpAny_bind (wpAny_pure ?_)
  simp only [Bool.false_eq_true, if_false]
  refine wpAny_bind (m := tryMethod (.ref x) _ b) ?_
  unfold tryMethod
  refine wpAny_bind (special_fn X I hs (beq_iff_eq.mp hf) (wpAny_mono h (fun v s' hv => ?_) fun _ _ e => e))
  cases v <;> first | exact hv.elim | exact wpAny_pure (wpAny_pure (wpAny_pure hv))
end
section
variable {X : Cx} {CX : CXT} {pins : List (Addr × Obj)} {σ : L2.St} {H : Hp} {s : Shared} {a C dx g : Addr} {fs : List (Str × V)} {fd : FuncData} {ps : List Str} {n : Nat} {sp : Sp} {E : XK}
theorem ip_binOwn {op : Operator} {cd : ClassData} (hc : PySem.W.clsIn X.K C = some cd) (hm : cd.mro = [.ref C, .type "object"]) (h1 : PySem.W.findIn X.K (.ref C) (PySem.dunderI op.info.2) = some none) (h2 : PySem.W.findIn X.K (.type "object") (PySem.dunderI op.info.2) = some none)
    (hs : PySem.W.findIn X.K (.ref C) (PySem.dunder op.info.2) = some (some (.ref g))) (hf : PySem.W.isFn X.K (.ref g) = true) (F : FnOk X.prog X.w X.K X.mg X.base CX n g fd ps sp)
    (hr : Room n X.A) (hb : Binds X.K fd ps []) (hx : Passes CX X E) : PIp X op (rBinOwn C sp E) := by
  intro pins s σ H x y v u Q I rx ry h
  obtain ⟨a, dx, fs, b, dy, gs, rfl, rfl, ha, hb', q⟩ := h
  cases (show v = Value.ref a from rx)
  cases (show u = Value.ref b from ry)
  obtain ⟨od, J⟩ := ins_inst I ha
  obtain ⟨od', J'⟩ := ins_inst I hb'
  obtain ⟨m, hF⟩ := I.fr
  refine ip_K (op := op) hF I.ok.mod.kin J J'.type hc hm h1 h2 hs hf ?_
  refine wpAny_mono (run_fn (us := [.ref a, .ref b]) (vs := [.ref a, .ref b]) F hr hb .nil hx I (.cons rfl (.cons rfl .nil)) (by exact q)) (fun w s' z => ?_) fun _ _ x => x
  obtain ⟨z', H', I', rz, qz⟩ := z
  exact not_ni rz ⟨z', H', I', rz, qz⟩
/-- x op y, y an int -/
def rBinInt (C : Addr) (sp : Sp) (E : XK) : R2 := fun x y H Q => ∃ a dx fs i, x = .ref a ∧ y = .int i ∧ H a = some (.ins C dx fs) ∧ sp [x, y] H Q E
theorem op_binInt {op : Operator} {fo ro rc : Option Value} (hc : PySem.W.selfFirst X.K C = true) (hs : PySem.W.findIn X.K (.ref C) (PySem.dunder op.info.2) = some (some (.ref g))) (hf : PySem.W.isFn X.K (.ref g) = true)
    (hR : PySem.W.findIn X.K (.ref C) (PySem.dunderR op.info.2) = some rc) (hp : rc = none ∨ ∃ g : Addr, rc = some (.ref g)) (h1 : PySem.W.findIn X.K (.type "int") (PySem.dunder op.info.2) = some fo) (h2 : PySem.W.findIn X.K (.type "int") (PySem.dunderR op.info.2) = some ro) (hsub : PySem.W.subIn X.K (.type "int") (.ref C) = some false)
    (F : FnOk X.prog X.w X.K X.mg X.base CX n g fd ps sp) (hr : Room n X.A) (hb : Binds X.K fd ps []) (hx : Passes CX X E) : OpR X (binaryOp op) (rBinInt C sp E) := by
  intro pins s σ H x y v u Q I rx ry h
  obtain ⟨a, dx, fs, i, rfl, rfl, ha, q⟩ := h
  cases (show v = Value.ref a from rx)
  obtain ⟨t, rfl⟩ := ry
  obtain ⟨od, J⟩ := ins_inst I ha
  obtain ⟨m, hF⟩ := I.fr
  refine PySem.W.ksp_binT (op := op) hF I.ok.mod.kin J rfl hc hs hf hR hp h1 h2 hsub ?_
  refine wpAny_mono (run_fn (us := [.ref a, .int i t]) (vs := [.ref a, .int i]) F hr hb .nil hx I (.cons rfl (.cons ⟨t, rfl⟩ .nil)) (by exact q)) (fun w s' z => ?_) fun _ _ x => x
  obtain ⟨z', H', I', rz, qz⟩ := z
  exact not_ni rz ⟨z', H', I', rz, qz⟩
end
end SR
set_option maxRecDepth 100000
set_option maxHeartbeats 4000000
/-! Own operators by what they promise. -/
namespace SR
open PySem PySem.Spec PyProof.Rows L2 Evl
section
variable (P : Program) (w : World) (K : PySem.W.Frag) (mg : Str → Option Value) (base : Heap)
structure BinOk (C : Addr) (k : Nat) (op : Operator) (sp : Sp) : Prop where
  ex : ∃ g fd ps, PySem.W.selfFirst K C = true ∧ PySem.W.findIn K (.ref C) (PySem.dunder op.info.2) = some (some (.ref g)) ∧ PySem.W.isFn K (.ref g) = true ∧ Binds K fd ps [] ∧ FnOk P w K mg base CX0 k g fd ps sp
structure IntOk (C : Addr) (op : Operator) : Prop where
  ex : ∃ fo ro rc, PySem.W.findIn K (.ref C) (PySem.dunderR op.info.2) = some rc ∧ (rc = none ∨ ∃ g : Addr, rc = some (.ref g)) ∧ PySem.W.findIn K (.type "int") (PySem.dunder op.info.2) = some fo ∧ PySem.W.findIn K (.type "int") (PySem.dunderR op.info.2) = some ro ∧ PySem.W.subIn K (.type "int") (.ref C) = some false
structure InOk (C : Addr) (op : Operator) : Prop where
  ex : ∃ cd, PySem.W.clsIn K C = some cd ∧ cd.mro = [.ref C, .type "object"] ∧ PySem.W.findIn K (.ref C) (PySem.dunderI op.info.2) = some none ∧ PySem.W.findIn K (.type "object") (PySem.dunderI op.info.2) = some none
end
section
variable {X : Cx} {k : Nat} {C : Addr} {sp : Sp} {op : Operator}
theorem op_binD (h : BinOk X.prog X.w X.K X.mg X.base C k op sp) (hr : Room k X.A) : OpR X (binaryOp op) (rBinOwn C sp E0) := by
  obtain ⟨g, fd, ps, hc, hs, hf, hb, F⟩ := h.ex
  exact op_binOwn hc hs hf F hr hb pass0
theorem op_intD (h : BinOk X.prog X.w X.K X.mg X.base C k op sp ∧ IntOk X.K C op) (hr : Room k X.A) : OpR X (binaryOp op) (rBinInt C sp E0) := by
  obtain ⟨g, fd, ps, hc, hs, hf, hb, F⟩ := h.1.ex
  obtain ⟨fo, ro, rc, h1, h2, h3, h4, h5⟩ := h.2.ex
  exact op_binInt hc hs hf h1 h2 h3 h4 h5 F hr hb pass0
theorem ip_binD (h : BinOk X.prog X.w X.K X.mg X.base C k op sp) (i : InOk X.K C op) (hr : Room k X.A) : PIp X op (rBinOwn C sp E0) := by
  obtain ⟨g, fd, ps, hc, hs, hf, hb, F⟩ := h.ex
  obtain ⟨cd, h1, h2, h3, h4⟩ := i.ex
  exact ip_binOwn h1 h2 h3 h4 hs hf F hr hb pass0
end
section
variable {K : PySem.W.Frag} {C : Addr} {G H : Hp} {ta tb : TE} {σ : L2.St} {w u : FilS} {d : D FilS} {R : List (D FilS) → D FilS → Prop}
def bin2 (r : R2) (H : Hp) (Q : VK) : List V → Prop
  | [x, y] => r x y H Q
  | _ => False
theorem bin_go {vs : List V} {Q : VK} (e : Ex G H) (as : AtL K (FilO K C) G [.obj w, .obj u] vs) (r : R [.obj w, .obj u] d) (k : RetG K (FilO K C) d G H Q) : bin2 (rBinOwn C (SpD K (FilO K C) R) E0) H Q vs := by
  obtain ⟨v1, r1, rfl, a1, n1⟩ := atL_cons.mp as
  obtain ⟨v2, r2, rfl, a2, n2⟩ := atL_cons.mp n1
  obtain rfl := atL_nil.mp n2
  obtain ⟨x, rfl, dx, tp, o, ts, kd, g1, _⟩ := at_obj.mp a1
  obtain ⟨y, rfl, dy, tp', o', ts', kd', g1', _⟩ := at_obj.mp a2
  exact ⟨x, dx, _, y, dy, _, rfl, rfl, e _ _ g1, e _ _ g1', G, [.obj w, .obj u], d, e, as, r, k⟩
/-- f op g -/
theorem ed_binF (h1 : EvD K (FilO K C) ta σ G (.obj w)) (h2 : EvD K (FilO K C) tb σ G (.obj u)) (r : R [.obj w, .obj u] d) : EvD K (FilO K C) (tOp (rBinOwn C (SpD K (FilO K C) R) E0) ta tb) σ G d := fun H1 e Q k =>
  (eda_cons h1 (eda_cons h2 eda_nil)) H1 e (fun vs H2 => bin2 (rBinOwn C (SpD K (FilO K C) R) E0) H2 Q vs) fun vs G2 H2 l as => bin_go l.e as r (k.mono l)
/-- f op n -/
theorem ed_intF {n : Int} (h1 : EvD K (FilO K C) ta σ G (.obj w)) (h2 : Ev tb σ G (.int n)) (r : R [.obj w, .int n] d) : EvD K (FilO K C) (tOp (rBinInt C (SpD K (FilO K C) R) E0) ta tb) σ G d := fun H1 e Q k =>
  h1 H1 e _ fun v G2 H2 l a => h2 H2 (l.g.trans l.e) _ fun H3 e3 => by
    obtain ⟨x, rfl, dx, tp, o, ts, kd, g1, gg⟩ := at_obj.mp a
    have l3 := l.trans (Le.heap l.e e3)
    exact ⟨x, dx, _, n, rfl, rfl, l3.e _ _ g1, G2, [.obj w, .int n], d, l3.e, atL_cons.mpr ⟨_, _, rfl, a, AtL.one (at_int.mpr rfl)⟩, r, k.mono l3⟩
/-- f op= g -/
theorem q_augF {i : Nat} {v : V} {De : Ends} {tz : TS} (hv : σ[i]? = some (some v)) (a : At K (FilO K C) G (.obj w) v) (h2 : EvD K (FilO K C) tb σ G (.obj u)) (r : R [.obj w, .obj u] d) (e : Ex G H) (k : ∀ z G2 H2, Le G H G2 H2 → At K (FilO K C) G2 d z → tz De (σ.set i (some z)) H2) :
    tSeq (tAug i tb (rBinOwn C (SpD K (FilO K C) R) E0)) tz De σ H := ⟨v, hv, h2 H e _ fun y G2 H2 l a2 => bin_go (vs := [v, y]) l.e (atL_cons.mpr ⟨_, _, rfl, a.mono l.g, AtL.one a2⟩) r fun z G3 H3 l3 a3 => k z G3 H3 (l.trans l3) a3⟩
end
/-- {k: v} -/
theorem ed_disp1 {ω : Type} {K : PySem.W.Frag} {O : OI ω} {G : Hp} {σ : L2.St} {tk tv : TE} {o c : Int} (h1 : Ev tk σ G (.int o)) (h2 : Ev tv σ G (.int c)) : EvD K O (tDisp [(tk, tv)]) σ G (.dic [(o, c)]) := fun H1 e Q k p hp =>
  have l := Le.newM (o := .dK []) e hp
  h1 _ l.e _ fun H2 e2 => h2 H2 (l.e.trans e2) _ fun H3 e3 => by
    have hp3 : H3 p = some (.dK []) := e3 p _ (e2 p _ upd_same)
    refine ⟨hp3, [(Sum.inl o, .int c)], rfl, by show 1 ≤ 15; decide, ?_⟩
    have l3 : Le G H1 G H3 := l.trans (Le.heap l.e (e2.trans e3))
    refine k (.ref p) (upd G p (.dK (kvI [(o, c)]))) _ ?_ (at_dic.mpr ⟨p, rfl, upd_same⟩)
    have l4 := l3.mut (o := .dK (kvI [(o, c)])) hp (none_of_ex e hp)
    have l5 := Le.fix e l4 hp upd_same
    exact l5
end SR
set_option maxRecDepth 100000
set_option maxHeartbeats 4000000
/-! try with several clauses «except X as n». -/
namespace SR
open PySem PySem.Spec PyProof.Rows L2
/-- .. slot i loses its value behind the suite -/
def endAs (D : Ends) (i : Nat) : Ends := ⟨fun z K1 => D.nx (z.set i none) K1, D.rt, fun z K1 => D.bk (z.set i none) K1, fun z K1 => D.ct (z.set i none) K1⟩
abbrev Clause := Value × Nat × (Addr → Value → Option Addr → TS)
/-- what the clauses, one behind the other, wish of an exception -/
def wAll (K : PySem.W.Frag) (Wo : WX) (D : Ends) : List Clause → WX
  | [] => Wo
  | q :: r => fun cls d z K1 => ∃ y, PySem.W.exmOne K cls q.1 = some y ∧ (y = true → ∀ a, K1 a = none → q.2.2 a cls d (endAs D q.2.1) (z.set q.2.1 (some (.ref a))) K1) ∧ (y = false → wAll K Wo D r cls d z K1)
inductive Clauses (X : Cx) : List ExceptHandler → List Clause → Prop
  | nil : Clauses X [] []
  | cons {x n : Str} {c : Value} {i : Nat} {ts : Addr → Value → Option Addr → TS} {b0 : Stmt} {suite : List Stmt} {np p : Pos} {hds : List ExceptHandler} {l : List Clause} (hc : Names X x c) (hi : X.N[i]? = some n) (hl : X.env.kindOf n = some .local)
      (hsu : ∀ (a : Addr) (oe : Obj) (cls : Value) (d : Option Addr) (pn : List (Addr × Obj)), Zc cls d oe → (∃ vs, oe.data = .fields vs) → PSs (X.suite a ((a, oe) :: pn)) (b0 :: suite) (ts a cls d)) (r : Clauses X hds l) :
      Clauses X (.ExceptHandler (some (.Name x np)) (some n) (b0 :: suite) p :: hds) ((c, i, ts) :: l)
section
variable {X : Cx} {pins : List (Addr × Obj)} {σ : L2.St} {H : Hp} {D : Ends} {Wo : WX}
/-- an exception in flight stands in no frame -/
theorem fly_out {B h : Heap} {l : List Env} {a : Addr} {Z : Obj → Prop} (x : HandSPX.FlyingZ B l a Z h) : a ∉ frs l := fun hm => by
  obtain ⟨oe, vs, he, _, hd⟩ := x.there
  obtain ⟨_, o, e, hnf⟩ := x.2.2.1.mem hm
  rw [he] at e
  cases e
  exact hnf _ hd
/-- an exception caught: where it flies, what stood when it was raised -/
structure Caught (X : Cx) (pins : List (Addr × Obj)) (σ : L2.St) (H : Hp) (B : Heap) (sI s' : Shared) (a : Addr) (cls : Value) (d : Option Addr) (h3 : Heap) : Prop where
  J : Inv X pins σ H sI
  nb : ∀ b o, sI.heap.get? b = some o → b ∉ frs X.stack → B.get? b = some o
  up : sI.heap.UpToSlots h3
  os : s'.os = sI.os
  ag : AllBare s'.gens
  na : H a = none
  fl : HandSPX.FlyingZ B (X.env :: X.outer) a (Zc cls d) h3
section
variable {B h3 : Heap} {sI s' : Shared} {a : Addr} {cls : Value} {d : Option Addr}
theorem Caught.inv (c : Caught X pins σ H B sI s' a cls d h3) : Inv X pins σ H { s' with heap := h3 } :=
  c.J.landed c.nb c.fl.1 c.up c.os c.ag
/-- .. as a suite sees it -/
theorem Caught.inSuite (c : Caught X pins σ H B sI s' a cls d h3) (hs : X.stack = X.env :: X.outer) (hf : X.env.frame = some X.env.locals) :
    ∃ oe, h3.get? a = some oe ∧ Zc cls d oe ∧ (∃ vs, oe.data = .fields vs) ∧ Inv (X.suite a ((a, oe) :: (X.pn ++ pins))) [] σ H { s' with heap := h3 } := by
  obtain ⟨oe, vs, g1, g2, g3⟩ := c.fl.there
  have out := fly_out c.fl
  have n1 : a ≠ X.env.locals := by
    intro z
    apply out
    rw [z]
    exact List.mem_filterMap.mpr ⟨X.env, List.mem_cons_self, hf⟩
  have n2 : a ∉ X.fs := by
    intro hm
    obtain ⟨y, hy, hz⟩ := List.mem_filterMap.mp hm
    exact out (List.mem_filterMap.mpr ⟨y, List.mem_cons_of_mem _ hy, hz⟩)
  exact ⟨oe, g1, g2, ⟨vs, g3⟩, c.inv.suite g1 g3 c.na n1 n2⟩
/-- no clause fits: it goes on -/
theorem Caught.on (c : Caught X pins σ H B sI s' a cls d h3) (hs : X.stack = X.env :: X.outer) (hf : X.env.frame = some X.env.locals) (tk : Takes X Wo) (w : Wo cls d σ H) :
    wpAny (model X.prog X.w) X.A (handleBy (.ref a) X.env []) (SP X pins D) X.xe { s' with heap := h3 } := by
  obtain ⟨_, _, _, oe, vs, T, oT, _, g1, g2, g3, g4, g5⟩ := id c.fl
  have go : wpAny (model X.prog X.w) X.A (setFlight (.ref a) X.env.frame) (fun _ u => wpAny (model X.prog X.w) X.A (throw (.ref a) : Sem Flow) (SP X pins D) X.xe u) X.xe { s' with heap := h3 } := by
    rw [hf]
    refine HandSPX.setFlight_upZ c.fl fun h4 fly up4 => ?_
    apply wpAny_throw
    refine tk _ _ ⟨a, B, sI, pins, σ, H, cls, d, rfl, c.J, c.nb, c.up.trans up4, Or.inr (Or.inr ?_), c.na, c.os, c.ag, w⟩
    rw [hs]
    exact fly
  apply wpAny_handleBy_nil
  unfold PySem.passOn
  apply wpAny_bind
  apply wpAny_field g1 g3 g4
  rw [if_neg (by simp)]
  first
    | exact wpAny_bind go
    | exact wpAny_bind (wpAny_pure (wpAny_bind go))
/-- the clauses from left to right -/
theorem Caught.all {hds : List ExceptHandler} {l : List Clause} (k : Clauses X hds l) (c : Caught X pins σ H B sI s' a cls d h3) (ok : X.Ok) (hN : X.N.Nodup) (hs : X.stack = X.env :: X.outer) (hf : X.env.frame = some X.env.locals) (tk : Takes X Wo)
    (w : wAll X.K Wo D l cls d σ H) : wpAny (model X.prog X.w) X.A (handleBy (.ref a) X.env hds) (SP X pins D) X.xe { s' with heap := h3 } := by
  induction k with
  | nil => exact c.on hs hf tk w
  | @cons x n ce i ts b0 suite np p hds' l' hc hi hl hsu r ih =>
    obtain ⟨y, hy, w1, w0⟩ := w
    obtain ⟨oe, g1, g2, g3, S3⟩ := c.inSuite hs hf
    have ty : PySem.W.Looks (model X.prog X.w) h3 (typeOf (.ref a)) cls := by
      intro A Q E s k q
      refine wpAny_typeOf_ref (k _ _ g1) ?_
      rw [g2.1]
      exact q
    have fits := PySem.W.exm_one (M := model X.prog X.w) c.inv.kIn ty hy
    have name : ∀ {Q E : Value → Shared → Prop}, Q ce { s' with heap := h3 } → wpAny (model X.prog X.w) (X.A.mark (some (.ref a))) (eval (.Name x np) X.env) Q E { s' with heap := h3 } := by
      intro Q E q
      obtain ⟨m1, m2, m3⟩ := hc
      rcases m3 with m3 | ⟨m3, m4, m5⟩
      · exact ld_glob (X := X.suite a ((a, oe) :: (X.pn ++ pins))) S3 m1 m3 q m2
      · exact ld_blt (X := X.suite a ((a, oe) :: (X.pn ++ pins))) S3 m1 m3 m4 q m5 m2
    apply wpAny_handleBy_cons (codeAny_handlers_test ?_) (by intro q; cases q)
    apply name
    apply fits.here
    cases y with
    | false => exact ih (w0 rfl)
    | true =>
      apply codeAny_handlers_suite_as
      refine HandSPX.lands_againZ c.fl fun h4 fly up4 => ?_
      have c4 : Caught X pins σ H B sI s' a cls d h4 := ⟨c.J, c.nb, c.up.trans up4, c.os, c.ag, c.na, fly⟩
      obtain ⟨o4, k1, k2, k3, S4⟩ := c4.inSuite hs hf
      refine store_ok (X := X.suite a ((a, o4) :: (X.pn ++ pins))) (v := .ref a) S4 hN hi (Or.inl hl) rfl (fun s5 S5 => ?_) (Or.inr hl)
      have gone : ∀ {z : L2.St} {K1 : Hp} {s6 : Shared} {Q : Shared → Prop}, Inv (X.suite a ((a, o4) :: (X.pn ++ pins))) [] z K1 s6 → (∀ s7, Inv X pins (z.set i none) K1 s7 → Q s7) → wpAny (model X.prog X.w) X.A (do bindName X.env n .none; unbindBehindTheSuite X.env n p) (fun _ s7 => Q s7) X.xe s6 :=
        fun S6 hq => gone_ok (S6.unsuite ok) hN hi hl hq
      refine wpAny_mono ((hsu a o4 cls d (X.pn ++ pins) k2 k3).run [] s5 _ H _ S5 (w1 rfl a c.na)) ?_ fun _ _ z => z.elim
      intro f s6 q6
      cases f with
      | ret u =>
        obtain ⟨v6, z, K1, S6, r6, q6⟩ := q6
        exact gone S6 fun _ J7 => ⟨v6, _, K1, J7, r6, q6⟩
      | next =>
        obtain ⟨z, K1, S6, q6⟩ := q6
        exact gone S6 fun _ J7 => ⟨_, K1, J7, q6⟩
      | brk =>
        obtain ⟨z, K1, S6, q6⟩ := q6
        exact gone S6 fun _ J7 => ⟨_, K1, J7, q6⟩
      | cont =>
        obtain ⟨z, K1, S6, q6⟩ := q6
        exact gone S6 fun _ J7 => ⟨_, K1, J7, q6⟩
end
variable {body : List Stmt} {h0 : ExceptHandler} {hds : List ExceptHandler} {l : List Clause} {pos : Pos} {tb : WX → TS}
/-- try: body / except x as n: .. / except y as m: .. -/
theorem ps_try_all (hs : X.stack = X.env :: X.outer) (hf : X.env.frame = some X.env.locals) (hN : X.N.Nodup) (tk : Takes X Wo)
    (hb : ∀ (W : WX) (pn : List (Addr × Obj)) (xe : Value → Shared → Prop), Takes (X.tr pn xe) W → PassesOwn (model X.prog X.w) X.A X.env xe → PSs (X.tr pn xe) body (tb W)) (hh : Clauses X (h0 :: hds) l) :
    PS X (.Try body (h0 :: hds) [] [] pos) (fun D σ H => tb (wAll X.K Wo D l) D σ H) := by
  constructor
  intro pins s σ H D I h
  have ok := I.ok
  have fr : X.A.frames = some (X.env :: X.outer) := ok.frames.trans (congrArg some hs)
  let xe' : Value → Shared → Prop := fun e s1 => wpAny (model X.prog X.w) X.A (noteFrame e X.env) (fun _ s2 => wpAny (model X.prog X.w) X.A (setFlight e none) (fun _ s3 => wpAny (model X.prog X.w) X.A (handleBy e X.env (h0 :: hds)) (SP X pins D) X.xe s3) X.xe s2) X.xe s1
  have tk' : Takes (X.tr (X.pn ++ pins) xe') (wAll X.K Wo D l) := by
    rintro u s' ⟨a, B, sI, pins', z, K1, cls, d, rfl, J', nb, up, sky, na, os, ag, w⟩
    have J : Inv X pins z K1 sI := J'.ofTry ok
    have sky' : Sky B (X.env :: X.outer) a (Zc cls d) X.env.locals s'.heap := hs ▸ sky
    show wpAny (model X.prog X.w) X.A (noteFrame (.ref a) X.env) _ _ _
    refine Sky.land Zc.steady fr hf sky' fun h3 fly up3 => ?_
    have c : Caught X pins z K1 B sI s' a cls d h3 := ⟨J, nb, up.trans up3, os, ag, na, fly⟩
    exact c.all hh ok hN hs hf tk w
  apply wpAny_Try_except
  refine wpAny_mono ((hb _ (X.pn ++ pins) xe' tk' PassesOwn.looking).run [] s σ H D (I.toTry _) h) ?_ fun _ _ z => z
  intro f s1 q
  cases f with
  | next =>
    obtain ⟨z, K1, J', q⟩ := q
    exact wpAny_execs_nil ⟨z, K1, J'.ofTry ok, q⟩
  | ret u =>
    obtain ⟨v, z, K1, J', r, q⟩ := q
    exact ⟨v, z, K1, J'.ofTry ok, r, q⟩
  | brk =>
    obtain ⟨z, K1, J', q⟩ := q
    exact ⟨z, K1, J'.ofTry ok, q⟩
  | cont =>
    obtain ⟨z, K1, J', q⟩ := q
    exact ⟨z, K1, J'.ofTry ok, q⟩
end
end SR
set_option maxRecDepth 100000
set_option maxHeartbeats 4000000
/-! Defs over data that may raise. -/
namespace SR
open PySem PySem.Spec PyProof.Rows L2 Evl
/-- what flies: its class, perhaps a field -/
abbrev XOut (ω : Type) := Addr × Option (Str × D ω)
section
variable {ω : Type} (K : PySem.W.Frag) (O : OI ω)
def ExcG (x : XOut ω) (G H : Hp) (E : XK) : Prop := match x.2 with
  | none => ∀ G2 H2, Le G H G2 H2 → E (.ref x.1) none H2
  | some fd => ∀ a v G2 H2, Le G H G2 H2 → H a = none → G2 a = some (.xd [(fd.1, v)]) → At K O G2 fd.2 v → E (.ref x.1) (some a) H2
/-- what a def comes to -/
def Out (G H : Hp) (Q : VK) (E : XK) : D ω ⊕ XOut ω → Prop
  | .inl d => RetG K O d G H Q
  | .inr x => ExcG K O x G H E
def SpE (R : List (D ω) → D ω ⊕ XOut ω → Prop) : Sp := fun vs H Q E => ∃ G ds r, Ex G H ∧ AtL K O G ds vs ∧ R ds r ∧ Out K O G H Q E r
end
section
variable {ω : Type} {K : PySem.W.Frag} {O : OI ω} {G G1 H H1 : Hp} {E : XK} {x : XOut ω} {σ : L2.St} {t : TA} {d : D ω} {ds : List (D ω)}
theorem ExcG.mono (l : Le G H G1 H1) (k : ExcG K O x G H E) : ExcG K O x G1 H1 E := by
  obtain ⟨C, f⟩ := x
  cases f with
  | none => exact fun G2 H2 l2 => k G2 H2 (l.trans l2)
  | some fd => exact fun a v G2 H2 l2 hn ha hv => k a v G2 H2 (l.trans l2) (l.back hn) ha hv
/-- no error leaves a def that nobody lets raise -/
theorem FnOk.noE {P : Program} {w : World} {mg : Str → Option Value} {base : Heap} {k : Nat} {f : Addr} {fd : FuncData} {ps : List Str} {sp : Sp} (F : FnOk P w K mg base (L2.CX P w) k f fd ps sp) : FnOk P w K mg base CX0 k f fd ps (fun vs H Q _ => sp vs H Q E0) := by
  refine ⟨fun vs H Q E h => F.len vs H Q E0 h, fun A outer s H args us vs Q E hr e0 b r h => ?_⟩
  refine codeAny_mono (F.run A outer s H args us vs Q E0 hr e0 b r h) fun res s' q => ?_
  cases res with
  | ok fl => cases fl <;> exact q
  | error er =>
    obtain ⟨_, _, _, _, _, _, _, _, _, _, _, _, z⟩ := (show L2.CX P w outer H s E0 er s' from q)
    exact z.elim
theorem FnOk.ret {P : Program} {w : World} {mg : Str → Option Value} {base : Heap} {k : Nat} {f : Addr} {fd : FuncData} {ps : List Str} {R : List (D ω) → D ω ⊕ XOut ω → Prop} {R' : List (D ω) → D ω → Prop}
    (F : FnOk P w K mg base (L2.CX P w) k f fd ps (SpE K O R)) (h : ∀ ds d, R' ds d → R ds (.inl d)) : FnOk P w K mg base CX0 k f fd ps (SpD K O R') :=
  (FnOk.noE F).imp fun vs H Q E ⟨G, ds, d, e, as, r, kk⟩ => ⟨G, ds, .inl d, e, as, h ds d r, kk⟩
theorem ed_callS {R : List (D ω) → D ω ⊕ XOut ω → Prop} {E : L2.St → XK} (h : EvDA K O t σ G ds) (r : R ds (.inl d)) : EvD K O (tCallS (SpE K O R) E t) σ G d := fun H1 e Q k =>
  h H1 e _ fun vs G2 H2 l as => ⟨G2, ds, .inl d, l.e, as, r, RetG.mono l k⟩
theorem x_callS {R : List (D ω) → D ω ⊕ XOut ω → Prop} {E : L2.St → XK} {Q : VK} (h : EvDA K O t σ G ds) (e : Ex G H) (r : R ds (.inr x)) (k : ExcG K O x G H (E σ)) : tCallS (SpE K O R) E t σ H Q :=
  h H e _ fun vs G2 H2 l as => ⟨G2, ds, .inr x, l.e, as, r, k.mono l⟩
end
/-! ### an own class of errors, without __init__ -/
section
variable {X : Cx} {C : Addr} {bmB : List Value} {B newId initId : String}
/-- C() -/
theorem pmk_none {x : Str} {p pos : Pos} (F : ExcBaseFacts B newId initId bmB) (q : PySem.W.excIn X.K C bmB newId = true) (gC : X.mg x = some (.ref C)) (kC : PySem.W.keepIn X.K (.ref C) = true) (r : Raises X (.ref C)) (hg : Gl X x)
    (hdb : (x == ("__debug__" : Str)) = false := by decide) : PMk X (.Call (.Name x p) [] [] pos) (fun _ H Q => Q (.ref C) none H) := by
  intro pins s σ H Q I h
  refine wpAny_Call_Name_kw (ld_glob I hg gC ?_ hdb)
  refine PySem.W.callWith_K0 I.kIn kC ?_
  obtain ⟨bm, N, nm, qn, bs, hdct, sn, sub, ab, col, dd, k0, k1, k2, k3, k5, mN, hC, hN, hni, T⟩ := exc_obj I.kIn q
  refine wpAny_call_exc_subT F T hC hN hni (fun h' e hm => mk_of I hm r h (I.hok.gone hm.new)) ?_
  show (0 : Nat) ≤ sizeLine
  exact Nat.zero_le _
end
/-- what is known of such a class -/
structure ExP (K : PySem.W.Frag) (mg : Str → Option Value) (x : Str) (C : Addr) : Prop where
  g : mg x = some (.ref C)
  e : PySem.W.excIn K C [.type "ValueError", .type "Exception", .type "BaseException", .type "object"] "ValueError.__new__" = true
  k : PySem.W.keepIn K (.ref C) = true
  b : PySem.W.subIn K (.ref C) (.type "BaseException") = some true
  t : PySem.W.typeIn K (.ref C) = some (.type "type")
section
variable {X : Cx} {C : Addr} {W : WX} {x : Str} {p pos pos2 : Pos}
/-- raise C() -/
theorem ps_raise0 (h : ExP X.K X.mg x C) (hc : X.calm = true) (tk : Takes X W) (hg : Gl X x) (hdb : (x == ("__debug__" : Str)) = false := by decide) : PS X (.Raise (some (.Call (.Name x p) [] [] pos)) none pos2) (fun _ σ H => W (.ref C) none σ H) :=
  ps_raise hc tk (pmk_none PySem.F.excBase_ValueError h.e h.g h.k (raises_own h.b h.t) hg hdb)
end
section
variable (P : Program) (w : World) (K : PySem.W.Frag) (mg : Str → Option Value) (base : Heap)
structure DefOkX (k : Nat) (x : Str) (ps : List Str) (sp : Sp) : Prop where
  ex : ∃ f fd, mg x = some (.ref f) ∧ PySem.W.keepIn K (.ref f) = true ∧ Binds K fd ps [] ∧ FnOk P w K mg base (L2.CX P w) k f fd ps sp
structure BinOkX (C : Addr) (k : Nat) (op : Operator) (sp : Sp) : Prop where
  ex : ∃ g fd ps, PySem.W.selfFirst K C = true ∧ PySem.W.findIn K (.ref C) (PySem.dunder op.info.2) = some (some (.ref g)) ∧ PySem.W.isFn K (.ref g) = true ∧ Binds K fd ps [] ∧ FnOk P w K mg base (L2.CX P w) k g fd ps sp
end
section
variable {X : Cx} {k : Nat} {C : Addr} {ps : List Str} {sp : Sp} {x : Str} {p pos : Pos} {e : Expr} {es : List Expr} {t : TA} {W : WX} {op : Operator}
theorem pe_callX (tk : Takes X W) (h : DefOkX X.prog X.w X.K X.mg X.base k x ps sp) (hr : Room k X.A) (ha : PA X (e :: es) t) (hg : Gl X x := by rfl) (hdb : (x == ("__debug__" : Str)) = false := by decide)
    (he : starEach (e :: es) X.env = (false, eval e X.env) :: starEach es X.env := by rfl) (hpl : (backTo pos (starEach es X.env)).any (·.1) = false := by rfl) : PE X (.Call (.Name x p) (e :: es) [] pos) (tCallS sp (WE W) t) := by
  obtain ⟨f, fd, hm, hk, hb, F⟩ := h.ex
  exact pe_callS F hr hg hm hk hb (fun σ => passAt tk σ) ha hdb he hpl
/-- what a def lets out goes on as it is -/
theorem pass_on {E : XK} (tk : Takes X (fun cls d _ H => E cls d H)) : Passes (L2.CX X.prog X.w) X E := fun _ σ _ _ er s' I c => tk er s' (XE.of_call I (fun _ _ _ h => h) c)
theorem op_binX {E : XK} (tk : Takes X (fun cls d _ H => E cls d H)) (h : BinOkX X.prog X.w X.K X.mg X.base C k op sp) (hr : Room k X.A) : OpR X (binaryOp op) (rBinOwn C sp E) := by
  obtain ⟨g, fd, ps, hc, hs, hf, hb, F⟩ := h.ex
  exact op_binOwn hc hs hf F hr hb (pass_on tk)
end
section
variable {K : PySem.W.Frag} {C : Addr} {G H : Hp} {ta tb : TE} {σ : L2.St} {w u : FilS} {E : XK} {x : XOut FilS} {R : List (D FilS) → D FilS ⊕ XOut FilS → Prop} {Q : VK}
/-- f op g raises -/
theorem x_binF (h1 : EvD K (FilO K C) ta σ G (.obj w)) (h2 : EvD K (FilO K C) tb σ G (.obj u)) (r : R [.obj w, .obj u] (.inr x)) (e : Ex G H) (k : ExcG K (FilO K C) x G H E) : tOp (rBinOwn C (SpE K (FilO K C) R) E) ta tb σ H Q :=
  h1 H e _ fun v G2 H2 l a => h2 H2 (e.trans l.h) _ fun y G3 H3 l3 b => by
    obtain ⟨p, rfl, dx, tp, o, ts, kd, g1, g2⟩ := at_obj.mp a
    obtain ⟨q, rfl, dy, tp', o', ts', kd', f1, f2⟩ := at_obj.mp b
    have e2 : Ex G2 H3 := l.e.trans l3.h
    have e3 : Ex G2 (hun G3 G2) := hun_r l3.e e2
    refine ⟨p, dx, _, q, dy, _, rfl, rfl, e2 _ _ g1, l3.e _ _ f1, hun G3 G2, [.obj w, .obj u], .inr x, hun_ex l3.e e2, atL_cons.mpr ⟨_, _, rfl, a.mono e3, AtL.one (b.mono hun_l)⟩, r, ?_⟩
    refine k.mono ⟨l.h.trans l3.h, l.g.trans e3, hun_ex l3.e e2, fun y hg hh => ?_, hun_t l3.t l.t⟩
    have n2 := l.f y hg hh
    have h2' : H2 y ≠ none := fun z => hh (fresh_back l.h z)
    unfold hun
    rw [l3.f y hg h2']
    exact n2
end
end SR
set_option maxRecDepth 100000
set_option maxHeartbeats 4000000
/-! Errors that keep what they are handed in a field. -/
namespace SR
open PySem PySem.Spec PyProof.Rows L2 Evl
/-- __init__(self, y): self.f = y -/
def spXI (C : Addr) (f : Str) : Sp := fun vs H Q _ => ∃ (a : Addr) (y : V), vs = [.ref a, y] ∧ H a = some (exo a C none) ∧ ∀ dx, H dx = none → dx ≠ a → Q .non (upd (upd H dx (exd dx [(f, y)])) a (exo a C (some dx)))
section
variable {K : PySem.W.Frag} {ω : Type} {O : OI ω} {G H : Hp} {C : Addr} {f : Str} {ta : TA} {σ : L2.St} {d : D ω} {E : XK}
/-- self.f = y, there -/
theorem run_xi {De : Ends} {a : Addr} {y : V} (T : OexC K C) (hno : PySem.W.findIn K (.ref C) f = some none) (ha : H a = some (exo a C none)) (h0 : σ[0]? = some (some (.ref a))) (h1 : σ[1]? = some (some y)) (k : ∀ dx, H dx = none → dx ≠ a → De.nx σ (upd (upd H dx (exd dx [(f, y)])) a (exo a C (some dx)))) :
    tOst K f (tVar 0) (tVar 1) De σ H := ⟨y, h1, .ref a, h0, a, C, rfl, T, hno, Or.inl ⟨ha, k⟩⟩
/-- C(d) is raised -/
theorem x_made (h : EvDA K O ta σ G [d]) (e : Ex G H) (k : ExcG K O (C, some (f, d)) G H E) : tMkO C (spXI C f) [] ta σ H E :=
  h H e _ fun vs G2 H2 l as => by
    obtain ⟨v, r, rfl, av, n⟩ := atL_cons.mp as
    obtain rfl := atL_nil.mp n
    refine ⟨by show 1 ≤ 1000; decide, fun a ha => ⟨a, v, rfl, upd_same, fun dx hdx hne => ⟨rfl, dx, [(f, v)], upd_same, by rw [upd_ne hne, upd_same], ?_, ?_⟩⟩⟩
    · rw [upd_ne hne] at hdx
      exact hdx
    · rw [upd_ne hne] at hdx
      have eH : upd (del (upd (upd (upd H2 a (exo a C none)) dx (exd dx [(f, v)])) a (exo a C (some dx))) a) dx (.xd [(f, v)]) = upd H2 dx (.xd [(f, v)]) := by
        funext b
        by_cases hb : b = dx
        · rw [hb, upd_same, upd_same]
        · rw [upd_ne hb, upd_ne hb]
          by_cases hba : b = a
          · rw [hba, del_same, ha]
          · rw [del_ne hba, upd_ne hba, upd_ne hb, upd_ne hba]
      rw [eH]
      have lN : Le G2 H2 (upd G2 dx (.xd [(f, v)])) (upd H2 dx (.xd [(f, v)])) := Le.new l.e hdx
      exact k dx v _ _ (l.trans lN) (l.back hdx) upd_same (av.mono lN.g)
end
/-- what is known of such a class -/
structure XcP (P : Program) (w : World) (K : PySem.W.Frag) (mg : Str → Option Value) (base : Heap) (x f : Str) (C : Addr) : Prop where
  T : OexC K C
  g : mg x = some (.ref C)
  no : PySem.W.findIn K (.ref C) f = some none
  init : ∃ fI fd, PySem.W.findIn K (.ref C) "__init__" = some (some (.ref fI)) ∧ PySem.W.typeIn K (.ref fI) = some (.type "function") ∧ Binds K fd ["self", f] [] ∧ FnOk P w K mg base CX0 1 fI fd ["self", f] (spXI C f)
section
variable {X : Cx} {x f : Str} {C : Addr} {W : WX} {e : Expr} {es : List Expr} {ta : TA} {p pos pos2 : Pos}
/-- raise C(d) -/
theorem ps_raiseXc (h : XcP X.prog X.w X.K X.mg X.base x f C) (hc : X.calm = true) (tk : Takes X W) (hr : Room 2 X.A) (ha : PA X (e :: es) ta) (hg : Gl X x := by rfl) (hdb : (x == ("__debug__" : Str)) = false := by decide)
    (he : starEach (e :: es) X.env = (false, eval e X.env) :: starEach es X.env := by rfl) (hpl : (backTo pos (starEach es X.env)).any (·.1) = false := by rfl) :
    PS X (.Raise (some (.Call (.Name x p) (e :: es) [] pos)) none pos2) (fun _ σ H => tMkO C (spXI C f) [] ta σ H fun cls d H' => W cls d σ H') := by
  obtain ⟨fI, fd, h1, h2, hb, F⟩ := h.init
  exact ps_raise hc tk (pmk_oex h.T h1 h2 F hr hb .nil pass0 hg h.g ha hdb he hpl)
end
end SR
set_option maxRecDepth 100000
set_option maxHeartbeats 4000000
/-! Errors that keep a field, made while nothing is handled: their context is None, and stays known to be. -/
namespace SR
open PySem PySem.Spec PyProof.Rows L2 Evl
section
variable {X : Cx} {x f : Str} {C : Addr} {W : WX} {e : Expr} {ta : TA} {p pos pos2 : Pos}
theorem pmk_xcN (h : XcP X.prog X.w X.K X.mg X.base x f C) (hr : Room 2 X.A) (ha : PA X [e] ta) (hg : Gl X x) (hdb : (x == ("__debug__" : Str)) = false)
    (he : starEach [e] X.env = (false, eval e X.env) :: starEach [] X.env) (hpl : (backTo pos (starEach [] X.env)).any (·.1) = false) : L2N.PMk X (.Call (.Name x p) [e] [] pos) (tMkO C (spXI C f) [] ta) := by
  intro pins s σ H Q I go
  obtain ⟨fI, fd, hI, tI, hb, Fn⟩ := h.init
  obtain ⟨nm, q, N, bs, bm, sn, sub, ab, col, dd, k0, k1, k2, k3, k5, hC, hbm⟩ := h.T.cls
  refine wpAny_Call_Name_kw (ld_glob I hg h.g ?_ hdb)
  refine PySem.W.callWith_K (h₀ := X.base) I.ok.mod.kin h.T.kC (thn (ha.run pos pins s σ H _ I go) fun us s1 ⟨vs, H1, I1, r1, _, q1⟩ => ⟨I1.kIn, ?_⟩) he hpl
  show wpAny _ _ (call (.ref C) us) _ _ _
  obtain ⟨hp, g, dr, tk, os⟩ := s1
  obtain ⟨a, hA⟩ : ∃ a, a = hp.objs.size + 1 := ⟨_, rfl⟩
  have le : hp.objs.size ≤ a := by omega
  have goA := q1 a (I1.hok.fresh le)
  obtain ⟨h2, hH2⟩ : ∃ h2, h2 = (hp.push (PySem.W.kdv_tup us)).push (PySem.HandSPX.excO C hp.objs.size) := ⟨_, rfl⟩
  have keep : ∀ b o, hp.get? b = some o → h2.get? b = some o := fun b o z => by
    rw [hH2]
    exact Heap.get?_push_of_some _ (Heap.get?_push_of_some _ z)
  have there : h2.get? a = some (PySem.HandSPX.excO C hp.objs.size) := by
    rw [hH2, hA]
    heap_get
  have I2 : Inv X pins σ (upd H1 a (exo a C none)) ⟨h2, g, dr, tk, os⟩ := I1.laid (t' := tk) keep le (exo_ok there)
  have rv : Vals (V.ref a :: (vs ++ [])) (Value.ref a :: (us ++ [])) := .cons rfl (r1.append .nil)
  have len : (Value.ref a :: us ++ []).length = 2 := by
    have z := rv.length
    rw [Fn.len _ _ _ _ goA] at z
    exact z.symm
  have short : us.length ≤ sizeLine := by
    have : us.length + 1 = 2 := by simpa using len
    rw [sizeLine_eq]
    omega
  subst hA hH2
  refine wpAny_call (PySem.HandSPX.call_own PySem.F.excBase_ValueError (fun Y => PySem.HandSPX.refsVE_contains Y bm hbm) (I1.kIn _ _ hC) (PySem.W.looks_findIn I1.kIn hI) (fun self => PySem.W.bind_fn I1.kIn self tI) short
    (codeAny_mono (Fn.run _ X.stack _ _ ⟨Value.ref (hp.objs.size + 1) :: us, []⟩ _ _ _ (fun _ _ _ => False) (hr.make C us []) (I2.env0.make C us []) (hb _ (Value.ref (hp.objs.size + 1) :: us) I2.kIn len) rv goA) fun r s' back => ?_))
  cases r with
  | error er => exact pass0 pins σ _ _ er s' I2 back
  | ok fl =>
    cases fl with
    | ret u =>
      obtain ⟨v, H2, os2, bare2, un2, hok2, rel, rfl, d, fs, ea, ed, hd1, q2⟩ := back
      obtain ⟨h3, g3, d3, t3, os3⟩ := s'
      obtain ⟨t0, G, J, kG, ge, hoe, na⟩ := mk_end0 (d2 := d3) (t2 := t3) I1 le keep un2 hok2 os2 bare2 ea ed hd1
      exact ⟨rel, _, _, _, ⟨G, g3, d3, t3, os3⟩, _, .ref C, some d, rfl, J, kG, ge, hoe, ⟨rfl, rfl, fun ws hw => by cases hw; rfl⟩, rfl, rfl, na, rfl, bare2, raises_own h.T.exC h.T.tyC, q2⟩
    | next => exact False.elim back
    | brk => exact False.elim back
    | cont => exact False.elim back
/-- raise C(d) -/
theorem ps_raiseXcN (h : XcP X.prog X.w X.K X.mg X.base x f C) (hc : X.calm = true) (tk : L2N.Takes X W) (hr : Room 2 X.A) (ha : PA X [e] ta) (hg : Gl X x := by rfl) (hdb : (x == ("__debug__" : Str)) = false := by decide)
    (he : starEach [e] X.env = (false, eval e X.env) :: starEach [] X.env := by rfl) (hpl : (backTo pos (starEach [] X.env)).any (·.1) = false := by rfl) :
    PS X (.Raise (some (.Call (.Name x p) [e] [] pos)) none pos2) (fun _ σ H => tMkO C (spXI C f) [] ta σ H fun cls d H' => W cls d σ H') := L2N.ps_raise hc tk (pmk_xcN h hr ha hg hdb he hpl)
end
end SR
set_option maxRecDepth 100000
set_option maxHeartbeats 4000000
namespace SR
open PySem PySem.Spec PyProof.Rows L2 Evl
/-! ### Filter.__init__, any arguments -/
theorem funD_okX {P : Program} {w : World} {K : PySem.W.Frag} {mg : Str → Option Value} {base : Heap} {x qual : Str} {st : Stmt} {dvs : List V} {kws : List (Str × V)} {f : Addr} {fd : FuncData} {N ps : List Str} {k : Nat} {sp : Sp}
    (F : FunD K x qual (defArgs st) (defBody st) (defScope st) dvs kws f fd) (S : FnScope N ps (defScope st)) (len : ∀ vs H Q E, sp vs H Q E → vs.length = ps.length)
    (hbody : ∀ (cdv : Value) (A : Around) (outer : List Env) (s : Shared) (H : Hp) (vs : List V) (Q : VK) (E : XK), Room k (A.deeper (envOfC qual (defScope st) s.heap.objs.size f cdv)) → sp vs H Q E →
      ∃ t, PSs (cxOf (L2N.CX P w) P w K mg base N qual (defScope st) f cdv A outer s H E) (defBody st) t ∧ t { nx := fun _ H' => Q .non H', rt := Q } (start N vs) H) : FnOk P w K mg base (L2N.CX P w) (k + 1) f fd ps sp :=
  FunD.ok F S len hbody
section
variable {P : Program} {w : World} {K : PySem.W.Frag} {mg : Str → Option Value} {base : Heap} {C : Addr}
/-! an error's own __init__ -/
abbrev BadPrime___init___S : Stmt := inClass (topS 3) 0
abbrev BadPrime___init___N : List Str := ["self", "prime"]
theorem BadPrime___init___sc : FnScope BadPrime___init___N ["self", "prime"] (defScope BadPrime___init___S) := ⟨rfl, rfl, rfl, by decide +kernel, rfl, by decide +kernel, by decide +kernel⟩
theorem ok_badprime {f : Addr} {fd : FuncData} (F : Fun K "__init__" "BadPrime.__init__" BadPrime___init___S f fd) (T : OexC K C) (hno : PySem.W.findIn K (.ref C) "prime" = some none) : FnOk P w K mg base CX0 1 f fd ["self", "prime"] (spXI C "prime") := by
  refine F.ok BadPrime___init___sc (fun vs H Q E h => ?_) (fun cdv A outer s H vs Q E hr h => ?_)
  · obtain ⟨a, y, rfl, _⟩ := h
    rfl
  · obtain ⟨a, y, rfl, ha, k⟩ := h
    refine ⟨_, (pss_one (ps_ost (pv 0) (pv 1))), ?_⟩
    exact run_xi T hno ha rfl rfl k
abbrev BadTerm___init___S : Stmt := inClass (topS 4) 0
abbrev BadTerm___init___N : List Str := ["self", "index"]
theorem BadTerm___init___sc : FnScope BadTerm___init___N ["self", "index"] (defScope BadTerm___init___S) := ⟨rfl, rfl, rfl, by decide +kernel, rfl, by decide +kernel, by decide +kernel⟩
theorem ok_badterm {f : Addr} {fd : FuncData} (F : Fun K "__init__" "BadTerm.__init__" BadTerm___init___S f fd) (T : OexC K C) (hno : PySem.W.findIn K (.ref C) "index" = some none) : FnOk P w K mg base CX0 1 f fd ["self", "index"] (spXI C "index") := by
  refine F.ok BadTerm___init___sc (fun vs H Q E h => ?_) (fun cdv A outer s H vs Q E hr h => ?_)
  · obtain ⟨a, y, rfl, _⟩ := h
    rfl
  · obtain ⟨a, y, rfl, ha, k⟩ := h
    refine ⟨_, (pss_one (ps_ost (pv 0) (pv 1))), ?_⟩
    exact run_xi T hno ha rfl rfl k
def spInitE (K : PySem.W.Frag) (C CP CT : Addr) : Sp := fun vs H Q E => ∃ (G H1 : Hp) (x dx : Addr) (v1 v : V) (d1 d : D FilS), vs = [.ref x, v1, v] ∧ Ex G H1 ∧ H1 x = none ∧ H1 dx = none ∧ dx ≠ x ∧ H = upd (upd H1 dx (.own x)) x (.ins C dx []) ∧ At K (FilO K C) G d1 v1 ∧ At K (FilO K C) G d v ∧
  ((dPrime d1 = false ∧ ExcG K (FilO K C) (CP, some ("prime", d1)) G H1 E) ∨ (dPrime d1 = true ∧ ∃ i : Int, dBad d = .int i ∧ ExcG K (FilO K C) (CT, some ("index", .int i)) G H1 E) ∨
    ∃ (p : Int) (rows : List (Int × Int)), d1 = .int p ∧ RowsD d rows ∧ rows.length ≤ 30000 ∧ primes.contains p = true ∧ ∀ G2 H2, Le G H1 G2 H2 → FilAt K C G2 x ⟨p, coll p rows⟩ → Q .non H2)
theorem ok_initE {f CP CT : Addr} {fd : FuncData} {dvs : List V} {kws : List (Str × V)} (F : FunD K "__init__" "Filter.__init__" (defArgs Filter___init___S) (defBody Filter___init___S) (defScope Filter___init___S) dvs kws f fd) (B : Bi mg) (c : FilC K C)
    (XP : XcP P w K mg base "BadPrime" "prime" CP) (XT : XcP P w K mg base "BadTerm" "index" CT)
    (h_is_prime : DefOk P w K mg base 2 "is_prime" ["thing"] (SpD K (FilO K C) rIsPrime)) (h_first_bad_term : DefOk P w K mg base 3 "first_bad_term" ["terms"] (SpD K (FilO K C) rBad)) (h_collected : DefOk P w K mg base 1 "collected" ["prime", "pairs"] (SpD K (FilO K C) rColl)) :
    FnOk P w K mg base (L2N.CX P w) 4 f fd ["self", "prime", "terms"] (spInitE K C CP CT) := by
  refine funD_okX F Filter___init___sc (fun vs H Q E h => ?_) (fun cdv A outer s H vs Q E hr h => ?_)
  · obtain ⟨G, H1, x, dx, v1, v, d1, d, rfl, _⟩ := h
    rfl
  · obtain ⟨G, H1, x, dx, v1, v, d1, d, rfl, e, hx, hdx, hne, rfl, a1, a, hcase⟩ := h
    refine ⟨_, (pss_cons (ps_if (pt_not (pt_val (pe_callD h_is_prime (hr.mono (by first | decide | exact Nat.le_refl _)) (pa_cons (pv 1) pa_nil)))) (pss_one (ps_raiseXcN XP rfl (L2N.takes_of rfl rfl rfl rfl) (hr.mono (by decide)) (pa_cons (pv 1) pa_nil))) pss_nil)
    (pss_cons (ps_set (i := 3) Filter___init___sc.nd rfl (Or.inl rfl) (pe_callD h_first_bad_term (hr.mono (by first | decide | exact Nat.le_refl _)) (pa_cons (pv 2) pa_nil)))
    (pss_cons (ps_if (pt_cmpR op_notN (pv 3) pe_non (nomark _)) (pss_one (ps_raiseXcN XT rfl (L2N.takes_of rfl rfl rfl rfl) (hr.mono (by decide)) (pa_cons (pv 3) pa_nil))) pss_nil)
    (pss_cons (ps_fld (pv 0) (pv 1) rfl)
    (pss_cons (ps_fld (pv 0) (pe_callTy call_tupleF (by rfl) B.tuple (by decide +kernel) (pa_cons (pe_callD h_collected (hr.mono (by first | decide | exact Nat.le_refl _)) (pa_cons (pv 1) (pa_cons (pv 2) pa_nil))) pa_nil)) rfl)
    (pss_one (ps_fld (pv 0) (pe_callTy (call_dictT rfl) (by rfl) B.dict (by decide +kernel) (pa_cons (pe_fldK K (pv 0)) pa_nil)) rfl))))))), ?_⟩
    have l0 : Le G H1 G (upd H1 dx (.own x)) := Le.newM e hdx
    have l1 : Le G H1 G (upd (upd H1 dx (.own x)) x (.ins C dx [])) := l0.trans (Le.newM l0.e (by rw [upd_ne (Ne.symm hne)]; exact hx))
    have gx : G x = none := none_of_ex e hx
    have hw1 : ∀ y, EvD K (FilO K C) (tVar 1) [some (.ref x), some v1, some v, y] G d1 := fun y => ed_var rfl a1
    have hw2 : ∀ y, EvD K (FilO K C) (tVar 2) [some (.ref x), some v1, some v, y] G d := fun y => ed_var rfl a
    rcases hcase with ⟨hp, k⟩ | ⟨hp, i, hi, k⟩ | ⟨p, rows, rfl, hrows, hz, hp, k⟩
    · refine q_whenG (b := true) (et_is (et_not (et_ofD (ed_call (eda_cons (hw1 _) eda_nil) ⟨_, rfl, rfl⟩))) (by rw [hp]; rfl)) l1.e (fun _ H2 l2 => ?_) fun z => nomatch z
      exact x_made (eda_cons (hw1 _) eda_nil) l2.e (k.mono (l1.trans l2))
    · refine q_skip (et_is (et_not (et_ofD (ed_call (eda_cons (hw1 _) eda_nil) ⟨_, rfl, rfl⟩))) (by rw [hp]; rfl)) l1.e fun H2 l2 => ?_
      refine q_asgV (v := .int i) (ev_int (ed_call (eda_cons (hw2 _) eda_nil) ⟨d, rfl, hi.symm⟩)) l2.e fun H3 l3 => ?_
      refine q_whenG (b := true) (et_is (et_test (b := true) (ev_op (z := .bl (!decide (V.int i = V.non))) (ev_var (i := 3) rfl) ev_c fun H4 e4 Q q => ⟨rfl, q H4 (Ex.refl H4)⟩)) rfl) l3.e (fun _ H4 l4 => ?_) fun z => nomatch z
      exact x_made (eda_cons (ed_of (ev_var (i := 3) rfl) (at_int.mpr rfl)) eda_nil) l4.e (k.mono (((l1.trans l2).trans l3).trans l4))
    · obtain rfl := at_int.mp a1
      have hv1 : ∀ y, EvD K (FilO K C) (tVar 1) [some (.ref x), some (.int p), some v, y] G (.int p) := fun y => ed_var rfl (at_int.mpr rfl)
      have hv2 : ∀ y, EvD K (FilO K C) (tVar 2) [some (.ref x), some (.int p), some v, y] G d := fun y => ed_var rfl a
      refine q_skip (et_is (et_not (et_ofD (ed_call (eda_cons (hv1 _) eda_nil) ⟨_, rfl, rfl⟩))) (by show (!primes.contains p) = false; rw [hp]; rfl)) l1.e fun H2 l2 => ?_
      refine q_asgV (v := .non) (ev_non (ed_call (eda_cons (hv2 _) eda_nil) ⟨d, rfl, (rows_bad hrows).symm⟩)) l2.e fun H3 l3 => ?_
      refine q_skip (et_is (et_test (b := false) (ev_op (z := .bl (!decide (V.non = V.non))) (ev_var (i := 3) rfl) ev_c fun H4 e4 Q q => ⟨rfl, q H4 (Ex.refl H4)⟩)) rfl) l3.e fun H4 l4 => ?_
      have l14 := ((l1.trans l2).trans l3).trans l4
      have hx4 : H4 x = some (.ins C dx []) := l4.h x _ (l3.h x _ (l2.h x _ upd_same))
      refine ⟨_, rfl, _, rfl, x, C, dx, [], rfl, hx4, c.cl, c.n1, (by decide), ?_⟩
      have l5 := l14.mut (o := .ins C dx (putF "prime" (.int p) [])) hx gx
      refine ed_call (K := K) (O := FilO K C) (R := rColl) (ds := [.int p, d]) (d := .lst ((coll p rows).map pairD)) (eda_cons (hv1 _) (eda_cons (hv2 _) eda_nil)) ⟨p, d, rows, rfl, prime_pos hp, hrows, hz, rfl⟩ _ l5.e _ fun vl G6 H6 l6 al => ?_
      obtain ⟨la, vs, rfl, hs, as⟩ := at_lst.mp al
      obtain ⟨ts, rfl, hts⟩ := pairs_atL as
      refine ⟨la, _, rfl, sq_of (l6.e _ _ hs), fun tp o htp ho => ?_⟩
      have l7 := Le.new l6.e (o := .frz o (.tup (ts.map V.ref))) htp
      have hx6 : H6 x = some (.ins C dx (putF "prime" (.int p) [])) := l6.h x _ upd_same
      have gx6 : G6 x = none := l6.gnone gx (by rw [upd_same]; exact fun z => nomatch z)
      have hx7 : (upd H6 tp (.frz o (.tup (ts.map V.ref)))) x = some (.ins C dx (putF "prime" (.int p) [])) := l7.h x _ hx6
      have gx7 : (upd G6 tp (.frz o (.tup (ts.map V.ref)))) x = none := l7.gnone gx6 (by rw [hx6]; exact fun z => nomatch z)
      refine ⟨_, rfl, x, C, dx, _, rfl, hx7, c.cl, c.n2, (Nat.lt_of_le_of_lt putF_len (by decide)), ?_⟩
      have l8 := ((l5.trans l6).trans l7).mut (o := .ins C dx (putF "pairs" (.ref tp) (putF "prime" (.int p) []))) hx gx7
      have hl2 : (putF "pairs" (.ref tp) (putF "prime" (.int p) [])).lookup ("pairs" : Str) = some (V.ref tp) := by rw [lookup_putF, if_pos rfl]
      refine ⟨_, rfl, x, C, dx, _, _, rfl, upd_same, c.cl, c.n2, hl2, tp, o, ts, kvI (coll p rows), rfl, ho, ?_, ?_, fun kd hkd => ?_⟩
      · rw [upd_ne (by intro z; subst z; rw [hx6] at htp; cases htp), upd_same]
      · exact ts_kv ((hts.mono l7.g).mono l8.e)
      have hmk : mergeK [] (kvI (coll p rows)) = kvI (coll p rows) := by
        have h9 := mergeK_kvI (a := []) (b := coll p rows) (by rw [List.nil_append]; exact coll_nd)
        rw [List.nil_append] at h9
        exact h9
      rw [hmk]
      have l9 := Le.new l8.e (o := .dK (kvI (coll p rows))) hkd
      have kx : kd ≠ x := by intro z; subst z; rw [upd_same] at hkd; cases hkd
      have gx9 : (upd (upd G6 tp (.frz o (.tup (ts.map V.ref)))) kd (.dK (kvI (coll p rows)))) x = none := by rw [upd_ne (Ne.symm kx)]; exact gx7
      refine ⟨_, rfl, x, C, dx, _, rfl, (by rw [upd_ne (Ne.symm kx)]; exact upd_same), c.cl, c.n3, (Nat.lt_of_le_of_lt putF_len (Nat.lt_of_le_of_lt (Nat.succ_le_succ putF_len) (by show 1 + 1 < 1000; decide))), ?_⟩
      have l10 := (l8.trans l9).mut (o := .ins C dx (putF "coefficients" (.ref kd) (putF "pairs" (.ref tp) (putF "prime" (.int p) [])))) hx gx9
      have l11 := Le.fix e l10 hx upd_same
      refine k _ _ l11 ⟨dx, tp, o, ts, kd, ?_, ho, ?_, ?_, ?_⟩
      · rw [upd_same, flds_eq]
      · have n1 : tp ≠ x := by intro z; subst z; rw [hx6] at htp; cases htp
        have n2 : tp ≠ kd := by
          intro z
          subst z
          rw [upd_ne n1, upd_same] at hkd
          cases hkd
        rw [upd_ne n1, upd_ne n2, upd_same]
      · exact ((hts.mono l7.g).mono l9.g).mono (Ex.new gx9)
      · rw [upd_ne kx, upd_same]
end
end SR
set_option maxRecDepth 100000
set_option maxHeartbeats 4000000
namespace SR
open PySem PySem.Spec PyProof.Rows L2 Evl
/-- the kinds of builtin things beside a Filter -/
def kinds : List String := ["NoneType", "bool", "int", "str", "list", "tuple", "dict"]
structure FilT (K : PySem.W.Frag) (C : Addr) : Prop where
  no : ∀ n, n ∈ kinds → PySem.W.kitOne K (.type n) (.ref C) = some false
  int : PySem.W.kitOne K (.ref C) (.type "int") = some false
  bool : PySem.W.kitOne K (.ref C) (.type "bool") = some false
  list : PySem.W.kitOne K (.ref C) (.type "list") = some false
  tuple : PySem.W.kitOne K (.ref C) (.type "tuple") = some false
  ca : PySem.W.findIn K (.ref C) "__class__" = some (some (.builtin "object.__class__"))
  cn : PySem.W.specialIn K (.builtin "object.__class__") "__get__" = some (some (.builtin "getset_descriptor.__get__"))
  ct : PySem.W.takesIn K (.builtin "object.__class__") = some true
  cm : PySem.W.mroIn K C (.type "object") = some true
section
variable {P : Program} {w : World} {K : PySem.W.Frag} {mg : Str → Option Value} {base : Heap} {C : Addr}
theorem ot_fil (c : FilC K C) (t : FilT K C) : OT K (FilO K C) (fun _ => .ref C) where
  ty := fun H a w ⟨dx, tp, o, ts, kd, h1, _⟩ => .base (.ins h1 c.cl t.ca t.cn t.ct t.cm)
  int := fun _ => t.int
  bool := fun _ => t.bool
  list := fun _ => t.list
  tuple := fun _ => t.tuple
def dFil : D FilS → Bool | .obj _ => true | _ => false
theorem kit_own {C : Addr} (d : D FilS) (t : FilT K C) : PySem.W.kitOne K (tyD (fun _ => .ref C) d) (.ref C) = some (dFil d) := by
  cases d with
  | obj w =>
    show (if (Value.ref C == Value.ref C) = true then some true else PySem.W.kitCls K (.ref C) (.ref C)) = some true
    rw [if_pos (by simp)]
  | _ => exact t.no _ (by unfold kinds; simp [tyD])
theorem isi_own {C_Filter : Addr} {te : TE} {G : Hp} {σ : L2.St} {d : D FilS} (c : FilC K C_Filter) (t : FilT K C_Filter) (h : EvD K (FilO K C_Filter) te σ G d) : Ev (tCB (rIsi K) (tCons te (tCons (tC (.ref C_Filter)) tNil))) σ G (.bl (dFil d)) := fun H1 e Q q =>
  h H1 e _ fun v G2 H2 l a => ⟨v, .ref C_Filter, _, _, _, rfl, .own _, (ty_of (ot_fil c t).ty (a.mono l.e)), kit_own d t, q H2 l.h⟩
/-! ### terms, low, high, span, bool, ==, [] -/
def rTerms : List (D FilS) → D FilS → Prop := fun ds r => ∃ w, ds = [.obj w] ∧ r = .lst (w.ps.map pairD)
abbrev Filter_terms_S : Stmt := inClass (topS 49) 2
abbrev Filter_terms_N : List Str := ["self"]
theorem Filter_terms_sc : FnScope Filter_terms_N ["self"] (defScope Filter_terms_S) := ⟨rfl, rfl, rfl, by decide +kernel, rfl, by decide +kernel, by decide +kernel⟩
theorem ok_terms {f : Addr} {fd : FuncData} (F : Fun K "terms" "Filter.terms" Filter_terms_S f fd) (B : Bi mg) (c : FilC K C) : FnOk P w K mg base CX0 1 f fd ["self"] (SpD K (FilO K C) rTerms) := by
  refine F.ok Filter_terms_sc (fun vs H Q E h => ?_) (fun cdv A outer s H vs Q E hr h => ?_)
  · obtain ⟨G, ds, d, e, as, ⟨w0, rfl, rfl⟩, k⟩ := h
    exact as.len
  · obtain ⟨G, ds, d, e, as, ⟨w0, rfl, rfl⟩, k⟩ := h
    obtain ⟨v, r, rfl, a, n⟩ := atL_cons.mp as
    obtain rfl := atL_nil.mp n
    refine ⟨_, (pss_one (ps_ret (pe_callTy call_list_of (by rfl) B.list (by decide +kernel) (pa_cons (pe_fldK K (pv 0)) pa_nil)))), ?_⟩
    exact s_retD (ed_listT (ed_pairs c (ed_var rfl a))) e k
def rBoolF : List (D FilS) → D FilS → Prop := fun ds r => ∃ w, ds = [.obj w] ∧ r = .bl (!w.ps.isEmpty)
abbrev Filter___bool___S : Stmt := inClass (topS 49) 8
abbrev Filter___bool___N : List Str := ["self"]
theorem Filter___bool___sc : FnScope Filter___bool___N ["self"] (defScope Filter___bool___S) := ⟨rfl, rfl, rfl, by decide +kernel, rfl, by decide +kernel, by decide +kernel⟩
theorem ok_bool {f : Addr} {fd : FuncData} (F : Fun K "__bool__" "Filter.__bool__" Filter___bool___S f fd) (B : Bi mg) (c : FilC K C) : FnOk P w K mg base CX0 1 f fd ["self"] (SpD K (FilO K C) rBoolF) := by
  refine F.ok Filter___bool___sc (fun vs H Q E h => ?_) (fun cdv A outer s H vs Q E hr h => ?_)
  · obtain ⟨G, ds, d, e, as, ⟨w0, rfl, rfl⟩, k⟩ := h
    exact as.len
  · obtain ⟨G, ds, d, e, as, ⟨w0, rfl, rfl⟩, k⟩ := h
    obtain ⟨v, r, rfl, a, n⟩ := atL_cons.mp as
    obtain rfl := atL_nil.mp n
    refine ⟨_, (pss_one (ps_ret (pe_callTy (call_boolT K) (by rfl) B.bool (by decide +kernel) (pa_cons (pe_fldK K (pv 0)) pa_nil)))), ?_⟩
    have h1 := ev_boolT (ed_pairs c (ed_var (i := 0) (σ := [some v]) rfl a))
    have e1 : (w0.ps.map (pairD (ω := FilS))).isEmpty = w0.ps.isEmpty := by cases w0.ps <;> rfl
    rw [e1] at h1
    exact s_retD (ed_of h1 (at_bl.mpr rfl)) e k
def rGet : List (D FilS) → D FilS → Prop := fun ds r => ∃ w o, ds = [.obj w, .int o] ∧ r = .int ((getI w.ps o).getD 0)
abbrev Filter___getitem___S : Stmt := inClass (topS 49) 10
abbrev Filter___getitem___N : List Str := ["self", "at"]
theorem Filter___getitem___sc : FnScope Filter___getitem___N ["self", "at"] (defScope Filter___getitem___S) := ⟨rfl, rfl, rfl, by decide +kernel, rfl, by decide +kernel, by decide +kernel⟩
theorem ok_getitem {f : Addr} {fd : FuncData} (F : Fun K "__getitem__" "Filter.__getitem__" Filter___getitem___S f fd) (B : Bi mg) (c : FilC K C) : FnOk P w K mg base CX0 1 f fd ["self", "at"] (SpD K (FilO K C) rGet) := by
  refine F.ok Filter___getitem___sc (fun vs H Q E h => ?_) (fun cdv A outer s H vs Q E hr h => ?_)
  · obtain ⟨G, ds, d, e, as, ⟨w0, o, rfl, rfl⟩, k⟩ := h
    exact as.len
  · obtain ⟨G, ds, d, e, as, ⟨w0, o, rfl, rfl⟩, k⟩ := h
    obtain ⟨v, r, rfl, a, n⟩ := atL_cons.mp as
    obtain ⟨v2, r, rfl, a2, n⟩ := atL_cons.mp n
    obtain rfl := atL_nil.mp n
    obtain rfl := at_int.mp a2
    have hu := hu_of hr
    refine ⟨_, (pss_one (ps_ret (pe_dget2 (by exact hu) (pe_fldK K (pv 0)) (pv 1) pe_int ⟨rfl, rfl, rfl, rfl⟩))), ?_⟩
    exact s_retD (ed_of (ev_dget2D (ed_coefs c (ed_var (i := 0) rfl a)) (ev_var (i := 1) rfl) ev_c) (at_int.mpr rfl)) e k
/-- the first and the last place -/
def lowO (ps : List (Int × Int)) : Option Int := ps.head?.map (·.1)
def highO (ps : List (Int × Int)) : Option Int := ps.getLast?.map (·.1)
def optD : Option Int → D FilS | none => .non | some i => .int i
def rLow : List (D FilS) → D FilS → Prop := fun ds r => ∃ w, ds = [.obj w] ∧ r = optD (lowO w.ps)
def rHigh : List (D FilS) → D FilS → Prop := fun ds r => ∃ w, ds = [.obj w] ∧ r = optD (highO w.ps)
def rSpan : List (D FilS) → D FilS → Prop := fun ds r => ∃ w, ds = [.obj w] ∧ r = optD ((lowO w.ps).bind fun a => (highO w.ps).map fun b => b - a)
theorem ed_first {te : TE} {σ : L2.St} {G : Hp} {q : Int × Int} {r : List (Int × Int)} {O : OI FilS} (h : EvD K O te σ G (.tup ((q :: r).map pairD))) : Ev (tOp (fun x y H Q => rIxL K x y H Q ∨ rIxT K x y H Q) (tOp (rIxT K) te (tC (.int 0))) (tC (.int 0))) σ G (.int q.1) :=
  ev_int (ed_item (i := 0) (ed_itemT (i := 0) (c := pairD q) h ev_c rfl) ev_c rfl)
theorem ed_final {te : TE} {σ : L2.St} {G : Hp} {q : Int × Int} {r : List (Int × Int)} {O : OI FilS} (h : EvD K O te σ G (.tup ((r ++ [q]).map pairD))) : Ev (tOp (fun x y H Q => rIxL K x y H Q ∨ rIxT K x y H Q) (tOp (rIxT K) te (tUn (rU fun i => .int (-i)) (tC (.int 1)))) (tC (.int 0))) σ G (.int q.1) :=
  ev_int (ed_item (i := 0) (ed_lastT (c := pairD q) h ev_neg1 (by simp)) ev_c rfl)
abbrev Filter_low_S : Stmt := inClass (topS 49) 3
abbrev Filter_low_N : List Str := ["self"]
theorem Filter_low_sc : FnScope Filter_low_N ["self"] (defScope Filter_low_S) := ⟨rfl, rfl, rfl, by decide +kernel, rfl, by decide +kernel, by decide +kernel⟩
theorem ok_low {f : Addr} {fd : FuncData} (F : Fun K "low" "Filter.low" Filter_low_S f fd) (B : Bi mg) (c : FilC K C) : FnOk P w K mg base CX0 1 f fd ["self"] (SpD K (FilO K C) rLow) := by
  refine F.ok Filter_low_sc (fun vs H Q E h => ?_) (fun cdv A outer s H vs Q E hr h => ?_)
  · obtain ⟨G, ds, d, e, as, ⟨w0, rfl, rfl⟩, k⟩ := h
    exact as.len
  · obtain ⟨G, ds, d, e, as, ⟨w0, rfl, rfl⟩, k⟩ := h
    obtain ⟨v, r, rfl, a, n⟩ := atL_cons.mp as
    obtain rfl := atL_nil.mp n
    refine ⟨_, (pss_one (ps_ret (pe_ifExp (pt_truK K (pe_fldK K (pv 0)) (by intro _; rfl)) (pe_ixK K (pe_ixTK K (pe_fldK K (pv 0)) pe_int (fun _ _ => rfl)) pe_int (fun _ _ => rfl)) pe_non))), ?_⟩
    have hp := ed_pairs c (ed_var (i := 0) (σ := [some v]) rfl a)
    refine s_retD (d := optD (lowO w0.ps)) ?_ e k
    obtain ⟨p, ps⟩ := w0
    cases ps with
    | nil => exact ed_of (ev_if (et_truT hp) (fun z => nomatch z) fun _ => ev_c) (at_non.mpr rfl)
    | cons q r => exact ed_of (ev_if (et_truT hp) (fun _ => ed_first hp) (fun z => nomatch z)) (at_int.mpr rfl)
abbrev Filter_high_S : Stmt := inClass (topS 49) 4
abbrev Filter_high_N : List Str := ["self"]
theorem Filter_high_sc : FnScope Filter_high_N ["self"] (defScope Filter_high_S) := ⟨rfl, rfl, rfl, by decide +kernel, rfl, by decide +kernel, by decide +kernel⟩
theorem ok_high {f : Addr} {fd : FuncData} (F : Fun K "high" "Filter.high" Filter_high_S f fd) (B : Bi mg) (c : FilC K C) : FnOk P w K mg base CX0 1 f fd ["self"] (SpD K (FilO K C) rHigh) := by
  refine F.ok Filter_high_sc (fun vs H Q E h => ?_) (fun cdv A outer s H vs Q E hr h => ?_)
  · obtain ⟨G, ds, d, e, as, ⟨w0, rfl, rfl⟩, k⟩ := h
    exact as.len
  · obtain ⟨G, ds, d, e, as, ⟨w0, rfl, rfl⟩, k⟩ := h
    obtain ⟨v, r, rfl, a, n⟩ := atL_cons.mp as
    obtain rfl := atL_nil.mp n
    refine ⟨_, (pss_one (ps_ret (pe_ifExp (pt_truK K (pe_fldK K (pv 0)) (by intro _; rfl)) (pe_ixK K (pe_ixTK K (pe_fldK K (pv 0)) (pe_un un_neg pe_int) (fun _ _ => rfl)) pe_int (fun _ _ => rfl)) pe_non))), ?_⟩
    have hp := ed_pairs c (ed_var (i := 0) (σ := [some v]) rfl a)
    refine s_retD (d := optD (highO w0.ps)) ?_ e k
    obtain ⟨p, ps⟩ := w0
    rcases List.eq_nil_or_concat ps with rfl | ⟨r, q, rfl⟩
    · exact ed_of (ev_if (et_truT hp) (fun z => nomatch z) fun _ => ev_c) (at_non.mpr rfl)
    · rw [List.concat_eq_append] at hp ⊢
      have e1 : (!((r ++ [q]).map (pairD (ω := FilS))).isEmpty) = true := by cases r <;> rfl
      have e2 : highO (r ++ [q]) = some q.1 := by simp [highO]
      show EvD _ _ _ _ _ (optD (highO (r ++ [q])))
      rw [e2]
      exact ed_of (ev_if (et_is (et_truT hp) e1) (fun _ => ed_final hp) (fun z => nomatch z)) (at_int.mpr rfl)
abbrev Filter_span_S : Stmt := inClass (topS 49) 5
abbrev Filter_span_N : List Str := ["self"]
theorem Filter_span_sc : FnScope Filter_span_N ["self"] (defScope Filter_span_S) := ⟨rfl, rfl, rfl, by decide +kernel, rfl, by decide +kernel, by decide +kernel⟩
theorem ok_span {f : Addr} {fd : FuncData} (F : Fun K "span" "Filter.span" Filter_span_S f fd) (B : Bi mg) (c : FilC K C) : FnOk P w K mg base CX0 1 f fd ["self"] (SpD K (FilO K C) rSpan) := by
  refine F.ok Filter_span_sc (fun vs H Q E h => ?_) (fun cdv A outer s H vs Q E hr h => ?_)
  · obtain ⟨G, ds, d, e, as, ⟨w0, rfl, rfl⟩, k⟩ := h
    exact as.len
  · obtain ⟨G, ds, d, e, as, ⟨w0, rfl, rfl⟩, k⟩ := h
    obtain ⟨v, r, rfl, a, n⟩ := atL_cons.mp as
    obtain rfl := atL_nil.mp n
    refine ⟨_, (pss_one (ps_ret (pe_ifExp (pt_truK K (pe_fldK K (pv 0)) (by intro _; rfl)) (pe_op op_sub (pe_ixK K (pe_ixTK K (pe_fldK K (pv 0)) (pe_un un_neg pe_int) (fun _ _ => rfl)) pe_int (fun _ _ => rfl)) (pe_ixK K (pe_ixTK K (pe_fldK K (pv 0)) pe_int (fun _ _ => rfl)) pe_int (fun _ _ => rfl))) pe_non))), ?_⟩
    have hp := ed_pairs c (ed_var (i := 0) (σ := [some v]) rfl a)
    refine s_retD (d := optD ((lowO w0.ps).bind fun a => (highO w0.ps).map fun b => b - a)) ?_ e k
    obtain ⟨p, ps⟩ := w0
    rcases List.eq_nil_or_concat ps with rfl | ⟨r, q, rfl⟩
    · exact ed_of (ev_if (et_truT hp) (fun z => nomatch z) fun _ => ev_c) (at_non.mpr rfl)
    · rw [List.concat_eq_append] at hp ⊢
      obtain ⟨q0, r0, e0⟩ : ∃ q0 r0, r ++ [q] = q0 :: r0 := by cases r <;> exact ⟨_, _, rfl⟩
      have e1 : (!((r ++ [q]).map (pairD (ω := FilS))).isEmpty) = true := by cases r <;> rfl
      have e2 : highO (r ++ [q]) = some q.1 := by simp [highO]
      have e3 : lowO (r ++ [q]) = some q0.1 := by rw [e0]; rfl
      show EvD _ _ _ _ _ (optD ((lowO (r ++ [q])).bind fun a => (highO (r ++ [q])).map fun b => b - a))
      rw [e2, e3]
      exact ed_of (ev_if (et_is (et_truT hp) e1) (fun _ => ev_op (ed_final hp) (ed_first (q := q0) (r := r0) (by rw [← e0]; exact hp)) rv_I0) (fun z => nomatch z)) (at_int.mpr rfl)
/-! ### == -/
def eqF (w : FilS) : D FilS → Bool | .obj u => decide (w.p = u.p) && decide (w.ps = u.ps) | _ => false
def rEqF : List (D FilS) → D FilS → Prop := fun ds r => ∃ w d, ds = [.obj w, d] ∧ r = .bl (eqF w d)
abbrev Filter___eq___S : Stmt := inClass (topS 49) 9
abbrev Filter___eq___N : List Str := ["self", "other"]
theorem Filter___eq___sc : FnScope Filter___eq___N ["self", "other"] (defScope Filter___eq___S) := ⟨rfl, rfl, rfl, by decide +kernel, rfl, by decide +kernel, by decide +kernel⟩
theorem ok_eq {f C_Filter : Addr} {fd : FuncData} (F : Fun K "__eq__" "Filter.__eq__" Filter___eq___S f fd) (B : Bi mg) (c : FilC K C_Filter) (t : FilT K C_Filter) (g_Filter : mg "Filter" = some (.ref C_Filter)) : FnOk P w K mg base CX0 1 f fd ["self", "other"] (SpD K (FilO K C_Filter) rEqF) := by
  refine F.ok Filter___eq___sc (fun vs H Q E h => ?_) (fun cdv A outer s H vs Q E hr h => ?_)
  · obtain ⟨G, ds, d, e, as, ⟨w0, o, rfl, rfl⟩, k⟩ := h
    exact as.len
  · obtain ⟨G, ds, d, e, as, ⟨w0, d1, rfl, rfl⟩, k⟩ := h
    obtain ⟨v, r, rfl, a, n⟩ := atL_cons.mp as
    obtain ⟨v2, r, rfl, a2, n⟩ := atL_cons.mp n
    obtain rfl := atL_nil.mp n
    refine ⟨_, (pss_one (ps_ret (pe_and (pe_callB (call_isiK' K) (by rfl) B.isinstance (by decide +kernel) (pa_cons (pv 1) (pa_cons (pe_glob (v := .ref C_Filter) rfl g_Filter rfl) pa_nil))) (pe_and (pe_cmpR op_eq (pe_fldK K (pv 0)) (pe_fldK K (pv 1)) (nomark _)) (pe_one (pe_cmpR (op_eqD hr.units) (pe_fldK K (pv 0)) (pe_fldK K (pv 1)) (nomark _))))))), ?_⟩
    have hs := ed_var (i := 0) (σ := [some v, some v2]) rfl a
    have ho := ed_var (i := 1) (σ := [some v, some v2]) rfl a2
    refine s_retD (ed_of (v := .bl (eqF w0 d1)) (ev_is (ev_andV (a := dFil d1) (b := eqF w0 d1) (isi_own c t ho) fun hb => ?_) (by cases d1 <;> rfl)) (at_bl.mpr rfl)) e k
    cases d1 with
    | obj u =>
      refine ev_is (ev_andV (a := decide (w0.p = u.p)) (b := decide (w0.ps = u.ps)) (ev_is (ev_op (ev_prime c hs) (ev_prime c ho) (rv_eq rfl)) ?_) fun _ => ?_) rfl
      · by_cases h : w0.p = u.p <;> simp [h]
      · exact ev_eqD (ed_pairs c hs) (ed_pairs c ho) noObj_pairs noObj_pairs shaped_tup shaped_tup eqv_pairs
    | _ => cases hb
end
end SR
set_option maxRecDepth 100000
set_option maxHeartbeats 4000000
namespace SR
open PySem PySem.Spec PyProof.Rows L2 Evl
section
variable {P : Program} {w : World} {K : PySem.W.Frag} {mg : Str → Option Value} {base : Heap} {ω : Type} {O : OI ω}
theorem toPL_ints {l : List Int} : PyData.canLayAll0 (toPL (ω := ω) (l.map D.int)) = true ∧ PyData.depthAll (toPL (ω := ω) (l.map D.int)) = 0 := by
  induction l with
  | nil => exact ⟨rfl, rfl⟩
  | cons n r ih =>
    refine ⟨?_, ?_⟩
    · show (PyData.canLay0 (.int n) && PyData.canLayAll0 (toPL (r.map D.int))) = true
      rw [ih.1]
      rfl
    · show max (PyData.depth (.int n)) (PyData.depthAll (toPL (r.map D.int))) = 0
      rw [ih.2]
      rfl
/-- xs != [] for a list of ints -/
theorem ev_neNil {ta : TE} {σ : L2.St} {H : Hp} {q : Addr} {cells : List Int} (h : Ev ta σ H (.ref q)) (hq : H q = some (.lst (cells.map V.int))) : Ev (tOp (rNeD K) ta (tLst tNil)) σ H (.bl (!cells.isEmpty)) := fun H1 e Q k =>
  h H1 e _ fun H2 e2 => ⟨by show 0 ≤ sizeLine; exact Nat.zero_le _, fun p hp => by
    have hq2 : H2 q = some (.lst (cells.map V.int)) := e2 q _ (e q _ hq)
    have hq3 : (upd H2 p (.lst [])) q = some (.lst (cells.map V.int)) := (Ex.new hp) q _ hq2
    have ht := toPL_ints (ω := Unit) (l := cells)
    refine ⟨.list (toPL (ω := Unit) (cells.map D.int)), .list [], .lst (sq_of hq3) ?_, .lst (sq_of upd_same) .nil, ?_, rfl, ?_⟩
    · exact dpl_of (O := ⟨fun _ _ _ => True, fun _ h => h⟩) (H := upd H2 p (.lst [])) noObj_ints (AtL.ints)
    · show (PyData.canLayAll0 (toPL (cells.map D.int)) && decide (PyData.depthAll (toPL (ω := Unit) (cells.map D.int)) + 1 ≤ 64)) = true
      rw [ht.1, ht.2]
      rfl
    · have e3 : (!PyData.eqv (.list (toPL (ω := Unit) (cells.map D.int))) (.list [])) = !cells.isEmpty := by cases cells <;> rfl
      rw [e3]
      exact k _ (e2.trans (Ex.new hp))⟩
/-! ### _law_draw -/
def pDraw : List (D ω) → Prop := fun ds => ∃ many, ds = [.int many] ∧ 0 < many ∧ many < 1073741824
def rDraw : List (D ω) → D ω → Prop := fun ds d => ∃ many x, ds = [.int many] ∧ d = .int x ∧ 0 ≤ x ∧ x < many
abbrev _law_draw_S : Stmt := topS 52
abbrev _law_draw_N : List Str := ["_law_spring_here", "_law_many", "_law_mixed", "_law_cell", "_law_digit"]
theorem _law_draw_sc : FnScope _law_draw_N ["_law_spring_here", "_law_many"] (defScope _law_draw_S) := ⟨rfl, rfl, rfl, by decide +kernel, rfl, by decide +kernel, by decide +kernel⟩
theorem ok_draw {f : Addr} {fd : FuncData} (F : Fun K "_law_draw" "_law_draw" _law_draw_S f fd) (B : Bi mg) : FnOk P w K mg base CX0 1 f fd ["_law_spring_here", "_law_many"] (SpX K O 1 pDraw rDraw) := by
  refine F.ok _law_draw_sc (fun vs H Q E h => ?_) (fun cdv A outer s0 H vs Q E hr h => ?_)
  · obtain ⟨G, s, q, n, ds, ws, rfl, e, gs, gq, spr, hn, as, ⟨many, rfl, h0, h1⟩, k⟩ := h
    show (V.ref s :: ws).length = 2
    rw [List.length_cons, as.len]
    rfl
  · obtain ⟨G, s, q, n, ds, ws, rfl, e, gs, gq, spr, hn, as, ⟨many, rfl, h0, h1⟩, k⟩ := h
    obtain ⟨v, r0, rfl, a, nn⟩ := atL_cons.mp as
    obtain rfl := atL_nil.mp nn
    obtain rfl := at_int.mp a
    have hu := hu_of hr
    have hsq := spr.ne
    obtain ⟨cells, r, m, sd, hs, hq, hc, hm0, hmn, hsd0, hsd1⟩ := spr.ex
    refine ⟨_, (pss_cons (ps_asg (pe_op op_add (pe_ixLK K (pv 0) pe_int (fun _ _ => rfl)) pe_int) (pg_sub (pv 0) pe_int set_list))
    (pss_cut (ps_if (PW.pt (pw_and (pt_cmpR op_eq (pe_ixLK K (pv 0) pe_int (fun _ _ => rfl)) pe_int (nomark _)) (pw_and1 (pt_cmpR (op_neD hr.units) (pe_ixLK K (pv 0) pe_int (fun _ _ => rfl)) (pe_lst pa_nil) (nomark _))))) (pss_cons (ps_set (i := 3) _law_draw_sc.nd rfl (Or.inl rfl) (pe_bm PySem.F.plainAttrs_list PySem.F.slot_list_pop PySem.F.type_list_pop mt_popAt (pe_ixLK K (pv 0) pe_int (fun _ _ => rfl)) (pa_cons pe_int pa_nil)))
    (pss_cons (ps_asg (pe_op op_modN (pe_callTy call_int1 (by rfl) B.int (by decide +kernel) (pa_cons (pe_op op_add (pe_op op_add (pe_op op_mul (pe_ixLK K (pv 0) pe_int (fun _ _ => rfl)) pe_int) (pv 3)) pe_int) pa_nil)) pe_int) (pg_sub (pv 0) pe_int set_list))
    (pss_one (ps_if (pt_cmpR op_ge (pv 3) (pe_op op_pow pe_int pe_int) (nomark _)) (pss_one (ps_asg (pv 3) (pg_sub (pv 0) pe_int set_list))) pss_nil)))) pss_nil)
    (pss_cons (ps_if (pt_cmpR op_gt (pe_ixLK K (pv 0) pe_int (fun _ _ => rfl)) pe_int (nomark _)) (pss_cons (ps_set (i := 4) _law_draw_sc.nd rfl (Or.inl rfl) (pe_op op_modN (pe_callTy call_int1 (by rfl) B.int (by decide +kernel) (pa_cons (pe_ixLK K (pv 0) pe_int (fun _ _ => rfl)) pa_nil)) (pv 1)))
    (pss_cons (ps_asg (pe_op op_fdivN (pe_ixLK K (pv 0) pe_int (fun _ _ => rfl)) (pv 1)) (pg_sub (pv 0) pe_int set_list))
    (pss_one (ps_ret (pv 4))))) pss_nil)
    (pss_cons (ps_set (i := 2) _law_draw_sc.nd rfl (Or.inl rfl) (pe_op op_modN (pe_callTy call_int1 (by rfl) B.int (by decide +kernel) (pa_cons (pe_op op_pow (pe_op op_add (pe_op op_add (pe_ixLK K (pv 0) pe_int (fun _ _ => rfl)) (pe_op op_mul pe_int (pe_ixLK K (pv 0) pe_int (fun _ _ => rfl)))) pe_int) pe_int) pa_nil)) pe_int))
    (pss_cons (ps_set (i := 2) _law_draw_sc.nd rfl (Or.inl rfl) (pe_op op_add (pe_op op_add (pe_op op_mul (pv 2) pe_int) (pe_op op_mul (pe_op op_mul pe_int (pe_ixLK K (pv 0) pe_int (fun _ _ => rfl))) (pe_ixLK K (pv 0) pe_int (fun _ _ => rfl)))) pe_int))
    (pss_one (ps_ret (pe_op op_modN (pe_op op_modN (pe_callTy call_int1 (by rfl) B.int (by decide +kernel) (pa_cons (pe_op op_pow (pv 2) pe_int) pa_nil)) pe_int) (pv 1))))))))), ?_⟩
    refine q_setL (j := 2) (v := .int (m + 1)) hs (ev_op (ev_op (ev_var (i := 0) rfl) ev_c (rv_ixL (sq_of hs) rfl)) ev_c rv_I0) (ev_var (i := 0) rfl) ev_c (by show 2 < 4; decide) fun H1 e1 => ?_
    have l1 : LeX s q G H G (upd H1 s (.lst [.ref q, .int r, .int (m + 1), .int sd])) := (Le.heap e e1).x.mutS gs
    have hs1 : (upd H1 s (.lst [.ref q, .int r, .int (m + 1), .int sd])) s = some (.lst [.ref q, .int r, .int (m + 1), .int sd]) := upd_same
    have hq1 : (upd H1 s (.lst [.ref q, .int r, .int (m + 1), .int sd])) q = some (.lst (cells.map V.int)) := by rw [upd_ne (Ne.symm hsq)]; exact e1 q _ hq
    generalize hH2 : upd H1 s (.lst [.ref q, .int r, .int (m + 1), .int sd]) = H2 at l1 hs1 hq1
    have hH2' : (upd H1 s (.lst (([V.ref q, .int r, .int m, .int sd]).set 2 (.int (m + 1))))) = H2 := hH2
    rw [hH2']
    refine q_cut (M := fun σ' H' => (∃ x, σ' = [some (.ref s), some (.int many), none, x, none]) ∧ LeX s q G H G H' ∧ ∃ (cells' : List Int) (r' sd' : Int), H' s = some (.lst [.ref q, .int r', .int (m + 1), .int sd']) ∧ H' q = some (.lst (cells'.map V.int)) ∧ cells'.length ≤ 63 ∧ 0 ≤ sd' ∧ sd' < 2147483647) ?_ ?_
    · have t1 : Ev (tOp (rIxL K) (tVar 0) (tC (.int 1))) [some (.ref s), some (.int many), none, none, none] H2 (.int r) := ev_op (ev_var rfl) ev_c (rv_ixL (sq_of hs1) rfl)
      have t0 : Ev (tOp (rIxL K) (tVar 0) (tC (.int 0))) [some (.ref s), some (.int many), none, none, none] H2 (.ref q) := ev_op (ev_var rfl) ev_c (rv_ixL (sq_of hs1) rfl)
      refine s_ifG (b := decide (V.int r = V.int 0) && !cells.isEmpty) (et_and (et_test (ev_op t1 ev_c (rv_eq rfl))) fun _ => et_test (ev_neNil t0 hq1)) (Ex.refl H2) (fun hb H3 l3 => ?_) (fun hb H3 l3 => ?_)
      · have hs3 := l3.h s _ hs1
        have hq3 := l3.h q _ hq1
        obtain ⟨c0, cs, rfl⟩ : ∃ c0 cs, cells = c0 :: cs := by
          cases cells with
          | nil => simp at hb
          | cons c cs => exact ⟨c, cs, rfl⟩
        have t0' : Ev (tOp (rIxL K) (tVar 0) (tC (.int 0))) [some (.ref s), some (.int many), none, none, none] H3 (.ref q) := ev_op (ev_var rfl) ev_c (rv_ixL (sq_of hs3) rfl)
        refine t0' H3 (Ex.refl H3) _ fun H4 e4 => ⟨Or.inl ⟨rfl, _, sq_of (e4 q _ hq3)⟩, ⟨q, _, 0, 0, .int c0, rfl, rfl, e4 q _ hq3, by decide, by decide, ?_, rfl, ?_⟩⟩
        · simp [seqIndex?]
        · have l4 : LeX s q G H G (upd H4 q (.lst ((c0 :: cs).map V.int |>.eraseIdx 0))) := ((l1.trans (Le.heap l1.e (l3.h.trans e4)).x).mutQ gq)
          have hs4 : (upd H4 q (.lst ((c0 :: cs).map V.int |>.eraseIdx 0))) s = some (.lst [.ref q, .int r, .int (m + 1), .int sd]) := by rw [upd_ne hsq]; exact e4 s _ hs3
          have hq4 : (upd H4 q (.lst ((c0 :: cs).map V.int |>.eraseIdx 0))) q = some (.lst (cs.map V.int)) := upd_same
          generalize hH5 : upd H4 q (.lst ((c0 :: cs).map V.int |>.eraseIdx 0)) = H5 at l4 hs4 hq4
          show tSeq _ _ _ _ H5
          have sdb : 0 ≤ (sd * 4099 + c0 + 13).fmod 2147483647 ∧ (sd * 4099 + c0 + 13).fmod 2147483647 < 2147483647 := ⟨Int.fmod_nonneg_of_pos _ (by decide), Int.fmod_lt_of_pos _ (by decide)⟩
          refine q_setL (j := 3) (v := .int ((sd * 4099 + c0 + 13).fmod 2147483647)) hs4 (ev_op (ev_int1 (ev_op (ev_op (ev_op (ev_op (ev_var (i := 0) rfl) ev_c (rv_ixL (sq_of hs4) rfl)) ev_c (rv_I (Or.inl (by omega)))) (ev_var (i := 3) rfl) rv_I0) ev_c rv_I0)) ev_c (rv_I (by decide))) (ev_var (i := 0) rfl) ev_c (by show 3 < 4; decide) fun H6 e6 => ?_
          have l6 : LeX s q G H G (upd H6 s (.lst [.ref q, .int r, .int (m + 1), .int ((sd * 4099 + c0 + 13).fmod 2147483647)])) := (l4.trans (Le.heap l4.e e6).x).mutS gs
          have hs6 : (upd H6 s (.lst [.ref q, .int r, .int (m + 1), .int ((sd * 4099 + c0 + 13).fmod 2147483647)])) s = some (.lst [.ref q, .int r, .int (m + 1), .int ((sd * 4099 + c0 + 13).fmod 2147483647)]) := upd_same
          have hq6 : (upd H6 s (.lst [.ref q, .int r, .int (m + 1), .int ((sd * 4099 + c0 + 13).fmod 2147483647)])) q = some (.lst (cs.map V.int)) := by rw [upd_ne (Ne.symm hsq)]; exact e6 q _ hq4
          show tIfS _ _ _ _ _ (upd H6 s (.lst [.ref q, .int r, .int (m + 1), .int ((sd * 4099 + c0 + 13).fmod 2147483647)]))
          generalize hH7 : upd H6 s (.lst [.ref q, .int r, .int (m + 1), .int ((sd * 4099 + c0 + 13).fmod 2147483647)]) = H7 at l6 hs6 hq6
          refine s_ifG (b := decide ((10 : Int) ^ (18 : Int).toNat ≤ c0)) (et_test (ev_op (ev_var (i := 3) rfl) (ev_op ev_c ev_c (rv_I ⟨by decide, by decide, by decide⟩)) rv_I0)) (Ex.refl H7) (fun hb H8 l8 => ?_) (fun hb H8 l8 => ?_)
          · have hs8 := l8.h s _ hs6
            have hq8 := l8.h q _ hq6
            refine s_setL (j := 1) (v := .int c0) hs8 (ev_var (i := 3) rfl) (ev_var (i := 0) rfl) ev_c (by show 1 < 4; decide) fun H9 e9 => ?_
            refine ⟨⟨_, rfl⟩, (l6.trans (Le.heap l6.e (l8.h.trans e9)).x).mutS gs, cs, c0, _, upd_same, ?_, by simp at hc; omega, sdb.1, sdb.2⟩
            rw [upd_ne (Ne.symm hsq)]
            exact e9 q _ hq8
          · exact ⟨⟨_, rfl⟩, l6.trans (Le.heap l6.e l8.h).x, cs, r, _, l8.h s _ hs6, l8.h q _ hq6, by simp at hc; omega, sdb.1, sdb.2⟩
      · exact ⟨⟨_, rfl⟩, l1.trans (Le.heap l1.e l3.h).x, cells, r, sd, l3.h s _ hs1, l3.h q _ hq1, hc, hsd0, hsd1⟩
    · rintro σ' H3 ⟨⟨x, rfl⟩, l3, cells', r', sd', hs3, hq3, hc3, hsd3, hsd3'⟩
      have t1 : Ev (tOp (rIxL K) (tVar 0) (tC (.int 1))) [some (.ref s), some (.int many), none, x, none] H3 (.int r') := ev_op (ev_var rfl) ev_c (rv_ixL (sq_of hs3) rfl)
      refine q_ifG (b := decide ((0 : Int) < r')) (et_test (ev_op t1 ev_c rv_I0)) (Ex.refl H3) (fun hb H4 l4 => ?_) (fun hb H4 l4 => ?_)
      · have hs4 := l4.h s _ hs3
        have hq4 := l4.h q _ hq3
        refine q_asgV (v := .int (r'.fmod many)) (ev_op (ev_int1 (ev_op (ev_var (i := 0) rfl) ev_c (rv_ixL (sq_of hs4) rfl))) (ev_var (i := 1) rfl) (rv_I (by omega))) (Ex.refl H4) fun H5 l5 => ?_
        have hs5 := l5.h s _ hs4
        have hq5 := l5.h q _ hq4
        refine q_setL (j := 1) (v := .int (r'.fdiv many)) hs5 (ev_op (ev_op (ev_var (i := 0) rfl) ev_c (rv_ixL (sq_of hs5) rfl)) (ev_var (i := 1) rfl) (rv_I ⟨by omega, by omega⟩)) (ev_var (i := 0) rfl) ev_c (by show 1 < 4; decide) fun H6 e6 => ?_
        refine s_ret (v := .int (r'.fmod many)) (ev_var (i := 4) rfl) fun H7 e7 => ?_
        have l7 := ((l3.trans (Le.heap l3.e ((l4.h.trans l5.h).trans e6)).x).mutS gs (o := .lst [.ref q, .int (r'.fdiv many), .int (m + 1), .int sd']))
        refine k (.int (r'.fmod many)) _ G H7 ⟨many, _, rfl, rfl, Int.fmod_nonneg_of_pos _ h0, Int.fmod_lt_of_pos _ h0⟩ (l7.trans (Le.heap l7.e e7).x) ⟨cells', r'.fdiv many, m + 1, sd', e7 s _ upd_same, ?_, hc3, by omega, by omega, hsd3, hsd3'⟩ (at_int.mpr rfl)
        refine e7 q _ ?_
        rw [upd_ne (Ne.symm hsq)]
        exact e6 q _ hq5
      · have hs4 := l4.h s _ hs3
        have hq4 := l4.h q _ hq3
        have a1 : 0 ≤ m + 1 := by omega
        have a2 : m + 1 ≤ 1000001 := by omega
        have b1 : 40503 * (m + 1) ≤ 40503 * 1000001 := by omega
        have b2 : (40503 * (m + 1)) * (m + 1) ≤ (40503 * 1000001) * 1000001 := Int.mul_le_mul b1 a2 a1 (by decide)
        have b3 : 0 ≤ (40503 * (m + 1)) * (m + 1) := Int.mul_nonneg (by omega) a1
        have M0 : 0 ≤ ((sd' + 7919 * (m + 1) + 104729) ^ (5 : Int).toNat).fmod 2147483629 := Int.fmod_nonneg_of_pos _ (by decide)
        have M1 : ((sd' + 7919 * (m + 1) + 104729) ^ (5 : Int).toNat).fmod 2147483629 < 2147483629 := Int.fmod_lt_of_pos _ (by decide)
        refine q_asgV (v := .int (((sd' + 7919 * (m + 1) + 104729) ^ (5 : Int).toNat).fmod 2147483629)) (ev_op (ev_int1 (ev_op (ev_op (ev_op (ev_op (ev_var (i := 0) rfl) ev_c (rv_ixL (sq_of hs4) rfl)) (ev_op ev_c (ev_op (ev_var (i := 0) rfl) ev_c (rv_ixL (sq_of hs4) rfl)) (rv_I (Or.inl (by decide)))) rv_I0) ev_c rv_I0) ev_c (rv_I ⟨by decide, by decide, by omega⟩))) ev_c (rv_I (by decide))) (Ex.refl H4) fun H5 l5 => ?_
        generalize ((sd' + 7919 * (m + 1) + 104729) ^ (5 : Int).toNat).fmod 2147483629 = M at M0 M1
        have hs5 := l5.h s _ hs4
        have hq5 := l5.h q _ hq4
        refine q_asgV (v := .int (M * 48271 + (40503 * (m + 1)) * (m + 1) + 29)) (ev_op (ev_op (ev_op (ev_var (i := 2) rfl) ev_c (rv_I (Or.inl (by omega)))) (ev_op (ev_op ev_c (ev_op (ev_var (i := 0) rfl) ev_c (rv_ixL (sq_of hs5) rfl)) (rv_I (Or.inl (by decide)))) (ev_op (ev_var (i := 0) rfl) ev_c (rv_ixL (sq_of hs5) rfl)) (rv_I (Or.inl (by omega)))) rv_I0) ev_c rv_I0) (Ex.refl H5) fun H6 l6 => ?_
        generalize hZ : (40503 * (m + 1)) * (m + 1) = Z at b2 b3
        refine s_ret (v := .int (((M * 48271 + Z + 29) ^ (3 : Int).toNat).fmod 1000000007 |>.fmod many)) (ev_op (ev_op (ev_int1 (ev_op (ev_var (i := 2) rfl) ev_c (rv_I ⟨by decide, by decide, by omega⟩))) ev_c (rv_I (by decide))) (ev_var (i := 1) rfl) (rv_I (by omega))) fun H7 e7 => ?_
        have hh := ((l4.h.trans l5.h).trans l6.h).trans e7
        exact k (.int _) _ G H7 ⟨many, _, rfl, rfl, Int.fmod_nonneg_of_pos _ h0, Int.fmod_lt_of_pos _ h0⟩ (l3.trans (Le.heap l3.e hh).x) ⟨cells', r', m + 1, sd', hh s _ hs3, hh q _ hq3, hc3, by omega, by omega, hsd3, hsd3'⟩ (at_int.mpr rfl)
end
end SR
set_option maxRecDepth 100000
set_option maxHeartbeats 4000000
namespace SR
open PySem PySem.Spec PyProof.Rows L2 Evl
section
variable {P : Program} {w : World} {K : PySem.W.Frag} {mg : Str → Option Value} {base : Heap} {ω : Type} {O : OI ω} {Ty : ω → Value}
/-- a call of a helper over the source -/
theorem x_call {G H : Hp} {s q : Addr} {n add i : Nat} {Pre : List (D ω) → Prop} {R : List (D ω) → D ω → Prop} {ta : TA} {σ : L2.St} {ds : List (D ω)} {E : XK} {Q : VK} (e : Ex G H) (gs : G s = none) (gq : G q = none) (spr : Spr H s q n) (hn : n + add ≤ 1000000) (hv : σ[i]? = some (some (.ref s)))
    (ha : EvDA K O ta σ G ds) (pre : Pre ds) (k : ∀ d v G2 H2, R ds d → LeX s q G H G2 H2 → Spr H2 s q (n + add) → At K O G2 d v → Q v H2) : tCall (SpX K O add Pre R) [] E (tCons (tVar i) ta) σ H Q :=
  ⟨.ref s, hv, ha H e _ fun vs G2 H2 l as => ⟨G2, s, q, n, ds, vs, by simp, l.e, l.gnone gs spr.sne, l.gnone gq spr.qne, spr.keep l.h (Nat.le_refl _), hn, as, pre, fun d v G3 H3 r l3 sp3 a => k d v G3 H3 r (l.x.trans l3) sp3 a⟩⟩
/-! ### _law_spring -/
def spSpring (K : PySem.W.Frag) : Sp := fun vs H Q _ => ∃ (a : Addr) (ns : List Int), vs = [.ref a] ∧ SqL K H a (ns.map V.int) ∧ ns.length ≤ 63 ∧ ∀ s q H', H s = none → H q = none → Ex H H' → Spr H' s q 0 → Q (.ref s) H'
abbrev _law_spring_S : Stmt := topS 51
abbrev _law_spring_N : List Str := ["_law_script"]
theorem _law_spring_sc : FnScope _law_spring_N ["_law_script"] (defScope _law_spring_S) := ⟨rfl, rfl, rfl, by decide +kernel, rfl, by decide +kernel, by decide +kernel⟩
theorem ok_spring {f : Addr} {fd : FuncData} (F : Fun K "_law_spring" "_law_spring" _law_spring_S f fd) (B : Bi mg) : FnOk P w K mg base CX0 1 f fd ["_law_script"] (spSpring K) := by
  refine F.ok _law_spring_sc (fun vs H Q E h => ?_) (fun cdv A outer s0 H vs Q E hr h => ?_)
  · obtain ⟨a, ns, rfl, _⟩ := h
    rfl
  · obtain ⟨a, ns, rfl, hs, hl, k⟩ := h
    refine ⟨_, (pss_one (ps_ret (pe_lst (pa_cons (pe_callTy call_list_of (by rfl) B.list (by decide +kernel) (pa_cons (pv 0) pa_nil)) (pa_cons pe_int (pa_cons pe_int (pa_cons pe_int pa_nil))))))), ?_⟩
    refine ⟨_, rfl, a, _, rfl, Or.inl hs, fun q hq => ⟨by show 4 ≤ sizeLine; decide, fun s hs' => ?_⟩⟩
    have hsq : s ≠ q := by intro z; subst z; rw [upd_same] at hs'; cases hs'
    have h0 : H s = none := by rw [upd_ne hsq] at hs'; exact hs'
    refine k s q _ h0 hq ((Ex.new hq).trans (Ex.new hs')) ⟨ns, 0, 0, 7, upd_same, ?_, hl, by decide, by decide, by decide, by decide⟩
    rw [upd_ne (Ne.symm hsq), upd_same]
/-! ### _law_pick -/
def pPick : List (D ω) → Prop := fun ds => ∃ l, ds = [.lst l] ∧ 0 < l.length ∧ l.length ≤ 1000
def rPick : List (D ω) → D ω → Prop := fun ds d => ∃ l, ds = [.lst l] ∧ d ∈ l
abbrev _law_pick_S : Stmt := topS 53
abbrev _law_pick_N : List Str := ["_law_spring_here", "_law_things"]
theorem _law_pick_sc : FnScope _law_pick_N ["_law_spring_here", "_law_things"] (defScope _law_pick_S) := ⟨rfl, rfl, rfl, by decide +kernel, rfl, by decide +kernel, by decide +kernel⟩
theorem ok_pick {f : Addr} {fd : FuncData} (F : Fun K "_law_pick" "_law_pick" _law_pick_S f fd) (B : Bi mg) (h__law_draw : DefOk P w K mg base 1 "_law_draw" ["_law_spring_here", "_law_many"] (SpX K O 1 pDraw rDraw)) : FnOk P w K mg base CX0 2 f fd ["_law_spring_here", "_law_things"] (SpX K O 1 pPick rPick) := by
  refine F.ok _law_pick_sc (fun vs H Q E h => ?_) (fun cdv A outer s0 H vs Q E hr h => ?_)
  · obtain ⟨G, s, q, n, ds, ws, rfl, e, gs, gq, spr, hn, as, ⟨l, rfl, h0, h1⟩, k⟩ := h
    show (V.ref s :: ws).length = 2
    rw [List.length_cons, as.len]
    rfl
  · obtain ⟨G, s, q, n, ds, ws, rfl, e, gs, gq, spr, hn, as, ⟨l, rfl, h0, h1⟩, k⟩ := h
    obtain ⟨v, r0, rfl, a, nn⟩ := atL_cons.mp as
    obtain rfl := atL_nil.mp nn
    refine ⟨_, (pss_one (ps_ret (pe_ixLK K (pv 1) (pe_callD h__law_draw (hr.mono (by first | decide | exact Nat.le_refl _)) (pa_cons (pv 0) (pa_cons (pe_callB (call_lenK K) (by rfl) B.len (by decide +kernel) (pa_cons (pv 1) pa_nil)) pa_nil))) (fun _ _ => rfl)))), ?_⟩
    have hv : EvD K O (tVar 1) [some (.ref s), some v] G (.lst l) := ed_var rfl a
    refine ⟨v, rfl, x_call (i := 0) e gs gq spr hn rfl (eda_cons (ed_of (len_d hv rfl) (at_int.mpr rfl)) eda_nil) ⟨_, rfl, by show (0 : Int) < (l.length : Int); omega, by show (l.length : Int) < 1073741824; omega⟩ fun d v2 G2 H2 hR l2 sp2 a2 => ?_⟩
    obtain ⟨many, x, hm, rfl, hx0, hx1⟩ := hR
    obtain rfl := at_int.mp a2
    have hm' : (l.length : Int) = many := by
      have h2 := (List.cons.inj hm).1
      injection h2
    obtain ⟨p, vs', rfl, hsl, asl⟩ := at_lst.mp a
    have hxn : x.toNat < l.length := by omega
    obtain ⟨u, hu1, hu2⟩ := asl.get' (List.getElem?_eq_getElem hxn)
    refine ⟨p, vs', x, u, rfl, rfl, sq_of ((l2.g.trans l2.e) _ _ hsl), ?_, k _ u G2 H2 ⟨l, rfl, List.getElem_mem hxn⟩ l2 sp2 (hu2.mono l2.g)⟩
    have h3 := atI_nat hu1
    rwa [show ((x.toNat : Nat) : Int) = x by omega] at h3
/-! ### _law_prime, _law_other -/
def pPrime : List (D ω) → Prop := fun ds => ds = []
def rPrime : List (D ω) → D ω → Prop := fun ds d => ∃ p, d = .int p ∧ primes.contains p = true
abbrev _law_prime_S : Stmt := topS 57
abbrev _law_prime_N : List Str := ["_law_spring_here"]
theorem _law_prime_sc : FnScope _law_prime_N ["_law_spring_here"] (defScope _law_prime_S) := ⟨rfl, rfl, rfl, by decide +kernel, rfl, by decide +kernel, by decide +kernel⟩
theorem ok_prime {f : Addr} {fd : FuncData} (F : Fun K "_law_prime" "_law_prime" _law_prime_S f fd) (B : Bi mg) (h__law_pick : DefOk P w K mg base 2 "_law_pick" ["_law_spring_here", "_law_things"] (SpX K O 1 pPick rPick)) : FnOk P w K mg base CX0 3 f fd ["_law_spring_here"] (SpX K O 1 pPrime rPrime) := by
  refine F.ok _law_prime_sc (fun vs H Q E h => ?_) (fun cdv A outer s0 H vs Q E hr h => ?_)
  · obtain ⟨G, s, q, n, ds, ws, rfl, e, gs, gq, spr, hn, as, rfl, k⟩ := h
    rw [atL_nil.mp as]
    rfl
  · obtain ⟨G, s, q, n, ds, ws, rfl, e, gs, gq, spr, hn, as, rfl, k⟩ := h
    obtain rfl := atL_nil.mp as
    refine ⟨_, (pss_one (ps_ret (pe_callD h__law_pick (hr.mono (by first | decide | exact Nat.le_refl _)) (pa_cons (pv 0) (pa_cons (pe_lst (pa_cons pe_int (pa_cons pe_int (pa_cons pe_int (pa_cons pe_int pa_nil))))) pa_nil))))), ?_⟩
    refine x_call (i := 0) e gs gq spr hn rfl (eda_cons (ed_lst (ds := [.int 2, .int 3, .int 5, .int 7]) (eda_cons (ed_of ev_c (at_int.mpr rfl)) (eda_cons (ed_of ev_c (at_int.mpr rfl)) (eda_cons (ed_of ev_c (at_int.mpr rfl)) (eda_cons (ed_of ev_c (at_int.mpr rfl)) eda_nil)))) (by show 4 ≤ 100000; decide)) eda_nil) ⟨_, rfl, by show 0 < 4; decide, by show 4 ≤ 1000; decide⟩ fun d v2 G2 H2 hR l2 sp2 a2 => ?_
    obtain ⟨l, hl, hd⟩ := hR
    obtain rfl := (D.lst.inj (List.cons.inj hl).1)
    refine k d v2 G2 H2 ?_ l2 sp2 a2
    simp at hd
    rcases hd with rfl | rfl | rfl | rfl
    · exact ⟨2, rfl, by decide⟩
    · exact ⟨3, rfl, by decide⟩
    · exact ⟨5, rfl, by decide⟩
    · exact ⟨7, rfl, by decide⟩
end
end SR
set_option maxRecDepth 100000
set_option maxHeartbeats 4000000
namespace SR
open PySem PySem.Spec PyProof.Rows L2 Evl
section
variable {P : Program} {w : World} {K : PySem.W.Frag} {mg : Str → Option Value} {base : Heap} {ω : Type} {O : OI ω} {Ty : ω → Value}
/-- where a helper over the source stands: what it knows, what the source holds -/
structure At2 (s q : Addr) (G H : Hp) (n : Nat) : Prop where
  e : Ex G H
  gs : G s = none
  gq : G q = none
  spr : Spr H s q n
theorem At2.go {s q : Addr} {G H G2 H2 : Hp} {n k : Nat} (a : At2 s q G H n) (l : LeX s q G H G2 H2) (sp : Spr H2 s q k) : At2 s q G2 H2 k := ⟨l.e, l.gnone a.gs a.spr.sne, l.gnone a.gq a.spr.qne, sp⟩
theorem At2.le {s q : Addr} {G H G2 H2 : Hp} {n : Nat} (a : At2 s q G H n) (l : Le G H G2 H2) : At2 s q G2 H2 n := a.go l.x (a.spr.keep l.h (Nat.le_refl _))
abbrev cDraw (K : PySem.W.Frag) (O : OI ω) (E : XK) (ta : TA) : TE := tCall (SpX K O 1 pDraw rDraw) [] E (tCons (tVar 0) ta)
theorem x_draw {G H : Hp} {s q : Addr} {n : Nat} {ta : TA} {σ : L2.St} {many : Int} {E : XK} {Q : VK} (a : At2 s q G H n) (hn : n + 1 ≤ 1000000) (hv : σ[0]? = some (some (.ref s))) (ha : EvDA K O ta σ G [.int many]) (h0 : 0 < many) (h1 : many < 1073741824)
    (k : ∀ x G2 H2, 0 ≤ x → x < many → LeX s q G H G2 H2 → At2 s q G2 H2 (n + 1) → Q (.int x) H2) : cDraw K O E ta σ H Q :=
  x_call a.e a.gs a.gq a.spr hn hv ha ⟨many, rfl, h0, h1⟩ fun d v G2 H2 ⟨m', x, hm, hd, hx0, hx1⟩ l sp av => by
    subst hd
    obtain rfl := at_int.mp av
    have hm' : many = m' := D.int.inj (List.cons.inj hm).1
    exact k x G2 H2 hx0 (by omega) l (a.go l sp)
theorem eda_int {i : Int} {te : TE} {σ : L2.St} {G : Hp} (h : Ev te σ G (.int i)) : EvDA K O (tCons te tNil) σ G [.int i] := eda_cons (ed_of h (at_int.mpr rfl)) eda_nil
/-- x = draw(many) - c -/
theorem q_drawSub {G H : Hp} {s q : Addr} {n j : Nat} {ta : TA} {σ : L2.St} {many c : Int} {E : XK} {De : Ends} {tz : TS} (a : At2 s q G H n) (hn : n + 1 ≤ 1000000) (hv : σ[0]? = some (some (.ref s))) (ha : EvDA K O ta σ G [.int many]) (h0 : 0 < many) (h1 : many < 1073741824)
    (k : ∀ x G2 H2, LeX s q G H G2 H2 → At2 s q G2 H2 (n + 1) → tz De (σ.set j (some (.int x))) H2) : tSeq (tAsg (tOp (rI0 fun i j => V.int (i - j)) (cDraw K O E ta) (tC (.int c))) (gName j)) tz De σ H :=
  x_draw a hn hv ha h0 h1 fun x G2 H2 hx0 hx1 l a2 => ⟨x, c, rfl, rfl, k (x - c) G2 H2 l a2⟩
/-- if draw(many) == 0: t -/
theorem if_draw {G H : Hp} {s q : Addr} {n : Nat} {ta : TA} {σ : L2.St} {many c : Int} {E : XK} {De : Ends} {tu tw : TS} (a : At2 s q G H n) (hn : n + 1 ≤ 1000000) (hv : σ[0]? = some (some (.ref s))) (ha : EvDA K O ta σ G [.int many]) (h0 : 0 < many) (h1 : many < 1073741824)
    (k1 : ∀ G2 H2, LeX s q G H G2 H2 → At2 s q G2 H2 (n + 1) → tu De σ H2) (k2 : ∀ G2 H2, LeX s q G H G2 H2 → At2 s q G2 H2 (n + 1) → tw De σ H2) : tIfS (tTest (tOp rEq (cDraw K O E ta) (tC (.int c)))) tu tw De σ H :=
  x_draw a hn hv ha h0 h1 fun x G2 H2 hx0 hx1 l a2 => ⟨rfl, _, rfl, by
    by_cases h : V.int x = V.int c
    · rw [decide_eq_true h]
      show (if true = true then tu De σ H2 else tw De σ H2)
      rw [if_pos rfl]
      exact k1 G2 H2 l a2
    · rw [decide_eq_false h]
      show (if false = true then tu De σ H2 else tw De σ H2)
      rw [if_neg Bool.false_ne_true]
      exact k2 G2 H2 l a2⟩
/-- x = pick([ints]) -/
theorem s_pickI {G H : Hp} {s q : Addr} {n j : Nat} {ta : TA} {σ : L2.St} {ns : List Int} {E : XK} {De : Ends} (a : At2 s q G H n) (hn : n + 1 ≤ 1000000) (hv : σ[0]? = some (some (.ref s))) (ha : EvDA K O ta σ G [.lst (ns.map D.int)]) (h0 : 0 < ns.length) (h1 : ns.length ≤ 1000)
    (k : ∀ x G2 H2, x ∈ ns → LeX s q G H G2 H2 → At2 s q G2 H2 (n + 1) → De.nx (σ.set j (some (.int x))) H2) : tAsg (tCall (SpX K O 1 pPick rPick) [] E (tCons (tVar 0) ta)) (gName j) De σ H :=
  x_call a.e a.gs a.gq a.spr hn hv ha ⟨_, rfl, by rw [List.length_map]; exact h0, by rw [List.length_map]; exact h1⟩ fun d v G2 H2 ⟨l', hl, hd⟩ l sp av => by
    obtain rfl := D.lst.inj (List.cons.inj hl).1
    obtain ⟨x, hx, rfl⟩ := List.mem_map.mp hd
    obtain rfl := at_int.mp av
    exact k x G2 H2 hx l (a.go l sp)
end
end SR
set_option maxRecDepth 100000
set_option maxHeartbeats 4000000
namespace SR
open PySem PySem.Spec PyProof.Rows L2 Evl
section
variable {P : Program} {w : World} {K : PySem.W.Frag} {mg : Str → Option Value} {base : Heap} {ω : Type} {O : OI ω} {Ty : ω → Value}
/-! ### _law_held -/
theorem step_pos {p : Int} (hp : 0 < p) {m : List (Int × Int)} {q : Int × Int} (h : ∀ o c, getI m o = some c → 0 ≤ c ∧ c < p) : ∀ o c, getI (step p m q) o = some c → 0 ≤ c ∧ c < p := by
  intro o c
  unfold step
  rw [getI_put]
  by_cases ho : o = q.1
  · rw [if_pos ho]
    intro e
    obtain rfl := Option.some.inj e
    exact ⟨Int.fmod_nonneg_of_pos _ hp, Int.fmod_lt_of_pos _ hp⟩
  · rw [if_neg ho]
    exact h o c
theorem sums_pos {p : Int} (hp : 0 < p) : ∀ {rows m : List (Int × Int)}, (∀ o c, getI m o = some c → 0 ≤ c ∧ c < p) → ∀ o c, getI (rows.foldl (step p) m) o = some c → 0 ≤ c ∧ c < p
  | [], m, h => h
  | q :: r, m, h => sums_pos hp (rows := r) (m := step p m q) (step_pos hp h)
theorem coef_pos {p : Int} (hp : 0 < p) {rows : List (Int × Int)} {o : Int} : 0 ≤ coef p rows o ∧ coef p rows o < p := by
  unfold coef
  cases h : getI (sums p rows) o with
  | none => exact ⟨Int.le_refl 0, hp⟩
  | some c => exact sums_pos hp (rows := rows) (m := []) (fun o c e => by cases e) o c h
def rHeld : List (D ω) → D ω → Prop := fun ds r => ∃ (p : Int) (rows : List (Int × Int)), ds = [.int p, .lst (rows.map pairD)] ∧ 0 < p ∧ rows.length ≤ 300000 ∧ r = .dic (coll p rows)
abbrev _law_held_S : Stmt := topS 55
abbrev _law_held_N : List Str := ["_law_prime_here", "_law_terms", "_law_sums", "_law_found", "_law_offset", "_law_coefficient", "_law_k"]
theorem _law_held_sc : FnScope _law_held_N ["_law_prime_here", "_law_terms"] (defScope _law_held_S) := ⟨rfl, rfl, rfl, by decide +kernel, rfl, by decide +kernel, by decide +kernel⟩
/-- .. a new dict, told apart from what is known -/
def spHeldN (K : PySem.W.Frag) (O : OI ω) : Sp := fun vs H Q _ => ∃ (G : Hp) (p : Int) (rows : List (Int × Int)), Ex G H ∧ AtL K O G [.int p, .lst (rows.map pairD)] vs ∧ 0 < p ∧ rows.length ≤ 300000 ∧
  ∀ (q : Addr) (G2 H2 : Hp), H q = none → G2 q = none → Le G H G2 H2 → H2 q = some (.dK (kvI (coll p rows))) → Q (.ref q) H2
theorem ok_heldN {f : Addr} {fd : FuncData} (F : Fun K "_law_held" "_law_held" _law_held_S f fd) (B : Bi mg) : FnOk P w K mg base CX0 1 f fd ["_law_prime_here", "_law_terms"] (spHeldN K O) := by
  refine F.ok _law_held_sc (fun vs H Q E h => ?_) (fun cdv A outer s0 H vs Q E hr h => ?_)
  · obtain ⟨G, p, rows, e, as, _⟩ := h
    exact as.len
  · obtain ⟨G, p, rows, e, as, hp, hz, k⟩ := h
    obtain ⟨v0, r, rfl, a0, n⟩ := atL_cons.mp as
    obtain rfl := at_int.mp a0
    obtain ⟨v, r, rfl, a, n⟩ := atL_cons.mp n
    obtain rfl := atL_nil.mp n
    have hu := hu_of hr
    refine ⟨_, (pss_cons (ps_par (i := 2) (j := 3) (by rfl) _law_held_sc.nd rfl rfl (by decide) rfl rfl (pa_cons pe_dnewK (pa_cons pe_dnewK pa_nil)) (by rfl))
    (pss_cons (ps_for PassesOwn.never rfl (pi_list (pv 1)) (pg_tupK (k := 2) K rfl (pgs_cons (pg_name (i := 4) _law_held_sc.nd rfl (Or.inl rfl)) (pgs_cons (pg_name (i := 5) _law_held_sc.nd rfl (Or.inl rfl)) pgs_nil))) (pss_one (ps_asg (pe_op op_modN (pe_callTy call_int1 (by rfl) B.int (by decide +kernel) (pa_cons (pe_op op_add (pe_dget2 (by exact hu) (pv 2) (pv 4) pe_int ⟨rfl, rfl, rfl, rfl⟩) (pv 5)) pa_nil)) (pv 0)) (pg_sub (pv 2) (pv 4) (set_dict (by exact hu))))))
    (pss_cons (ps_for PassesOwn.never rfl (pi_list (pe_callB cr_sortedI (by rfl) B.sorted (by decide +kernel) (pa_cons (pe_lock (pe_lc (own := [("_law_k", 6)]) rfl _law_held_sc.nd (pi_keys (pv 2)) (blkOk_by (N := _law_held_N) (sc := defScope _law_held_S) (by decide +kernel)) (fun _ _ _ _ _ => (pg_name (i := 6) _law_held_sc.nd rfl (Or.inl rfl))) (fun _ _ _ _ _ => pts_nil) (fun _ _ _ _ _ => by exact (pe_callTy call_int1 (by rfl) B.int (by decide +kernel) (pa_cons (pv 6) pa_nil))))) pa_nil))) (pg_name (i := 4) _law_held_sc.nd rfl (Or.inl rfl)) (pss_one (ps_if (pt_cmpR op_gt (pe_dget (by exact hu) (pv 2) (pv 4) (fun _ _ => rfl)) pe_int (nomark _)) (pss_one (ps_asg (pe_dget (by exact hu) (pv 2) (pv 4) (fun _ _ => rfl)) (pg_sub (pv 3) (pv 4) (set_dict (by exact hu))))) pss_nil)))
    (pss_one (ps_ret (pv 3)))))), ?_⟩
    refine fun q hq => fun q2 hq2 => ⟨_, _, rfl, ?_⟩
    have hqq : q2 ≠ q := by intro z; subst z; rw [upd_same] at hq2; cases hq2
    have hq2' : H q2 = none := by rw [upd_ne hqq] at hq2; exact hq2
    have l1 : Le G H G (upd (upd H q (.dK [])) q2 (.dK [])) := (Le.newM e hq).mut hq2' (none_of_ex e hq2')
    have e1 := l1.e
    have h1q : (upd (upd H q (.dK [])) q2 (.dK [])) q = some (.dK []) := by rw [upd_ne (Ne.symm hqq), upd_same]
    have h1q2 : (upd (upd H q (.dK [])) q2 (.dK [])) q2 = some (.dK []) := upd_same
    generalize hH1 : upd (upd H q (.dK [])) q2 (.dK []) = H1 at l1 e1 h1q h1q2
    have src : Src K O (iList K (tVar 1)) [some (.int p), some v, some (.ref q), some (.ref q2), none, none, none] G (rows.map pairD) := src_list (ed_var rfl a)
    show tSeq _ _ _ _ H1
    refine q_forS src e1 (fun i σ' G' H' => Le G H G' H' ∧ (∃ x y, σ' = [some (.int p), some v, some (.ref q), some (.ref q2), x, y, none]) ∧ H' q = some (.dK (kvI (sums p (rows.take i)))) ∧ H' q2 = some (.dK []) ∧ G' q = none ∧ G' q2 = none)
      (fun G0 H0 l0 => ⟨l1.trans l0, ⟨_, _, rfl⟩, l0.h q _ h1q, l0.h q2 _ h1q2, l0.gnone (none_of_ex e hq) (by rw [h1q]; exact fun z => nomatch z), l0.gnone (none_of_ex e hq2') (by rw [h1q2]; exact fun z => nomatch z)⟩) ?_ ?_
    · intro G0 i d x σ' Gi Hi Gi' Hi' e0 hd e1 e2 pv l' ad N hN
      obtain ⟨p1, ⟨x0, y0, rfl⟩, p3, p4, p5, p6⟩ := pv
      have hil : i < rows.length := by
        have := (List.getElem?_eq_some_iff.mp hd).1
        rw [List.length_map] at this
        exact this
      obtain ⟨⟨o, c⟩, hq2r⟩ : ∃ x, rows[i]? = some x := ⟨_, List.getElem?_eq_getElem hil⟩
      rw [List.getElem?_map, hq2r] at hd
      obtain rfl := (Option.some.inj hd).symm
      have h3 : Hi' q = some (.dK (kvI (sums p (rows.take i)))) := l'.h q _ p3
      have h4 : Hi' q2 = some (.dK []) := l'.h q2 _ p4
      have g3 : Gi' q = none := l'.gnone p5 (by rw [p3]; exact fun z => nomatch z)
      have g4 : Gi' q2 = none := l'.gnone p6 (by rw [p4]; exact fun z => nomatch z)
      refine tg_pair ad l'.e fun x1 x2 a1 a2 => ?_
      obtain rfl := at_int.mp a1
      obtain rfl := at_int.mp a2
      refine s_setD h3 (c := ((getI (sums p (rows.take i)) o).getD 0 + c).fmod p) (o := o) (ev_op (ev_int1 (ev_op (ev_dget2 (ev_var (i := 2) rfl) h3 (ev_var (i := 4) rfl) ev_c) (ev_var (i := 5) rfl) rv_I0)) (ev_var (i := 0) rfl) (rv_I (by omega))) (ev_var (i := 2) rfl) (ev_var (i := 4) rfl) ?_ fun H4 e4 => ?_
      · have h5 := sums_len (p := p) (rows := rows.take i) (m := [])
        have h6 : (rows.take i).length ≤ rows.length := by rw [List.length_take]; omega
        show (sums p (rows.take i)).length < 1000000
        unfold sums
        simp only [List.length_nil] at h5
        omega
      · have lm := Le.mut (o := .dK (kvI (putI (sums p (rows.take i)) o (((getI (sums p (rows.take i)) o).getD 0 + c).fmod p)))) (p1.trans (l'.trans (Le.heap l'.e e4))) hq g3
        refine hN _ Gi' _ (Ex.refl _) lm.e ⟨lm, ⟨_, _, rfl⟩, ?_, ?_, g3, g4⟩
        · rw [sums_more hq2r]
          exact upd_same
        · rw [upd_ne hqq]
          exact e4 q2 _ h4
    · intro σ' G' H' e1 e2 pv
      obtain ⟨p1, ⟨x0, y0, rfl⟩, p3, p4, p5, p6⟩ := pv
      rw [List.length_map, List.take_length] at p3
      have hml : (sums p rows).length ≤ 300000 := by
        have h5 := sums_len (p := p) (rows := rows) (m := [])
        simp only [List.length_nil] at h5
        show (rows.foldl (step p) []).length ≤ 300000
        omega
      have lf := Le.fix e p1 hq p3
      have hm : (upd G' q (.dK (kvI (sums p rows)))) q = some (.dK (kvI (sums p rows))) := upd_same
      have gf2 : (upd G' q (.dK (kvI (sums p rows)))) q2 = none := by rw [upd_ne hqq]; exact p6
      generalize hGf : upd G' q (.dK (kvI (sums p rows))) = Gf at lf hm gf2
      have ho : EvD K O (tLockE (tLc (iKeys (tVar 2)) (gName 6) tYes (tCB (fun xs H Q => (∃ i, xs = [V.int i] ∧ Q (.int i) H) ∨ ∃ k, xs = [V.bl k] ∧ Q (.int (if k then 1 else 0)) H) (tCons (tVar 6) tNil)) [6])) [some (.int p), some v, some (.ref q), some (.ref q2), x0, y0, none] Gf (.lst (((sums p rows).map (·.1)).map D.int)) := by
        refine ed_lock hm True.intro ⟨_, rfl⟩ (by show noObjL _ = true; exact noObj_ints) fun od => ?_
        have h7 := ed_lcW (K := K) (O := O) (te := tCB (fun xs H Q => (∃ i, xs = [V.int i] ∧ Q (.int i) H) ∨ ∃ k, xs = [V.bl k] ∧ Q (.int (if k then 1 else 0)) H) (tCons (tVar 6) tNil)) (tt := tYes) (vs := [6]) (g := gName 6) (fun _ => true) (fun d => d) (src_keys (O := O) (td := tVar 2) (σ := [some (.int p), some v, some (.ref q), some (.ref q2), x0, y0, none]) (ev_var rfl) (upd_same (a := q) (o := .frz od (.dK (kvI (sums p rows)))) (H := Gf))) (by rw [List.length_map]; exact Nat.le_trans hml (by omega)) ?_
        · have e8 : (((sums p rows).map fun q => (D.int q.1 : D ω)).filter fun _ => true).map (fun d => d) = ((sums p rows).map (·.1)).map D.int := by
            rw [List.filter_eq_self.mpr (fun _ _ => rfl), List.map_id', List.map_map]
            rfl
          rw [e8] at h7
          exact h7
        · intro i d x Gi Hi hd eg eh ad Q' hQ
          obtain ⟨w, rfl⟩ : ∃ w, d = D.int w := by
            have hi : i < (sums p rows).length := by
              have := (List.getElem?_eq_some_iff.mp hd).1
              rw [List.length_map] at this
              exact this
            rw [List.getElem?_map, List.getElem?_eq_getElem hi] at hd
            exact ⟨_, (Option.some.inj hd).symm⟩
          obtain rfl := at_int.mp ad
          exact hQ _ Hi (Ex.refl _) rfl et_yes fun _ => ed_of (ev_int1 (ev_var rfl)) (at_int.mpr rfl)
      have hsnd : (srt ((sums p rows).map (·.1))).Nodup := srt_perm.nodup_iff.mpr (sums_nd (rows := rows) (m := []) List.nodup_nil)
      refine q_forS (src_list (ed_sorted ho)) lf.e (fun i σ' G2 H2 => Le G H G2 H2 ∧ (∃ x y, σ' = [some (.int p), some v, some (.ref q), some (.ref q2), x, y, none]) ∧ G2 q = some (.dK (kvI (sums p rows))) ∧ H2 q2 = some (.dK (kvI ((((srt ((sums p rows).map (·.1))).take i).filter fun o => coef p rows o != 0).map fun o => (o, coef p rows o)))) ∧ G2 q2 = none)
        (fun G0 H0 l0 => ⟨lf.trans l0, ⟨_, _, rfl⟩, l0.g q _ hm, l0.h q2 _ p4, l0.gnone gf2 (by rw [p4]; exact fun z => nomatch z)⟩) ?_ ?_
      · intro G0 i d x σ' Gi Hi Gi' Hi' e0 hd e1 e2 pv l' ad N hN
        obtain ⟨p1, ⟨x0, y0, rfl⟩, p3, p4, p5⟩ := pv
        have hil : i < (srt ((sums p rows).map (·.1))).length := by
          have := (List.getElem?_eq_some_iff.mp hd).1
          rw [List.length_map] at this
          exact this
        obtain ⟨o, hoi⟩ : ∃ o, (srt ((sums p rows).map (·.1)))[i]? = some o := ⟨_, List.getElem?_eq_getElem hil⟩
        rw [List.getElem?_map, hoi] at hd
        obtain rfl := (Option.some.inj hd).symm
        obtain rfl := at_int.mp ad
        have hmem : o ∈ (sums p rows).map (·.1) := srt_perm.mem_iff.mp (List.mem_of_getElem? hoi)
        obtain ⟨c, hc⟩ := Option.isSome_iff_exists.mp (getI_some.mpr hmem)
        have hco : coef p rows o = c := by unfold coef; rw [hc]; rfl
        have hcp := coef_pos hp (rows := rows) (o := o)
        rw [hco] at hcp
        have hg := l'.g q _ p3
        have hH2 := l'.h q2 _ p4
        have hG2 : Gi' q2 = none := l'.gnone p5 (by rw [p4]; exact fun z => nomatch z)
        have tk := take_snoc hoi
        have hg' : Ev (tDGet (tVar 2) (tVar 4)) [some (.int p), some v, some (.ref q), some (.ref q2), some (.int o), y0, none] Gi' (.int c) := ev_dget (ev_var rfl) hg (ev_var rfl) hc
        refine s_ifG (b := decide ((0 : Int) < c)) (et_test (ev_op hg' ev_c rv_I0)) l'.e (fun hb H3 l3 => ?_) (fun hb H3 l3 => ?_)
        · have hc0 : (coef p rows o != 0) = true := by
            rw [hco]
            have := of_decide_eq_true hb
            simp
            omega
          refine s_setD (l3.h q2 _ hH2) (c := c) (o := o) (hg'.mono l3.e) (ev_var (i := 3) rfl) (ev_var (i := 4) rfl) ?_ fun H4 e4 => ?_
          · rw [List.length_map]
            refine Nat.lt_of_le_of_lt (List.length_filter_le ..) ?_
            rw [List.length_take, srt_perm.length_eq, List.length_map]
            omega
          · have lm := Le.mut (o := .dK (kvI (putI ((((srt ((sums p rows).map (·.1))).take i).filter fun o => coef p rows o != 0).map fun o => (o, coef p rows o)) o c))) (p1.trans (l'.trans (l3.trans (Le.heap l3.e e4)))) hq2' hG2
            refine hN _ Gi' _ (Ex.refl _) lm.e ⟨lm, ⟨_, _, rfl⟩, hg, ?_, hG2⟩
            rw [upd_same, putI_new, tk, List.filter_append, List.filter_cons, if_pos hc0, List.filter_nil, List.map_append]
            · show some (HO.dK (kvI (_ ++ [(o, c)]))) = some (HO.dK (kvI (_ ++ [(o, coef p rows o)])))
              rw [hco]
            · rw [nd_map_fst]
              intro hz
              have hz2 := (List.mem_filter.mp hz).1
              have hnd := hsnd
              rw [← List.take_append_drop (i + 1) (srt ((sums p rows).map (·.1))), tk] at hnd
              have h1 := (List.nodup_append.mp hnd).1
              exact (List.nodup_append.mp h1).2.2 o hz2 o (List.mem_singleton.mpr rfl) rfl
        · have hc0 : (coef p rows o != 0) = false := by
            rw [hco]
            have := of_decide_eq_false hb
            simp
            omega
          refine hN _ Gi' H3 (Ex.refl _) l3.e ⟨p1.trans (l'.trans l3), ⟨_, _, rfl⟩, hg, ?_, hG2⟩
          rw [tk, List.filter_append, List.filter_cons, if_neg (by rw [hc0]; decide), List.filter_nil, List.append_nil]
          exact l3.h q2 _ hH2
      · intro σ' G2 H2 e1 e2 pv
        obtain ⟨p1, ⟨x0, y0, rfl⟩, p3, p4, p5⟩ := pv
        rw [List.length_map, List.take_length] at p4
        refine s_ret (v := .ref q2) (ev_var (i := 3) rfl) fun H3 e3 => ?_
        exact k q2 G2 H3 hq2' p5 (p1.trans (Le.heap p1.e e3)) (e3 q2 _ p4)
theorem ok_held {f : Addr} {fd : FuncData} (F : Fun K "_law_held" "_law_held" _law_held_S f fd) (B : Bi mg) : FnOk P w K mg base CX0 1 f fd ["_law_prime_here", "_law_terms"] (SpD K O rHeld) :=
  (ok_heldN (O := O) F B).imp fun vs H Q E ⟨G, ds, d, e, as, ⟨p, rows, h1, hp, hz, h2⟩, k⟩ => by
    subst h1 h2
    exact ⟨G, p, rows, e, as, hp, hz, fun q G2 H2 hq gq l hq2 => k (.ref q) _ H2 (Le.fix e l hq hq2) (at_dic.mpr ⟨q, rfl, upd_same⟩)⟩
end
end SR
set_option maxRecDepth 100000
set_option maxHeartbeats 4000000
namespace SR
open PySem PySem.Spec PyProof.Rows L2 Evl
section
variable {P : Program} {w : World} {K : PySem.W.Frag} {mg : Str → Option Value} {base : Heap} {ω : Type} {O : OI ω} {Ty : ω → Value}
/-! ### _law_pairs -/
def rPairs : List (D ω) → D ω → Prop := fun ds r => ∃ (m : List (Int × Int)), ds = [.dic m] ∧ (m.map (·.1)).Nodup ∧ m.length ≤ 30000 ∧ r = .lst (m.map pairD)
theorem getI_mem {m : List (Int × Int)} (h : (m.map (·.1)).Nodup) {q : Int × Int} (hq : q ∈ m) : getI m q.1 = some q.2 := by
  induction m with
  | nil => cases hq
  | cons a r ih =>
    rw [List.map_cons, List.nodup_cons] at h
    unfold getI
    rw [List.find?_cons]
    by_cases e : a.1 = q.1
    · rw [decide_eq_true e]
      rcases List.mem_cons.mp hq with rfl | hr
      · rfl
      · exact absurd (e ▸ List.mem_map_of_mem hr) h.1
    · rw [decide_eq_false e]
      rcases List.mem_cons.mp hq with rfl | hr
      · exact absurd rfl e
      · exact ih h.2 hr
abbrev _law_pairs_S : Stmt := topS 56
abbrev _law_pairs_N : List Str := ["_law_held_here", "_law_offset"]
theorem _law_pairs_sc : FnScope _law_pairs_N ["_law_held_here"] (defScope _law_pairs_S) := ⟨rfl, rfl, rfl, by decide +kernel, rfl, by decide +kernel, by decide +kernel⟩
theorem ok_pairs {f : Addr} {fd : FuncData} (F : Fun K "_law_pairs" "_law_pairs" _law_pairs_S f fd) (B : Bi mg) : FnOk P w K mg base CX0 1 f fd ["_law_held_here"] (SpD K O rPairs) := by
  refine F.ok _law_pairs_sc (fun vs H Q E h => ?_) (fun cdv A outer s0 H vs Q E hr h => ?_)
  · obtain ⟨G, ds, d, e, as, ⟨m, rfl, _⟩, k⟩ := h
    exact as.len
  · obtain ⟨G, ds, d, e, as, ⟨m, rfl, hnd, hz, rfl⟩, k⟩ := h
    obtain ⟨v, r, rfl, a, n⟩ := atL_cons.mp as
    obtain rfl := atL_nil.mp n
    obtain ⟨q, rfl, hq⟩ := at_dic.mp a
    have hu := hu_of hr
    refine ⟨_, (pss_one (ps_ret (pe_lock (pe_lc (own := [("_law_offset", 1)]) rfl _law_pairs_sc.nd (pi_keys (pv 0)) (blkOk_by (N := _law_pairs_N) (sc := defScope _law_pairs_S) (by decide +kernel)) (fun _ _ _ _ _ => (pg_name (i := 1) _law_pairs_sc.nd rfl (Or.inl rfl))) (fun _ _ _ _ _ => pts_nil) (fun _ _ _ _ _ => by exact (pe_tup (pa_cons (pv 1) (pa_cons (pe_dget (by exact hu) (pv 0) (pv 1) (fun _ _ => rfl)) pa_nil)))))))), ?_⟩
    refine s_retD ?_ e k
    refine ed_lock hq True.intro ⟨_, rfl⟩ (by show noObjL _ = true; exact noObj_pairs) fun od => ?_
    have h7 := ed_lc (K := K) (O := O) (te := tTup (tCons (tVar 1) (tCons (tDGet (tVar 0) (tVar 1)) tNil))) (tt := tYes) (vs := [1]) (g := gName 1) (fun _ => true) (fun d => match d with | .int o => pairD (o, (getI m o).getD 0) | _ => d) (src_keys (O := O) (td := tVar 0) (σ := [some (.ref q), none]) (ev_var rfl) (upd_same (a := q) (o := .frz od (.dK (kvI m))) (H := G))) (by rw [List.length_map]; omega) ?_
    · have e8 : ((m.map fun q => (D.int q.1 : D ω)).filter fun _ => true).map (fun d => match d with | .int o => pairD (o, (getI m o).getD 0) | _ => d) = m.map pairD := by
        rw [List.filter_eq_self.mpr (fun _ _ => rfl), List.map_map]
        refine List.map_congr_left fun x hx => ?_
        show pairD (x.1, (getI m x.1).getD 0) = pairD x
        rw [getI_mem hnd hx]
        rfl
      rw [e8] at h7
      exact h7
    · intro i d x Gi Hi hd eg eh ad Q' hQ
      obtain ⟨y, hy, rfl⟩ : ∃ y, y ∈ m ∧ d = D.int y.1 := by
        have hi : i < m.length := by
          have := (List.getElem?_eq_some_iff.mp hd).1
          rw [List.length_map] at this
          exact this
        rw [List.getElem?_map, List.getElem?_eq_getElem hi] at hd
        exact ⟨_, List.getElem_mem hi, (Option.some.inj hd).symm⟩
      obtain rfl := at_int.mp ad
      have hg := eg q _ upd_same
      have hc := getI_mem hnd hy
      refine hQ _ Hi (Ex.refl _) rfl et_yes fun _ => ?_
      show EvD K O _ _ _ (pairD (y.1, (getI m y.1).getD 0))
      rw [hc]
      exact ed_tup (eda_cons (ed_of (ev_var rfl) (at_int.mpr rfl)) (eda_cons (ed_of (ev_dgetF (ev_var rfl) hg (ev_var rfl) hc) (at_int.mpr rfl)) eda_nil)) (by show 2 ≤ 100000; decide)
/-! ### _law_same: of the same data, True -/
def rSame (n : Nat) : List (D ω) → D ω → Prop := fun ds r => ∃ d, ds = [d, d] ∧ dep d < n ∧ noObj d = true ∧ r = .bl true
def lenOk : D ω → Prop | .lst l => l.length ≤ 30000 | .tup l => l.length ≤ 30000 | _ => True
mutual
def allOk : D ω → Bool
  | .lst l => decide (l.length ≤ 30000) && allOkL l
  | .tup l => decide (l.length ≤ 30000) && allOkL l
  | _ => true
def allOkL : List (D ω) → Bool
  | [] => true
  | d :: l => allOk d && allOkL l
end
theorem allOkL_mem : ∀ {l : List (D ω)} {d : D ω}, allOkL l = true → d ∈ l → allOk d = true
  | c :: l, d, n, h => by
    simp only [allOkL, Bool.and_eq_true] at n
    rcases List.mem_cons.mp h with rfl | h
    · exact n.1
    · exact allOkL_mem n.2 h
def rSm (n : Nat) : List (D ω) → D ω → Prop := fun ds r => ∃ d, ds = [d, d] ∧ dep d < n ∧ noObj d = true ∧ allOk d = true ∧ r = .bl true
theorem zip_self_get {l : List (D ω)} {i : Nat} {d : D ω} (h : (zipD l l)[i]? = some d) : ∃ c, c ∈ l ∧ d = .tup [c, c] := by
  simp [zipD, List.zip, List.getElem?_zipWith] at h
  cases e : l[i]? with
  | none => rw [e] at h; simp at h
  | some c =>
    rw [e] at h
    simp at h
    exact ⟨c, List.mem_of_getElem? e, h.symm⟩
abbrev _law_same_S : Stmt := topS 54
abbrev _law_same_N : List Str := ["_law_found", "_law_due", "_law_x", "_law_y"]
theorem _law_same_sc : FnScope _law_same_N ["_law_found", "_law_due"] (defScope _law_same_S) := ⟨rfl, rfl, rfl, by decide +kernel, rfl, by decide +kernel, by decide +kernel⟩
theorem ok_same {f : Addr} {fd : FuncData} (F : Fun K "_law_same" "_law_same" _law_same_S f fd) (B : Bi mg) (OK : OT K O Ty) (hm : mg "_law_same" = some (.ref f)) (hb : Binds K fd ["_law_found", "_law_due"] []) : ∀ n, FnOk P w K mg base CX0 n f fd ["_law_found", "_law_due"] (SpD K O (rSm n))
  | 0 => ⟨fun vs H Q E h => (by obtain ⟨G, ds, d, e, as, ⟨d0, _, h1, _⟩, k⟩ := h; exact absurd h1 (Nat.not_lt_zero _)), fun A outer s H args us vs Q E hr he hb hv h => (by obtain ⟨G, ds, d, e, as, ⟨d0, _, h1, _⟩, k⟩ := h; exact absurd h1 (Nat.not_lt_zero _))⟩
  | n + 1 => by
    have h__law_same : DefOk P w K mg base n "_law_same" ["_law_found", "_law_due"] (SpD K O (rSm n)) := defOk F hm (ok_same F B OK hm hb n) hb
    refine F.ok _law_same_sc (fun vs H Q E h => ?_) (fun cdv A outer s0 H vs Q E hr h => ?_)
    · obtain ⟨G, ds, d, e, as, ⟨d0, rfl, _⟩, k⟩ := h
      exact as.len
    · obtain ⟨G, ds, d, e, as, ⟨d0, rfl, hdep, hno, hok, rfl⟩, k⟩ := h
      obtain ⟨v, r, rfl, a, nn⟩ := atL_cons.mp as
      obtain ⟨v2, r, rfl, a2, nn⟩ := atL_cons.mp nn
      obtain rfl := atL_nil.mp nn
      refine ⟨_, (pss_cons (ps_if (pt_val (pe_callB (call_isiTK K) (by rfl) B.isinstance (by decide +kernel) (pa_cons (pv 1) (pa_cons (pe_tup (pa_cons (pe_bltn (v := .ty "list") (by rfl) B.list (by decide +kernel) rfl) (pa_cons (pe_bltn (v := .ty "tuple") (by rfl) B.tuple (by decide +kernel) rfl) pa_nil))) pa_nil)))) (pss_cons (ps_if (PW.pt (pw_or (pt_cmpR op_ne (pe_callB (call_isiK' K) (by rfl) B.isinstance (by decide +kernel) (pa_cons (pv 0) (pa_cons (pe_bltn (v := .ty "list") (by rfl) B.list (by decide +kernel) rfl) pa_nil))) (pe_callB (call_isiK' K) (by rfl) B.isinstance (by decide +kernel) (pa_cons (pv 1) (pa_cons (pe_bltn (v := .ty "list") (by rfl) B.list (by decide +kernel) rfl) pa_nil))) (nomark _)) (pw_or1 (pt_cmpR op_ne (pe_callB (call_isiK' K) (by rfl) B.isinstance (by decide +kernel) (pa_cons (pv 0) (pa_cons (pe_bltn (v := .ty "tuple") (by rfl) B.tuple (by decide +kernel) rfl) pa_nil))) (pe_callB (call_isiK' K) (by rfl) B.isinstance (by decide +kernel) (pa_cons (pv 1) (pa_cons (pe_bltn (v := .ty "tuple") (by rfl) B.tuple (by decide +kernel) rfl) pa_nil))) (nomark _))))) (pss_one (ps_ret pe_bl)) pss_nil)
    (pss_one (ps_ret (pe_and (pe_cmpR op_eq (pe_callB (call_lenK K) (by rfl) B.len (by decide +kernel) (pa_cons (pv 0) pa_nil)) (pe_callB (call_lenK K) (by rfl) B.len (by decide +kernel) (pa_cons (pv 1) pa_nil)) (nomark _)) (pe_one (pe_callB (cr_allK K rfl) (by rfl) B.all (by decide +kernel) (pa_cons (pe_lc (own := [("_law_x", 2), ("_law_y", 3)]) rfl _law_same_sc.nd (RZ.pi_zipA (by rfl) B.zip (pa_cons (pv 0) (pa_cons (pv 1) pa_nil))) (blkOk_by (N := _law_same_N) (sc := defScope _law_same_S) (by decide +kernel)) (fun _ _ _ _ _ => (pg_tupK (k := 2) K rfl (pgs_cons (pg_name (i := 2) _law_same_sc.nd rfl (Or.inl rfl)) (pgs_cons (pg_name (i := 3) _law_same_sc.nd rfl (Or.inl rfl)) pgs_nil)))) (fun _ _ _ _ _ => pts_nil) (fun _ _ _ _ _ => by exact (pe_callD h__law_same (hr.mono (by first | decide | exact Nat.le_refl _)) (pa_cons (pv 2) (pa_cons (pv 3) pa_nil))))) pa_nil))))))) pss_nil)
    (pss_cons (ps_if (pt_val (pe_callB (call_isiK' K) (by rfl) B.isinstance (by decide +kernel) (pa_cons (pv 1) (pa_cons (pe_bltn (v := .ty "int") (by rfl) B.int (by decide +kernel) rfl) pa_nil)))) (pss_one (ps_ret (pe_and (pe_callB (call_isiK' K) (by rfl) B.isinstance (by decide +kernel) (pa_cons (pv 0) (pa_cons (pe_bltn (v := .ty "int") (by rfl) B.int (by decide +kernel) rfl) pa_nil))) (pe_and (pe_cmpR op_eq (pe_callB (call_isiK' K) (by rfl) B.isinstance (by decide +kernel) (pa_cons (pv 0) (pa_cons (pe_bltn (v := .ty "bool") (by rfl) B.bool (by decide +kernel) rfl) pa_nil))) (pe_callB (call_isiK' K) (by rfl) B.isinstance (by decide +kernel) (pa_cons (pv 1) (pa_cons (pe_bltn (v := .ty "bool") (by rfl) B.bool (by decide +kernel) rfl) pa_nil))) (nomark _)) (pe_one (pe_cmpR op_eq (pv 0) (pv 1) (nomark _))))))) pss_nil)
    (pss_one (ps_ret (pe_and (pe_cmpR op_isBl (pe_callB (call_isiTK K) (by rfl) B.isinstance (by decide +kernel) (pa_cons (pv 0) (pa_cons (pe_tup (pa_cons (pe_bltn (v := .ty "int") (by rfl) B.int (by decide +kernel) rfl) (pa_cons (pe_bltn (v := .ty "list") (by rfl) B.list (by decide +kernel) rfl) (pa_cons (pe_bltn (v := .ty "tuple") (by rfl) B.tuple (by decide +kernel) rfl) pa_nil)))) pa_nil))) pe_bl (nomark _)) (pe_one (pe_cmpR op_eq (pv 0) (pv 1) (nomark _)))))))), ?_⟩
      have h0 : EvD K O (tVar 0) [some v, some v2, none, none] G d0 := ed_var rfl a
      have h1 : EvD K O (tVar 1) [some v, some v2, none, none] G d0 := ed_var rfl a2
      refine q_whenG (b := dSeq d0) (et_test (isi_seq OK h1)) e (fun hs H2 l2 => ?_) (fun hs H2 l2 => ?_)
      · -- lists, tuples
        refine q_skip (et_is (et_or (et_test (ev_op (isi_list OK h0) (isi_list OK h1) (rv_ne rfl))) fun _ => et_test (ev_op (isi_tuple OK h0) (isi_tuple OK h1) (rv_ne rfl))) (by simp)) l2.e fun H3 l3 => ?_
        refine s_retD (ed_of (v := .bl true) ?_ (at_bl.mpr rfl)) l3.e (k.mono (l2.trans l3))
        refine ev_is (ev_andV (a := true) (b := true) (ev_is (ev_op (len_d h0 hs) (len_d h1 hs) (rv_eq rfl)) (by simp)) fun _ => ?_) rfl
        obtain ⟨l, src, hln, hmem⟩ : ∃ l : List (D ω), Src K O (RZ.iZipA K (tCons (tVar 0) (tCons (tVar 1) tNil))) [some v, some v2, none, none] G (zipD l l) ∧ l.length ≤ 30000 ∧ ∀ c, c ∈ l → dep c < n ∧ noObj c = true ∧ allOk c = true := by
          cases d0 with
          | lst l =>
            simp only [allOk, Bool.and_eq_true] at hok
            refine ⟨l, src_zipL (eda_cons h0 (eda_cons h1 eda_nil)), of_decide_eq_true hok.1, fun c hc => ⟨?_, noObjL_mem (by simpa only [noObj] using hno) hc, allOkL_mem hok.2 hc⟩⟩
            have h3 := depL_le hc
            have h4 : depL l + 1 < n + 1 := hdep
            omega
          | tup l =>
            simp only [allOk, Bool.and_eq_true] at hok
            refine ⟨l, src_zipT (eda_cons h0 (eda_cons h1 eda_nil)), of_decide_eq_true hok.1, fun c hc => ⟨?_, noObjL_mem (by simpa only [noObj] using hno) hc, allOkL_mem hok.2 hc⟩⟩
            have h3 := depL_le hc
            have h4 : depL l + 1 < n + 1 := hdep
            omega
          | _ => cases hs
        have hz : (zipD l l).length ≤ 40000 := by simp [zipD]; omega
        have h7 := ed_lc (K := K) (O := O) (te := tCall (SpD K O (rSm n)) [] E0 (tCons (tVar 2) (tCons (tVar 3) tNil))) (tt := tYes) (vs := [2, 3]) (g := gTup K 2 (gCons (gName 2) (gCons (gName 3) gNil))) (fun _ => true) (fun _ => D.bl true) src hz ?_
        · have e8 : ((zipD l l).filter fun _ => true).map (fun _ => (D.bl true : D ω)) = ((zipD l l).map fun _ => true).map D.bl := by
            rw [List.filter_eq_self.mpr (fun _ _ => rfl), List.map_map]
            rfl
          rw [e8] at h7
          refine ev_is (ev_allD h7) ?_
          congr 1
          rw [List.all_map]
          simp
        · intro i d x Gi Hi hd eg eh ad Q' hQ
          obtain ⟨c, hc, rfl⟩ := zip_self_get hd
          obtain ⟨hc1, hc2, hc3⟩ := hmem c hc
          refine tg_pair ad eh fun x1 x2 a1 a2 => ?_
          exact hQ _ Hi (Ex.refl _) rfl et_yes fun _ => ed_call (eda_cons (ed_var rfl a1) (eda_cons (ed_var rfl a2) eda_nil)) ⟨c, rfl, hc1, hc2, hc3, rfl⟩
      · refine q_whenG (b := dIntB d0) (et_test (isi_int OK h1)) l2.e (fun hi H3 l3 => ?_) (fun hi H3 l3 => ?_)
        · refine s_retD (ed_of (v := .bl true) ?_ (at_bl.mpr rfl)) l3.e (k.mono (l2.trans l3))
          refine ev_is (ev_andV (a := true) (b := true) (ev_is (isi_int OK h0) (by rw [hi])) fun _ => ?_) rfl
          refine ev_is (ev_andV (a := true) (b := true) (ev_is (ev_op (isi_bool OK h0) (isi_bool OK h1) (rv_eq rfl)) (by simp)) fun _ => ?_) rfl
          cases d0 with
          | int i =>
            obtain rfl := at_int.mp a
            obtain rfl := at_int.mp a2
            exact ev_is (ev_op (ev_var (i := 0) rfl) (ev_var (i := 1) rfl) (rv_eq rfl)) (by simp)
          | bl b =>
            obtain rfl := at_bl.mp a
            obtain rfl := at_bl.mp a2
            exact ev_is (ev_op (ev_var (i := 0) rfl) (ev_var (i := 1) rfl) (rv_eq rfl)) (by simp)
          | _ => cases hi
        · refine s_retD (K := K) (O := O) (ed_of (v := .bl true) ?_ (at_bl.mpr rfl)) l3.e (k.mono (l2.trans l3))
          refine ev_is (ev_andV (a := true) (b := true) (ev_is (ev_op (isi_ils OK h0) ev_c (fun H1 _ Q q => ⟨_, _, rfl, rfl, q H1 (Ex.refl H1)⟩ : RV rIsB (.bl (dIntB d0 || dSeq d0)) (.bl false) G (.bl (decide ((dIntB d0 || dSeq d0) = false))))) (by rw [hs, hi]; rfl)) fun _ => ?_) rfl
          cases d0 with
          | non =>
            obtain rfl := at_non.mp a
            obtain rfl := at_non.mp a2
            exact ev_is (ev_op (ev_var (i := 0) rfl) (ev_var (i := 1) rfl) (rv_eq rfl)) (by simp)
          | str x =>
            obtain rfl := at_str.mp a
            obtain rfl := at_str.mp a2
            exact ev_is (ev_op (ev_var (i := 0) rfl) (ev_var (i := 1) rfl) (rv_eq rfl)) (by simp)
          | dic m => simp only [noObj] at hno; cases hno
          | obj u => simp only [noObj] at hno; cases hno
          | int i => cases hi
          | bl b => cases hi
          | lst l => cases hs
          | tup l => cases hs
end
end SR
set_option maxRecDepth 100000
set_option maxHeartbeats 4000000
namespace SR
open PySem PySem.Spec PyProof.Rows L2 Evl
theorem depL_pairs {ω : Type} : ∀ {m : List (Int × Int)}, depL (ω := ω) (m.map pairD) ≤ 1
  | [] => Nat.zero_le _
  | q :: r => by
    have ih := depL_pairs (ω := ω) (m := r)
    show max (dep (pairD q : D ω)) (depL (r.map pairD)) ≤ 1
    have h1 : dep (pairD q : D ω) = 1 := rfl
    rw [h1]
    omega
theorem allOk_pairs {ω : Type} : ∀ {m : List (Int × Int)}, allOkL (ω := ω) (m.map pairD) = true
  | [] => rfl
  | q :: r => by
    show (allOk (pairD q : D ω) && allOkL (r.map pairD)) = true
    rw [allOk_pairs]
    rfl
def dueD (m : List (Int × Int)) : List (D FilS) := [optD (lowO m), optD (highO m), optD ((lowO m).bind fun a => (highO m).map fun b => b - a)]
theorem optD_ok (o : Option Int) : noObj (optD o) = true ∧ allOk (optD o) = true ∧ dep (optD o) = 0 := by cases o <;> exact ⟨rfl, rfl, rfl⟩
end SR
set_option maxRecDepth 100000
set_option maxHeartbeats 4000000
namespace SR
open PySem PySem.Spec PyProof.Rows L2 Evl
section
variable {P : Program} {w : World} {K : PySem.W.Frag} {mg : Str → Option Value} {base : Heap} {ω : Type} {O : OI ω} {Ty : ω → Value}
/-- draw(e), e an int by the heap as it stands -/
theorem x_drawH {G H : Hp} {s q : Addr} {n : Nat} {te : TE} {σ : L2.St} {many : Int} {E : XK} {Q : VK} (a : At2 s q G H n) (hn : n + 1 ≤ 1000000) (hv : σ[0]? = some (some (.ref s))) (ha : Ev te σ H (.int many)) (h0 : 0 < many) (h1 : many < 1073741824)
    (k : ∀ x G2 H2, 0 ≤ x → x < many → LeX s q G H G2 H2 → At2 s q G2 H2 (n + 1) → Q (.int x) H2) : cDraw K O E (tCons te tNil) σ H Q :=
  ⟨.ref s, hv, ha H (Ex.refl H) _ fun H2 e2 => by
    have l := Le.heap a.e e2
    have a2 := a.le l
    refine ⟨G, s, q, n, [.int many], [.int many], rfl, a2.e, a2.gs, a2.gq, a2.spr, hn, AtL.one (at_int.mpr rfl), ⟨many, rfl, h0, h1⟩, fun d v G3 H3 ⟨m', x, hm, hd, hx0, hx1⟩ l3 sp3 av => ?_⟩
    subst hd
    obtain rfl := at_int.mp av
    have hm' : many = m' := D.int.inj (List.cons.inj hm).1
    exact k x G3 H3 hx0 (by omega) (l.x.trans l3) (a2.go l3 sp3)⟩
def pTold : List (D ω) → Prop := fun ds => ∃ (p : Int) (rows : List (Int × Int)), ds = [.int p, .lst (rows.map pairD)] ∧ primes.contains p = true ∧ rows.length ≤ 16
def rTold : List (D ω) → D ω → Prop := fun ds d => ∃ (p : Int) (rows rows' : List (Int × Int)), ds = [.int p, .lst (rows.map pairD)] ∧ d = .lst (rows'.map pairD) ∧ rows'.length ≤ 100 ∧ coll p rows' = coll p rows
theorem prime_lt {p : Int} (h : primes.contains p = true) : 1 < p ∧ p < 8 := by
  have h1 : p ∈ primes := List.contains_iff_mem.mp h
  unfold primes at h1
  simp at h1
  omega
theorem split_tot {a : List (Int × Int)} {i : Nat} {x : Int × Int} {o : Int} : totl (a.take i ++ [x] ++ a.drop i) o = totl a o + totl [x] o := by
  have h : totl a o = totl (a.take i) o + totl (a.drop i) o := by rw [← totl_append, List.take_append_drop]
  rw [totl_append, totl_append, h]
  omega
end
end SR
set_option maxRecDepth 100000
set_option maxHeartbeats 4000000
namespace SR
open PySem PySem.Spec PyProof.Rows L2 Evl
section
variable (P : Program) (w : World) (K : PySem.W.Frag) (mg : Str → Option Value) (base : Heap)
structure CMethOk (C : Addr) (k : Nat) (m : Str) (ps : List Str) (sp : Sp) : Prop where
  ex : ∃ mc p g fd, ClX.CRead K C mc ∧ ClX.CMet K C mc m p g ∧ Binds K fd ps [] ∧ FnOk P w K mg base CX0 k g fd ps sp
end
section
variable {X : Cx} {k : Nat} {C : Addr} {ps : List Str} {sp : Sp} {o e : Expr} {es : List Expr} {m : Str} {pos apos : Pos} {ta : TE} {t : TA} {pl : Sem Bool}
theorem pe_cmethD (h : CMethOk X.prog X.w X.K X.mg X.base C k m ps sp) (hr : Room k X.A) (he : PE X o ta) (ha : PA X (e :: es) t)
    (hst : starEach (e :: es) X.env = (false, eval e X.env) :: starEach es X.env := by rfl) (hpl : (backTo pos (starEach es X.env)).any (·.1) = false := by rfl)
    (ht : eval (.Call (.Attribute o m apos) (e :: es) [] pos) X.env = (do
      let ov ← eval o X.env
      standAt apos.atName
      let (f, first) ← holding [ov] (getMethod ov m pl)
      callWith pos f first (backTo pos (starEach (e :: es) X.env)) (backToKw pos (keywordEach [] X.env))) := by rfl) :
    PE X (.Call (.Attribute o m apos) (e :: es) [] pos) (ClX.tCMeth C (fun vs H Q E => sp (vs ++ []) H Q E) E0 ta t) := by
  obtain ⟨mc, p, g, fd, r, c, hb, F⟩ := h.ex
  exact ClX.pe_cmeth he r c (F.raw hb .nil) hr pass0 ha hst hpl ht
end
section
variable {P : Program} {w : World} {K : PySem.W.Frag} {mg : Str → Option Value} {base : Heap} {C : Addr} {G H : Hp} {te : TE} {σ : L2.St} {t : TA} {E : XK}
/-- Filter(p, rows) -/
theorem ed_make {p : Int} {d : D FilS} {rows : List (Int × Int)} (h : EvDA K (FilO K C) t σ G [.int p, d]) (hp : primes.contains p = true) (hr : RowsD d rows) (hz : rows.length ≤ 30000) : EvD K (FilO K C) (tMake C (spInit K C) [] E t) σ G (.obj ⟨p, coll p rows⟩) := fun H1 e Q k =>
  h H1 e _ fun vs G2 H2 l as => by
    obtain ⟨v1, r, rfl, a1, n⟩ := atL_cons.mp as
    obtain ⟨v2, r, rfl, a2, n⟩ := atL_cons.mp n
    obtain rfl := atL_nil.mp n
    obtain rfl := at_int.mp a1
    intro x dx hx hdx hne
    exact ⟨G2, H2, x, dx, p, v2, d, rows, rfl, l.e, hx, hdx, hne, rfl, a2, hr, hz, hp, fun G3 H3 l3 fa => ⟨rfl, k (.ref x) G3 H3 (l.trans l3) (at_obj.mpr ⟨x, rfl, fa⟩)⟩⟩
/-- Filter(p): the default -/
theorem ed_make1 {p : Int} {a0 : Addr} (h : EvDA K (FilO K C) t σ G [.int p]) (hp : primes.contains p = true) (h0 : ∀ H, SqT K H a0 []) : EvD K (FilO K C) (tMake C (spInit K C) [.ref a0] E t) σ G (.obj ⟨p, coll p []⟩) := fun H1 e Q k =>
  h H1 e _ fun vs G2 H2 l as => by
    obtain ⟨v1, r, rfl, a1, n⟩ := atL_cons.mp as
    obtain rfl := atL_nil.mp n
    obtain rfl := at_int.mp a1
    intro x dx hx hdx hne
    exact ⟨G2, H2, x, dx, p, .ref a0, .tup [], [], rfl, l.e, hx, hdx, hne, rfl, at_tup.mpr ⟨a0, [], rfl, h0 _, atL_nil.mpr rfl⟩, ⟨[], Or.inr rfl, .nil⟩, Nat.zero_le _, hp, fun G3 H3 l3 fa => ⟨rfl, k (.ref x) G3 H3 (l.trans l3) (at_obj.mpr ⟨x, rfl, fa⟩)⟩⟩
theorem rowsD_pairs {rows : List (Int × Int)} : RowsD (D.lst (ω := FilS) (rows.map pairD)) rows := ⟨_, Or.inl rfl, RowsL.pairs⟩
theorem rowsD_tup {rows : List (Int × Int)} : RowsD (D.tup (ω := FilS) (rows.map pairD)) rows := ⟨_, Or.inr rfl, RowsL.pairs⟩
/-! ### terms: a new list -/
def spTermsN (K : PySem.W.Frag) (C : Addr) : Sp := fun vs H Q _ => ∃ G w v, vs = [v] ∧ Ex G H ∧ At K (FilO K C) G (.obj w) v ∧ ∀ l G2 H2, H l = none → Le G H G2 H2 → At K (FilO K C) G2 (.lst (w.ps.map pairD)) (.ref l) → Q (.ref l) H2
theorem ok_termsN {f : Addr} {fd : FuncData} (F : Fun K "terms" "Filter.terms" Filter_terms_S f fd) (B : Bi mg) (c : FilC K C) : FnOk P w K mg base CX0 1 f fd ["self"] (spTermsN K C) := by
  refine F.ok Filter_terms_sc (fun vs H Q E h => ?_) (fun cdv A outer s H vs Q E hr h => ?_)
  · obtain ⟨G, w0, v, rfl, _⟩ := h
    rfl
  · obtain ⟨G, w0, v, rfl, e, a, k⟩ := h
    refine ⟨_, (pss_one (ps_ret (pe_callTy call_list_of (by rfl) B.list (by decide +kernel) (pa_cons (pe_fldK K (pv 0)) pa_nil)))), ?_⟩
    refine ed_pairs c (ed_var (i := 0) (σ := [some v]) rfl a) H e _ fun vt G2 H2 l at' => ?_
    obtain ⟨p, vs, rfl, hs, as⟩ := at_tup.mp at'
    exact ⟨p, vs, rfl, Or.inr (ex_t l.e hs), fun q hq => k q (upd G2 q (.lst vs)) _ (l.back hq) (l.trans (Le.new l.e hq)) (at_lst.mpr ⟨q, vs, rfl, upd_same, as.mono (Ex.new (none_of_ex l.e hq))⟩)⟩
/-- the weaker promise -/
theorem terms_weak {vs : List V} {H : Hp} {Q : VK} {E : XK} (h : SpD K (FilO K C) rTerms vs H Q E) : spTermsN K C vs H Q E := by
  obtain ⟨G, ds, d, e, as, ⟨w, rfl, rfl⟩, k⟩ := h
  obtain ⟨v, r, rfl, a, n⟩ := atL_cons.mp as
  obtain rfl := atL_nil.mp n
  exact ⟨G, w, v, rfl, e, a, fun l G2 H2 _ lw al => k _ G2 H2 lw al⟩
/-- tuple(a list) -/
theorem ed_tupleF {ω : Type} {O : OI ω} {ta : TE} {l : List (D ω)} (h : EvD K O ta σ G (.lst l)) : EvD K O (tCB (fun xs H Q => ∃ p ys, xs = [V.ref p] ∧ SqL K H p ys ∧ ∀ l o, H l = none → o.dict = none → Q (.ref l) (upd H l (.frz o (.tup ys)))) (tCons ta tNil)) σ G (.tup l) := fun H1 e Q k =>
  h H1 e _ fun v G2 H2 le a => by
    obtain ⟨p, vs, rfl, hs, as⟩ := at_lst.mp a
    exact ⟨p, vs, rfl, sq_of (le.e _ _ hs), fun q o hq _ => k _ (upd G2 q (.frz o (.tup vs))) _ (le.trans (Le.new le.e hq)) (at_tup.mpr ⟨q, vs, rfl, Or.inl (Or.inr ⟨o, upd_same⟩), as.mono (Ex.new (none_of_ex le.e hq))⟩)⟩
theorem ed_newD {ω : Type} {O : OI ω} : EvD K O tDNewK σ G (.dic []) := fun H1 e Q k p hp => k _ (upd G p (.dK [])) _ (Le.new e hp) (at_dic.mpr ⟨p, rfl, upd_same⟩)
end
end SR
set_option maxRecDepth 100000
set_option maxHeartbeats 4000000
/-! Lists and tuples walked while an exception is handled. -/
namespace SR
open PySem PySem.Spec PyProof.Rows L2 Evl HotX L2H
section
variable {prog : Program} {w : World} {A : Around} {E : Value → Shared → Prop} {s : Shared}
/-- the handled exception is no walk over a list or tuple -/
theorem hot_ne {x1 it : Addr} {o : Obj} {a b : Value} {h : Heap} (hot : HotAt A x1 h) (ho : h.get? it = some o) (hd : o.data = .fields #[a, b]) : x1 ≠ it := fun z => by
  obtain ⟨_, o1, vs1, h1, d1, c1⟩ := hot
  rw [z, ho] at h1
  obtain rfl := Option.some.inj h1
  rw [hd] at d1
  injection d1 with d1
  rw [← d1] at c1
  cases c1
theorem pyNext_list_end_hot {it l x1 : Addr} {i : Nat} {items : Array Value} {Q : Option Value → Shared → Prop} (hot : HotAt A x1 s.heap) (hit : s.heap.IsListIter it l i) (hl : s.heap.IsList l items) (hx : items[i]? = none)
    (hQ : ∀ h', Heap.ExtBut it s.heap h' → Q none { s with heap := h' }) : wpAny (model prog w) A (pyNext (.ref it)) Q E s := by
  obtain ⟨o, ho, hc, hd⟩ := id hit
  obtain ⟨ol, hol, _, nl, hdl⟩ := hl
  have hne := hot_ne hot ho hd
  obtain ⟨hh, o1, vs1, h1, d1, c1⟩ := hot
  unfold pyNext
  refine wpAny_bind (wpAny_attempt (wpAny_callSpecial?_slot (name := Str.ofString "__next__") hit.typeIs slot_listiter_next (wpAny_call_entry slot_listiter_next hit.typeIs entry_listiter_next ?_ (args_listiter_next _))))
  show wpAny _ _ (field (.ref it) 0 >>= _) _ _ s
  refine wpAny_bind (wpAny_field ho hd (x := .ref l) rfl ?_)
  rw [if_neg (show ¬ ((Value.ref l == Value.none) = true) from Bool.false_ne_true)]
  refine wpAny_bind (wpAny_field ho hd (x := .int i 0) rfl ?_)
  refine wpAny_bind (wpAny_seqItems hol hdl ?_)
  simp only [Int.toNat_natCast, hx]
  refine wpAny_bind (wpAny_rule (wpAny_bind (wpAny_setField ho hd (by simp) ?_)))
  refine wpAny_bind ?_
  simp only [newExc, newTuple]
  refine wpAny_bind (wpAny_newObj_type ?_ (by size_fits))
  refine wpAny_bind (m := firstArgMember _ _) (wpAny_of_eq (a := Value.none) (by first | rfl | (simp only [firstArgMember]; rfl)) ?_)
  refine wpAny_newObj_type ?_ (by size_fits)
  have k1 : (s.heap.update it (Obj.mapFields (·.setIfInBounds 0 Value.none))).get? x1 = some o1 := (Heap.get?_update_other _ _ (Ne.symm hne)).trans h1
  refine raiseNew_hot ⟨hh, o1, vs1, Heap.get?_push_of_some _ (Heap.get?_push_of_some _ k1), d1, c1⟩ (Nat.ne_of_lt (Heap.lt_size (Heap.get?_push_of_some _ k1))) (Heap.get?_push_size _ rfl) rfl (by first | (simp; done) | (simp; omega) | (simp only [Array.size_append]; simp; omega)) ?_
  refine wpAny_bind (wpAny_isInstance (T := "StopIteration") (b := true) ⟨_, Heap.get?_update_self _ (Heap.get?_push_size _ rfl) rfl, rfl⟩ isSubtype_stop ?_)
  refine wpAny_pure (hQ _ fun b u hb e => ?_)
  have k2 : (s.heap.update it (Obj.mapFields (·.setIfInBounds 0 Value.none))).get? b = some u := (Heap.get?_update_other _ _ (Ne.symm hb)).trans e
  rw [Heap.get?_update_other _ _ (Nat.ne_of_gt (Heap.lt_size (Heap.get?_push_of_some _ k2)))]
  exact Heap.get?_push_of_some _ (Heap.get?_push_of_some _ k2)
theorem pyNext_tuple_end_hot {it l x1 : Addr} {i : Nat} {items : Array Value} {Q : Option Value → Shared → Prop} (hot : HotAt A x1 s.heap) (hit : s.heap.IsTupleIter it l i) (hl : s.heap.IsTuple l items) (hx : items[i]? = none)
    (hQ : ∀ h', Heap.ExtBut it s.heap h' → Q none { s with heap := h' }) : wpAny (model prog w) A (pyNext (.ref it)) Q E s := by
  obtain ⟨o, ho, hc, hd⟩ := id hit
  obtain ⟨ol, hol, _, nl, hdl⟩ := hl
  have hne := hot_ne hot ho hd
  obtain ⟨hh, o1, vs1, h1, d1, c1⟩ := hot
  unfold pyNext
  refine wpAny_bind (wpAny_attempt (wpAny_callSpecial?_slot (name := Str.ofString "__next__") hit.typeIs F.slot_tuple_iterator_next (wpAny_call_entry F.slot_tuple_iterator_next hit.typeIs F.entry_tuple_iterator_next ?_ (F.args_tuple_iterator_next_1 _))))
  show wpAny _ _ (field (.ref it) 0 >>= _) _ _ s
  refine wpAny_bind (wpAny_field ho hd (x := .ref l) rfl ?_)
  rw [if_neg (show ¬ ((Value.ref l == Value.none) = true) from Bool.false_ne_true)]
  refine wpAny_bind (wpAny_field ho hd (x := .int i 0) rfl ?_)
  refine wpAny_bind (wpAny_seqItems hol hdl ?_)
  simp only [Int.toNat_natCast, hx]
  refine wpAny_bind (wpAny_rule (wpAny_bind (wpAny_setField ho hd (by simp) ?_)))
  refine wpAny_bind ?_
  simp only [newExc, newTuple]
  refine wpAny_bind (wpAny_newObj_type ?_ (by size_fits))
  refine wpAny_bind (m := firstArgMember _ _) (wpAny_of_eq (a := Value.none) (by first | rfl | (simp only [firstArgMember]; rfl)) ?_)
  refine wpAny_newObj_type ?_ (by size_fits)
  have k1 : (s.heap.update it (Obj.mapFields (·.setIfInBounds 0 Value.none))).get? x1 = some o1 := (Heap.get?_update_other _ _ (Ne.symm hne)).trans h1
  refine raiseNew_hot ⟨hh, o1, vs1, Heap.get?_push_of_some _ (Heap.get?_push_of_some _ k1), d1, c1⟩ (Nat.ne_of_lt (Heap.lt_size (Heap.get?_push_of_some _ k1))) (Heap.get?_push_size _ rfl) rfl (by first | (simp; done) | (simp; omega) | (simp only [Array.size_append]; simp; omega)) ?_
  refine wpAny_bind (wpAny_isInstance (T := "StopIteration") (b := true) ⟨_, Heap.get?_update_self _ (Heap.get?_push_size _ rfl) rfl, rfl⟩ isSubtype_stop ?_)
  refine wpAny_pure (hQ _ fun b u hb e => ?_)
  have k2 : (s.heap.update it (Obj.mapFields (·.setIfInBounds 0 Value.none))).get? b = some u := (Heap.get?_update_other _ _ (Ne.symm hb)).trans e
  rw [Heap.get?_update_other _ _ (Nat.ne_of_gt (Heap.lt_size (Heap.get?_push_of_some _ k2)))]
  exact Heap.get?_push_of_some _ (Heap.get?_push_of_some _ k2)
end
section
variable {P : Program} {w : World} {K : PySem.W.Frag} {tg : Expr}
theorem turn_listH (a it : Addr) : TurnH P w K tg (Itl K a) [it] it (fun i h => h.IsListIter it a i) where
  mem := List.mem_singleton.mpr rfl
  obj := (turn_list (P := P) (w := w) (K := K) (tg := tg) a it).obj
  keep := (turn_list (P := P) (w := w) (K := K) (tg := tg) a it).keep
  self := (turn_list (P := P) (w := w) (K := K) (tg := tg) a it).self
  item := fun X hP hw hK hc i pins s σ H E I hf st hg => by
    subst hP hw hK
    obtain ⟨xs, x, hq, hx⟩ := hg
    obtain ⟨its, rv, p, hz⟩ := I.list hq
    obtain ⟨u, hu, ru⟩ := rv.get hx
    obtain ⟨f0, f1, f2, f3, f4, f5⟩ := hf it (List.mem_singleton.mpr rfl)
    refine wpAny_pyNext_list_item st p.isList (x := u) (by simpa using hu) fun h' st' sb => ⟨u, rfl, ?_⟩
    obtain ⟨o, e, c, d⟩ := id st'
    refine go_of (s := { s with heap := h' }) e c d (by decide) ⟨x, H, I.turned (t' := s.toks) (fun b o hb e => (sb.2 b hb).trans e) f0 f1 f3 f4 f5, ru, ⟨rfl, fun ys hy => ?_⟩, st', fun b hb => (hf b hb).1⟩
    rw [I.list_inj hy hq]
    exact hx
  done := fun X hP hw hK hc i pins s σ H E I hf st hg => by
    subst hP hw hK
    obtain ⟨xs, hq, hx⟩ := hg
    obtain ⟨its, rv, p, hz⟩ := I.list hq
    obtain ⟨f0, f1, f2, f3, f4, f5⟩ := hf it (List.mem_singleton.mpr rfl)
    have hl := rv.length
    obtain ⟨x1, hot⟩ := hc.at I
    exact pyNext_list_end_hot hot st p.isList (by simp; omega) fun h' eb => ⟨rfl, I.turned (t' := s.toks) (fun b o hb e => eb b o hb e) f0 f1 f3 f4 f5⟩
theorem turn_tupleH (a it : Addr) : TurnH P w K tg (Itt K a) [it] it (fun i h => h.IsTupleIter it a i) where
  mem := List.mem_singleton.mpr rfl
  obj := (turn_tuple (P := P) (w := w) (K := K) (tg := tg) a it).obj
  keep := (turn_tuple (P := P) (w := w) (K := K) (tg := tg) a it).keep
  self := (turn_tuple (P := P) (w := w) (K := K) (tg := tg) a it).self
  item := fun X hP hw hK hc i pins s σ H E I hf st hg => by
    subst hP hw hK
    obtain ⟨xs, x, hq, hx⟩ := hg
    obtain ⟨its, rv, p, hz⟩ := I.tuple hq
    obtain ⟨u, hu, ru⟩ := rv.get hx
    obtain ⟨f0, f1, f2, f3, f4, f5⟩ := hf it (List.mem_singleton.mpr rfl)
    refine wpAny_pyNext_tuple_item st p (x := u) (by simpa using hu) fun h' st' sb => ⟨u, rfl, ?_⟩
    obtain ⟨o, e, c, d⟩ := id st'
    refine go_of (s := { s with heap := h' }) e c d (by decide) ⟨x, H, I.turned (t' := s.toks) (fun b o hb e => (sb.2 b hb).trans e) f0 f1 f3 f4 f5, ru, ⟨rfl, fun ys hy => ?_⟩, st', fun b hb => (hf b hb).1⟩
    rw [I.tuple_inj hy hq]
    exact hx
  done := fun X hP hw hK hc i pins s σ H E I hf st hg => by
    subst hP hw hK
    obtain ⟨xs, hq, hx⟩ := hg
    obtain ⟨its, rv, p, hz⟩ := I.tuple hq
    obtain ⟨f0, f1, f2, f3, f4, f5⟩ := hf it (List.mem_singleton.mpr rfl)
    have hl := rv.length
    obtain ⟨x1, hot⟩ := hc.at I
    exact pyNext_tuple_end_hot hot st p (by simp; omega) fun h' eb => ⟨rfl, I.turned (t' := s.toks) (fun b o hb e => eb b o hb e) f0 f1 f3 f4 f5⟩
end
section
variable {X : Cx} {tg : Expr}
theorem pi_listH {l : Expr} {tl : TE} (hl : PE X l tl) : PIH X tg l (iList X.K tl) := by
  refine ⟨fun pins s σ H R I h => thn (hl.run pins s σ H _ I h) fun v s1 ⟨x, H1, I1, r1, q1⟩ => ?_⟩
  obtain ⟨a, rfl, ⟨xs, hq⟩, q⟩ := q1
  cases r1
  obtain ⟨its, rv, p, hz⟩ := I1.list hq
  exact wpAny_pyIter_list p.isList ⟨s1.heap.objs.size, [s1.heap.objs.size], _, _, H1, rfl, I1.kept (t' := s1.toks) fun b o e => Heap.get?_push_of_some _ e, turn_listH a _, ⟨_, Heap.get?_push_size _ rfl, rfl, rfl⟩, fun b hb => by
    obtain rfl := List.mem_singleton.mp hb
    exact I1.fpOk (Nat.le_refl _) (I1.hok.fresh (Nat.le_refl _)), q⟩
theorem pi_tupH {l : Expr} {tl : TE} (hl : PE X l tl) : PIH X tg l (iTup X.K tl) := by
  refine ⟨fun pins s σ H R I h => thn (hl.run pins s σ H _ I h) fun v s1 ⟨x, H1, I1, r1, q1⟩ => ?_⟩
  obtain ⟨a, rfl, ⟨xs, hq⟩, q⟩ := q1
  cases r1
  obtain ⟨its, rv, p, hz⟩ := I1.tuple hq
  exact wpAny_pyIter_tuple p ⟨s1.heap.objs.size, [s1.heap.objs.size], _, _, H1, rfl, I1.kept (t' := s1.toks) fun b o e => Heap.get?_push_of_some _ e, turn_tupleH a _, ⟨_, Heap.get?_push_size _ rfl, rfl, rfl⟩, fun b hb => by
    obtain rfl := List.mem_singleton.mp hb
    exact I1.fpOk (Nat.le_refl _) (I1.hok.fresh (Nat.le_refl _)), q⟩
theorem pi_orH {iter : Expr} {w1 w2 : TI} (h1 : PIH X tg iter w1) (h2 : PIH X tg iter w2) : PIH X tg iter (fun σ H R => w1 σ H R ∨ w2 σ H R) := ⟨fun pins s σ H R I h => h.elim (h1.run pins s σ H R I) (h2.run pins s σ H R I)⟩
/-- a comprehension's block that bears the handled exception -/
abbrev blkH (X : Cx) (p : Addr × Obj) (s : Shared) (H : Hp) (scope : Scope) (ce : Env) (fp : List Addr) : Cx := { X.blk s H scope ce fp with calm := false, pn := [p] }
variable {pins : List (Addr × Obj)} {σ : L2.St} {H : Hp} {s : Shared}
theorem block_hot {p : Addr × Obj} {scope : Scope} {own : List (Str × Nat)} {fp : List Addr} (hp : p ∈ X.pn) (I : Inv X pins σ H s) (ok : BlkOk X.N X.env.scope scope own) (hN : X.N.Nodup) (hfp : ∀ b ∈ fp, FpOk X pins H b ∧ b < s.heap.objs.size) :
    Inv (blkH X p s H scope (compEnvC scope (cellsFrom (s.heap.objs.size + 1) scope.names (cloFrom X.env.cells scope.names [])) s.heap.objs.size X.env) fp) [] (wipe σ (own.map (·.2))) H { s with heap := pushCells (s.heap.push { cls := .type "dict", data := .dict #[] }) scope.names } := by
  have J := block_start I ok hN hfp
  obtain ⟨p1, p2, p3, p4, p5⟩ := I.pin p (List.mem_append_left _ hp)
  refine ⟨⟨J.ok.mod, J.ok.kind, J.ok.glob, J.ok.blt, J.ok.above, J.ok.inj, J.ok.has, J.ok.cab, (fun z => nomatch z), J.ok.frames, J.ok.stk, J.ok.exf, J.ok.bs, J.ok.bsz, J.ok.noex, J.ok.exfs, J.ok.funs, J.ok.frf⟩, J.os, J.bare, J.base, J.loc, J.cell, J.free, J.freeC, fun q hq => ?_, J.hok, J.len⟩
  obtain rfl : q = p := by simpa using hq
  refine ⟨pushCells_keeps _ _ _ _ (Heap.get?_push_of_some _ p1), p2, Nat.ne_of_lt (Heap.lt_size p1), fun z => ?_, p5⟩
  rcases List.mem_cons.mp (I.stkSub _ z) with z | z
  · exact p3 z
  · exact p4 z
/-- [elt for tg in iter] while an exception is handled -/
theorem pe_lcH {elt iter : Expr} {scope : Scope} {own : List (Str × Nat)} {pos : Pos} {wi : TI} {g : TG} {te : TE} {p : Addr × Obj} (hp : p ∈ X.pn) (h1 : Hot1 X.A p) (hN : X.N.Nodup) (hi : PIH X tg iter wi) (ok : BlkOk X.N X.env.scope scope own)
    (hg : ∀ (s : Shared) (H : Hp) (C : Addr) (cl : List (Str × Addr)) (fp : List Addr), PG (blkH X p s H scope (compEnvC scope cl C X.env) fp) tg g)
    (he : ∀ (s : Shared) (H : Hp) (C : Addr) (cl : List (Str × Addr)) (fp : List Addr), PE (blkH X p s H scope (compEnvC scope cl C X.env) fp) elt te) (hs : ∀ x, foldedSetIterable iter X.env x = pure x := by intro _; rfl) :
    PE X (.ListComp elt [⟨tg, iter, [], 0⟩] scope pos) (tLc wi g tYes te (own.map (·.2))) := by
  refine ⟨fun pins s σ H Q I h => ?_⟩
  rw [eval_ListComp]
  have caps : ∀ y ∈ scope.names, y.2 = .free → ∃ c, X.env.cells.lookup y.1 = some c := fun y hy e => I.ok.has _ (ok.free y hy e)
  refine wpAny_comprehension_free rfl hs (closure_ok caps) ok.kind (fun y hy e => by rw [ok.uniq y hy, e]) (thn (hi.run pins s σ H _ I h) fun xv s1 hx => thn hx fun itv s2 h2 => ?_)
  obtain ⟨it, fp, tn, J, H2, rfl, I2, T, st2, f2, q⟩ := h2
  refine wpAny_newObj_type (newEnv_comp ?_) (by show 0 ≤ sizeLine; exact Nat.zero_le _)
  obtain ⟨W, ⟨m0, w0⟩, turn⟩ := q s2.heap.objs.size (I2.hok.fresh (Nat.le_refl _))
  have hfp : ∀ b ∈ fp, b < s2.heap.objs.size := fun b hb => by
    obtain ⟨o, e, _⟩ := T.obj _ _ st2 b hb
    exact Heap.lt_size e
  generalize hs3 : ({ s2 with heap := s2.heap.push { cls := .type "list", data := .seq ([] : List Value).toArray } } : Shared) = s3
  have e3 : s3.heap = s2.heap.push { cls := .type "list", data := .seq ([] : List Value).toArray } := by rw [← hs3]
  have I3 : Inv X pins σ (upd H2 s2.heap.objs.size (.lst [])) s3 := by
    rw [← hs3]
    exact I2.laid (t' := s2.toks) (fun b o e => Heap.get?_push_of_some _ e) (Nat.le_refl _) ⟨Nat.zero_le _, [], 0, .nil, Heap.get?_push_size _ rfl⟩
  have f3 : ∀ b ∈ fp, FpOk X pins (upd H2 s2.heap.objs.size (.lst [])) b ∧ b < s3.heap.objs.size := fun b hb => by
    have := hfp b hb
    exact ⟨⟨by rw [upd_ne (Nat.ne_of_lt this)]; exact (f2 b hb).1, (f2 b hb).2⟩, by rw [e3, Heap.size_push]; exact Nat.lt_succ_of_lt this⟩
  have I4 := block_hot hp I3 ok hN f3
  have st4 : tn 0 (pushCells (s3.heap.push { cls := .type "dict", data := .dict #[] }) scope.names) := T.keep _ _ _ st2 fun b _ o e => pushCells_keeps _ _ _ _ (Heap.get?_push_of_some _ (by rw [e3]; exact Heap.get?_push_of_some _ e))
  have pg := hg s3 (upd H2 s2.heap.objs.size (.lst [])) s3.heap.objs.size (cellsFrom (s3.heap.objs.size + 1) scope.names (cloFrom X.env.cells scope.names [])) fp
  have pe := he s3 (upd H2 s2.heap.objs.size (.lst [])) s3.heap.objs.size (cellsFrom (s3.heap.objs.size + 1) scope.names (cloFrom X.env.cells scope.names [])) fp
  show codeAny _ _ (.compStart (.ListComp elt [⟨tg, iter, [], 0⟩] scope pos) 0 (.ref it) (.ref s2.heap.objs.size) (compEnvC scope (cellsFrom (s3.heap.objs.size + 1) scope.names (cloFrom X.env.cells scope.names [])) s3.heap.objs.size X.env)) _ _
  have hcL : (compEnvC scope (cellsFrom (s3.heap.objs.size + 1) scope.names (cloFrom X.env.cells scope.names [])) s3.heap.objs.size X.env).locals = s3.heap.objs.size := rfl
  generalize compEnvC scope (cellsFrom (s3.heap.objs.size + 1) scope.names (cloFrom X.env.cells scope.names [])) s3.heap.objs.size X.env = ce at I4 pg pe hcL ⊢
  generalize hD : s2.heap.objs.size = D at *
  have nfp : ∀ b ∈ fp, (upd H2 D (.lst [])) b = none := fun b hb => (f3 b hb).1.1
  generalize upd H2 D (.lst []) = H3 at *
  have hotX : HotC (blkH X p s3 H3 scope ce fp) := ⟨p, h1, List.mem_singleton.mpr rfl⟩
  have stat : ∀ {σ' : L2.St} {H' : Hp} {s' : Shared}, Inv (blkH X p s3 H3 scope ce fp) [] σ' H' s' → (∀ b ∈ fp, H' b = none) → ∀ b ∈ fp, FpOk (blkH X p s3 H3 scope ce fp) [] H' b := fun {σ' H' s'} I' hn b hb =>
    ⟨hn b hb, (I'.ok.exf b hb).1, I'.ok.exfs b hb, .inl hb, fun x c e => (I'.ok.exf b hb).2 x c e, fun q hq => by
      obtain rfl : q = p := by simpa using hq
      exact (f2 b hb).2.2.2.2.2 q (List.mem_append_left _ hp)⟩
  show codeAny _ _ _ (compPost (model X.prog X.w) X.A X.xe none (L2.EP X pins σ Q) (.ref D) s3.heap.objs.size) _
  have loop : codeAny (model X.prog X.w) X.A (.compLoop (.ListComp elt [⟨tg, iter, [], 0⟩] scope pos) 0 (.ref it) (.ref D) ce) (compPost (model X.prog X.w) X.A X.xe none (L2.EP X pins σ Q) (.ref D) s3.heap.objs.size) { s3 with heap := pushCells (s3.heap.push { cls := .type "dict", data := .dict #[] }) scope.names } := by
    refine compLoop_any (fun n s' => ∃ i H', Inv (blkH X p s3 H3 scope ce fp) [] (wipe σ (own.map (·.2))) H' s' ∧ tn i s'.heap ∧ (∀ b ∈ fp, H' b = none) ∧ W i n H') ?_ m0 ⟨0, H3, I4, st4, nfp, w0⟩
    rintro n s5 ⟨i, H5, I5, st5, n5, w5⟩
    rcases turn i n H5 w5 with ⟨stop, qq⟩ | ⟨go, Nx, hNx, step⟩
    · refine thnF (T.done (blkH X p s3 H3 scope ce fp) rfl rfl rfl hotX i [] s5 _ H5 (fun _ _ => False) I5 (stat I5 n5) st5 stop) fun r s6 ⟨hr, I6⟩ => ?_
      subst hr
      have I7 : Inv X pins σ H5 s6 := I3.call' (ch := fp) I6.os I6.base I6.hok I6.bare fun b hb => ⟨(f3 b hb).1.2.2.2.1, (f3 b hb).1.2.1, (f3 b hb).1.2.2.2.2.1, (f3 b hb).1.2.2.2.2.2⟩
      have nC : H5 s3.heap.objs.size = none := by
        have z : H5 ce.locals = none := I6.free
        rw [hcL] at z
        exact z
      obtain ⟨m, hn, _⟩ := I6.loc
      have hn : s6.heap.Ns ce.locals m := hn
      rw [hcL] at hn
      obtain ⟨f0, f1, f2, f3', f4, f5⟩ := I3.fpOk (Nat.le_refl _) nC
      exact ⟨m, hn, fun h'' sb => ⟨.ref D, H5, I7.turned (t' := s6.toks) (fun b o hb e => (sb.2 b hb).trans e) f0 f1 f3' f4 f5, rfl, qq⟩⟩
    · refine thnF (T.item (blkH X p s3 H3 scope ce fp) rfl rfl rfl hotX i [] s5 _ H5 (fun _ _ => False) I5 (stat I5 n5) st5 go) fun r s6 ⟨u, hr, h6⟩ => ?_
      subst hr
      refine thnF h6 fun _ s7 ⟨x, H7, I7, r7, y7, st7, n7⟩ => ?_
      refine thnF (pg.run _ s7 _ H7 x u _ (I7.pinned (stat I7 n7) (T.obj _ _ st7)) r7 (step x H7 y7)) fun _ s8 ⟨σ8, H8, I8, hw8, q8⟩ => ?_
      refine wpAny_tests_nil ?_
      simp only [if_true]
      have q8 := q8
      refine thnF (pe.run _ s8 σ8 H8 _ I8 q8) fun z s10 ⟨yv, H10, I10, r10, acc, hD10, hz10, nx⟩ => ?_
      refine app_ok (X := blkH X p s3 H3 scope ce fp) I10 hD10 hz10 r10 fun s11 I11 => ?_
      obtain ⟨m', hm, w'⟩ := hNx _ nx
      have pin' : ∀ b ∈ fp, ∀ o, s7.heap.get? b = some o → s11.heap.get? b = some o ∧ (upd H10 D (.lst (acc ++ [yv]))) b = none := fun b hb o e =>
        let z := I11.pin (b, o) (List.mem_append_right _ (List.mem_append_right _ (mem_pinsAt hb e)))
        ⟨z.1, z.2.1⟩
      refine ⟨m', hm, i + 1, _, (I11.unpinned (pins := [])).weak (by rw [← hw8, wipe_length]) (fun j v e => ?_), T.keep _ _ _ st7 fun b hb o e => (pin' b hb o e).1, fun b hb => ?_, w'⟩
      · rw [← hw8] at e
        exact (wipe_some e).1
      · obtain ⟨o, e, _⟩ := T.obj _ _ st7 b hb
        exact (pin' b hb o e).2
  exact codeAny_compStart_list loop (T.self X.A 0 _ _ _ st4 loop)
end
end SR
set_option maxRecDepth 100000
set_option maxHeartbeats 4000000
/-! Defs called while an exception is handled, by what they promise. -/
namespace SR
open PySem PySem.Spec PyProof.Rows L2 Evl HotX L2H
section
variable {P : Program} {w : World} {K : PySem.W.Frag} {mg : Str → Option Value} {base : Heap}
theorem fun_okH {x qual : Str} {st : Stmt} {f : Addr} {fd : FuncData} {N ps : List Str} {k : Nat} {sp : Sp} (F : Fun K x qual st f fd) (S : FnScope N ps (defScope st)) (len : ∀ vs H Q E, sp vs H Q E → vs.length = ps.length)
    (hbody : ∀ (cdv : Value) (A : Around) (outer : List Env) (s : Shared) (H : Hp) (vs : List V) (Q : VK) (E : XK) (p : Addr × Obj), Hot1 A p → RoomH k (A.deeper (envOfC qual (defScope st) s.heap.objs.size f cdv)) → sp vs H Q E →
      ∃ t, PSs (cxH CX0 P w K mg base N qual (defScope st) f cdv A outer s H E p) (defBody st) t ∧ t { nx := fun _ H' => Q .non H', rt := Q } (L2.start N vs) H) : FnH P w K mg base CX0 (k + 1) f fd ps sp := by
  obtain ⟨oc, od, kV, doc, pm, an, cdv, ct, osl, rfl, lk, hcd⟩ := F.ex
  exact fn_ofH lk hcd S len fun A outer s H vs Q E p h1 hr hsp => hbody cdv A outer s H vs Q E p h1 hr hsp
variable (P w K mg base)
structure DefH (k : Nat) (x : Str) (ps : List Str) (sp : Sp) : Prop where
  ex : ∃ f fd, mg x = some (.ref f) ∧ PySem.W.keepIn K (.ref f) = true ∧ Binds K fd ps [] ∧ FnH P w K mg base CX0 k f fd ps sp
end
section
variable {X : Cx} {k : Nat} {ps : List Str} {sp : Sp} {x : Str} {p pos : Pos} {e : Expr} {es : List Expr} {t : TA}
theorem pe_callHD (h : DefH X.prog X.w X.K X.mg X.base k x ps sp) (hr : RoomH k X.A) (hc : HotC X) (ha : PA X (e :: es) t) (hg : Gl X x := by rfl) (hdb : (x == ("__debug__" : Str)) = false := by decide)
    (he : starEach (e :: es) X.env = (false, eval e X.env) :: starEach es X.env := by rfl) (hpl : (backTo pos (starEach es X.env)).any (·.1) = false := by rfl) : PE X (.Call (.Name x p) (e :: es) [] pos) (tCallS sp (fun _ => E0) t) := by
  obtain ⟨f, fd, hm, hk, hb, F⟩ := h.ex
  exact pe_callH F hr hc hg hm hk hb (fun σ pins H s e s' I hq => pass0 (X := X) pins σ H s e s' I hq) ha hdb he hpl
end
section
variable {ω : Type} {K : PySem.W.Frag} {O : OI ω} {G : Hp} {ta : TA} {σ : L2.St} {R : List (D ω) → D ω → Prop} {ds : List (D ω)} {d : D ω}
theorem ed_callSD (h : EvDA K O ta σ G ds) (r : R ds d) : EvD K O (tCallS (SpD K O R) (fun _ => E0) ta) σ G d := fun H1 e Q k =>
  h H1 e _ fun vs G2 H2 l as => ⟨G2, ds, d, l.e, as, r, fun v G3 H3 l3 a3 => k v G3 H3 (l.trans l3) a3⟩
end
end SR
set_option maxRecDepth 100000
set_option maxHeartbeats 4000000
namespace SR
open PySem PySem.Spec PyProof.Rows L2 Evl HotX L2H
/-! ### _law_frozen, while an exception is handled too -/
section
variable {ω : Type}
mutual
def frz : D ω → D ω
  | .lst l => .tup (frzL l)
  | .tup l => .tup (frzL l)
  | d => d
def frzL : List (D ω) → List (D ω)
  | [] => []
  | d :: l => frz d :: frzL l
end
theorem frzL_map : ∀ {l : List (D ω)}, frzL l = l.map frz
  | [] => rfl
  | d :: l => by
    show frz d :: frzL l = _
    rw [frzL_map]
    rfl
def rFrz (n : Nat) : List (D ω) → D ω → Prop := fun ds r => ∃ d, ds = [d] ∧ dep d < n ∧ allOk d = true ∧ r = frz d
theorem frz_flat {d : D ω} (h : dSeq d = false) : frz d = d := by
  cases d <;> first | rfl | cases h
theorem frz_seq {d : D ω} {n : Nat} (h : dSeq d = true) (hd : dep d < n + 1) (ho : allOk d = true) : ∃ l : List (D ω), (d = .lst l ∨ d = .tup l) ∧ l.length ≤ 30000 ∧ frz d = .tup (l.map frz) ∧ ∀ c ∈ l, dep c < n ∧ allOk c = true := by
  have key : ∀ l : List (D ω), depL l + 1 < n + 1 → allOkL l = true → ∀ c ∈ l, dep c < n ∧ allOk c = true := fun l h1 h2 c hc => by
    have := depL_le hc
    exact ⟨by omega, allOkL_mem h2 hc⟩
  cases d with
  | lst l =>
    simp only [allOk, Bool.and_eq_true] at ho
    exact ⟨l, Or.inl rfl, of_decide_eq_true ho.1, by rw [← frzL_map]; rfl, key l hd ho.2⟩
  | tup l =>
    simp only [allOk, Bool.and_eq_true] at ho
    exact ⟨l, Or.inr rfl, of_decide_eq_true ho.1, by rw [← frzL_map]; rfl, key l hd ho.2⟩
  | _ => cases h
end
section
variable {P : Program} {w : World} {K : PySem.W.Frag} {mg : Str → Option Value} {base : Heap} {ω : Type} {O : OI ω} {Ty : ω → Value}
theorem ed_ifF {G : Hp} {σ : L2.St} {t : TT} {ta tb : TE} {d : D ω} {b : Bool} (h : EvT t σ G b) (h1 : b = true → EvD K O ta σ G d) (h2 : b = false → EvD K O tb σ G d) : EvD K O (tIf t ta tb) σ G d := fun H1 e Q k => h H1 e _ fun H2 e2 => by
  have l : Le G H1 G H2 := Le.heap e e2
  cases b with
  | true => exact h1 rfl H2 (e.trans e2) _ fun v G3 H3 l3 a3 => k v G3 H3 (l.trans l3) a3
  | false => exact h2 rfl H2 (e.trans e2) _ fun v G3 H3 l3 a3 => k v G3 H3 (l.trans l3) a3
theorem src_seq {tl : TE} {σ : L2.St} {G : Hp} {d : D ω} {l : List (D ω)} (h : EvD K O tl σ G d) (hd : d = .lst l ∨ d = .tup l) : Src K O (fun σ H R => iList K tl σ H R ∨ iTup K tl σ H R) σ G l := by
  rcases hd with rfl | rfl
  · exact src_or1 (src_list h)
  · exact src_or2 (src_tup h)
abbrev _law_frozen_S : Stmt := topS 58
abbrev _law_frozen_N : List Str := ["_law_thing", "_law_part"]
theorem _law_frozen_sc : FnScope _law_frozen_N ["_law_thing"] (defScope _law_frozen_S) := ⟨rfl, rfl, rfl, by decide +kernel, rfl, by decide +kernel, by decide +kernel⟩
theorem ok_frozen {f : Addr} {fd : FuncData} (F : Fun K "_law_frozen" "_law_frozen" _law_frozen_S f fd) (B : Bi mg) (OK : OT K O Ty) (hm : mg "_law_frozen" = some (.ref f)) (hb : Binds K fd ["_law_thing"] []) : ∀ n, FnOk P w K mg base CX0 n f fd ["_law_thing"] (SpD K O (rFrz n))
  | 0 => ⟨fun vs H Q E h => (by obtain ⟨G, ds, d, e, as, ⟨d0, _, h1, _⟩, k⟩ := h; exact absurd h1 (Nat.not_lt_zero _)), fun A outer s H args us vs Q E hr he hb hv h => (by obtain ⟨G, ds, d, e, as, ⟨d0, _, h1, _⟩, k⟩ := h; exact absurd h1 (Nat.not_lt_zero _))⟩
  | n + 1 => by
    have h__law_frozen : DefOk P w K mg base n "_law_frozen" ["_law_thing"] (SpD K O (rFrz n)) := defOk F hm (ok_frozen F B OK hm hb n) hb
    refine F.ok _law_frozen_sc (fun vs H Q E h => ?_) (fun cdv A outer s0 H vs Q E hr h => ?_)
    · obtain ⟨G, ds, d, e, as, ⟨d0, rfl, _⟩, k⟩ := h
      exact as.len
    · obtain ⟨G, ds, d, e, as, ⟨d0, rfl, hdep, hok, rfl⟩, k⟩ := h
      obtain ⟨v, r, rfl, a, nn⟩ := atL_cons.mp as
      obtain rfl := atL_nil.mp nn
      refine ⟨_, (pss_one (ps_ret (pe_ifExp (pt_val (pe_callB (call_isiTK K) (by rfl) B.isinstance (by decide +kernel) (pa_cons (pv 0) (pa_cons (pe_tup (pa_cons (pe_bltn (v := .ty "list") (by rfl) B.list (by decide +kernel) rfl) (pa_cons (pe_bltn (v := .ty "tuple") (by rfl) B.tuple (by decide +kernel) rfl) pa_nil))) pa_nil)))) (pe_callTy call_tupleF (by rfl) B.tuple (by decide +kernel) (pa_cons (pe_lc (own := [("_law_part", 1)]) rfl _law_frozen_sc.nd (pi_or (pi_list (pv 0)) (pi_tup (pv 0))) (blkOk_by (N := _law_frozen_N) (sc := defScope _law_frozen_S) (by decide +kernel)) (fun _ _ _ _ _ => (pg_name (i := 1) _law_frozen_sc.nd rfl (Or.inl rfl))) (fun _ _ _ _ _ => pts_nil) (fun _ _ _ _ _ => by exact (pe_callD h__law_frozen (hr.mono (by first | decide | exact Nat.le_refl _)) (pa_cons (pv 1) pa_nil)))) pa_nil)) (pv 0)))), ?_⟩
      have h0 : EvD K O (tVar 0) [some v, none] G d0 := ed_var rfl a
      refine s_retD (d := frz d0) (ed_ifF (b := dSeq d0) (et_B (isi_seq OK h0)) (fun hs => ?_) fun hs => by rw [frz_flat hs]; exact h0) e k
      obtain ⟨l, hl, hz, e9, hm9⟩ := frz_seq hs hdep hok
      rw [e9]
      refine ed_tupleF ?_
      rw [show l.map frz = (l.filter fun _ => true).map frz by rw [List.filter_eq_self.mpr fun _ _ => rfl]]
      refine ed_lc (fun _ => true) frz (src_seq h0 hl) (by omega) ?_
      intro i d' x Gj Hj hd' eg eh ad' Q' hQ'
      obtain ⟨q1, q2⟩ := hm9 d' (List.mem_of_getElem? hd')
      exact hQ' _ Hj (Ex.refl _) rfl et_yes fun _ => (ed_call (eda_cons (ed_var (i := 1) rfl ad') eda_nil) ⟨d', rfl, q1, q2, rfl⟩)
theorem ok_frozenH {f : Addr} {fd : FuncData} (F : Fun K "_law_frozen" "_law_frozen" _law_frozen_S f fd) (B : Bi mg) (OK : OT K O Ty) (hm : mg "_law_frozen" = some (.ref f)) (hb : Binds K fd ["_law_thing"] []) : ∀ n, FnH P w K mg base CX0 n f fd ["_law_thing"] (SpD K O (rFrz n))
  | 0 => ⟨fun vs H Q E h => (by obtain ⟨G, ds, d, e, as, ⟨d0, _, h1, _⟩, k⟩ := h; exact absurd h1 (Nat.not_lt_zero _)), fun A outer s H args us vs Q E p hr h1 hp he hb hv h => (by obtain ⟨G, ds, d, e, as, ⟨d0, _, h1, _⟩, k⟩ := h; exact absurd h1 (Nat.not_lt_zero _))⟩
  | n + 1 => by
    have h__law_frozen : DefH P w K mg base n "_law_frozen" ["_law_thing"] (SpD K O (rFrz n)) := ⟨f, fd, hm, F.kp, hb, ok_frozenH F B OK hm hb n⟩
    refine fun_okH F _law_frozen_sc (fun vs H Q E h => ?_) (fun cdv A outer s0 H vs Q E p hp hr h => ?_)
    · obtain ⟨G, ds, d, e, as, ⟨d0, rfl, _⟩, k⟩ := h
      exact as.len
    · obtain ⟨G, ds, d, e, as, ⟨d0, rfl, hdep, hok, rfl⟩, k⟩ := h
      obtain ⟨v, r, rfl, a, nn⟩ := atL_cons.mp as
      obtain rfl := atL_nil.mp nn
      refine ⟨_, (pss_one (ps_ret (pe_ifExp (pt_val (pe_callB (call_isiTK K) (by rfl) B.isinstance (by decide +kernel) (pa_cons (pv 0) (pa_cons (pe_tup (pa_cons (pe_bltn (v := .ty "list") (by rfl) B.list (by decide +kernel) rfl) (pa_cons (pe_bltn (v := .ty "tuple") (by rfl) B.tuple (by decide +kernel) rfl) pa_nil))) pa_nil)))) (pe_callTy call_tupleF (by rfl) B.tuple (by decide +kernel) (pa_cons (pe_lcH (own := [("_law_part", 1)]) (p := p) (List.mem_singleton.mpr rfl) hp _law_frozen_sc.nd (pi_orH (pi_listH (pv 0)) (pi_tupH (pv 0))) (blkOk_by (N := _law_frozen_N) (sc := defScope _law_frozen_S) (by decide +kernel)) (fun _ _ _ _ _ => (pg_name (i := 1) _law_frozen_sc.nd rfl (Or.inl rfl))) (fun _ _ _ _ _ => by exact (pe_callHD h__law_frozen hr ⟨p, hp, List.mem_singleton.mpr rfl⟩ (pa_cons (pv 1) pa_nil)))) pa_nil)) (pv 0)))), ?_⟩
      have h0 : EvD K O (tVar 0) [some v, none] G d0 := ed_var rfl a
      refine s_retD (d := frz d0) (ed_ifF (b := dSeq d0) (et_B (isi_seq OK h0)) (fun hs => ?_) fun hs => by rw [frz_flat hs]; exact h0) e k
      obtain ⟨l, hl, hz, e9, hm9⟩ := frz_seq hs hdep hok
      rw [e9]
      refine ed_tupleF ?_
      rw [show l.map frz = (l.filter fun _ => true).map frz by rw [List.filter_eq_self.mpr fun _ _ => rfl]]
      refine ed_lc (fun _ => true) frz (src_seq h0 hl) (by omega) ?_
      intro i d' x Gj Hj hd' eg eh ad' Q' hQ'
      obtain ⟨q1, q2⟩ := hm9 d' (List.mem_of_getElem? hd')
      exact hQ' _ Hj (Ex.refl _) rfl et_yes fun _ => (ed_callSD (eda_cons (ed_var (i := 1) rfl ad') eda_nil) ⟨d', rfl, q1, q2, rfl⟩)
end
end SR
set_option maxRecDepth 100000
set_option maxHeartbeats 4000000
/-! try with several clauses «except X». -/
namespace SR
open PySem PySem.Spec PyProof.Rows L2
abbrev ClauseB := Value × (Addr → Value → Option Addr → TS)
def wAllB (K : PySem.W.Frag) (Wo : WX) (D : Ends) : List ClauseB → WX
  | [] => Wo
  | q :: r => fun cls d z K1 => ∃ y, PySem.W.exmOne K cls q.1 = some y ∧ (y = true → ∀ a, K1 a = none → q.2 a cls d D z K1) ∧ (y = false → wAllB K Wo D r cls d z K1)
inductive ClausesB (X : Cx) : List ExceptHandler → List ClauseB → Prop
  | nil : ClausesB X [] []
  | cons {x : Str} {c : Value} {ts : Addr → Value → Option Addr → TS} {b0 : Stmt} {suite : List Stmt} {np p : Pos} {hds : List ExceptHandler} {l : List ClauseB} (hc : Names X x c)
      (hsu : ∀ (a : Addr) (oe : Obj) (cls : Value) (d : Option Addr) (pn : List (Addr × Obj)), Zc cls d oe → (∃ vs, oe.data = .fields vs) → PSs (X.suite a ((a, oe) :: pn)) (b0 :: suite) (ts a cls d)) (r : ClausesB X hds l) :
      ClausesB X (.ExceptHandler (some (.Name x np)) none (b0 :: suite) p :: hds) ((c, ts) :: l)
section
variable {X : Cx} {pins : List (Addr × Obj)} {σ : L2.St} {H : Hp} {D : Ends} {Wo : WX}
section
variable {B h3 : Heap} {sI s' : Shared} {a : Addr} {cls : Value} {d : Option Addr}
theorem Caught.allB {hds : List ExceptHandler} {l : List ClauseB} (k : ClausesB X hds l) (c : Caught X pins σ H B sI s' a cls d h3) (ok : X.Ok) (hs : X.stack = X.env :: X.outer) (hf : X.env.frame = some X.env.locals) (tk : Takes X Wo)
    (w : wAllB X.K Wo D l cls d σ H) : wpAny (model X.prog X.w) X.A (handleBy (.ref a) X.env hds) (SP X pins D) X.xe { s' with heap := h3 } := by
  induction k with
  | nil => exact c.on hs hf tk w
  | @cons x ce ts b0 suite np p hds' l' hc hsu r ih =>
    obtain ⟨y, hy, w1, w0⟩ := w
    obtain ⟨oe, g1, g2, g3, S3⟩ := c.inSuite hs hf
    have ty : PySem.W.Looks (model X.prog X.w) h3 (typeOf (.ref a)) cls := by
      intro A Q E s k q
      refine wpAny_typeOf_ref (k _ _ g1) ?_
      rw [g2.1]
      exact q
    have fits := PySem.W.exm_one (M := model X.prog X.w) c.inv.kIn ty hy
    have name : ∀ {Q E : Value → Shared → Prop}, Q ce { s' with heap := h3 } → wpAny (model X.prog X.w) (X.A.mark (some (.ref a))) (eval (.Name x np) X.env) Q E { s' with heap := h3 } := by
      intro Q E q
      obtain ⟨m1, m2, m3⟩ := hc
      rcases m3 with m3 | ⟨m3, m4, m5⟩
      · exact ld_glob (X := X.suite a ((a, oe) :: (X.pn ++ pins))) S3 m1 m3 q m2
      · exact ld_blt (X := X.suite a ((a, oe) :: (X.pn ++ pins))) S3 m1 m3 m4 q m5 m2
    apply wpAny_handleBy_cons (codeAny_handlers_test ?_) (by intro q; cases q)
    apply name
    apply fits.here
    cases y with
    | false => exact ih (w0 rfl)
    | true =>
      apply codeAny_handlers_suite
      refine HandSPX.lands_againZ c.fl fun h4 fly up4 => ?_
      have c4 : Caught X pins σ H B sI s' a cls d h4 := ⟨c.J, c.nb, c.up.trans up4, c.os, c.ag, c.na, fly⟩
      obtain ⟨o4, k1, k2, k3, S4⟩ := c4.inSuite hs hf
      refine wpAny_mono ((hsu a o4 cls d (X.pn ++ pins) k2 k3).run [] _ _ H _ S4 (w1 rfl a c.na)) ?_ fun _ _ z => z.elim
      intro f s6 q6
      cases f with
      | ret u =>
        obtain ⟨v6, z, K1, S6, r6, q6⟩ := q6
        exact ⟨v6, z, K1, S6.unsuite ok, r6, q6⟩
      | next =>
        obtain ⟨z, K1, S6, q6⟩ := q6
        exact ⟨z, K1, S6.unsuite ok, q6⟩
      | brk =>
        obtain ⟨z, K1, S6, q6⟩ := q6
        exact ⟨z, K1, S6.unsuite ok, q6⟩
      | cont =>
        obtain ⟨z, K1, S6, q6⟩ := q6
        exact ⟨z, K1, S6.unsuite ok, q6⟩
end
variable {body : List Stmt} {h0 : ExceptHandler} {hds : List ExceptHandler} {l : List ClauseB} {pos : Pos} {tb : WX → TS}
/-- try: body / except x: .. / except y: .. -/
theorem ps_try_allB (hs : X.stack = X.env :: X.outer) (hf : X.env.frame = some X.env.locals) (tk : Takes X Wo)
    (hb : ∀ (W : WX) (pn : List (Addr × Obj)) (xe : Value → Shared → Prop), Takes (X.tr pn xe) W → PassesOwn (model X.prog X.w) X.A X.env xe → PSs (X.tr pn xe) body (tb W)) (hh : ClausesB X (h0 :: hds) l) :
    PS X (.Try body (h0 :: hds) [] [] pos) (fun D σ H => tb (wAllB X.K Wo D l) D σ H) := by
  constructor
  intro pins s σ H D I h
  have ok := I.ok
  have fr : X.A.frames = some (X.env :: X.outer) := ok.frames.trans (congrArg some hs)
  let xe' : Value → Shared → Prop := fun e s1 => wpAny (model X.prog X.w) X.A (noteFrame e X.env) (fun _ s2 => wpAny (model X.prog X.w) X.A (setFlight e none) (fun _ s3 => wpAny (model X.prog X.w) X.A (handleBy e X.env (h0 :: hds)) (SP X pins D) X.xe s3) X.xe s2) X.xe s1
  have tk' : Takes (X.tr (X.pn ++ pins) xe') (wAllB X.K Wo D l) := by
    rintro u s' ⟨a, B, sI, pins', z, K1, cls, d, rfl, J', nb, up, sky, na, os, ag, w⟩
    have J : Inv X pins z K1 sI := J'.ofTry ok
    have sky' : Sky B (X.env :: X.outer) a (Zc cls d) X.env.locals s'.heap := hs ▸ sky
    show wpAny (model X.prog X.w) X.A (noteFrame (.ref a) X.env) _ _ _
    refine Sky.land Zc.steady fr hf sky' fun h3 fly up3 => ?_
    have c : Caught X pins z K1 B sI s' a cls d h3 := ⟨J, nb, up.trans up3, os, ag, na, fly⟩
    exact c.allB hh ok hs hf tk w
  apply wpAny_Try_except
  refine wpAny_mono ((hb _ (X.pn ++ pins) xe' tk' PassesOwn.looking).run [] s σ H D (I.toTry _) h) ?_ fun _ _ z => z
  intro f s1 q
  cases f with
  | next =>
    obtain ⟨z, K1, J', q⟩ := q
    exact wpAny_execs_nil ⟨z, K1, J'.ofTry ok, q⟩
  | ret u =>
    obtain ⟨v, z, K1, J', r, q⟩ := q
    exact ⟨v, z, K1, J'.ofTry ok, r, q⟩
  | brk =>
    obtain ⟨z, K1, J', q⟩ := q
    exact ⟨z, K1, J'.ofTry ok, q⟩
  | cont =>
    obtain ⟨z, K1, J', q⟩ := q
    exact ⟨z, K1, J'.ofTry ok, q⟩
end
end SR
set_option maxRecDepth 100000
set_option maxHeartbeats 4000000
/-! try with several clauses, with «as» or without. -/
namespace SR
open PySem PySem.Spec PyProof.Rows L2
/-- a suite whose name is bound to the error, and gone behind it -/
def asTS (i : Nat) (ts : Addr → Value → Option Addr → TS) : Addr → Value → Option Addr → TS := fun a cls d D z K1 =>
  ts a cls d { nx := fun σ' H' => D.nx (σ'.set i none) H', rt := D.rt, bk := fun σ' H' => D.bk (σ'.set i none) H', ct := fun σ' H' => D.ct (σ'.set i none) H' } (z.set i (some (.ref a))) K1
inductive ClausesC (X : Cx) : List ExceptHandler → List ClauseB → Prop
  | nil : ClausesC X [] []
  | cons {x : Str} {c : Value} {ts : Addr → Value → Option Addr → TS} {b0 : Stmt} {suite : List Stmt} {np p : Pos} {hds : List ExceptHandler} {l : List ClauseB} (hc : Names X x c)
      (hsu : ∀ (a : Addr) (oe : Obj) (cls : Value) (d : Option Addr) (pn : List (Addr × Obj)), Zc cls d oe → (∃ vs, oe.data = .fields vs) → PSs (X.suite a ((a, oe) :: pn)) (b0 :: suite) (ts a cls d)) (r : ClausesC X hds l) :
      ClausesC X (.ExceptHandler (some (.Name x np)) none (b0 :: suite) p :: hds) ((c, ts) :: l)
  | as_ {x n : Str} {i : Nat} {c : Value} {ts : Addr → Value → Option Addr → TS} {b0 : Stmt} {suite : List Stmt} {np p : Pos} {hds : List ExceptHandler} {l : List ClauseB} (hc : Names X x c) (hN : X.N.Nodup) (hi : X.N[i]? = some n) (hln : X.env.kindOf n = some .local)
      (hsu : ∀ (a : Addr) (oe : Obj) (cls : Value) (d : Option Addr) (pn : List (Addr × Obj)), Zc cls d oe → (∃ vs, oe.data = .fields vs) → PSs (X.suite a ((a, oe) :: pn)) (b0 :: suite) (ts a cls d)) (r : ClausesC X hds l) :
      ClausesC X (.ExceptHandler (some (.Name x np)) (some n) (b0 :: suite) p :: hds) ((c, asTS i ts) :: l)
section
variable {X : Cx} {pins : List (Addr × Obj)} {σ : L2.St} {H : Hp} {D : Ends} {Wo : WX}
section
variable {B h3 : Heap} {sI s' : Shared} {a : Addr} {cls : Value} {d : Option Addr}
theorem Caught.allC {hds : List ExceptHandler} {l : List ClauseB} (k : ClausesC X hds l) (c : Caught X pins σ H B sI s' a cls d h3) (ok : X.Ok) (hs : X.stack = X.env :: X.outer) (hf : X.env.frame = some X.env.locals) (tk : Takes X Wo)
    (w : wAllB X.K Wo D l cls d σ H) : wpAny (model X.prog X.w) X.A (handleBy (.ref a) X.env hds) (SP X pins D) X.xe { s' with heap := h3 } := by
  induction k with
  | nil => exact c.on hs hf tk w
  | @cons x ce ts b0 suite np p hds' l' hc hsu r ih =>
    obtain ⟨y, hy, w1, w0⟩ := w
    obtain ⟨oe, g1, g2, g3, S3⟩ := c.inSuite hs hf
    have ty : PySem.W.Looks (model X.prog X.w) h3 (typeOf (.ref a)) cls := by
      intro A Q E s k q
      refine wpAny_typeOf_ref (k _ _ g1) ?_
      rw [g2.1]
      exact q
    have fits := PySem.W.exm_one (M := model X.prog X.w) c.inv.kIn ty hy
    have name : ∀ {Q E : Value → Shared → Prop}, Q ce { s' with heap := h3 } → wpAny (model X.prog X.w) (X.A.mark (some (.ref a))) (eval (.Name x np) X.env) Q E { s' with heap := h3 } := by
      intro Q E q
      obtain ⟨m1, m2, m3⟩ := hc
      rcases m3 with m3 | ⟨m3, m4, m5⟩
      · exact ld_glob (X := X.suite a ((a, oe) :: (X.pn ++ pins))) S3 m1 m3 q m2
      · exact ld_blt (X := X.suite a ((a, oe) :: (X.pn ++ pins))) S3 m1 m3 m4 q m5 m2
    apply wpAny_handleBy_cons (codeAny_handlers_test ?_) (by intro q; cases q)
    apply name
    apply fits.here
    cases y with
    | false => exact ih (w0 rfl)
    | true =>
      apply codeAny_handlers_suite
      refine HandSPX.lands_againZ c.fl fun h4 fly up4 => ?_
      have c4 : Caught X pins σ H B sI s' a cls d h4 := ⟨c.J, c.nb, c.up.trans up4, c.os, c.ag, c.na, fly⟩
      obtain ⟨o4, k1, k2, k3, S4⟩ := c4.inSuite hs hf
      refine wpAny_mono ((hsu a o4 cls d (X.pn ++ pins) k2 k3).run [] _ _ H _ S4 (w1 rfl a c.na)) ?_ fun _ _ z => z.elim
      intro f s6 q6
      cases f with
      | ret u =>
        obtain ⟨v6, z, K1, S6, r6, q6⟩ := q6
        exact ⟨v6, z, K1, S6.unsuite ok, r6, q6⟩
      | next =>
        obtain ⟨z, K1, S6, q6⟩ := q6
        exact ⟨z, K1, S6.unsuite ok, q6⟩
      | brk =>
        obtain ⟨z, K1, S6, q6⟩ := q6
        exact ⟨z, K1, S6.unsuite ok, q6⟩
      | cont =>
        obtain ⟨z, K1, S6, q6⟩ := q6
        exact ⟨z, K1, S6.unsuite ok, q6⟩
  | @as_ x n i ce ts b0 suite np p hds' l' hc hN hi hln hsu r ih =>
    obtain ⟨y, hy, w1, w0⟩ := w
    obtain ⟨oe, g1, g2, g3, S3⟩ := c.inSuite hs hf
    have ty : PySem.W.Looks (model X.prog X.w) h3 (typeOf (.ref a)) cls := by
      intro A Q E s k q
      refine wpAny_typeOf_ref (k _ _ g1) ?_
      rw [g2.1]
      exact q
    have fits := PySem.W.exm_one (M := model X.prog X.w) c.inv.kIn ty hy
    have name : ∀ {Q E : Value → Shared → Prop}, Q ce { s' with heap := h3 } → wpAny (model X.prog X.w) (X.A.mark (some (.ref a))) (eval (.Name x np) X.env) Q E { s' with heap := h3 } := by
      intro Q E q
      obtain ⟨m1, m2, m3⟩ := hc
      rcases m3 with m3 | ⟨m3, m4, m5⟩
      · exact ld_glob (X := X.suite a ((a, oe) :: (X.pn ++ pins))) S3 m1 m3 q m2
      · exact ld_blt (X := X.suite a ((a, oe) :: (X.pn ++ pins))) S3 m1 m3 m4 q m5 m2
    apply wpAny_handleBy_cons (codeAny_handlers_test ?_) (by intro q; cases q)
    apply name
    apply fits.here
    cases y with
    | false => exact ih (w0 rfl)
    | true =>
      apply codeAny_handlers_suite_as
      refine HandSPX.lands_againZ c.fl fun h4 fly up4 => ?_
      have c4 : Caught X pins σ H B sI s' a cls d h4 := ⟨c.J, c.nb, c.up.trans up4, c.os, c.ag, c.na, fly⟩
      obtain ⟨o4, k1, k2, k3, S4⟩ := c4.inSuite hs hf
      refine store_ok (X := X.suite a ((a, o4) :: (X.pn ++ pins))) (v := .ref a) S4 hN hi (.inl hln) rfl (fun s5 S5 => ?_) (.inr hln)
      refine wpAny_mono ((hsu a o4 cls d (X.pn ++ pins) k2 k3).run [] _ _ H _ S5 (w1 rfl a c.na)) ?_ fun _ _ z => z.elim
      intro f s6 q6
      have gone : ∀ {σ6 : L2.St} {H6 : Hp} {Q : Shared → Prop}, Inv (X.suite a ((a, o4) :: (X.pn ++ pins))) [] σ6 H6 s6 → (∀ s7, Inv X pins (σ6.set i none) H6 s7 → Q s7) →
          wpAny (model X.prog X.w) X.A (do bindName X.env n .none; unbindBehindTheSuite X.env n p) (fun _ s7 => Q s7) X.xe s6 := fun {σ6 H6 Q} S6 hq => gone_ok (S6.unsuite ok) hN hi hln hq
      cases f with
      | ret u =>
        obtain ⟨v6, z, K1, S6, r6, q6⟩ := q6
        exact gone S6 fun s7 J7 => ⟨_, _, _, J7, r6, q6⟩
      | next =>
        obtain ⟨z, K1, S6, q6⟩ := q6
        exact gone S6 fun s7 J7 => ⟨_, _, J7, q6⟩
      | brk =>
        obtain ⟨z, K1, S6, q6⟩ := q6
        exact gone S6 fun s7 J7 => ⟨_, _, J7, q6⟩
      | cont =>
        obtain ⟨z, K1, S6, q6⟩ := q6
        exact gone S6 fun s7 J7 => ⟨_, _, J7, q6⟩
end
variable {body : List Stmt} {h0 : ExceptHandler} {hds : List ExceptHandler} {l : List ClauseB} {pos : Pos} {tb : WX → TS}
/-- try: body / except x: .. / except y as n: .. -/
theorem ps_try_allC (hs : X.stack = X.env :: X.outer) (hf : X.env.frame = some X.env.locals) (tk : Takes X Wo)
    (hb : ∀ (W : WX) (pn : List (Addr × Obj)) (xe : Value → Shared → Prop), Takes (X.tr pn xe) W → PassesOwn (model X.prog X.w) X.A X.env xe → PSs (X.tr pn xe) body (tb W)) (hh : ClausesC X (h0 :: hds) l) :
    PS X (.Try body (h0 :: hds) [] [] pos) (fun D σ H => tb (wAllB X.K Wo D l) D σ H) := by
  constructor
  intro pins s σ H D I h
  have ok := I.ok
  have fr : X.A.frames = some (X.env :: X.outer) := ok.frames.trans (congrArg some hs)
  let xe' : Value → Shared → Prop := fun e s1 => wpAny (model X.prog X.w) X.A (noteFrame e X.env) (fun _ s2 => wpAny (model X.prog X.w) X.A (setFlight e none) (fun _ s3 => wpAny (model X.prog X.w) X.A (handleBy e X.env (h0 :: hds)) (SP X pins D) X.xe s3) X.xe s2) X.xe s1
  have tk' : Takes (X.tr (X.pn ++ pins) xe') (wAllB X.K Wo D l) := by
    rintro u s' ⟨a, B, sI, pins', z, K1, cls, d, rfl, J', nb, up, sky, na, os, ag, w⟩
    have J : Inv X pins z K1 sI := J'.ofTry ok
    have sky' : Sky B (X.env :: X.outer) a (Zc cls d) X.env.locals s'.heap := hs ▸ sky
    show wpAny (model X.prog X.w) X.A (noteFrame (.ref a) X.env) _ _ _
    refine Sky.land Zc.steady fr hf sky' fun h3 fly up3 => ?_
    have c : Caught X pins z K1 B sI s' a cls d h3 := ⟨J, nb, up.trans up3, os, ag, na, fly⟩
    exact c.allC hh ok hs hf tk w
  apply wpAny_Try_except
  refine wpAny_mono ((hb _ (X.pn ++ pins) xe' tk' PassesOwn.looking).run [] s σ H D (I.toTry _) h) ?_ fun _ _ z => z
  intro f s1 q
  cases f with
  | next =>
    obtain ⟨z, K1, J', q⟩ := q
    exact wpAny_execs_nil ⟨z, K1, J'.ofTry ok, q⟩
  | ret u =>
    obtain ⟨v, z, K1, J', r, q⟩ := q
    exact ⟨v, z, K1, J'.ofTry ok, r, q⟩
  | brk =>
    obtain ⟨z, K1, J', q⟩ := q
    exact ⟨z, K1, J'.ofTry ok, q⟩
  | cont =>
    obtain ⟨z, K1, J', q⟩ := q
    exact ⟨z, K1, J'.ofTry ok, q⟩
end
end SR
set_option maxRecDepth 100000
set_option maxHeartbeats 4000000
/-! try with several clauses: that the caught error has no context stays known. -/
namespace SR
open PySem PySem.Spec PyProof.Rows L2
section
variable {X : Cx} {pins : List (Addr × Obj)} {σ : L2.St} {H : Hp} {D : Ends} {Wo : WX}
structure CaughtN (X : Cx) (pins : List (Addr × Obj)) (σ : L2.St) (H : Hp) (B : Heap) (sI s' : Shared) (a : Addr) (cls : Value) (d : Option Addr) (h3 : Heap) : Prop where
  J : Inv X pins σ H sI
  nb : ∀ b o, sI.heap.get? b = some o → b ∉ frs X.stack → B.get? b = some o
  up : sI.heap.UpToSlots h3
  os : s'.os = sI.os
  ag : AllBare s'.gens
  na : H a = none
  fl : HandSPX.FlyingZ B (X.env :: X.outer) a (L2N.Zn cls d) h3
section
variable {B h3 : Heap} {sI s' : Shared} {a : Addr} {cls : Value} {d : Option Addr}
theorem CaughtN.inv (c : CaughtN X pins σ H B sI s' a cls d h3) : Inv X pins σ H { s' with heap := h3 } :=
  c.J.landed c.nb c.fl.1 c.up c.os c.ag
/-- .. as a suite sees it -/
theorem CaughtN.inSuite (c : CaughtN X pins σ H B sI s' a cls d h3) (hs : X.stack = X.env :: X.outer) (hf : X.env.frame = some X.env.locals) :
    ∃ oe, h3.get? a = some oe ∧ L2N.Zn cls d oe ∧ (∃ vs, oe.data = .fields vs) ∧ Inv (X.suite a ((a, oe) :: (X.pn ++ pins))) [] σ H { s' with heap := h3 } := by
  obtain ⟨oe, vs, g1, g2, g3⟩ := c.fl.there
  have out := fly_out c.fl
  have n1 : a ≠ X.env.locals := by
    intro z
    apply out
    rw [z]
    exact List.mem_filterMap.mpr ⟨X.env, List.mem_cons_self, hf⟩
  have n2 : a ∉ X.fs := by
    intro hm
    obtain ⟨y, hy, hz⟩ := List.mem_filterMap.mp hm
    exact out (List.mem_filterMap.mpr ⟨y, List.mem_cons_of_mem _ hy, hz⟩)
  exact ⟨oe, g1, g2, ⟨vs, g3⟩, c.inv.suite g1 g3 c.na n1 n2⟩
/-- no clause fits: it goes on -/
theorem CaughtN.on (c : CaughtN X pins σ H B sI s' a cls d h3) (hs : X.stack = X.env :: X.outer) (hf : X.env.frame = some X.env.locals) (tk : L2N.Takes X Wo) (w : Wo cls d σ H) :
    wpAny (model X.prog X.w) X.A (handleBy (.ref a) X.env []) (SP X pins D) X.xe { s' with heap := h3 } := by
  obtain ⟨_, _, _, oe, vs, T, oT, _, g1, g2, g3, g4, g5⟩ := id c.fl
  have go : wpAny (model X.prog X.w) X.A (setFlight (.ref a) X.env.frame) (fun _ u => wpAny (model X.prog X.w) X.A (throw (.ref a) : Sem Flow) (SP X pins D) X.xe u) X.xe { s' with heap := h3 } := by
    rw [hf]
    refine HandSPX.setFlight_upZ c.fl fun h4 fly up4 => ?_
    apply wpAny_throw
    refine tk _ _ ⟨a, B, sI, pins, σ, H, cls, d, rfl, c.J, c.nb, c.up.trans up4, Or.inr (Or.inr ?_), c.na, c.os, c.ag, w⟩
    rw [hs]
    exact fly
  apply wpAny_handleBy_nil
  unfold PySem.passOn
  apply wpAny_bind
  apply wpAny_field g1 g3 g4
  rw [if_neg (by simp)]
  first
    | exact wpAny_bind go
    | exact wpAny_bind (wpAny_pure (wpAny_bind go))
end
end
inductive ClausesN (X : Cx) : List ExceptHandler → List ClauseB → Prop
  | nil : ClausesN X [] []
  | cons {x : Str} {c : Value} {ts : Addr → Value → Option Addr → TS} {b0 : Stmt} {suite : List Stmt} {np p : Pos} {hds : List ExceptHandler} {l : List ClauseB} (hc : Names X x c)
      (hsu : ∀ (a : Addr) (oe : Obj) (cls : Value) (d : Option Addr) (pn : List (Addr × Obj)), L2N.Zn cls d oe → (∃ vs, oe.data = .fields vs) → PSs (X.suite a ((a, oe) :: pn)) (b0 :: suite) (ts a cls d)) (r : ClausesN X hds l) :
      ClausesN X (.ExceptHandler (some (.Name x np)) none (b0 :: suite) p :: hds) ((c, ts) :: l)
  | as_ {x n : Str} {i : Nat} {c : Value} {ts : Addr → Value → Option Addr → TS} {b0 : Stmt} {suite : List Stmt} {np p : Pos} {hds : List ExceptHandler} {l : List ClauseB} (hc : Names X x c) (hN : X.N.Nodup) (hi : X.N[i]? = some n) (hln : X.env.kindOf n = some .local)
      (hsu : ∀ (a : Addr) (oe : Obj) (cls : Value) (d : Option Addr) (pn : List (Addr × Obj)), L2N.Zn cls d oe → (∃ vs, oe.data = .fields vs) → PSs (X.suite a ((a, oe) :: pn)) (b0 :: suite) (ts a cls d)) (r : ClausesN X hds l) :
      ClausesN X (.ExceptHandler (some (.Name x np)) (some n) (b0 :: suite) p :: hds) ((c, asTS i ts) :: l)
section
variable {X : Cx} {pins : List (Addr × Obj)} {σ : L2.St} {H : Hp} {D : Ends} {Wo : WX}
section
variable {B h3 : Heap} {sI s' : Shared} {a : Addr} {cls : Value} {d : Option Addr}
theorem CaughtN.allN {hds : List ExceptHandler} {l : List ClauseB} (k : ClausesN X hds l) (c : CaughtN X pins σ H B sI s' a cls d h3) (ok : X.Ok) (hs : X.stack = X.env :: X.outer) (hf : X.env.frame = some X.env.locals) (tk : L2N.Takes X Wo)
    (w : wAllB X.K Wo D l cls d σ H) : wpAny (model X.prog X.w) X.A (handleBy (.ref a) X.env hds) (SP X pins D) X.xe { s' with heap := h3 } := by
  induction k with
  | nil => exact c.on hs hf tk w
  | @cons x ce ts b0 suite np p hds' l' hc hsu r ih =>
    obtain ⟨y, hy, w1, w0⟩ := w
    obtain ⟨oe, g1, g2, g3, S3⟩ := c.inSuite hs hf
    have ty : PySem.W.Looks (model X.prog X.w) h3 (typeOf (.ref a)) cls := by
      intro A Q E s k q
      refine wpAny_typeOf_ref (k _ _ g1) ?_
      rw [g2.1]
      exact q
    have fits := PySem.W.exm_one (M := model X.prog X.w) c.inv.kIn ty hy
    have name : ∀ {Q E : Value → Shared → Prop}, Q ce { s' with heap := h3 } → wpAny (model X.prog X.w) (X.A.mark (some (.ref a))) (eval (.Name x np) X.env) Q E { s' with heap := h3 } := by
      intro Q E q
      obtain ⟨m1, m2, m3⟩ := hc
      rcases m3 with m3 | ⟨m3, m4, m5⟩
      · exact ld_glob (X := X.suite a ((a, oe) :: (X.pn ++ pins))) S3 m1 m3 q m2
      · exact ld_blt (X := X.suite a ((a, oe) :: (X.pn ++ pins))) S3 m1 m3 m4 q m5 m2
    apply wpAny_handleBy_cons (codeAny_handlers_test ?_) (by intro q; cases q)
    apply name
    apply fits.here
    cases y with
    | false => exact ih (w0 rfl)
    | true =>
      apply codeAny_handlers_suite
      refine HandSPX.lands_againZ c.fl fun h4 fly up4 => ?_
      have c4 : CaughtN X pins σ H B sI s' a cls d h4 := ⟨c.J, c.nb, c.up.trans up4, c.os, c.ag, c.na, fly⟩
      obtain ⟨o4, k1, k2, k3, S4⟩ := c4.inSuite hs hf
      refine wpAny_mono ((hsu a o4 cls d (X.pn ++ pins) k2 k3).run [] _ _ H _ S4 (w1 rfl a c.na)) ?_ fun _ _ z => z.elim
      intro f s6 q6
      cases f with
      | ret u =>
        obtain ⟨v6, z, K1, S6, r6, q6⟩ := q6
        exact ⟨v6, z, K1, S6.unsuite ok, r6, q6⟩
      | next =>
        obtain ⟨z, K1, S6, q6⟩ := q6
        exact ⟨z, K1, S6.unsuite ok, q6⟩
      | brk =>
        obtain ⟨z, K1, S6, q6⟩ := q6
        exact ⟨z, K1, S6.unsuite ok, q6⟩
      | cont =>
        obtain ⟨z, K1, S6, q6⟩ := q6
        exact ⟨z, K1, S6.unsuite ok, q6⟩
  | @as_ x n i ce ts b0 suite np p hds' l' hc hN hi hln hsu r ih =>
    obtain ⟨y, hy, w1, w0⟩ := w
    obtain ⟨oe, g1, g2, g3, S3⟩ := c.inSuite hs hf
    have ty : PySem.W.Looks (model X.prog X.w) h3 (typeOf (.ref a)) cls := by
      intro A Q E s k q
      refine wpAny_typeOf_ref (k _ _ g1) ?_
      rw [g2.1]
      exact q
    have fits := PySem.W.exm_one (M := model X.prog X.w) c.inv.kIn ty hy
    have name : ∀ {Q E : Value → Shared → Prop}, Q ce { s' with heap := h3 } → wpAny (model X.prog X.w) (X.A.mark (some (.ref a))) (eval (.Name x np) X.env) Q E { s' with heap := h3 } := by
      intro Q E q
      obtain ⟨m1, m2, m3⟩ := hc
      rcases m3 with m3 | ⟨m3, m4, m5⟩
      · exact ld_glob (X := X.suite a ((a, oe) :: (X.pn ++ pins))) S3 m1 m3 q m2
      · exact ld_blt (X := X.suite a ((a, oe) :: (X.pn ++ pins))) S3 m1 m3 m4 q m5 m2
    apply wpAny_handleBy_cons (codeAny_handlers_test ?_) (by intro q; cases q)
    apply name
    apply fits.here
    cases y with
    | false => exact ih (w0 rfl)
    | true =>
      apply codeAny_handlers_suite_as
      refine HandSPX.lands_againZ c.fl fun h4 fly up4 => ?_
      have c4 : CaughtN X pins σ H B sI s' a cls d h4 := ⟨c.J, c.nb, c.up.trans up4, c.os, c.ag, c.na, fly⟩
      obtain ⟨o4, k1, k2, k3, S4⟩ := c4.inSuite hs hf
      refine store_ok (X := X.suite a ((a, o4) :: (X.pn ++ pins))) (v := .ref a) S4 hN hi (.inl hln) rfl (fun s5 S5 => ?_) (.inr hln)
      refine wpAny_mono ((hsu a o4 cls d (X.pn ++ pins) k2 k3).run [] _ _ H _ S5 (w1 rfl a c.na)) ?_ fun _ _ z => z.elim
      intro f s6 q6
      have gone : ∀ {σ6 : L2.St} {H6 : Hp} {Q : Shared → Prop}, Inv (X.suite a ((a, o4) :: (X.pn ++ pins))) [] σ6 H6 s6 → (∀ s7, Inv X pins (σ6.set i none) H6 s7 → Q s7) →
          wpAny (model X.prog X.w) X.A (do bindName X.env n .none; unbindBehindTheSuite X.env n p) (fun _ s7 => Q s7) X.xe s6 := fun {σ6 H6 Q} S6 hq => gone_ok (S6.unsuite ok) hN hi hln hq
      cases f with
      | ret u =>
        obtain ⟨v6, z, K1, S6, r6, q6⟩ := q6
        exact gone S6 fun s7 J7 => ⟨_, _, _, J7, r6, q6⟩
      | next =>
        obtain ⟨z, K1, S6, q6⟩ := q6
        exact gone S6 fun s7 J7 => ⟨_, _, J7, q6⟩
      | brk =>
        obtain ⟨z, K1, S6, q6⟩ := q6
        exact gone S6 fun s7 J7 => ⟨_, _, J7, q6⟩
      | cont =>
        obtain ⟨z, K1, S6, q6⟩ := q6
        exact gone S6 fun s7 J7 => ⟨_, _, J7, q6⟩
end
variable {body : List Stmt} {h0 : ExceptHandler} {hds : List ExceptHandler} {l : List ClauseB} {pos : Pos} {tb : WX → TS}
/-- try: body / except x: .. / except y as n: .. -/
theorem ps_try_allN (hs : X.stack = X.env :: X.outer) (hf : X.env.frame = some X.env.locals) (tk : L2N.Takes X Wo)
    (hb : ∀ (W : WX) (pn : List (Addr × Obj)) (xe : Value → Shared → Prop), L2N.Takes (X.tr pn xe) W → PassesOwn (model X.prog X.w) X.A X.env xe → PSs (X.tr pn xe) body (tb W)) (hh : ClausesN X (h0 :: hds) l) :
    PS X (.Try body (h0 :: hds) [] [] pos) (fun D σ H => tb (wAllB X.K Wo D l) D σ H) := by
  constructor
  intro pins s σ H D I h
  have ok := I.ok
  have fr : X.A.frames = some (X.env :: X.outer) := ok.frames.trans (congrArg some hs)
  let xe' : Value → Shared → Prop := fun e s1 => wpAny (model X.prog X.w) X.A (noteFrame e X.env) (fun _ s2 => wpAny (model X.prog X.w) X.A (setFlight e none) (fun _ s3 => wpAny (model X.prog X.w) X.A (handleBy e X.env (h0 :: hds)) (SP X pins D) X.xe s3) X.xe s2) X.xe s1
  have tk' : L2N.Takes (X.tr (X.pn ++ pins) xe') (wAllB X.K Wo D l) := by
    rintro u s' ⟨a, B, sI, pins', z, K1, cls, d, rfl, J', nb, up, sky, na, os, ag, w⟩
    have J : Inv X pins z K1 sI := J'.ofTry ok
    have sky' : Sky B (X.env :: X.outer) a (L2N.Zn cls d) X.env.locals s'.heap := hs ▸ sky
    show wpAny (model X.prog X.w) X.A (noteFrame (.ref a) X.env) _ _ _
    refine L2N.Sky.land L2N.Zn.steady fr hf sky' fun h3 fly up3 => ?_
    have c : CaughtN X pins z K1 B sI s' a cls d h3 := ⟨J, nb, up.trans up3, os, ag, na, fly⟩
    exact c.allN hh ok hs hf tk w
  apply wpAny_Try_except
  refine wpAny_mono ((hb _ (X.pn ++ pins) xe' tk' PassesOwn.looking).run [] s σ H D (I.toTry _) h) ?_ fun _ _ z => z
  intro f s1 q
  cases f with
  | next =>
    obtain ⟨z, K1, J', q⟩ := q
    exact wpAny_execs_nil ⟨z, K1, J'.ofTry ok, q⟩
  | ret u =>
    obtain ⟨v, z, K1, J', r, q⟩ := q
    exact ⟨v, z, K1, J'.ofTry ok, r, q⟩
  | brk =>
    obtain ⟨z, K1, J', q⟩ := q
    exact ⟨z, K1, J'.ofTry ok, q⟩
  | cont =>
    obtain ⟨z, K1, J', q⟩ := q
    exact ⟨z, K1, J'.ofTry ok, q⟩
end
end SR
set_option maxRecDepth 100000
set_option maxHeartbeats 4000000
namespace SR
open PySem PySem.Spec PyProof.Rows L2 Evl HotX L2H
/-! ### _law_tried -/
theorem takesN0 {X : Cx} : L2N.Takes X (fun _ _ _ _ => False) := fun _ _ x => by
  obtain ⟨_, _, _, _, _, _, _, _, _, _, _, _, _, _, _, _, z⟩ := x
  exact z.elim
theorem pass_len {X : Cx} {W : WX} {E : XK} (tk : L2N.Takes X W) (hW : ∀ cls d (σ' : L2.St) H', σ'.length = X.N.length → E cls d H' → W cls d σ' H') : Passes (L2N.CX X.prog X.w) X E := fun pins σ H s e s' I c => tk e s' (L2N.XE.of_call I (fun cls d H' h => hW cls d σ H' I.len h) c)
section
variable {P : Program} {w : World} {K : PySem.W.Frag} {mg : Str → Option Value} {base : Heap} {C : Addr}
structure MakeE (P : Program) (w : World) (K : PySem.W.Frag) (mg : Str → Option Value) (base : Heap) (C : Addr) (k : Nat) (x : Str) (ps : List Str) (sp : Sp) : Prop where
  ex : ∃ f fd, Mk K C f ∧ mg x = some (.ref C) ∧ Binds K fd ps [] ∧ FnOk P w K mg base (L2N.CX P w) k f fd ps sp
theorem tup2_raw {te : TE} {σ : L2.St} {H : Hp} {Q : VK} {v0 : V} (h : te σ H fun v H1 => tTup (tCons (tC v0) (tCons (tC v) tNil)) σ H1 Q) : tTup (tCons (tC v0) (tCons te tNil)) σ H Q := h
theorem asg_rawN {te : TE} {g : TG} {De : Ends} {σ : L2.St} {H : Hp} (h : te σ H fun v H1 => g v σ H1 De.nx) : tAsg te g De σ H := h
theorem meth_raw {C : Addr} {m : Str} {sp : Sp} {dvs : List V} {E : XK} {ta : TE} {t : TA} {σ : L2.St} {H : Hp} {Q : VK} (h : ta σ H fun x H1 => tMeth C m sp dvs E (tC x) t σ H1 Q) : tMeth C m sp dvs E ta t σ H Q := h
theorem q_lastN {ω : Type} {O : OI ω} {G H : Hp} {σ : L2.St} {te : TE} {i : Nat} {De : Ends} {d : D ω} (h : EvD K O te σ G d) (e : Ex G H) (k : ∀ v G2 H2, Le G H G2 H2 → At K O G2 d v → De.nx (σ.set i (some v)) H2) : tAsg te (gName i) De σ H := h H e _ fun v G2 H2 l a => k v G2 H2 l a
theorem ed_xf {ω : Type} {O : OI ω} {G : Hp} {σ : L2.St} {a ax CE : Addr} {f : Str} {i : Nat} {v : V} {d : D ω} (h : σ[i]? = some (some (.ref ax))) (hx : G a = some (.xd [(f, v)])) (av : At K O G d v) : EvD K O (tXf ax (.ref CE) (some a) CE f (tVar i)) σ G d := fun H1 e Q k =>
  ⟨.ref ax, h, rfl, rfl, a, _, v, rfl, e _ _ hx, by simp, k v G H1 (Le.refl e) av⟩
section
variable {CP CT : Addr} {G H : Hp} {σ : L2.St} {t : TA} {E : XK} {Q : VK} {d1 d2 : D FilS}
theorem x_makeP (h : EvDA K (FilO K C) t σ G [d1, d2]) (e : Ex G H) (hp : dPrime d1 = false) (k : ExcG K (FilO K C) (CP, some ("prime", d1)) G H E) : tMake C (spInitE K C CP CT) [] E t σ H Q :=
  h H e _ fun vs G2 H2 l as => by
    obtain ⟨v1, r, rfl, a1, n⟩ := atL_cons.mp as
    obtain ⟨v2, r, rfl, a2, n⟩ := atL_cons.mp n
    obtain rfl := atL_nil.mp n
    intro x dx hx hdx hne
    exact ⟨G2, H2, x, dx, v1, v2, d1, d2, rfl, l.e, hx, hdx, hne, rfl, a1, a2, Or.inl ⟨hp, k.mono l⟩⟩
theorem x_makeT {i : Int} (h : EvDA K (FilO K C) t σ G [d1, d2]) (e : Ex G H) (hp : dPrime d1 = true) (hi : dBad d2 = .int i) (k : ExcG K (FilO K C) (CT, some ("index", .int i)) G H E) : tMake C (spInitE K C CP CT) [] E t σ H Q :=
  h H e _ fun vs G2 H2 l as => by
    obtain ⟨v1, r, rfl, a1, n⟩ := atL_cons.mp as
    obtain ⟨v2, r, rfl, a2, n⟩ := atL_cons.mp n
    obtain rfl := atL_nil.mp n
    intro x dx hx hdx hne
    exact ⟨G2, H2, x, dx, v1, v2, d1, d2, rfl, l.e, hx, hdx, hne, rfl, a1, a2, Or.inr (Or.inl ⟨hp, i, hi, k.mono l⟩)⟩
theorem ed_makeE {p : Int} {rows : List (Int × Int)} (h : EvDA K (FilO K C) t σ G [.int p, d2]) (hp : primes.contains p = true) (hr : RowsD d2 rows) (hz : rows.length ≤ 30000) : EvD K (FilO K C) (tMake C (spInitE K C CP CT) [] E t) σ G (.obj ⟨p, coll p rows⟩) := fun H1 e Q k =>
  h H1 e _ fun vs G2 H2 l as => by
    obtain ⟨v1, r, rfl, a1, n⟩ := atL_cons.mp as
    obtain ⟨v2, r, rfl, a2, n⟩ := atL_cons.mp n
    obtain rfl := atL_nil.mp n
    intro x dx hx hdx hne
    exact ⟨G2, H2, x, dx, v1, v2, .int p, d2, rfl, l.e, hx, hdx, hne, rfl, a1, a2, Or.inr (Or.inr ⟨p, rows, rfl, hr, hz, hp, fun G3 H3 l3 fa => ⟨rfl, k (.ref x) G3 H3 (l.trans l3) (at_obj.mpr ⟨x, rfl, fa⟩)⟩⟩)⟩
end
abbrev _law_tried_S : Stmt := topS 59
abbrev triedN : List Str := ["_law_p", "_law_rows", "_law_found", "e"]
theorem tried_sc : FnScope triedN ["_law_p", "_law_rows"] (defScope _law_tried_S) := ⟨rfl, rfl, rfl, by decide +kernel, rfl, by decide +kernel, by decide +kernel⟩
def rTried (n : Nat) : List (D FilS) → D FilS → Prop := fun ds r => ∃ d1 d2 : D FilS, ds = [d1, d2] ∧ dep d1 < n ∧ allOk d1 = true ∧
  ((dPrime d1 = false ∧ r = .tup [.str "prime", frz d1]) ∨ (dPrime d1 = true ∧ ∃ i : Int, dBad d2 = .int i ∧ r = .tup [.str "term", .int i]) ∨
    ∃ (p : Int) (rows : List (Int × Int)), d1 = .int p ∧ RowsD d2 rows ∧ rows.length ≤ 30000 ∧ primes.contains p = true ∧ r = .tup [.str "made", .lst ((coll p rows).map pairD)])
theorem ok_tried {f CP CT : Addr} {fd : FuncData} {n : Nat} (F : Fun K "_law_tried" "_law_tried" _law_tried_S f fd) (B : Bi mg) (c : FilC K C) (hM : MakeE P w K mg base C 4 "Filter" ["self", "prime", "terms"] (spInitE K C CP CT))
    (gP : mg "BadPrime" = some (.ref CP)) (gT : mg "BadTerm" = some (.ref CT)) (xP : XfC K CP) (xT : XfC K CT) (noP : PySem.W.findIn K (.ref CP) "prime" = some none) (noT : PySem.W.findIn K (.ref CT) "index" = some none)
    (ePP : PySem.W.exmOne K (.ref CP) (.ref CP) = some true) (eTP : PySem.W.exmOne K (.ref CT) (.ref CP) = some false) (eTT : PySem.W.exmOne K (.ref CT) (.ref CT) = some true)
    (h__law_frozen : DefH P w K mg base n "_law_frozen" ["_law_thing"] (SpD K (FilO K C) (rFrz n))) (h_m_terms : MethOk P w K mg base C 1 "terms" ["self"] (SpD K (FilO K C) rTerms)) (hn : n ≤ 8) :
    FnOk P w K mg base CX0 9 f fd ["_law_p", "_law_rows"] (SpD K (FilO K C) (rTried n)) := by
  refine F.ok tried_sc (fun vs H Q E h => ?_) (fun cdv A outer s0 H vs Q E hr h => ?_)
  · obtain ⟨G, ds, d, e, as, ⟨d1, d2, rfl, _⟩, k⟩ := h
    exact as.len
  · obtain ⟨G, ds, d, e, as, ⟨d1, d2, rfl, hdep, hok, hcase⟩, k⟩ := h
    obtain ⟨v1, r1, rfl, a1, n1⟩ := atL_cons.mp as
    obtain ⟨v2, r2, rfl, a2, n2⟩ := atL_cons.mp n1
    obtain rfl := atL_nil.mp n2
    obtain ⟨fI, fdI, M, gF, hb, FI⟩ := hM.ex
    refine ⟨_, pss_cons (ps_try_allN (X := (cxOf CX0 P w K mg base triedN "_law_tried" (defScope _law_tried_S) f cdv A outer s0 H E).nox)
      (tb := fun W D σ H => ∃ Ey : XK, (∀ cls d (σ' : L2.St) H', σ'.length = 4 → Ey cls d H' → W cls d σ' H') ∧ tAsg (tTup (tCons (tC (.str "made")) (tCons (tMeth C "terms" (SpD K (FilO K C) rTerms) [] E0 (tMake C (spInitE K C CP CT) [] Ey (tCons (tVar 0) (tCons (tVar 1) tNil))) tNil) tNil))) (gName 2) D σ H)
      rfl rfl takesN0 (fun W pn xe tk _ => pss_one ⟨fun pins s σ H D I h' => by
        obtain ⟨Ey, hW, h'⟩ := h'
        exact (ps_set (i := 2) tried_sc.nd rfl (Or.inl rfl) (pe_tup (pa_cons pe_str (pa_cons (pe_methD0 c.cl h_m_terms (hr.mono (by decide)) (pe_make M FI (hr.mono (by decide)) (by rfl) gF hb .nil (pass_len tk hW) (pa_cons (pv 0) (pa_cons (pv 1) pa_nil)))) pa_nil)))).run pins s σ H D I h'⟩)
      (.as_ (i := 3) (n := "e") (c := .ref CP) ⟨rfl, by decide, .inl gP⟩ tried_sc.nd rfl rfl (fun a oe cls d pn hz hf => pss_one (ps_set (i := 2) tried_sc.nd rfl (Or.inl rfl) (pe_tup (pa_cons pe_str (pa_cons (pe_callHD h__law_frozen ((roomH_mark hr _).mono hn) (by
          obtain ⟨vs, hv⟩ := hf
          exact ⟨(a, oe), ⟨rfl, vs, hv, hz.2.2 vs hv⟩, List.mem_cons_self⟩) (pa_cons (pe_xf xP noP hz.zc hf (pv 3)) pa_nil)) pa_nil)))))
        (.as_ (i := 3) (n := "e") (c := .ref CT) ⟨rfl, by decide, .inl gT⟩ tried_sc.nd rfl rfl (fun a oe cls d pn hz hf => pss_one (ps_set (i := 2) tried_sc.nd rfl (Or.inl rfl) (pe_tup (pa_cons pe_str (pa_cons (pe_xf xT noT hz.zc hf (pv 3)) pa_nil))))) .nil))) (pss_one (ps_ret (pv 2))), ?_⟩
    have e0 := Ex.refl G
    have hA : ∀ {G2 : Hp}, Ex G G2 → EvDA K (FilO K C) (tCons (tVar 0) (tCons (tVar 1) tNil)) (L2.start triedN [v1, v2]) G2 [d1, d2] := fun eg => eda_cons (ed_var (i := 0) rfl (a1.mono eg)) (eda_cons (ed_var (i := 1) rfl (a2.mono eg)) eda_nil)
    have fin : ∀ {σ' : L2.St} {G2 H2 : Hp} {v : V} {d : D FilS}, σ'[2]? = some (some v) → Le G H G2 H2 → At K (FilO K C) G2 d v → RetG K (FilO K C) d G H Q → tRet (tVar 2) { nx := fun _ H' => Q .non H', rt := Q } σ' H2 := fun {σ' G2 H2 v d} h2 l av kk => s_retD (ed_var (i := 2) h2 av) l.e (kk.mono l)
    refine ⟨fun cls d H' => ∀ σ' : L2.St, σ'.length = 4 → wAllB _ _ _ _ cls d σ' H', fun cls d σ' H' hl h => h σ' hl, ?_⟩
    rcases hcase with ⟨hp, rfl⟩ | ⟨hp, i, hi, rfl⟩ | ⟨p, rows, rfl, hrows, hz, hp, rfl⟩
    · refine asg_rawN (tup2_raw (meth_raw (x_makeP (hA e0) e hp ?_)))
      intro a v G2 H2 l2 _ hx av σ' hl
      refine ⟨true, ePP, fun _ ax hax => ?_, fun z => nomatch z⟩
      refine q_lastN (K := K) (O := FilO K C) (d := .tup [.str "prime", frz d1]) (ed_tup (eda_cons (ed_of ev_c (at_str.mpr rfl)) (eda_cons (ed_callSD (eda_cons (ed_xf (by rw [List.getElem?_set_self (by omega)]) hx av) eda_nil) ⟨d1, rfl, hdep, hok, rfl⟩) eda_nil)) (by show 2 ≤ 100000; decide)) l2.e fun v3 G3 H3 l3 a3 => ?_
      exact fin (by rw [List.getElem?_set_ne (by decide), List.getElem?_set_self (by rw [List.length_set]; omega)]) (l2.trans l3) a3 k
    · refine asg_rawN (tup2_raw (meth_raw (x_makeT (hA e0) e hp hi ?_)))
      intro a v G2 H2 l2 _ hx av σ' hl
      refine ⟨false, eTP, fun z => (nomatch z), fun _ => ⟨true, eTT, fun _ ax hax => ?_, fun z => nomatch z⟩⟩
      refine q_lastN (K := K) (O := FilO K C) (d := .tup [.str "term", .int i]) (ed_tup (eda_cons (ed_of ev_c (at_str.mpr rfl)) (eda_cons (ed_xf (by rw [List.getElem?_set_self (by omega)]) hx av) eda_nil)) (by show 2 ≤ 100000; decide)) l2.e fun v3 G3 H3 l3 a3 => ?_
      exact fin (by rw [List.getElem?_set_ne (by decide), List.getElem?_set_self (by rw [List.length_set]; omega)]) (l2.trans l3) a3 k
    · refine q_lastN (K := K) (O := FilO K C) (G := G) (d := .tup [.str "made", .lst ((coll p rows).map pairD)]) (ed_tup (eda_cons (ed_of ev_c (at_str.mpr rfl)) (eda_cons (ed_meth (ed_makeE (hA e0) hp hrows hz) eda_nil ⟨_, rfl, rfl⟩) eda_nil)) (by show 2 ≤ 100000; decide)) e fun v3 G3 H3 l3 a3 => ?_
      exact fin rfl l3 a3 k
end
end SR
set_option maxRecDepth 100000
set_option maxHeartbeats 4000000
namespace SR
open PySem PySem.Spec PyProof.Rows L2 Evl
section
variable {P : Program} {w : World} {K : PySem.W.Frag} {mg : Str → Option Value} {base : Heap} {ω : Type} {O : OI ω}
def oddT1 : List (D ω) := [.non, .int 5, .str "ab", .tup [], .tup [.int 1], .tup [.int 1, .int 2, .int 3], .tup [.int 1, .non], .tup [.str "1", .int 2], .tup [.bl true, .int 1], .tup [.int 1, .bl false], .lst [.int 1, .lst [.int 2]], .dic []]
def oddT2 : List (D ω) := [.lst [], .lst [.non, .int 1], .tup [.tup [.int 1, .int 2]], .str "12", .dic [(1, 2)], .bl true, .lst [.int 1, .str "x"], .lst [.tup [.int 1], .int 2]]
def oddP : List (D ω) := [.non, .int 0, .int 1, .int 4, .int 6, .int 9, .int 11, .int (-2), .int (-7), .bl true, .str "2", .str "", .tup [.int 2], .lst [.int 3], .dic [], .int ((10 : Int) ^ (30 : Int).toNat + 57), .bl false]
def rOddT : List (D ω) → D ω → Prop := fun ds r => ds = [] ∧ r = .lst (oddT1 ++ oddT2)
def rOddP : List (D ω) → D ω → Prop := fun ds r => ds = [] ∧ r = .lst oddP
abbrev _law_odd_terms_S : Stmt := topS 60
abbrev _law_odd_terms_N : List Str := ["_law_found"]
theorem _law_odd_terms_sc : FnScope _law_odd_terms_N [] (defScope _law_odd_terms_S) := ⟨rfl, rfl, rfl, by decide +kernel, rfl, by decide +kernel, by decide +kernel⟩
theorem ok_odd_terms {f : Addr} {fd : FuncData} (F : Fun K "_law_odd_terms" "_law_odd_terms" _law_odd_terms_S f fd) : FnOk P w K mg base CX0 1 f fd [] (SpD K O rOddT) := by
  refine F.ok _law_odd_terms_sc (fun vs H Q E h => ?_) (fun cdv A outer s0 H vs Q E hr h => ?_)
  · obtain ⟨G, ds, d, e, as, ⟨rfl, _⟩, k⟩ := h
    exact as.len
  · obtain ⟨G, ds, d, e, as, ⟨rfl, rfl⟩, k⟩ := h
    obtain rfl := atL_nil.mp as
    refine ⟨_, (pss_cons (ps_set (i := 0) _law_odd_terms_sc.nd rfl (Or.inl rfl) (pe_lst (pa_cons pe_non (pa_cons pe_int (pa_cons pe_str (pa_cons (pe_tup pa_nil) (pa_cons (pe_tup (pa_cons pe_int pa_nil)) (pa_cons (pe_tup (pa_cons pe_int (pa_cons pe_int (pa_cons pe_int pa_nil)))) (pa_cons (pe_tup (pa_cons pe_int (pa_cons pe_non pa_nil))) (pa_cons (pe_tup (pa_cons pe_str (pa_cons pe_int pa_nil))) (pa_cons (pe_tup (pa_cons pe_bl (pa_cons pe_int pa_nil))) (pa_cons (pe_tup (pa_cons pe_int (pa_cons pe_bl pa_nil))) (pa_cons (pe_lst (pa_cons pe_int (pa_cons (pe_lst (pa_cons pe_int pa_nil)) pa_nil))) (pa_cons pe_dnewK pa_nil))))))))))))))
    (pss_one (ps_ret (pe_op op_cat (pv 0) (pe_lst (pa_cons (pe_lst pa_nil) (pa_cons (pe_lst (pa_cons pe_non (pa_cons pe_int pa_nil))) (pa_cons (pe_tup (pa_cons (pe_tup (pa_cons pe_int (pa_cons pe_int pa_nil))) pa_nil)) (pa_cons pe_str (pa_cons (pe_disp (pps_cons pe_int pe_int pps_nil) (by rfl) (by rfl) (fun z => by cases z) (by decide)) (pa_cons pe_bl (pa_cons (pe_lst (pa_cons pe_int (pa_cons pe_str pa_nil))) (pa_cons (pe_lst (pa_cons (pe_tup (pa_cons pe_int pa_nil)) (pa_cons pe_int pa_nil))) pa_nil))))))))))))), ?_⟩
    refine q_asgD (K := K) (O := O) (d := .lst oddT1) ?_ e fun v G2 H2 l2 a2 => s_retD (ed_cat (ds := oddT1) (es := oddT2) (ed_var (i := 0) rfl a2) ?_ (by show 12 + 8 ≤ 100000; omega)) l2.e (k.mono l2)
    all_goals first | unfold oddT1 | unfold oddT2
    all_goals repeat' first
      | exact eda_nil
      | refine eda_cons ?_ ?_
      | exact ed_of ev_c (at_int.mpr rfl)
      | exact ed_of ev_c (at_str.mpr rfl)
      | exact ed_of ev_c (at_bl.mpr rfl)
      | exact ed_of ev_c (at_non.mpr rfl)
      | exact ed_of (ev_un ev_c ru_neg) (at_int.mpr rfl)
      | exact ed_of (ev_op (ev_op ev_c ev_c (rv_I ⟨by decide, by decide, by decide⟩)) ev_c rv_I0) (at_int.mpr rfl)
      | exact ed_newD
      | exact ed_disp1 ev_c ev_c
      | refine ed_lst ?_ (by simp)
      | refine ed_tup ?_ (by simp)
abbrev _law_odd_primes_S : Stmt := topS 61
abbrev _law_odd_primes_N : List Str := []
theorem _law_odd_primes_sc : FnScope _law_odd_primes_N [] (defScope _law_odd_primes_S) := ⟨rfl, rfl, rfl, by decide +kernel, rfl, by decide +kernel, by decide +kernel⟩
theorem ok_odd_primes {f : Addr} {fd : FuncData} (F : Fun K "_law_odd_primes" "_law_odd_primes" _law_odd_primes_S f fd) : FnOk P w K mg base CX0 1 f fd [] (SpD K O rOddP) := by
  refine F.ok _law_odd_primes_sc (fun vs H Q E h => ?_) (fun cdv A outer s0 H vs Q E hr h => ?_)
  · obtain ⟨G, ds, d, e, as, ⟨rfl, _⟩, k⟩ := h
    exact as.len
  · obtain ⟨G, ds, d, e, as, ⟨rfl, rfl⟩, k⟩ := h
    obtain rfl := atL_nil.mp as
    refine ⟨_, (pss_one (ps_ret (pe_lst (pa_cons pe_non (pa_cons pe_int (pa_cons pe_int (pa_cons pe_int (pa_cons pe_int (pa_cons pe_int (pa_cons pe_int (pa_cons (pe_un un_neg pe_int) (pa_cons (pe_un un_neg pe_int) (pa_cons pe_bl (pa_cons pe_str (pa_cons pe_str (pa_cons (pe_tup (pa_cons pe_int pa_nil)) (pa_cons (pe_lst (pa_cons pe_int pa_nil)) (pa_cons pe_dnewK (pa_cons (pe_op op_add (pe_op op_pow pe_int pe_int) pe_int) (pa_cons pe_bl pa_nil)))))))))))))))))))), ?_⟩
    refine s_retD (d := .lst oddP) ?_ e k
    unfold oddP
    repeat' first
      | exact eda_nil
      | refine eda_cons ?_ ?_
      | exact ed_of ev_c (at_int.mpr rfl)
      | exact ed_of ev_c (at_str.mpr rfl)
      | exact ed_of ev_c (at_bl.mpr rfl)
      | exact ed_of ev_c (at_non.mpr rfl)
      | exact ed_of (ev_un ev_c ru_neg) (at_int.mpr rfl)
      | exact ed_of (ev_op (ev_op ev_c ev_c (rv_I ⟨by decide, by decide, by decide⟩)) ev_c rv_I0) (at_int.mpr rfl)
      | exact ed_newD
      | exact ed_disp1 ev_c ev_c
      | refine ed_lst ?_ (by simp)
      | refine ed_tup ?_ (by simp)
end
end SR
set_option maxRecDepth 100000
set_option maxHeartbeats 4000000
/-! == of nested lists, tuples, dicts and instances with an own ==, whatever it gives. -/
namespace SR
open PySem PySem.Spec PyProof.Rows L2 Evl
open PySem.SeqAt MeetsSeq MeetsSeq2 MeetsSeq3 SeqRoads2
open AutoSeq1 (wpAny_loadPart')

section
variable {prog : Program} {w : World} {A : Around} {R : Result → Shared → Prop}
def ListB (prog : Program) (w : World) (A : Around) (E : Value → Shared → Prop) (l b : Addr) (N : Nat) (c : Nat → Bool) (I : Shared → Prop) : Prop :=
  ∀ i s, I s → ∃ (items items2 : Array Value) (n n2 : Nat), s.heap.get? l = some { cls := .type "list", data := .seq items n } ∧ s.heap.get? b = some { cls := .type "list", data := .seq items2 n2 } ∧ items.size = N ∧ items2.size = N ∧
    ∀ (h1 : i < items.size) (h2 : i < items2.size), wpAny (model prog w) A.in1 (eqBool items[i] items2[i]) (fun r s' => r = c i ∧ I s') E s
theorem eq_loopB (l b : Addr) (N : Nat) (c : Nat → Bool) (t : Bool) (I : Shared → Prop) (ht : ∀ i, i < N → c i = false → t = false) (ht' : (∀ i, i < N → c i = true) → t = true) (hl : ListB prog w A (fun e s' => R (.error e) s') l b N c I)
    (fin : ∀ s, I s → R (.ok (.ret (.bool t))) s) (k : Nat) :
    ∀ i : Nat, N - i = k → i ≤ N → (∀ j, j < i → c j = true) → ∀ s, I s →
      wpAny (model prog w) A.in1 (Builtin.«list.__eq__.loop» ⟨[.ref l, .ref b, rawInt i, rawInt 2], []⟩) (GQ.FinOf prog w A R) (fun e s' => R (.error e) s') s := by
  induction k with
  | zero =>
    intro i hk hi hp0 s h
    obtain ⟨items, items2, n, n2, hl1, hb1, hs1, hs2, _⟩ := hl i _ h
    have hi' : i = N := by omega
    have hR : R (.ok (.ret (.bool t))) s := fin s h
    rw [ht' (fun j hj => hp0 j (by omega))] at hR
    obtain ⟨hp, g, d, tk, os⟩ := s
    wp_walk using wpAny_loadPart' hl1, wpAny_loadPart' hb1
    have hi1 : items[((i : Nat) : Int).toNat]? = none := by simp; omega
    have hi2 : items2[((i : Nat) : Int).toNat]? = none := by simp; omega
    rw [hi1, hi2]
    wp_walk using wpAny_loadPart' hl1, wpAny_loadPart' hb1
    show R (.ok (.ret (.bool (items.size == items2.size)))) _
    rw [hs1, hs2]
    simpa using hR
  | succ k ih =>
    intro i hk hi hp0 s h
    obtain ⟨items, items2, n, n2, hl1, hb1, hs1, hs2, turn⟩ := hl i _ h
    have hlt : i < items.size := by omega
    have hlt2 : i < items2.size := by omega
    have hturn := turn hlt hlt2
    obtain ⟨hp, g, d, tk, os⟩ := s
    wp_walk using wpAny_loadPart' hl1, wpAny_loadPart' hb1
    have hi1 : items[((i : Nat) : Int).toNat]? = some items[i] := by simp [hlt]
    have hi2 : items2[((i : Nat) : Int).toNat]? = some items2[i] := by simp [hlt2]
    have hc : ((i : Int) + 1) = ((i + 1 : Nat) : Int) := by omega
    rw [hi1, hi2]
    refine wpAny_bind (wpAny_mono hturn (fun r s2 h2 => ?_) fun _ _ x => x)
    obtain ⟨hr, h2⟩ := h2
    subst hr
    cases hci : c i with
    | false =>
      have hR := fin s2 h2
      rw [ht i (by omega) hci] at hR
      obtain ⟨it', it2', n', n2', hl1', hb1', hs1', hs2', _⟩ := hl i _ h2
      have g1 : it'[((i : Nat) : Int).toNat]? = some it'[i] := by simp
      have g2 : it2'[((i : Nat) : Int).toNat]? = some it2'[i] := by simp
      obtain ⟨hp2, g2', d2, tk2, os2⟩ := s2
      wp_walk using wpAny_loadPart' hl1', wpAny_loadPart' hb1'
      rw [g1, g2]
      wp_walk
      exact hR
    | true =>
      have hrec := ih (i + 1) (by omega) (by omega) (fun j hj => by
        rcases Nat.lt_or_ge j i with q | q
        · exact hp0 j q
        · have : j = i := by omega
          rw [this]; exact hci) s2 h2
      obtain ⟨hp2, g2, d2, tk2, os2⟩ := s2
      wp_walk
      rw [hc]
      exact ⟨plainId_quiet plain_eq_loop _, codeAny_builtin entry_eq_loop (by
        rw [Around.under_plainId plain_eq_loop _]
        exact hrec)⟩
theorem list_eqB (l b : Addr) (N : Nat) (c : Nat → Bool) (t : Bool) (I : Shared → Prop) (ht : ∀ i, i < N → c i = false → t = false) (ht' : (∀ i, i < N → c i = true) → t = true) (hl : ListB prog w A (fun e s' => R (.error e) s') l b N c I)
    (fin : ∀ s, I s → R (.ok (.ret (.bool t))) s) {s : Shared} (h : I s) :
    wpAny (model prog w) A.in1 (Builtin.«list.__eq__» ⟨[.ref l, .ref b], []⟩) (GQ.FinOf prog w A R) (fun e s' => R (.error e) s') s := by
  obtain ⟨items, items2, n, n2, hl1, hb1, hs1, hs2, _⟩ := hl 0 _ h
  have hrec := eq_loopB (A := A) (R := R) l b N c t I ht ht' hl fin _ 0 rfl (Nat.zero_le _) (fun j hj => absurd hj (Nat.not_lt_zero _)) s h
  obtain ⟨hp, g, d, tk, os⟩ := s
  have f3 := AutoSeq1.sub_list_list
  have hne : ¬ (items.size != items2.size) = true := by simp [hs1, hs2]
  wp_walk using wpAny_loadPart' hl1, wpAny_loadPart' hb1
  exact ⟨plainId_quiet plain_eq_loop _, codeAny_builtin entry_eq_loop (by
    rw [Around.under_plainId plain_eq_loop _]
    exact hrec)⟩
theorem tuple_eqB (l b : Addr) (items items2 : Array Value) (n n2 : Nat) (dd dd2 : Option Addr) (sl sl2 : Array (Option Value)) (c : Nat → Bool) (t : Bool) (I : Shared → Prop)
    (ht : ∀ i, i < min items.size items2.size → c i = false → t = false) (ht' : (∀ i, i < min items.size items2.size → c i = true) → t = (items.size == items2.size))
    (turn : ∀ i (h1 : i < items.size) (h2 : i < items2.size) s, I s → wpAny (model prog w) A.in1 (eqBool items[i] items2[i]) (fun r s' => r = c i ∧ I s') (fun e s' => R (.error e) s') s)
    (fin : ∀ s, I s → R (.ok (.ret (.bool t))) s) {s : Shared} (hl1 : s.heap.get? l = some { cls := .type "tuple", dict := dd, data := .seq items n, slots := sl }) (hb1 : s.heap.get? b = some { cls := .type "tuple", dict := dd2, data := .seq items2 n2, slots := sl2 }) (h : I s) :
    wpAny (model prog w) A.in1 (Builtin.«tuple.__eq__» ⟨[.ref l, .ref b], []⟩) (GQ.FinOf prog w A R) (fun e s' => R (.error e) s') s := by
  have f2 := AutoSeq1.sub_tuple_tuple
  have hZ : (items.toList.zip items2.toList).length = min items.size items2.size := by simp
  have h0 := h
  obtain ⟨hp, g, d, tk, os⟩ := s
  wp_walk using wpAny_loadPart' hl1, wpAny_loadPart' hb1, wpAny_forIn_list _ (fun rest b s' => I s' ∧ b.1 = none ∧ ∃ i, rest = (items.toList.zip items2.toList).drop i ∧ ∀ j, j < i → j < min items.size items2.size → c j = true) _
  case turn =>
    rintro ⟨y, x⟩ rest b s' ⟨hI, hb', i, hz, hpr⟩
    have hlt : i < (items.toList.zip items2.toList).length := by
      rcases Nat.lt_or_ge i (items.toList.zip items2.toList).length with h' | h'
      · exact h'
      · rw [List.drop_of_length_le h'] at hz; cases hz
    have hm : i < min items.size items2.size := hZ ▸ hlt
    have h1 : i < items.size := Nat.lt_of_lt_of_le hm (Nat.min_le_left _ _)
    have h2 : i < items2.size := Nat.lt_of_lt_of_le hm (Nat.min_le_right _ _)
    rw [List.drop_eq_getElem_cons hlt] at hz
    injection hz with hyx hrest
    have hy : y = items[i] := by have := congrArg Prod.fst hyx; simpa using this
    have hx : x = items2[i] := by have := congrArg Prod.snd hyx; simpa using this
    subst hy hx
    refine wpAny_bind (wpAny_mono (turn i h1 h2 s' hI) (fun r s2 q2 => ?_) fun _ _ x => x)
    obtain ⟨hr, q2⟩ := q2
    subst hr
    cases hci : c i with
    | true =>
      wp_walk
      exact ⟨q2, rfl, i + 1, hrest, fun j hj hjm => by
        rcases Nat.lt_or_ge j i with q | q
        · exact hpr j q hjm
        · have : j = i := by omega
          rw [this]; exact hci⟩
    | false =>
      have hR := fin s2 q2
      rw [ht i hm hci] at hR
      wp_walk
      exact hR
  case fin =>
    rintro ⟨b1, b2⟩ s' ⟨hI, hb', i, hz, hpr⟩
    simp only at hb'
    subst hb'
    have hge : min items.size items2.size ≤ i := by
      rcases Nat.lt_or_ge i (items.toList.zip items2.toList).length with h' | h'
      · rw [List.drop_eq_getElem_cons h'] at hz; cases hz
      · exact hZ ▸ h'
    have hR := fin s' hI
    rw [ht' fun j hj => hpr j (by omega) hj] at hR
    wp_walk
    simpa [Builtin.Tuple.tupleCompareSizes] using hR
  case h =>
    exact ⟨h0, rfl, 0, rfl, fun j hj => absurd hj (Nat.not_lt_zero _)⟩
end
section
variable {prog : Program} {w : World} {A : Around} {E : Value → Shared → Prop} {s : Shared}
theorem rc_listB {l b : Addr} {N : Nat} {c : Nat → Bool} {t : Bool} {Q : Value → Shared → Prop} (hu : A.units < cLine) (I : Shared → Prop) (ht : ∀ i, i < N → c i = false → t = false) (ht' : (∀ i, i < N → c i = true) → t = true) (hl : ListB prog w A E l b N c I)
    (fin : ∀ s, I s → Q (.bool t) s) (h : I s) : wpAny (model prog w) A (richCompare .Eq (.ref l) (.ref b)) Q E s := by
  obtain ⟨items, items2, n, n2, hl1, hb1, _, _, _⟩ := hl 0 _ h
  refine wpAny_richCompare_same_room (op := .Eq) ⟨_, hl1, rfl⟩ ⟨_, hb1, rfl⟩ F.slot_list_eq (GQ.call_here F.slot_list_eq ⟨_, hl1, rfl⟩ F.entry_list_eq (F.args_list_eq_2 _ _) ?_) hu
  exact list_eqB (R := wants (fun v s' => v ≠ .notImplemented ∧ Q v s') E) l b N c t I ht ht' hl (fun s' q => ⟨(fun x => nomatch x), fin s' q⟩) h
theorem rc_tupB {l b : Addr} {items items2 : Array Value} {c : Nat → Bool} {t : Bool} {Q : Value → Shared → Prop} (hu : A.units < cLine) (I : Shared → Prop)
    (ht : ∀ i, i < min items.size items2.size → c i = false → t = false) (ht' : (∀ i, i < min items.size items2.size → c i = true) → t = (items.size == items2.size))
    (hl : s.heap.IsTuple l items) (hb : s.heap.IsTuple b items2)
    (turn : ∀ i (h1 : i < items.size) (h2 : i < items2.size) s, I s → wpAny (model prog w) A.in1 (eqBool items[i] items2[i]) (fun r s' => r = c i ∧ I s') E s)
    (fin : ∀ s, I s → Q (.bool t) s) (h : I s) : wpAny (model prog w) A (richCompare .Eq (.ref l) (.ref b)) Q E s := by
  obtain ⟨⟨cls, dd, data, sl⟩, ho, hc, n, hd⟩ := id hl
  obtain ⟨⟨cls2, dd2, data2, sl2⟩, ho2, hc2, n2, hd2⟩ := id hb
  simp only at hc hd hc2 hd2
  subst hc hd hc2 hd2
  refine wpAny_richCompare_same_room (op := .Eq) ⟨_, ho, rfl⟩ ⟨_, ho2, rfl⟩ F.slot_tuple_eq (GQ.call_here F.slot_tuple_eq ⟨_, ho, rfl⟩ F.entry_tuple_eq (F.args_tuple_eq_2 _ _) ?_) hu
  exact tuple_eqB (R := wants (fun v s' => v ≠ .notImplemented ∧ Q v s') E) l b items items2 n n2 dd dd2 sl sl2 c t I ht ht' turn (fun s' q => ⟨(fun x => nomatch x), fin s' q⟩) ho ho2 h
end
end SR
set_option maxRecDepth 100000
set_option maxHeartbeats 4000000
namespace SR
open PySem PySem.Spec PyProof.Rows L2 Evl
open PySem.SeqAt

def dicEq (m m' : List (Int × Int)) : Bool := m.length == m'.length && m.all fun q => getI m' q.1 == some q.2
section
variable {ω : Type}
def DQL (P : D ω → D ω → Bool → Prop) : List (D ω) → List (D ω) → Bool → Prop
  | d :: l, e :: m, b => ∃ b1 b2, P d e b1 ∧ DQL P l m b2 ∧ b = (b1 && b2)
  | _, _, b => b = true
/-- what d == e gives, for things of like kinds, of nesting below n -/
def DQ (oq : ω → ω → Bool → Prop) : Nat → D ω → D ω → Bool → Prop
  | 0, d, e, b => match d, e with
    | .int i, .int j => b = decide (i = j)
    | .dic m, .dic m' => (m'.map (·.1)).Nodup ∧ b = dicEq m m'
    | .obj w, .obj u => oq w u b
    | _, _ => False
  | n + 1, d, e, b => match d, e with
    | .int i, .int j => b = decide (i = j)
    | .dic m, .dic m' => (m'.map (·.1)).Nodup ∧ b = dicEq m m'
    | .obj w, .obj u => oq w u b
    | .lst l, .lst m => (l.length ≠ m.length ∧ b = false) ∨ (l.length = m.length ∧ DQL (DQ oq n) l m b)
    | .tup l, .tup m => ∃ b', DQL (DQ oq n) l m b' ∧ b = (b' && l.length == m.length)
    | _, _ => False
theorem dql_get {P : D ω → D ω → Bool → Prop} : ∀ {l m : List (D ω)} {b : Bool}, DQL P l m b → ∃ c : Nat → Bool, (∀ i d e, l[i]? = some d → m[i]? = some e → P d e (c i)) ∧ (∀ i, i < min l.length m.length → c i = false → b = false) ∧ ((∀ i, i < min l.length m.length → c i = true) → b = true)
  | [], m, b, h => ⟨fun _ => true, fun i d e h1 => by simp at h1, fun i hi => by simp at hi, fun _ => by cases m <;> exact h⟩
  | d :: l, [], b, h => ⟨fun _ => true, fun i d e _ h1 => by simp at h1, fun i hi => by simp at hi, fun _ => h⟩
  | d :: l, e :: m, b, h => by
    obtain ⟨b1, b2, h1, h2, rfl⟩ := h
    obtain ⟨c, c1, c2, c3⟩ := dql_get h2
    refine ⟨fun i => match i with | 0 => b1 | i + 1 => c i, fun i x y hx hy => ?_, fun i hi hc => ?_, fun hc => ?_⟩
    · cases i with
      | zero =>
        cases Option.some.inj hx
        cases Option.some.inj hy
        exact h1
      | succ i => exact c1 i x y (by simpa using hx) (by simpa using hy)
    · cases i with
      | zero =>
        have : b1 = false := hc
        rw [this]; rfl
      | succ i =>
        rw [c2 i (by simp only [List.length_cons] at hi; omega) hc, Bool.and_false]
    · have z1 : b1 = true := hc 0 (by simp only [List.length_cons]; omega)
      rw [z1, c3 fun i hi => hc (i + 1) (by simp only [List.length_cons]; omega)]
      rfl
section
variable {K : PySem.W.Frag} {O : OI ω} {oq : ω → ω → Bool → Prop}
theorem dicEq_self {m : List (Int × Int)} (h : (m.map (·.1)).Nodup) : dicEq m m = true := by
  unfold dicEq
  have : (m.all fun q => getI m q.1 == some q.2) = true := by
    rw [List.all_eq_true]
    intro q hq
    have h1 : getI m q.1 = some q.2 := by
      induction m with
      | nil => cases hq
      | cons a r ih =>
        rw [List.map_cons, List.nodup_cons] at h
        unfold getI
        rw [List.find?_cons]
        by_cases e : a.1 = q.1
        · rw [decide_eq_true e]
          rcases List.mem_cons.mp hq with rfl | hr
          · rfl
          · exact absurd (e ▸ List.mem_map_of_mem hr) h.1
        · rw [decide_eq_false e]
          rcases List.mem_cons.mp hq with rfl | hr
          · exact absurd rfl e
          · exact ih h.2 hr
    rw [h1]; simp
  rw [this]; simp
theorem kvI_inj : ∀ {m m' : List (Int × Int)}, kvI m = kvI m' → m = m'
  | [], [], _ => rfl
  | [], _ :: _, h => by cases h
  | _ :: _, [], h => by cases h
  | (a, b) :: r, (c, d) :: s, h => by
    obtain ⟨h1, h2⟩ := List.cons.inj (show (Sum.inl a, V.int b) :: kvI r = (Sum.inl c, V.int d) :: kvI s from h)
    obtain ⟨h3, h4⟩ := Prod.mk.inj h1
    rw [Sum.inl.inj h3, V.int.inj h4, kvI_inj h2]
def OSame (O : OI ω) (oq : ω → ω → Bool → Prop) : Prop := ∀ H a w u b, O.at_ H a w → O.at_ H a u → oq w u b → b = true
theorem relInt {i j : Int} {v : Value} (h : RelV (.int i) v) (h' : RelV (.int j) v) : i = j := by
  obtain ⟨t, rfl⟩ := h
  obtain ⟨t', h2⟩ := h'
  cases h2
  rfl
theorem relRef {a b : Addr} {v : Value} (h : RelV (.ref a) v) (h' : RelV (.ref b) v) : a = b := by
  cases (show v = Value.ref a from h)
  cases (show Value.ref a = Value.ref b from h')
  rfl
section
variable {X : Cx} {pins : List (Addr × Obj)} {σ : L2.St} {H G : Hp} {s : Shared} {O : OI ω} {oq : ω → ω → Bool → Prop}
theorem dql_same {P : D ω → D ω → Bool → Prop} (ih : ∀ d e b x y v, P d e b → At X.K O G d x → At X.K O G e y → RelV x v → RelV y v → b = true) : ∀ {l m : List (D ω)} {b : Bool} {xs ys : List V} {vs : List Value}, DQL P l m b → AtL X.K O G l xs → AtL X.K O G m ys → Vals xs vs → Vals ys vs → b = true
  | [], m, b, xs, ys, vs, h, _, _, _, _ => by cases m <;> exact h
  | d :: l, [], b, xs, ys, vs, h, _, _, _, _ => h
  | d :: l, e :: m, b, xs, ys, vs, h, a1, a2, r1, r2 => by
    obtain ⟨b1, b2, h1, h2, rfl⟩ := h
    obtain ⟨v, r, rfl, x1, y1⟩ := atL_cons.mp a1
    obtain ⟨v', r', rfl, x2, y2⟩ := atL_cons.mp a2
    cases r1 with
    | cons p1 q1 =>
      cases r2 with
      | cons p2 q2 =>
        rw [ih d e b1 _ _ _ h1 x1 x2 p1 p2, dql_same ih h2 y1 y2 q1 q2]
        rfl
theorem dq_same (ho : OSame O oq) (I : Inv X pins σ H s) (e : Ex G H) : ∀ (n : Nat) (d c : D ω) (b : Bool) (x y : V) (v : Value), DQ oq n d c b → At X.K O G d x → At X.K O G c y → RelV x v → RelV y v → b = true := by
  intro n
  induction n with
  | zero =>
    intro d c b x y v h a1 a2 r1 r2
    cases d <;> cases c <;> first | exact False.elim h | skip
    case int.int i j =>
      rw [at_int.mp a1] at r1
      rw [at_int.mp a2] at r2
      rw [show b = decide (i = j) from h, decide_eq_true (relInt r1 r2)]
    case dic.dic m m' =>
      obtain ⟨a, rfl, g1⟩ := at_dic.mp a1
      obtain ⟨a', rfl, g2⟩ := at_dic.mp a2
      obtain rfl := relRef r1 r2
      rw [g1] at g2
      have e1 := kvI_inj (HO.dK.inj (Option.some.inj g2))
      subst e1
      rw [h.2]
      exact dicEq_self h.1
    case obj.obj w u =>
      obtain ⟨a, rfl, g1⟩ := at_obj.mp a1
      obtain ⟨a', rfl, g2⟩ := at_obj.mp a2
      obtain rfl := relRef r1 r2
      exact ho _ _ _ _ _ g1 g2 h
  | succ n ih =>
    intro d c b x y v h a1 a2 r1 r2
    cases d <;> cases c <;> first | exact False.elim h | skip
    case int.int i j =>
      rw [at_int.mp a1] at r1
      rw [at_int.mp a2] at r2
      rw [show b = decide (i = j) from h, decide_eq_true (relInt r1 r2)]
    case dic.dic m m' =>
      obtain ⟨a, rfl, g1⟩ := at_dic.mp a1
      obtain ⟨a', rfl, g2⟩ := at_dic.mp a2
      obtain rfl := relRef r1 r2
      rw [g1] at g2
      have e1 := kvI_inj (HO.dK.inj (Option.some.inj g2))
      subst e1
      rw [h.2]
      exact dicEq_self h.1
    case obj.obj w u =>
      obtain ⟨a, rfl, g1⟩ := at_obj.mp a1
      obtain ⟨a', rfl, g2⟩ := at_obj.mp a2
      obtain rfl := relRef r1 r2
      exact ho _ _ _ _ _ g1 g2 h
    case lst.lst l m =>
      obtain ⟨a, us, rfl, g1, as1⟩ := at_lst.mp a1
      obtain ⟨a', ws, rfl, g2, as2⟩ := at_lst.mp a2
      obtain rfl := relRef r1 r2
      rw [g1] at g2
      obtain rfl := HO.lst.inj (Option.some.inj g2)
      obtain ⟨z, its, k, r, e1⟩ := I.hok a _ (e _ _ g1)
      rcases h with ⟨h, _⟩ | ⟨_, h⟩
      · exact absurd (as1.len.symm.trans as2.len) h
      · exact dql_same ih h as1 as2 r r
    case tup.tup l m =>
      obtain ⟨a, us, rfl, g1, as1⟩ := at_tup.mp a1
      obtain ⟨a', ws, rfl, g2, as2⟩ := at_tup.mp a2
      obtain rfl := relRef r1 r2
      obtain ⟨its, r, e1, z⟩ := I.tuple (ex_t e g1)
      obtain ⟨its2, r', e2, z2⟩ := I.tuple (ex_t e g2)
      have hi : its = its2 := by
        obtain ⟨o, ho1, _, k1, hd1⟩ := e1
        obtain ⟨o', ho2, _, k2, hd2⟩ := e2
        rw [ho1] at ho2
        obtain rfl := Option.some.inj ho2
        rw [hd1] at hd2
        injection hd2 with hd2
        simpa using hd2
      subst hi
      obtain ⟨b', h1, rfl⟩ := h
      rw [dql_same ih h1 as1 as2 r r', show l.length = m.length by rw [← as1.len, ← as2.len, r.length, r'.length]]
      simp
end
end
end
end SR
set_option maxRecDepth 100000
set_option maxHeartbeats 4000000
namespace SR
open PySem PySem.Spec PyProof.Rows L2 Evl
open PySem.SeqAt
section
variable {ω : Type} {X : Cx} {O : OI ω} {oq : ω → ω → Bool → Prop} {n m : Nat}
/-- d == e by the machine's own ==, b -/
def RcD (X : Cx) (O : OI ω) (n : Nat) (d e : D ω) (b : Bool) : Prop :=
  ∀ (A : Around) (pins : List (Addr × Obj)) (s : Shared) (σ : L2.St) (G H : Hp) (x y : V) (u v : Value), Sub X n A → Inv X pins σ H s → RelV x u → RelV y v → Ex G H → At X.K O G d x → At X.K O G e y →
    wpAny (model X.prog X.w) A (richCompare .Eq u v) (fun r s' => r = .bool b ∧ ∃ H', Inv X pins σ H' s' ∧ Ex H H') X.xe s
def EqD (X : Cx) (O : OI ω) (n : Nat) (d e : D ω) (b : Bool) : Prop :=
  ∀ (A : Around) (pins : List (Addr × Obj)) (s : Shared) (σ : L2.St) (G H : Hp) (x y : V) (u v : Value), Sub X n A → Inv X pins σ H s → RelV x u → RelV y v → Ex G H → At X.K O G d x → At X.K O G e y →
    wpAny (model X.prog X.w) A (eqBool u v) (fun r s' => r = b ∧ ∃ H', Inv X pins σ H' s' ∧ Ex H H') X.xe s
def isRef : D ω → Bool | .lst _ => true | .tup _ => true | .dic _ => true | .obj _ => true | _ => false
theorem ref_of {H : Hp} {d : D ω} {v : V} (h : isRef d = true) (a : At X.K O H d v) : ∃ p, v = .ref p := by
  cases d with
  | lst l => obtain ⟨p, _, e, _⟩ := at_lst.mp a; exact ⟨p, e⟩
  | tup l => obtain ⟨p, _, e, _⟩ := at_tup.mp a; exact ⟨p, e⟩
  | dic l => obtain ⟨p, e, _⟩ := at_dic.mp a; exact ⟨p, e⟩
  | obj l => obtain ⟨p, e, _⟩ := at_obj.mp a; exact ⟨p, e⟩
  | _ => cases h
theorem rc_eq {d e : D ω} {b : Bool} (hs : OSame O oq) {k : Nat} (hq : DQ oq k d e b) (hd : isRef d = true) (he : isRef e = true) (h : RcD X O n d e b) : EqD X O n d e b := by
  intro A pins s σ G H x y u v sb I rx ry eg a1 a2
  by_cases huv : u = v
  · subst huv
    rw [dq_same hs I eg k d e b x y u hq a1 a2 rx ry]
    exact SeqAt.EqAt.same (A := A) (s := s) u X.prog X.w X.xe _ ⟨rfl, H, I, Ex.refl _⟩
  · obtain ⟨p, rfl⟩ := ref_of hd a1
    obtain ⟨q, rfl⟩ := ref_of he a2
    cases rx
    cases ry
    exact GQ.eqBool_refG (fun z => huv (by rw [z])) (wpAny_mono (h A pins s σ G H (.ref p) (.ref q) _ _ sb I rfl rfl eg a1 a2) (fun r s' z => ⟨b, z.1, rfl, z.2⟩) fun _ _ x => x)
theorem EqD.mono {d e : D ω} {b : Bool} (h : EqD X O n d e b) (hn : n ≤ m) : EqD X O m d e b := fun A pins s σ G H x y u v sb => h A pins s σ G H x y u v (sb.mono hn)
theorem RcD.mono {d e : D ω} {b : Bool} (h : RcD X O n d e b) (hn : n ≤ m) : RcD X O m d e b := fun A pins s σ G H x y u v sb => h A pins s σ G H x y u v (sb.mono hn)
theorem eqD_int {i j : Int} : EqD X O n (.int i) (.int j) (decide (i = j)) := by
  intro A pins s σ G H x y u v sb I rx ry eg a1 a2
  rw [at_int.mp a1] at rx
  rw [at_int.mp a2] at ry
  have q := eqAt_V (A := A) (s := s) rx ry rfl rfl
  have e : eqV (.int i) (.int j) = decide (i = j) := by
    show (i == j) = decide (i = j)
    by_cases h : i = j <;> simp [h]
  rw [e] at q
  exact q X.prog X.w X.xe _ ⟨rfl, H, I, Ex.refl _⟩
theorem valAt_kvI {m : List (Int × Int)} {o : Int} : valV (kvI m) (Sum.inl o) = (getI m o).map V.int := valV_kvI
theorem hitsI {A : Around} {s : Shared} {ls : List (Int × Int)} {vb : List (Key × Value)} (rb : KV (kvI ls) vb) : ∀ {ks : List (Int × Int)} {va : List (Key × Value)}, KV (kvI ks) va → PySem.W.KeqHitsP X.prog X.w A s vb va (ks.all fun q => getI ls q.1 == some q.2)
  | [], va, h => by
    cases h
    exact .nil
  | q :: r, va, h => by
    cases h with
    | cons h1 h2 =>
      rename_i key2 va2
      obtain ⟨key, v⟩ := key2
      obtain ⟨hk, hv⟩ := h1
      have hk' : Sum.inl q.1 = key := hk
      subst hk'
      have ih := hitsI (A := A) (s := s) rb (ks := r) h2
      have hval := rb.val (Sum.inl q.1)
      rw [valAt_kvI] at hval
      show PySem.W.KeqHitsP X.prog X.w A s vb ((Sum.inl q.1, v) :: va2) ((getI ls q.1 == some q.2) && r.all fun q => getI ls q.1 == some q.2)
      cases hg : getI ls q.1 with
      | none =>
        rw [hg] at hval
        have : valueAt vb (Sum.inl q.1) = none := by
          cases hw : valueAt vb (Sum.inl q.1) with
          | none => rfl
          | some y => rw [hw] at hval; exact False.elim hval
        exact .miss this
      | some c =>
        rw [hg] at hval
        obtain ⟨y, hy, ry⟩ := RelO.some_of hval
        have e := (eqAt_V (A := A) (s := s) (y := .int q.2) (x := .int c) hv ry rfl rfl).eqP (prog := X.prog) (w := X.w)
        have e2 : eqV (.int q.2) (.int c) = (some c == some q.2) := by
          show (q.2 == c) = (some c == some q.2)
          by_cases z : q.2 = c
          · rw [z]; simp
          · have z2 : ¬ c = q.2 := fun h => z h.symm
            show (q.2 == c) = (c == q.2)
            rw [beq_eq_false_iff_ne.mpr z, beq_eq_false_iff_ne.mpr z2]
        rw [e2] at e
        exact .hit hy e ih
theorem rcD_dic {m1 m2 : List (Int × Int)} : RcD X O n (.dic m1) (.dic m2) (dicEq m1 m2) := by
  intro A pins s σ G H x y u v sb I rx ry eg a1 a2
  obtain ⟨a, rfl, g1⟩ := at_dic.mp a1
  obtain ⟨b, rfl, g2⟩ := at_dic.mp a2
  cases rx
  cases ry
  obtain ⟨_, ya, va, ra, da⟩ := (show ObjOk X.prog X.w H s.heap a (.dK _) from I.hok a _ (eg _ _ g1))
  obtain ⟨_, yb, vb, rb, db⟩ := (show ObjOk X.prog X.w H s.heap b (.dK _) from I.hok b _ (eg _ _ g2))
  refine PySem.W.rcP_dicts (knd := mixKind X.prog X.w) (r := m1.all fun q => getI m2 q.1 == some q.2) ya yb da db sb.room.units0 (fun _ => hitsI rb ra) _ _ ?_
  refine ⟨?_, H, I, Ex.refl _⟩
  have l1 : va.length = m1.length := by rw [← ra.length]; unfold kvI; simp
  have l2 : vb.length = m2.length := by rw [← rb.length]; unfold kvI; simp
  rw [l1, l2]
  rfl
/-- what the loop over the items keeps -/
def LpI (X : Cx) (pins : List (Addr × Obj)) (σ : L2.St) (H : Hp) (s' : Shared) : Prop := ∃ H', Inv X pins σ H' s' ∧ Ex H H'
theorem turnD {A : Around} (sb : Sub X (n + 1) A) {pins : List (Addr × Obj)} {σ : L2.St} {G H : Hp} {l k : List (D ω)} {xs ys : List V} {its its2 : List Value} (eg : Ex G H) (a1 : AtL X.K O G l xs) (a2 : AtL X.K O G k ys) {c : Nat → Bool}
    (h : ∀ i d e, l[i]? = some d → k[i]? = some e → EqD X O n d e (c i)) (r : Vals xs its) (r2 : Vals ys its2)
    (i : Nat) (h1 : i < its.toArray.size) (h2 : i < its2.toArray.size) (s' : Shared) (lp : LpI X pins σ H s') :
    wpAny (model X.prog X.w) A.in1 (eqBool its.toArray[i] its2.toArray[i]) (fun r s2 => r = c i ∧ LpI X pins σ H s2) X.xe s' := by
  obtain ⟨H1, I1, e1⟩ := lp
  have g1 : its[i]? = some its.toArray[i] := by
    have h1' : i < its.length := by simpa using h1
    rw [List.getElem?_eq_getElem h1'] <;> simp
  have g2 : its2[i]? = some its2.toArray[i] := by
    have h2' : i < its2.length := by simpa using h2
    rw [List.getElem?_eq_getElem h2'] <;> simp
  have k1 : i < xs.length := by rw [r.length]; simpa using h1
  have k2 : i < ys.length := by rw [r2.length]; simpa using h2
  obtain ⟨u, hu, ru⟩ := r.get (List.getElem?_eq_getElem k1)
  obtain ⟨v, hv, rv⟩ := r2.get (List.getElem?_eq_getElem k2)
  rw [g1] at hu
  rw [g2] at hv
  obtain ⟨d, hd, ad⟩ := a1.get (List.getElem?_eq_getElem k1)
  obtain ⟨e, he, ae⟩ := a2.get (List.getElem?_eq_getElem k2)
  rw [Option.some.inj hu, Option.some.inj hv]
  refine wpAny_mono (h i d e hd he A.in1 pins s' σ G H1 _ _ u v sb.in1 I1 ru rv (eg.trans e1) ad ae) (fun r s2 q => ?_) fun _ _ x => x
  obtain ⟨hr, H2, I2, e2⟩ := q
  exact ⟨hr, H2, I2, e1.trans e2⟩
theorem rcD_lst {l k : List (D ω)} {b : Bool} {c : Nat → Bool} (hl : l.length = k.length) (h : ∀ i d e, l[i]? = some d → k[i]? = some e → EqD X O n d e (c i)) (hf : ∀ i, i < l.length → c i = false → b = false) (ht : (∀ i, i < l.length → c i = true) → b = true) : RcD X O (n + 1) (.lst l) (.lst k) b := by
  intro A pins s σ G H x y u v sb I rx ry eg a1 a2
  obtain ⟨p, xs, rfl, ha, as1⟩ := at_lst.mp a1
  obtain ⟨q, ys, rfl, hb, as2⟩ := at_lst.mp a2
  cases rx
  cases ry
  refine rc_listB (N := l.length) (c := c) (t := b) sb.room.units0 (fun s' => LpI X pins σ H s') hf ht (fun i s' z => ?_) (fun s' z => ⟨rfl, z⟩) ⟨H, I, Ex.refl _⟩
  obtain ⟨H1, I1, e1⟩ := id z
  obtain ⟨z1, its, k1, r, f1⟩ := I1.hok p _ (e1 _ _ (eg _ _ ha))
  obtain ⟨z2, its2, k2, r2, f2⟩ := I1.hok q _ (e1 _ _ (eg _ _ hb))
  refine ⟨its.toArray, its2.toArray, k1, k2, f1, f2, by rw [List.size_toArray, ← r.length, as1.len], by rw [List.size_toArray, ← r2.length, as2.len, hl], fun h1 h2 => ?_⟩
  exact turnD sb eg as1 as2 h r r2 i h1 h2 s' z
theorem rcD_lstN {l k : List (D ω)} (hl : l.length ≠ k.length) : RcD X O (n + 1) (.lst l) (.lst k) false := by
  intro A pins s σ G H x y u v sb I rx ry eg a1 a2
  obtain ⟨p, xs, rfl, ha, as1⟩ := at_lst.mp a1
  obtain ⟨q, ys, rfl, hb, as2⟩ := at_lst.mp a2
  cases rx
  cases ry
  obtain ⟨us, r1, p1, _⟩ := I.list (sq_of (K := X.K) (eg _ _ ha))
  obtain ⟨ws, r2, p2, _⟩ := I.list (sq_of (K := X.K) (eg _ _ hb))
  refine SeqAt.RcAt.lists_lengths p1.isList p2.isList ?_ sb.room.units0 X.prog X.w X.xe _ ⟨rfl, H, I, Ex.refl _⟩
  rw [List.size_toArray, List.size_toArray, ← r1.length, ← r2.length, as1.len, as2.len]
  simpa using hl
theorem rcD_tup {l k : List (D ω)} {b : Bool} {c : Nat → Bool} (h : ∀ i d e, l[i]? = some d → k[i]? = some e → EqD X O n d e (c i)) (hf : ∀ i, i < min l.length k.length → c i = false → b = false) (ht : (∀ i, i < min l.length k.length → c i = true) → b = (l.length == k.length)) : RcD X O (n + 1) (.tup l) (.tup k) b := by
  intro A pins s σ G H x y u v sb I rx ry eg a1 a2
  obtain ⟨p, xs, rfl, ha, as1⟩ := at_tup.mp a1
  obtain ⟨q, ys, rfl, hb, as2⟩ := at_tup.mp a2
  cases rx
  cases ry
  obtain ⟨its, r, e1, z1⟩ := I.tuple (ex_t eg ha)
  obtain ⟨its2, r2, e2, z2⟩ := I.tuple (ex_t eg hb)
  have s1 : its.toArray.size = l.length := by rw [List.size_toArray, ← r.length, as1.len]
  have s2 : its2.toArray.size = k.length := by rw [List.size_toArray, ← r2.length, as2.len]
  exact rc_tupB (c := c) (t := b) sb.room.units0 (fun s' => LpI X pins σ H s') (by rw [s1, s2]; exact hf) (by rw [s1, s2]; exact ht) e1 e2 (fun i h1 h2 s' z => turnD sb eg as1 as2 h r r2 i h1 h2 s' z) (fun s' z => ⟨rfl, z⟩) ⟨H, I, Ex.refl _⟩
/-- data: k below its nesting -/
theorem eqD_all (hs : OSame O oq) (ho : ∀ w u b, oq w u b → RcD X O m (.obj w) (.obj u) b) : ∀ (k : Nat) (d e : D ω) (b : Bool), DQ oq k d e b → EqD X O (m + k) d e b ∧ (isRef d = true → RcD X O (m + k) d e b) := by
  intro k
  have flat : ∀ (k : Nat) (d e : D ω) (b : Bool), DQ oq k d e b → (match d with | .lst _ => False | .tup _ => False | _ => True) → EqD X O (m + k) d e b ∧ (isRef d = true → RcD X O (m + k) d e b) := by
    intro k d e b h hd
    cases d <;> cases e <;> first | exact False.elim hd | (cases k <;> exact False.elim h) | skip
    case int.int i j =>
      have hb : b = decide (i = j) := by cases k <;> exact h
      subst hb
      exact ⟨eqD_int, fun z => nomatch z⟩
    case dic.dic m1 m2 =>
      have hb : b = dicEq m1 m2 := by cases k <;> exact h.2
      subst hb
      exact ⟨rc_eq hs h rfl rfl rcD_dic, fun _ => rcD_dic⟩
    case obj.obj w u =>
      have hb : oq w u b := by cases k <;> exact h
      have r := (ho w u b hb).mono (Nat.le_add_right m k)
      exact ⟨rc_eq hs h rfl rfl r, fun _ => r⟩
  induction k with
  | zero =>
    intro d e b h
    refine flat 0 d e b h ?_
    cases d <;> first | trivial | (cases e <;> exact False.elim h)
  | succ k ih =>
    intro d e b h
    cases d
    case lst l =>
      cases e <;> first | exact False.elim h | skip
      case lst l2 =>
        have r : RcD X O (m + k + 1) (.lst l) (.lst l2) b := by
          rcases h with ⟨h1, rfl⟩ | ⟨h1, h2⟩
          · exact rcD_lstN h1
          · obtain ⟨c, c1, c2, c3⟩ := dql_get h2
            have hm : min l.length l2.length = l.length := by omega
            rw [hm] at c2 c3
            exact rcD_lst h1 (fun i d e hd he => (ih d e (c i) (c1 i d e hd he)).1) c2 c3
        exact ⟨rc_eq hs h rfl rfl r, fun _ => r⟩
    case tup l =>
      cases e <;> first | exact False.elim h | skip
      case tup l2 =>
        have r : RcD X O (m + k + 1) (.tup l) (.tup l2) b := by
          obtain ⟨b', h2, rfl⟩ := h
          obtain ⟨c, c1, c2, c3⟩ := dql_get h2
          exact rcD_tup (fun i d e hd he => (ih d e (c i) (c1 i d e hd he)).1) (fun i hi hc => by rw [c2 i hi hc]; rfl) fun hc => by rw [c3 hc]; rfl
        exact ⟨rc_eq hs h rfl rfl r, fun _ => r⟩
    all_goals exact flat (k + 1) _ e b h True.intro
end
end SR
set_option maxRecDepth 100000
set_option maxHeartbeats 4000000
/-! len, iteration, == of own classes, over data. -/
namespace SR
open PySem PySem.Spec PyProof.Rows L2 Evl ItX
section
variable {X : Cx} {CX : CXT} {pins : List (Addr × Obj)} {σ : L2.St} {H : Hp} {s : Shared} {a C g : Addr} {fd : FuncData} {ps : List Str} {n k : Nat} {sp : Sp}
/-- len(x), an own __len__ -/
def rLenOwn (C : Addr) (sp : Sp) : List V → Hp → VK → Prop := fun xs H Q => ∃ a dx fs, xs = [.ref a] ∧ H a = some (.ins C dx fs) ∧ sp [.ref a] H (fun z H' => ∃ i : Int, z = .int i ∧ 0 ≤ i ∧ i < 2 ^ 63 ∧ Q (.int i) H') E0
theorem call_lenOwn (h : DunOk X.prog X.w X.K X.mg X.base C k "__len__" ps sp) (hr : Room (k + 1) X.A) : CallR X (.builtin "len") (rLenOwn C sp) := by
  obtain ⟨g, fd, hs, hf, _, hb, F⟩ := h.ex
  intro pins s σ H xs us Q I r h
  obtain ⟨a, dx, fs, rfl, ha, q⟩ := h
  obtain rfl := Vals.ref1 r
  obtain ⟨od, J⟩ := ins_inst I ha
  obtain ⟨m, hF⟩ := I.fr
  refine PySem.W.len_K hF I.ok.mod.kin J hs hf (wpAny_mono (run_fn1 (us := [.ref a]) (vs := [.ref a]) F hr hb pass0 I (.cons rfl .nil) q) (fun w s' z => ?_) fun _ _ x => x)
  obtain ⟨z', H', I', rz, i, rfl, h0, h1, qz⟩ := z
  obtain ⟨t, rfl⟩ := rz
  exact ⟨⟨h0, h1⟩, .int i, H', I'.tok _, ⟨_, rfl⟩, qz⟩
end
/-! ### a heap told to be longer -/
def pad (h : Heap) (n : Nat) : Heap := { h with objs := h.objs ++ Array.replicate (n - h.objs.size) ⟨.none, none, .freed, #[]⟩ }
theorem pad_get {h : Heap} {n : Nat} {b : Addr} : (pad h n).get? b = h.get? b := by
  unfold pad Heap.get?
  by_cases hb : b < h.objs.size
  · simp only [Array.getElem?_append_left hb]
  · have e1 : h.objs[b]? = none := Array.getElem?_eq_none (Nat.le_of_not_lt hb)
    simp only [Array.getElem?_append_right (Nat.le_of_not_lt hb), e1]
    by_cases hc : b - h.objs.size < n - h.objs.size
    · simp [Array.getElem?_replicate, hc]
    · simp [Array.getElem?_replicate, hc]
theorem pad_size {h : Heap} {n : Nat} (hn : h.objs.size ≤ n) : (pad h n).objs.size = n := by
  unfold pad
  simp only [Array.size_append, Array.size_replicate]
  omega
theorem pad_mod {K : PySem.W.Frag} {mg : Str → Option Value} {base : Heap} {n : Nat} (M : Mod K mg base) : Mod K mg (pad base n) := by
  have k : ∀ b o, base.get? b = some o → (pad base n).get? b = some o := fun b o e => by rw [pad_get]; exact e
  obtain ⟨mb, h1, h2⟩ := M.blt
  exact ⟨M.kin.keeps k, M.glob.keeps k, ⟨mb, h1.keeps k, h2⟩, M.nolimit.keeps k⟩
theorem pad_funs {h base : Heap} {n : Nat} : ∀ {l : List Env}, h.FunFrames base l → h.FunFrames (pad base n) l
  | [], _ => True.intro
  | env :: l, ⟨h1, ⟨L, o, e1, e2, e3, e4⟩, h3⟩ => ⟨h1, ⟨L, o, e1, by rw [pad_get]; exact e2, e3, e4⟩, pad_funs h3⟩
/-! ### iter of a tuple, as a value -/
def titObj (l : Addr) : Obj := { cls := .type "tuple_iterator", data := .fields #[.ref l, .int 0 0] }
def ItTO (l it : Addr) : HO := .ext fun h => h.get? it = some (titObj l)
theorem itTO_ok {P : Program} {w : World} {H : Hp} {h : Heap} {l it : Addr} (e : h.get? it = some (titObj l)) : ObjOk P w H h it (ItTO l it) := ⟨e, ⟨_, e⟩, fun h1 h2 q k => k _ q⟩
def rIterT (K : PySem.W.Frag) (n : Nat) : List V → Hp → VK → Prop := fun xs H Q => ∃ (l : Addr) (zs : List V), xs = [.ref l] ∧ SqT K H l zs ∧ ∀ it, H it = Option.none → n ≤ it → Q (.ref it) (upd H it (ItTO l it))
section
variable {X : Cx}
theorem call_iterT (K : PySem.W.Frag) (hK : X.K = K := by rfl) : CallR X (.builtin "iter") (rIterT K X.base.objs.size) := by
  subst hK
  intro pins s σ H xs us Q I r h
  obtain ⟨l, zs, rfl, hq, q⟩ := h
  obtain rfl := Vals.ref1 r
  obtain ⟨its, rv, pl, hz⟩ := I.tuple hq
  refine Calls.call_function_entry (by decide +kernel) (by decide +kernel) PySem.W.kdk_entry_iter (PySem.W.kdk_args_iter _) ?_
  unfold Builtin.«iter»
  refine wpAny_bind (m := someArgs "iter" 1 2 _) (wpAny_of_eq (a := [Value.ref l]) (by first | rfl | kernel_rfl!) ?_)
  show wpAny _ _ (pyIter (.ref l) >>= _) _ _ s
  refine wpAny_bind (wpAny_pyIter_tuple pl (wpAny_pure ⟨_, rfl, ?_⟩))
  exact ⟨.ref s.heap.objs.size, _, I.laid (t' := s.toks) (fun b u e => Heap.get?_push_of_some _ e) (Nat.le_refl _) (itTO_ok (Heap.get?_push_size _ rfl)), rfl, q _ (I.hok.fresh (Nat.le_refl _)) (Nat.le_trans I.ok.bsz I.sz)⟩
end
/-- __iter__ of the class at C, over any base -/
structure IterOk (P : Program) (w : World) (K : PySem.W.Frag) (mg : Str → Option Value) (C : Addr) (k : Nat) (sp : Nat → Sp) : Prop where
  ex : ∃ g fd, PySem.W.findIn K (.ref C) "__iter__" = some (some (.ref g)) ∧ PySem.W.isFn K (.ref g) = true ∧ Binds K fd ["self"] [] ∧ ∀ base, FnOk P w K mg base CX0 k g fd ["self"] (sp base.objs.size)
/-- it gives an iterator over the tuple of ds -/
def spIt (K : PySem.W.Frag) {ω : Type} (O : OI ω) (R : D ω → List (D ω) → Prop) (n : Nat) : Sp := fun vs H Q _ => ∃ G d ds v, vs = [v] ∧ Ex G H ∧ At K O G d v ∧ R d ds ∧ ∀ G2 H2 l it, Le G H G2 H2 → At K O G2 (.tup ds) (.ref l) → H2 it = Option.none → n ≤ it → Q (.ref it) (upd H2 it (ItTO l it))
def iOwn (K : PySem.W.Frag) (C : Addr) (sp : Nat → Sp) (n : Nat) (te : TE) : TI := fun σ H R => te σ H fun x H1 => ∃ a dx fs, x = .ref a ∧ H1 a = some (.ins C dx fs) ∧ sp n [x] H1 (fun z H2 => ∃ it l H3, z = .ref it ∧ H3 it = Option.none ∧ n ≤ it ∧ H2 = upd H3 it (ItTO l it) ∧ (∃ xs, SqT K H3 l xs) ∧ R (Itt K l) H3) E0
theorem titObj_iter {h : Heap} {l it : Addr} (e : h.get? it = some (titObj l)) : h.IsTupleIter it l 0 := ⟨_, e, rfl, rfl⟩
theorem drop_upd {H : Hp} {a : Addr} {o : HO} (h : H a = Option.none) : dropH (upd H a o) a = H := dropH_upd h
section
variable {X : Cx} {tg e : Expr} {te : TE} {C : Addr} {k : Nat} {sp : Nat → Sp}
theorem pi_own (h : IterOk X.prog X.w X.K X.mg C k sp) (hr : Room k X.A) (he : PE X e te) : PI X tg e (iOwn X.K C sp X.s_0.heap.objs.size te) := by
  obtain ⟨g, fd, hs, hf, hb, F⟩ := h.ex
  refine ⟨fun pins s σ H R I h => ?_⟩
  refine thn (he.run pins s σ H _ I h) fun v s1 ⟨x, H1, I1, r1, q1⟩ => ?_
  obtain ⟨a, dx, fs, rfl, ha, q⟩ := q1
  cases (show v = Value.ref a from r1)
  obtain ⟨od, J⟩ := ins_inst I1 ha
  obtain ⟨m, hF⟩ := I1.fr
  refine PySem.W.owit_iter hF I1.ok.mod.kin J hs hf ?_
  have FB := F (pad X.base X.s_0.heap.objs.size)
  rw [pad_size I1.ok.bsz] at FB
  have e0 : Env0 X.prog X.w X.K X.mg (pad X.base X.s_0.heap.objs.size) X.A X.stack s1 H1 := by
    have e := I1.env0
    exact ⟨e.frames, pad_mod e.mod, fun b o z => e.bs b o (by rw [pad_get] at z; exact z), by rw [pad_size I1.ok.bsz]; exact I1.sz, pad_funs e.funs, e.frf, e.hok, e.bare⟩
  have hb' := hb s1 [.ref a] I1.kIn rfl
  rw [List.append_nil] at hb'
  refine wpAny_call (codeAny_mono (FB.run X.A X.stack s1 H1 ⟨[.ref a], []⟩ [.ref a] [.ref a] _ E0 hr e0 hb' (.cons rfl .nil) q) fun r s' hq => ?_)
  cases r with
  | error e => exact (pass0 (X := X)) pins σ H1 s1 e s' I1 hq
  | ok fl =>
    cases fl with
    | next => exact False.elim hq
    | brk => exact False.elim hq
    | cont => exact False.elim hq
    | ret u =>
      obtain ⟨z, H2, I2, rz, it, l, H3, rfl, hn, hle, rfl, ⟨xs, hxs⟩, hR⟩ := I1.after hq
      cases (show u = Value.ref it from rz)
      have hi : (upd H3 it (ItTO l it)) it = some (ItTO l it) := upd_same
      have eo : s'.heap.get? it = some (titObj l) := (I2.hok it _ hi).1
      have st := titObj_iter eo
      unfold PySem.W.OwitIt
      refine wpAny_specialOf (name := Str.ofString "__next__") st.typeIs PySem.F.slot_tuple_iterator_next.lookup ?_
      have I3 := inv_drop I2 (show (upd H3 it (ItTO l it)) it = some (.ext fun h => h.get? it = some (titObj l)) from hi)
      rw [drop_upd hn] at I3
      refine ⟨it, [it], _, _, H3, rfl, I3, turn_tuple l it, st, fun b hb => ?_, hR⟩
      have e : b = it := by simpa using hb
      rw [e]
      have := inv_fp I2 hi hle
      rw [drop_upd hn] at this
      exact this
end
section
variable {ω : Type} {K : PySem.W.Frag} {O : OI ω} {G : Hp} {te : TE} {σ : L2.St} {C : Addr} {R : D ω → List (D ω) → Prop} {n : Nat} {w : ω} {ds : List (D ω)}
/-- instances at all -/
def InsC (O : OI ω) (T : ω → Addr) : Prop := ∀ H a w, O.at_ H a w → ∃ dx fs, H a = some (.ins (T w) dx fs)
theorem src_own {T : ω → Addr} (hi : InsC O T) (hT : T w = C) (h : EvD K O te σ G (.obj w)) (r : R (.obj w) ds) : Src K O (iOwn K C (spIt K O R) n te) σ G ds := fun H1 e S k =>
  h H1 e _ fun v G2 H2 l a => by
    obtain ⟨x, rfl, ha⟩ := at_obj.mp a
    obtain ⟨dx, fs, hx⟩ := hi _ _ _ ha
    rw [hT] at hx
    refine ⟨x, dx, fs, rfl, l.e _ _ hx, G2, .obj w, ds, .ref x, rfl, l.e, a, r, fun G3 H3 lp it l3 al hn hle => ?_⟩
    obtain ⟨q, us, hq, hs, as⟩ := at_tup.mp al
    obtain rfl := V.ref.inj hq
    have ht : Src K O (iTup K (tVar 0)) [some (.ref lp)] G3 ds := src_tup (ed_var rfl al)
    obtain ⟨y, hy, a', rfl', ⟨xs, hxs⟩, hR⟩ := ht H3 l3.e S fun J Gd Y G4 H4 l4 w hG yl => k J Gd Y G4 H4 ((l.trans l3).trans l4) w hG yl
    cases hy
    cases rfl'
    exact ⟨it, lp, H3, rfl, hn, hle, rfl, ⟨xs, hxs⟩, hR⟩
end
end SR
set_option maxRecDepth 100000
set_option maxHeartbeats 4000000
namespace SR
open PySem PySem.Spec PyProof.Rows L2 Evl
section
variable {ω : Type} {X : Cx} {O : OI ω} {C : Addr} {k n : Nat} {ps : List Str} {R : List (D ω) → D ω → Prop} {w u : ω} {b : Bool}
theorem rcD_obj {T : ω → Addr} (hi : InsC O T) (hw : T w = C) (hu : T u = C) (h : DunOk X.prog X.w X.K X.mg X.base C k "__eq__" ps (SpD X.K O R)) (r : R [.obj w, .obj u] (.bl b)) : RcD X O k (.obj w) (.obj u) b := by
  obtain ⟨g, fd, hs, hf, _, hb, F⟩ := h.ex
  intro A pins s σ G H x y v1 v2 sb I rx ry eg a1 a2
  obtain ⟨p, rfl, h1⟩ := at_obj.mp a1
  obtain ⟨q, rfl, h2⟩ := at_obj.mp a2
  cases rx
  cases ry
  obtain ⟨dx, fs, i1⟩ := hi _ _ _ h1
  obtain ⟨dy, gs, i2⟩ := hi _ _ _ h2
  rw [hw] at i1
  rw [hu] at i2
  obtain ⟨od, J⟩ := ins_inst I (eg _ _ i1)
  obtain ⟨od', J'⟩ := ins_inst I (eg _ _ i2)
  obtain ⟨m, hF⟩ := I.fr
  refine PySem.W.cmp_K (op := .Eq) (tb := .ref C) sb.room.units0 hF I.ok.mod.kin J J'.type (by simp [PySem.W.notFirst]) hs hf ?_
  have hsp : SpD X.K O R [.ref p, .ref q] H (fun v H' => v = .bl b ∧ Ex H H') E0 := ⟨G, [.obj w, .obj u], .bl b, eg, atL_cons.mpr ⟨_, _, rfl, a1, AtL.one a2⟩, r, fun v G2 H2 l av => ⟨at_bl.mp av, l.h⟩⟩
  have e0 : Env0 X.prog X.w X.K X.mg X.base A X.stack s H := by
    have e := I.env0
    exact ⟨by rw [sb.fr]; exact e.frames, e.mod, e.bs, e.bsz, e.funs, e.frf, e.hok, e.bare⟩
  have hl := F.len _ _ _ _ hsp
  have r2 : Vals [V.ref p, V.ref q] [Value.ref p, Value.ref q] := .cons rfl (.cons rfl .nil)
  refine wpAny_call (codeAny_mono (F.run A X.stack s H ⟨[.ref p, .ref q], []⟩ [.ref p, .ref q] [.ref p, .ref q] _ E0 sb.room e0 (by
    have := hb s [.ref p, .ref q] I.kIn (by simpa using hl)
    simpa using this) r2 hsp) fun r s' hq => ?_)
  cases r with
  | error e => exact (pass0 (X := X)) pins σ H s e s' I hq
  | ok fl =>
    cases fl with
    | next => exact False.elim hq
    | brk => exact False.elim hq
    | cont => exact False.elim hq
    | ret u =>
      obtain ⟨z, H2, I2, rz, hz, e2⟩ := I.after hq
      subst hz
      cases (show u = Value.bool b from rz)
      exact ⟨rfl, H2, I2, e2⟩
/-- d == e by data -/
def rEqQ (K : PySem.W.Frag) (O : OI ω) (P : D ω → D ω → Bool → Prop) : R2 := fun x y H Q => ∃ G d e b, Ex G H ∧ At K O G d x ∧ At K O G e y ∧ P d e b ∧ ∀ H', Ex H H' → Q (.bl b) H'
theorem op_eqQ {P : D ω → D ω → Bool → Prop} (h : ∀ d e b, P d e b → RcD X O n d e b) (hr : Room n X.A) : OpR X (compareOp .Eq) (rEqQ X.K O P) := by
  intro pins s σ H x y v u Q I rx ry hq
  obtain ⟨G, d, e, b, eg, a1, a2, p, q⟩ := hq
  show wpAny (model X.prog X.w) X.A (richCompare .Eq v u) (EP X pins σ Q) X.xe s
  refine wpAny_mono (h d e b p X.A pins s σ G H x y v u ⟨hr, rfl⟩ I rx ry eg a1 a2) (fun r s' z => ?_) fun _ _ x => x
  obtain ⟨rfl, H', I', e'⟩ := z
  exact ⟨.bl b, H', I', rfl, q H' e'⟩
/-- data without objects, or with objects that oq tells apart -/
def PDq (oq : ω → ω → Bool → Prop) (j : Nat) : D ω → D ω → Bool → Prop := fun d e b => DQ oq j d e b ∧ isRef d = true
theorem op_eqDq {oq : ω → ω → Bool → Prop} (hs : OSame O oq) (ho : ∀ w u b, oq w u b → RcD X O n (.obj w) (.obj u) b) (j : Nat) (hr : Room (n + j) X.A) : OpR X (compareOp .Eq) (rEqQ X.K O (PDq oq j)) :=
  op_eqQ (fun d e b h => (eqD_all hs ho j d e b h.1).2 h.2) hr
end
section
variable {ω : Type} {K : PySem.W.Frag} {O : OI ω} {G : Hp} {ta tb : TE} {σ : L2.St} {d e : D ω} {b : Bool} {P : D ω → D ω → Bool → Prop}
theorem ev_eqQ (h1 : EvD K O ta σ G d) (h2 : EvD K O tb σ G e) (p : P d e b) : Ev (tOp (rEqQ K O P) ta tb) σ G (.bl b) := fun H1 e1 Q q =>
  h1 H1 e1 _ fun v G2 H2 l a => h2 H2 (e1.trans l.h) _ fun u G3 H3 l3 a3 => by
    have e2 : Ex G2 H3 := l.e.trans l3.h
    exact ⟨hun G3 G2, d, e, b, hun_ex l3.e e2, a.mono (hun_r l3.e e2), a3.mono hun_l, p, fun H' eh => q H' ((l.h.trans l3.h).trans eh)⟩
end
/-- no objects -/
def noOq {ω : Type} : ω → ω → Bool → Prop := fun _ _ _ => False
theorem same_no {ω : Type} {O : OI ω} : OSame O noOq := fun _ _ _ _ _ _ _ h => h.elim
end SR
set_option maxRecDepth 100000
set_option maxHeartbeats 4000000
namespace SR
open PySem PySem.Spec PyProof.Rows L2 Evl
/-! ### _law_same, dicts of numbers too -/
theorem op_orR {X : Cx} {o : Value → Value → Sem Value} {r1 r2 : R2} (h1 : OpR X o r1) (h2 : OpR X o r2) : OpR X o (fun x y H Q => r1 x y H Q ∨ r2 x y H Q) := fun pins s σ H x y v u Q I rx ry hq => hq.elim (h1 pins s σ H x y v u Q I rx ry) (h2 pins s σ H x y v u Q I rx ry)
theorem rv_or1 {r1 r2 : R2} {x y z : V} {H : Hp} (h : RV r1 x y H z) : RV (fun x y H Q => r1 x y H Q ∨ r2 x y H Q) x y H z := fun H1 e Q q => Or.inl (h H1 e Q q)
section
variable {ω : Type}
mutual
def noObD : D ω → Bool
  | .lst l => noObDL l
  | .tup l => noObDL l
  | .dic m => dicEq m m && decide (m.map (·.1)).Nodup
  | .obj _ => false
  | _ => true
def noObDL : List (D ω) → Bool
  | [] => true
  | d :: l => noObD d && noObDL l
end
theorem noObDL_mem : ∀ {l : List (D ω)} {d : D ω}, noObDL l = true → d ∈ l → noObD d = true
  | c :: l, d, n, h => by
    simp only [noObDL, Bool.and_eq_true] at n
    rcases List.mem_cons.mp h with rfl | h
    · exact n.1
    · exact noObDL_mem n.2 h
def rSmD (n : Nat) : List (D ω) → D ω → Prop := fun ds r => ∃ d, ds = [d, d] ∧ dep d < n ∧ noObD d = true ∧ allOk d = true ∧ r = .bl true
end
section
variable {P : Program} {w : World} {K : PySem.W.Frag} {mg : Str → Option Value} {base : Heap} {ω : Type} {O : OI ω} {Ty : ω → Value}
theorem ok_sameD {f : Addr} {fd : FuncData} (F : Fun K "_law_same" "_law_same" _law_same_S f fd) (B : Bi mg) (OK : OT K O Ty) (hm : mg "_law_same" = some (.ref f)) (hb : Binds K fd ["_law_found", "_law_due"] []) : ∀ n, FnOk P w K mg base CX0 n f fd ["_law_found", "_law_due"] (SpD K O (rSmD n))
  | 0 => ⟨fun vs H Q E h => (by obtain ⟨G, ds, d, e, as, ⟨d0, _, h1, _⟩, k⟩ := h; exact absurd h1 (Nat.not_lt_zero _)), fun A outer s H args us vs Q E hr he hb hv h => (by obtain ⟨G, ds, d, e, as, ⟨d0, _, h1, _⟩, k⟩ := h; exact absurd h1 (Nat.not_lt_zero _))⟩
  | n + 1 => by
    have h__law_same : DefOk P w K mg base n "_law_same" ["_law_found", "_law_due"] (SpD K O (rSmD n)) := defOk F hm (ok_sameD F B OK hm hb n) hb
    refine F.ok _law_same_sc (fun vs H Q E h => ?_) (fun cdv A outer s0 H vs Q E hr h => ?_)
    · obtain ⟨G, ds, d, e, as, ⟨d0, rfl, _⟩, k⟩ := h
      exact as.len
    · obtain ⟨G, ds, d, e, as, ⟨d0, rfl, hdep, hno, hok, rfl⟩, k⟩ := h
      obtain ⟨v, r, rfl, a, nn⟩ := atL_cons.mp as
      obtain ⟨v2, r, rfl, a2, nn⟩ := atL_cons.mp nn
      obtain rfl := atL_nil.mp nn
      refine ⟨_, (pss_cons (ps_if (pt_val (pe_callB (call_isiTK K) (by rfl) B.isinstance (by decide +kernel) (pa_cons (pv 1) (pa_cons (pe_tup (pa_cons (pe_bltn (v := .ty "list") (by rfl) B.list (by decide +kernel) rfl) (pa_cons (pe_bltn (v := .ty "tuple") (by rfl) B.tuple (by decide +kernel) rfl) pa_nil))) pa_nil)))) (pss_cons (ps_if (PW.pt (pw_or (pt_cmpR op_ne (pe_callB (call_isiK' K) (by rfl) B.isinstance (by decide +kernel) (pa_cons (pv 0) (pa_cons (pe_bltn (v := .ty "list") (by rfl) B.list (by decide +kernel) rfl) pa_nil))) (pe_callB (call_isiK' K) (by rfl) B.isinstance (by decide +kernel) (pa_cons (pv 1) (pa_cons (pe_bltn (v := .ty "list") (by rfl) B.list (by decide +kernel) rfl) pa_nil))) (nomark _)) (pw_or1 (pt_cmpR op_ne (pe_callB (call_isiK' K) (by rfl) B.isinstance (by decide +kernel) (pa_cons (pv 0) (pa_cons (pe_bltn (v := .ty "tuple") (by rfl) B.tuple (by decide +kernel) rfl) pa_nil))) (pe_callB (call_isiK' K) (by rfl) B.isinstance (by decide +kernel) (pa_cons (pv 1) (pa_cons (pe_bltn (v := .ty "tuple") (by rfl) B.tuple (by decide +kernel) rfl) pa_nil))) (nomark _))))) (pss_one (ps_ret pe_bl)) pss_nil)
    (pss_one (ps_ret (pe_and (pe_cmpR op_eq (pe_callB (call_lenK K) (by rfl) B.len (by decide +kernel) (pa_cons (pv 0) pa_nil)) (pe_callB (call_lenK K) (by rfl) B.len (by decide +kernel) (pa_cons (pv 1) pa_nil)) (nomark _)) (pe_one (pe_callB (cr_allK K rfl) (by rfl) B.all (by decide +kernel) (pa_cons (pe_lc (own := [("_law_x", 2), ("_law_y", 3)]) rfl _law_same_sc.nd (RZ.pi_zipA (by rfl) B.zip (pa_cons (pv 0) (pa_cons (pv 1) pa_nil))) (blkOk_by (N := _law_same_N) (sc := defScope _law_same_S) (by decide +kernel)) (fun _ _ _ _ _ => (pg_tupK (k := 2) K rfl (pgs_cons (pg_name (i := 2) _law_same_sc.nd rfl (Or.inl rfl)) (pgs_cons (pg_name (i := 3) _law_same_sc.nd rfl (Or.inl rfl)) pgs_nil)))) (fun _ _ _ _ _ => pts_nil) (fun _ _ _ _ _ => by exact (pe_callD h__law_same (hr.mono (by first | decide | exact Nat.le_refl _)) (pa_cons (pv 2) (pa_cons (pv 3) pa_nil))))) pa_nil))))))) pss_nil)
    (pss_cons (ps_if (pt_val (pe_callB (call_isiK' K) (by rfl) B.isinstance (by decide +kernel) (pa_cons (pv 1) (pa_cons (pe_bltn (v := .ty "int") (by rfl) B.int (by decide +kernel) rfl) pa_nil)))) (pss_one (ps_ret (pe_and (pe_callB (call_isiK' K) (by rfl) B.isinstance (by decide +kernel) (pa_cons (pv 0) (pa_cons (pe_bltn (v := .ty "int") (by rfl) B.int (by decide +kernel) rfl) pa_nil))) (pe_and (pe_cmpR op_eq (pe_callB (call_isiK' K) (by rfl) B.isinstance (by decide +kernel) (pa_cons (pv 0) (pa_cons (pe_bltn (v := .ty "bool") (by rfl) B.bool (by decide +kernel) rfl) pa_nil))) (pe_callB (call_isiK' K) (by rfl) B.isinstance (by decide +kernel) (pa_cons (pv 1) (pa_cons (pe_bltn (v := .ty "bool") (by rfl) B.bool (by decide +kernel) rfl) pa_nil))) (nomark _)) (pe_one (pe_cmpR (op_orR op_eq (op_eqDq (O := O) (oq := noOq) same_no (fun _ _ _ z => z.elim) 0 (hr.mono (by first | decide | exact Nat.zero_le _)))) (pv 0) (pv 1) (nomark _))))))) pss_nil)
    (pss_one (ps_ret (pe_and (pe_cmpR op_isBl (pe_callB (call_isiTK K) (by rfl) B.isinstance (by decide +kernel) (pa_cons (pv 0) (pa_cons (pe_tup (pa_cons (pe_bltn (v := .ty "int") (by rfl) B.int (by decide +kernel) rfl) (pa_cons (pe_bltn (v := .ty "list") (by rfl) B.list (by decide +kernel) rfl) (pa_cons (pe_bltn (v := .ty "tuple") (by rfl) B.tuple (by decide +kernel) rfl) pa_nil)))) pa_nil))) pe_bl (nomark _)) (pe_one (pe_cmpR (op_orR op_eq (op_eqDq (O := O) (oq := noOq) same_no (fun _ _ _ z => z.elim) 0 (hr.mono (by first | decide | exact Nat.zero_le _)))) (pv 0) (pv 1) (nomark _)))))))), ?_⟩
      have h0 : EvD K O (tVar 0) [some v, some v2, none, none] G d0 := ed_var rfl a
      have h1 : EvD K O (tVar 1) [some v, some v2, none, none] G d0 := ed_var rfl a2
      refine q_whenG (b := dSeq d0) (et_test (isi_seq OK h1)) e (fun hs H2 l2 => ?_) (fun hs H2 l2 => ?_)
      · -- lists, tuples
        refine q_skip (et_is (et_or (et_test (ev_op (isi_list OK h0) (isi_list OK h1) (rv_ne rfl))) fun _ => et_test (ev_op (isi_tuple OK h0) (isi_tuple OK h1) (rv_ne rfl))) (by simp)) l2.e fun H3 l3 => ?_
        refine s_retD (ed_of (v := .bl true) ?_ (at_bl.mpr rfl)) l3.e (k.mono (l2.trans l3))
        refine ev_is (ev_andV (a := true) (b := true) (ev_is (ev_op (len_d h0 hs) (len_d h1 hs) (rv_eq rfl)) (by simp)) fun _ => ?_) rfl
        obtain ⟨l, src, hln, hmem⟩ : ∃ l : List (D ω), Src K O (RZ.iZipA K (tCons (tVar 0) (tCons (tVar 1) tNil))) [some v, some v2, none, none] G (zipD l l) ∧ l.length ≤ 30000 ∧ ∀ c, c ∈ l → dep c < n ∧ noObD c = true ∧ allOk c = true := by
          cases d0 with
          | lst l =>
            simp only [allOk, Bool.and_eq_true] at hok
            refine ⟨l, src_zipL (eda_cons h0 (eda_cons h1 eda_nil)), of_decide_eq_true hok.1, fun c hc => ⟨?_, noObDL_mem (by simpa only [noObD] using hno) hc, allOkL_mem hok.2 hc⟩⟩
            have h3 := depL_le hc
            have h4 : depL l + 1 < n + 1 := hdep
            omega
          | tup l =>
            simp only [allOk, Bool.and_eq_true] at hok
            refine ⟨l, src_zipT (eda_cons h0 (eda_cons h1 eda_nil)), of_decide_eq_true hok.1, fun c hc => ⟨?_, noObDL_mem (by simpa only [noObD] using hno) hc, allOkL_mem hok.2 hc⟩⟩
            have h3 := depL_le hc
            have h4 : depL l + 1 < n + 1 := hdep
            omega
          | _ => cases hs
        have hz : (zipD l l).length ≤ 40000 := by simp [zipD]; omega
        have h7 := ed_lc (K := K) (O := O) (te := tCall (SpD K O (rSmD n)) [] E0 (tCons (tVar 2) (tCons (tVar 3) tNil))) (tt := tYes) (vs := [2, 3]) (g := gTup K 2 (gCons (gName 2) (gCons (gName 3) gNil))) (fun _ => true) (fun _ => D.bl true) src hz ?_
        · have e8 : ((zipD l l).filter fun _ => true).map (fun _ => (D.bl true : D ω)) = ((zipD l l).map fun _ => true).map D.bl := by
            rw [List.filter_eq_self.mpr (fun _ _ => rfl), List.map_map]
            rfl
          rw [e8] at h7
          refine ev_is (ev_allD h7) ?_
          congr 1
          rw [List.all_map]
          simp
        · intro i d x Gi Hi hd eg eh ad Q' hQ
          obtain ⟨c, hc, rfl⟩ := zip_self_get hd
          obtain ⟨hc1, hc2, hc3⟩ := hmem c hc
          refine tg_pair ad eh fun x1 x2 a1 a2 => ?_
          exact hQ _ Hi (Ex.refl _) rfl et_yes fun _ => ed_call (eda_cons (ed_var rfl a1) (eda_cons (ed_var rfl a2) eda_nil)) ⟨c, rfl, hc1, hc2, hc3, rfl⟩
      · refine q_whenG (b := dIntB d0) (et_test (isi_int OK h1)) l2.e (fun hi H3 l3 => ?_) (fun hi H3 l3 => ?_)
        · refine s_retD (ed_of (v := .bl true) ?_ (at_bl.mpr rfl)) l3.e (k.mono (l2.trans l3))
          refine ev_is (ev_andV (a := true) (b := true) (ev_is (isi_int OK h0) (by rw [hi])) fun _ => ?_) rfl
          refine ev_is (ev_andV (a := true) (b := true) (ev_is (ev_op (isi_bool OK h0) (isi_bool OK h1) (rv_eq rfl)) (by simp)) fun _ => ?_) rfl
          cases d0 with
          | int i =>
            obtain rfl := at_int.mp a
            obtain rfl := at_int.mp a2
            exact ev_is (ev_op (ev_var (i := 0) rfl) (ev_var (i := 1) rfl) (rv_or1 (rv_eq rfl))) (by simp)
          | bl b =>
            obtain rfl := at_bl.mp a
            obtain rfl := at_bl.mp a2
            exact ev_is (ev_op (ev_var (i := 0) rfl) (ev_var (i := 1) rfl) (rv_or1 (rv_eq rfl))) (by simp)
          | _ => cases hi
        · refine s_retD (K := K) (O := O) (ed_of (v := .bl true) ?_ (at_bl.mpr rfl)) l3.e (k.mono (l2.trans l3))
          refine ev_is (ev_andV (a := true) (b := true) (ev_is (ev_op (isi_ils OK h0) ev_c (fun H1 _ Q q => ⟨_, _, rfl, rfl, q H1 (Ex.refl H1)⟩ : RV rIsB (.bl (dIntB d0 || dSeq d0)) (.bl false) G (.bl (decide ((dIntB d0 || dSeq d0) = false))))) (by rw [hs, hi]; rfl)) fun _ => ?_) rfl
          cases d0 with
          | non =>
            obtain rfl := at_non.mp a
            obtain rfl := at_non.mp a2
            exact ev_is (ev_op (ev_var (i := 0) rfl) (ev_var (i := 1) rfl) (rv_or1 (rv_eq rfl))) (by simp)
          | str x =>
            obtain rfl := at_str.mp a
            obtain rfl := at_str.mp a2
            exact ev_is (ev_op (ev_var (i := 0) rfl) (ev_var (i := 1) rfl) (rv_or1 (rv_eq rfl))) (by simp)
          | dic m =>
            simp only [noObD, Bool.and_eq_true, decide_eq_true_eq] at hno
            have hE := ev_eqQ (K := K) (O := O) (P := PDq noOq 0) (b := true) h0 h1 ⟨⟨hno.2, hno.1.symm⟩, rfl⟩
            intro H9 e9 Q9 q9
            obtain ⟨u1, hu1, u2, hu2, hr9⟩ := hE H9 e9 Q9 q9
            exact ⟨u1, hu1, u2, hu2, Or.inr hr9⟩
          | obj u => simp only [noObD] at hno; cases hno
          | int i => cases hi
          | bl b => cases hi
          | lst l => cases hs
          | tup l => cases hs
end
end SR
set_option maxRecDepth 100000
set_option maxHeartbeats 4000000
namespace SR
open PySem PySem.Spec PyProof.Rows L2 Evl
/-! ### what is known of the odd things -/
section
variable {ω : Type}
theorem of_all {f : D ω → Bool} {l : List (D ω)} (h : l.all f = true) : ∀ d ∈ l, f d = true := fun d hd => List.all_eq_true.mp h d hd
theorem odd_terms : ∀ d ∈ (oddT1 ++ oddT2 : List (D ω)), (!dTerm d) = true := of_all rfl
theorem odd_primes : ∀ d ∈ (oddP : List (D ω)), (!dPrime d && (decide (dep d < 4) && (allOk d && (noObD (frz d) && allOk (frz d))))) = true := of_all rfl
theorem odd_dep : ∀ d ∈ (oddP : List (D ω)), dep (D.tup (ω := ω) [.str "prime", frz d]) < 4 := fun d hd => of_decide_eq_true (of_all (f := fun d => decide (dep (D.tup (ω := ω) [.str "prime", frz d]) < 4)) rfl d hd)
theorem noObD_pairs : ∀ {m : List (Int × Int)}, noObDL (ω := ω) (m.map pairD) = true
  | [] => rfl
  | q :: m => by
    show (noObD (pairD q) && noObDL (m.map pairD)) = true
    rw [noObD_pairs]
    rfl
theorem odd_things : ∀ d ∈ ([.non, .int 5, .str "ab", .str "", .dic [], .bl true] : List (D ω)), dBad d = .int 0 := fun d hd => by
  simp only [List.mem_cons, List.mem_nil_iff, or_false] at hd
  rcases hd with rfl | rfl | rfl | rfl | rfl | rfl <;> rfl
/-- the first bad one among rows -/
theorem bad_at {rows : List (Int × Int)} {k : Nat} {d : D ω} {rest : List (D ω)} (hk : k ≤ rows.length) (hd : dTerm d = false) : badL ((rows.take k).map pairD ++ d :: rest) = some k := by
  refine badL_at (d := d) ?_ (fun j hj c hc => ?_) hd
  · rw [List.getElem?_append_right (by rw [List.length_map, List.length_take]; omega), List.length_map, List.length_take, show k - min k rows.length = 0 by omega]
    rfl
  · rw [List.getElem?_append_left (by rw [List.length_map, List.length_take]; omega), List.getElem?_map] at hc
    obtain ⟨q, _, rfl⟩ := Option.map_eq_some_iff.mp hc
    rfl
end
end SR
set_option maxRecDepth 100000
set_option maxHeartbeats 4000000
/-! Steps of parts, one after the other, as they stand. -/
namespace SR
open PySem PySem.Spec PyProof.Rows L2 Evl
section
variable {σ : L2.St} {H : Hp} {te ta tb : TE} {t : TA} {De : Ends} {tz : TS} {i j : Nat} {C : Addr} {sp : Sp} {dvs : List V} {E : XK} {Q : VK}
theorem rw_cons {Q : List V → Hp → Prop} (h : te σ H fun x H1 => t σ H1 fun xs H2 => Q (x :: xs) H2) : tCons te t σ H Q := h
theorem rw_nil {Q : List V → Hp → Prop} (h : Q [] H) : tNil σ H Q := h
theorem rw_call (h : t σ H fun vs H1 => sp (vs ++ dvs) H1 Q E) : tCall sp dvs E t σ H Q := h
theorem rw_op {r : R2} (h : ta σ H fun x H1 => tb σ H1 fun y H2 => r x y H2 Q) : tOp r ta tb σ H Q := h
theorem rw_asg (h : te σ H fun v H2 => tz De (σ.set i (some v)) H2) : tSeq (tAsg te (gName i)) tz De σ H := h
theorem rw_par (h : t σ H fun vs H2 => ∃ x y, vs = [x, y] ∧ tz De ((σ.set i (some x)).set j (some y)) H2) : tSeq (tPar i j t) tz De σ H := h
theorem rw_lst (h : t σ H fun vs H1 => vs.length ≤ sizeLine ∧ ∀ p, H1 p = none → Q (.ref p) (upd H1 p (.lst vs))) : tLst t σ H Q := h
theorem rw_tup (h : t σ H fun vs H1 => vs.length ≤ sizeLine ∧ ∀ p, H1 p = none → Q (.ref p) (upd H1 p (.tup vs))) : tTup t σ H Q := h
theorem rw_for1 {g : TG} {tb : TS} (h : t σ H fun us H1 => tSeq (tFor (iRng1 (fun _ H Q => Q us H)) g tb) tz De σ H1) : tSeq (tFor (iRng1 t) g tb) tz De σ H := h
theorem rw_split {t : TT} {tu tw : TS} (Pst : L2.St → Hp → Prop) (h : ∀ TZ : L2.St → Hp → Prop, (∀ σ' H', Pst σ' H' → TZ σ' H') → tIfS t tu tw { De with nx := TZ } σ H) (k : ∀ σ' H', Pst σ' H' → tz De σ' H') : tSeq (tIfS t tu tw) tz De σ H := h (tz De) k
theorem rw_c {v : V} (h : Q v H) : tC v σ H Q := h
theorem ea_const {G : Hp} {vs : List V} : EvA (fun _ H Q => Q vs H) σ G vs := fun H1 e Q q => q H1 (Ex.refl H1)
theorem rw_seqIf {tt : TT} {tu tw : TS} (h : tt σ H fun b H1 => if b = true then tu { De with nx := tz De } σ H1 else tw { De with nx := tz De } σ H1) : tSeq (tIfS tt tu tw) tz De σ H := h
end
section
variable {ω : Type} {K : PySem.W.Frag} {O : OI ω} {G H : Hp} {σ : L2.St} {ds es : List (D ω)} {x y : V} {Q : VK}
theorem ed_cv {v : V} {d : D ω} (a : At K O G d v) : EvD K O (tC v) σ G d := fun H1 e Q k => k v G H1 (Le.refl e) a
theorem ed_cf {v : V} {d : D ω} (a : At K O G d v) : EvD K O (fun _ H Q => Q v H) σ G d := fun H1 e Q k => k v G H1 (Le.refl e) a
theorem cat_go (ax : At K O G (.lst ds) x) (ay : At K O G (.lst es) y) (hz : ds.length + es.length ≤ 100000) (e : Ex G H) (k : ∀ v G2 H2, Le G H G2 H2 → At K O G2 (.lst (ds ++ es)) v → Q v H2) : rCat x y H Q :=
  ed_cat (σ := []) (ed_cf ax) (ed_cf ay) hz H e Q k
/-- a new list, told apart from what is known -/
theorem cat_new (ax : At K O G (.lst ds) x) (ay : At K O G (.lst es) y) (hz : ds.length + es.length ≤ 100000) (e : Ex G H) (k : ∀ l us, H l = none → AtL K O G (ds ++ es) us → Q (.ref l) (upd H l (.lst us))) : rCat x y H Q := by
  obtain ⟨p, vs, rfl, hs, as⟩ := at_lst.mp ax
  obtain ⟨q, us, rfl, hs3, as3⟩ := at_lst.mp ay
  exact ⟨p, q, vs, us, rfl, rfl, e _ _ hs, e _ _ hs3, sz_of (by rw [as.len, as3.len]; exact hz), fun m hm => k m _ hm (as.app as3)⟩
end
theorem call_listK {X : Cx} (K : PySem.W.Frag) (hK : X.K = K := by rfl) : CallR X (.type "list") (rListOf K) := by
  subst hK
  exact call_list_of
end SR
set_option maxRecDepth 100000
set_option maxHeartbeats 4000000
namespace SR
open PySem PySem.Spec PyProof.Rows L2 Evl
section
variable {ω : Type} {K : PySem.W.Frag} {O : OI ω} {G H : Hp} {te tl th : TE} {σ : L2.St}
theorem atL_take : ∀ {l : List (D ω)} {vs : List V} {n : Nat}, AtL K O G l vs → AtL K O G (l.take n) (vs.take n)
  | [], vs, n, h => by
    rw [atL_nil.mp h]
    cases n <;> exact atL_nil.mpr rfl
  | d :: l, vs, 0, h => atL_nil.mpr rfl
  | d :: l, vs, n + 1, h => by
    obtain ⟨v, r, rfl, a, m⟩ := atL_cons.mp h
    exact atL_cons.mpr ⟨v, _, rfl, a, atL_take m⟩
theorem atL_drop : ∀ {l : List (D ω)} {vs : List V} {n : Nat}, AtL K O G l vs → AtL K O G (l.drop n) (vs.drop n)
  | [], vs, n, h => by
    rw [atL_nil.mp h]
    cases n <;> exact atL_nil.mpr rfl
  | d :: l, vs, 0, h => h
  | d :: l, vs, n + 1, h => by
    obtain ⟨v, r, rfl, a, m⟩ := atL_cons.mp h
    exact atL_drop (l := l) (n := n) m
theorem ed_takeZ {ds : List (D ω)} {hi : Nat} (h : EvD K O te σ G (.lst ds)) (hh : Ev th σ G (.int (hi : Int))) : EvD K O (tSl (rSlL K) te tNoPart (tPart th)) σ G (.lst (ds.take hi)) := fun H1 e Q k =>
  h H1 e _ fun v G2 H2 l a => hh H2 (e.trans l.h) _ fun H4 e4 => ⟨_, rfl, by
    obtain ⟨p, vs, rfl, hp, as⟩ := at_lst.mp a
    refine ⟨p, vs, rfl, sq_of (e4 _ _ (l.e _ _ hp)), fun q hq => ?_⟩
    have hn : vs.length = ds.length := as.len
    have hc : cutV vs none (some (hi : Int)) = vs.take hi := by
      unfold cutV
      rw [HT.sIx_nat, HT.sIx_none, Nat.sub_zero, List.drop_zero]
      rcases Nat.le_total hi vs.length with q | q
      · rw [Nat.min_eq_left q]
      · rw [Nat.min_eq_right q, List.take_length, List.take_of_length_le q]
    rw [hc]
    have l4 : Le G H1 G2 H4 := l.trans (Le.heap l.e e4)
    exact k (.ref q) (upd G2 q (.lst _)) _ (l4.trans (Le.new l4.e hq)) (at_lst.mpr ⟨q, _, rfl, upd_same, (atL_take as).mono (Ex.new (none_of_ex l4.e hq))⟩)⟩
theorem ed_dropZ {ds : List (D ω)} {lo : Nat} (h : EvD K O te σ G (.lst ds)) (hl : Ev tl σ G (.int (lo : Int))) : EvD K O (tSl (rSlL K) te (tPart tl) tNoPart) σ G (.lst (ds.drop lo)) := fun H1 e Q k =>
  h H1 e _ fun v G2 H2 l a => hl H2 (e.trans l.h) _ fun H4 e4 => ⟨_, rfl, by
    obtain ⟨p, vs, rfl, hp, as⟩ := at_lst.mp a
    refine ⟨p, vs, rfl, sq_of (e4 _ _ (l.e _ _ hp)), fun q hq => ?_⟩
    have hn : vs.length = ds.length := as.len
    have hc : cutV vs (some (lo : Int)) none = vs.drop lo := by
      unfold cutV
      rw [HT.sIx_nat, HT.sIx_none]
      rcases Nat.le_total lo vs.length with q | q
      · rw [Nat.min_eq_left q]
        exact List.take_of_length_le (by rw [List.length_drop]; exact Nat.le_refl _)
      · rw [Nat.min_eq_right q, Nat.sub_self, List.take_zero, List.drop_eq_nil_of_le q]
    rw [hc]
    have l4 : Le G H1 G2 H4 := l.trans (Le.heap l.e e4)
    exact k (.ref q) (upd G2 q (.lst _)) _ (l4.trans (Le.new l4.e hq)) (at_lst.mpr ⟨q, _, rfl, upd_same, (atL_drop as).mono (Ex.new (none_of_ex l4.e hq))⟩)⟩
theorem ev_lenZ {ds : List (D ω)} (h : EvD K O te σ G (.lst ds)) {n : Nat} (hn : ds.length = n) : Ev (tCB (fun xs H Q => ∃ p ys, xs = [V.ref p] ∧ (SqL K H p ys ∨ SqT K H p ys) ∧ Q (.int ys.length) H) (tCons te tNil)) σ G (.int (n : Int)) := by
  subst hn
  exact len_d (d := .lst ds) h rfl
section
variable {s q a : Addr} {n k : Nat} {H2 : Hp} {o : HO}
theorem At2.grZ0 {H' : Hp} (A : At2 s q G H n) (e : Ex H H') : At2 s q G H' n := A.le (Le.heap A.e e)
theorem At2.grZ (A : At2 s q G H n) (e : Ex H H2) (hn : n ≤ k) : At2 s q G H2 k := ⟨A.e.trans e, A.gs, A.gq, A.spr.keep (fun x o h => e x o h) hn⟩
theorem At2.upZ (A : At2 s q G H n) (hn : n ≤ k) : At2 s q G H k := ⟨A.e, A.gs, A.gq, A.spr.keep (fun x o h => h) hn⟩
theorem At2.newZ (A : At2 s q G H n) (h : H a = none) : At2 s q G (upd H a o) n := A.grZ (Ex.new h) (Nat.le_refl _)
theorem At2.neZ (A : At2 s q G H n) (h : H a = none) : a ≠ s ∧ a ≠ q := ⟨fun z => A.spr.sne (z ▸ h), fun z => A.spr.qne (z ▸ h)⟩
theorem At2.mutZ (A : At2 s q G H n) (h : G a = none) (hn : a ≠ s ∧ a ≠ q) : At2 s q G (upd H a o) n := by
  obtain ⟨cells, r, m, sd, h1, h2, h3⟩ := A.spr.ex
  exact ⟨fun x u e => by rw [upd_ne (fun z => by rw [z, h] at e; cases e)]; exact A.e x u e, A.gs, A.gq, ⟨cells, r, m, sd, by rw [upd_ne (Ne.symm hn.1)]; exact h1, by rw [upd_ne (Ne.symm hn.2)]; exact h2, h3⟩⟩
theorem At2.fixZ (A : At2 s q G H n) (h : H a = some o) (hn : a ≠ s ∧ a ≠ q) : At2 s q (upd G a o) H n :=
  ⟨fun x u e => by
    by_cases z : x = a
    · rw [z, upd_same] at e
      rw [z, h]; exact e
    · rw [upd_ne z] at e; exact A.e x u e, by rw [upd_ne (Ne.symm hn.1)]; exact A.gs, by rw [upd_ne (Ne.symm hn.2)]; exact A.gq, A.spr⟩
end
section
variable {s q : Addr} {n i : Nat} {ta : TA} {many : Int} {E : XK} {Q : VK}
theorem x_drawI (a : At2 s q G H n) (hn : n + 1 ≤ 1000000) (hv : σ[i]? = some (some (.ref s))) (ha : EvDA K O ta σ G [.int many]) (h0 : 0 < many) (h1 : many < 1073741824)
    (k : ∀ x G2 H2, 0 ≤ x → x < many → LeX s q G H G2 H2 → At2 s q G2 H2 (n + 1) → Q (.int x) H2) : tCall (SpX K O 1 pDraw rDraw) [] E (tCons (tVar i) ta) σ H Q :=
  x_call a.e a.gs a.gq a.spr hn hv ha ⟨many, rfl, h0, h1⟩ fun d v G2 H2 ⟨m', x, hm, hd, hx0, hx1⟩ l sp av => by
    subst hd
    obtain rfl := at_int.mp av
    have hm' : many = m' := D.int.inj (List.cons.inj hm).1
    exact k x G2 H2 hx0 (by omega) l (a.go l sp)
theorem x_drawHI {te : TE} (a : At2 s q G H n) (hn : n + 1 ≤ 1000000) (hv : σ[i]? = some (some (.ref s))) (ha : Ev te σ H (.int many)) (h0 : 0 < many) (h1 : many < 1073741824)
    (k : ∀ x G2 H2, 0 ≤ x → x < many → LeX s q G H G2 H2 → At2 s q G2 H2 (n + 1) → Q (.int x) H2) : tCall (SpX K O 1 pDraw rDraw) [] E (tCons (tVar i) (tCons te tNil)) σ H Q :=
  ⟨.ref s, hv, ha H (Ex.refl H) _ fun H2 e2 => by
    have l := Le.heap a.e e2
    have a2 := a.le l
    refine ⟨G, s, q, n, [.int many], [.int many], rfl, a2.e, a2.gs, a2.gq, a2.spr, hn, AtL.one (at_int.mpr rfl), ⟨many, rfl, h0, h1⟩, fun d v G3 H3 ⟨m', x, hm, hd, hx0, hx1⟩ l3 sp3 av => ?_⟩
    subst hd
    obtain rfl := at_int.mp av
    have hm' : many = m' := D.int.inj (List.cons.inj hm).1
    exact k x G3 H3 hx0 (by omega) (l.x.trans l3) (a2.go l3 sp3)⟩
theorem if_drawI {c : Int} {De : Ends} {tu tw : TS} (a : At2 s q G H n) (hn : n + 1 ≤ 1000000) (hv : σ[i]? = some (some (.ref s))) (ha : EvDA K O ta σ G [.int many]) (h0 : 0 < many) (h1 : many < 1073741824)
    (k1 : ∀ G2 H2, LeX s q G H G2 H2 → At2 s q G2 H2 (n + 1) → tu De σ H2) (k2 : ∀ G2 H2, LeX s q G H G2 H2 → At2 s q G2 H2 (n + 1) → tw De σ H2) : tIfS (tTest (tOp rEq (tCall (SpX K O 1 pDraw rDraw) [] E (tCons (tVar i) ta)) (tC (.int c)))) tu tw De σ H :=
  x_drawI a hn hv ha h0 h1 fun x G2 H2 hx0 hx1 l a2 => ⟨rfl, _, rfl, by
    by_cases h : V.int x = V.int c
    · rw [decide_eq_true h]
      show (if true = true then tu De σ H2 else tw De σ H2)
      rw [if_pos rfl]
      exact k1 G2 H2 l a2
    · rw [decide_eq_false h]
      show (if false = true then tu De σ H2 else tw De σ H2)
      rw [if_neg Bool.false_ne_true]
      exact k2 G2 H2 l a2⟩
end
/-- a comprehension whose element draws -/
theorem x_lcZ {wi : TI} {g : TG} {tt : TT} {vs : List Nat} {ds : List (D ω)} {s q : Addr} {n add : Nat} (Pd : Nat → D ω → Prop) (hs : Src K O wi σ G ds) (hz : ds.length ≤ 40000) (A0 : At2 s q G H n)
    (body : ∀ (i : Nat) (d : D ω) (x : V) (Gi Hi : Hp), i < ds.length → ds[i]? = some d → LeX s q G H Gi Hi → At2 s q Gi Hi (n + add * i) → At K O Gi d x → ∀ Q : L2.St → Hp → Prop,
      (∀ σ2 H2, Ex Hi H2 → wipe σ2 vs = wipe σ vs → EvT tt σ2 Gi true → (∀ (H3 : Hp) (Q3 : VK), LeX s q G H Gi H3 → At2 s q Gi H3 (n + add * i) → (∀ (d' : D ω) (v : V) (G4 H4 : Hp), Pd i d' → LeX s q Gi H3 G4 H4 → Spr H4 s q (n + add * (i + 1)) → At K O G4 d' v → Q3 v H4) → te σ2 H3 Q3) → Q σ2 H2) → g x (wipe σ vs) Hi Q) :
    ∀ Q : VK, (∀ (Dl : Addr) (Gi H2 : Hp) (us : List V) (es : List (D ω)), H Dl = none → LeX s q G H (upd Gi Dl (.lst us)) H2 → Spr H2 s q (n + add * ds.length) → Gi Dl = none → AtL K O Gi es us → es.length = ds.length → (∀ i d, es[i]? = some d → Pd i d) → Q (.ref Dl) H2) → tLc wi g tt te vs σ H Q := fun Q k => by
  refine hs H A0.e _ fun J Gd Y G0 H0 l0 w hG yl => ?_
  intro Dl hD
  have A1 : At2 s q G0 H0 n := A0.le l0
  have Ds : Dl ≠ s := by intro z; subst z; exact A1.spr.sne hD
  have Dq : Dl ≠ q := by intro z; subst z; exact A1.spr.qne hD
  refine lc_it w (fun i H => ∃ Gi us es, LeX s q G0 H0 Gi H ∧ At2 s q Gi H (n + add * i) ∧ H Dl = some (.lst us) ∧ Gi Dl = none ∧ AtL K O Gi es us ∧ es.length = i ∧ ∀ j d, es[j]? = some d → Pd j d)
    ⟨G0, [], [], (Le.newM l0.e hD).x, A1.le (Le.newM A1.e hD), upd_same, none_of_ex l0.e hD, atL_nil.mpr rfl, rfl, fun j d z => by simp at z⟩ (fun i H _ p => ?_) (fun i x Hi Hi' hi p y => ?_) fun H p => ?_
  · obtain ⟨Gi, us, es, l, _⟩ := p
    exact hG H (l.g.trans l.e)
  · obtain ⟨Gi, us, es, l, Ai, hu, gn, as, hl, hp⟩ := p
    obtain ⟨d, Gi', hd, l', ad⟩ := yl i Gi Hi x Hi' l.g l.e hi y
    have gn' : Gi' Dl = none := l'.gnone gn (by rw [hu]; exact fun z => nomatch z)
    have hu' : Hi' Dl = some (.lst us) := l'.h Dl _ hu
    have lt : LeX s q G0 H0 Gi' Hi' := l.trans l'.x
    have Ai' := Ai.le l'
    refine body i d x Gi' Hi' hi hd (l0.x.trans lt) Ai' ad _ fun σ2 H2 e2 hw ht he => ⟨hw, ?_⟩
    refine ht H2 (l'.e.trans e2) _ fun H3 e3 => ?_
    have e23 := e2.trans e3
    rw [if_pos rfl]
    have A3 := Ai'.grZ0 e23
    have lt3 := lt.trans (Le.heap Ai'.e e23).x
    refine he H3 _ (l0.x.trans lt3) A3 fun d' v G4 H4 hd' l4 sp4 a4 => ?_
    have hu3 : H3 Dl = some (.lst us) := e23 Dl _ hu'
    have hu4 : H4 Dl = some (.lst us) := l4.h Dl _ Ds Dq hu3
    have gn4 : G4 Dl = none := l4.gnone gn' (by rw [hu3]; exact fun z => nomatch z)
    have A4 := A3.go l4 sp4
    have l5 : LeX s q G0 H0 G4 H4 := lt3.trans l4
    have ul : us.length = i := by rw [as.len, hl]
    refine ⟨us, hu4, sz_lt (by omega), G4, us ++ [v], es ++ [d'], l5.mut hD gn4, ⟨(l5.mut hD gn4).e, A4.gs, A4.gq, ?_⟩, upd_same, gn4, (as.mono (l'.g.trans l4.g)).app (AtL.one a4), by rw [List.length_append, hl]; rfl, fun j d hd => ?_⟩
    · obtain ⟨cells, r, m, sd, z1, z2, z3⟩ := sp4.ex
      exact ⟨cells, r, m, sd, by rw [upd_ne (Ne.symm Ds)]; exact z1, by rw [upd_ne (Ne.symm Dq)]; exact z2, z3⟩
    · rcases Nat.lt_or_ge j es.length with hj | hj
      · rw [List.getElem?_append_left hj] at hd
        exact hp j d hd
      · rw [List.getElem?_append_right hj] at hd
        have hj0 : j - es.length = 0 := by
          rcases Nat.eq_zero_or_pos (j - es.length) with z | z
          · exact z
          · rw [List.getElem?_eq_none (by show 1 ≤ j - es.length; omega)] at hd; cases hd
        rw [hj0] at hd
        obtain rfl := Option.some.inj hd
        have : j = i := by omega
        rw [this]; exact hd'
  · obtain ⟨Gi, us, es, l, Ai, hu, gn, as, hl, hp⟩ := p
    exact k Dl Gi H us es (fresh_back l0.h hD) (l0.x.trans (LeX.fix l0.e l hD hu)) Ai.spr gn as hl hp
end
end SR
set_option maxRecDepth 100000
set_option maxHeartbeats 8000000
namespace SR
open PySem PySem.Spec PyProof.Rows L2 Evl
section
variable {P : Program} {w : World} {K : PySem.W.Frag} {mg : Str → Option Value} {base : Heap} {C : Addr}
def spLaw (K : PySem.W.Frag) : Sp := fun vs H Q _ => ∃ (a : Addr) (ns : List Int), vs = [.ref a] ∧ SqL K H a (ns.map V.int) ∧ ns.length ≤ 63 ∧ ∀ H', Q (.bl true) H'
abbrev S13 (x0 x1 x2 x3 x4 x5 x6 x7 x8 x9 x10 x11 x12 : Option V) : L2.St := [x0, x1, x2, x3, x4, x5, x6, x7, x8, x9, x10, x11, x12]
theorem q_sp {i : Nat} {x : V} {σ : L2.St} {H : Hp} {te tt : TE} {sp1 sp2 : Sp} {E1 E2 : XK} {tu tw tz : TS} {De : Ends} (hx : σ[i]? = some (some x)) (h : te σ H fun v H1 => tSeq (tIfS (tNot (tB (tCall sp1 [] E1 (tCons (tCall sp2 [] E2 (tCons (tC x) (tCons (tC v) tNil))) (tCons tt tNil))))) tu tw) tz De σ H1) :
    tSeq (tIfS (tNot (tB (tCall sp1 [] E1 (tCons (tCall sp2 [] E2 (tCons (tVar i) (tCons te tNil))) (tCons tt tNil))))) tu tw) tz De σ H := ⟨x, hx, h⟩
theorem row_ok {rows : List (Int × Int)} {es : List (D FilS)} (hl : es.length = rows.length) (h : ∀ (i : Nat) (d : D FilS), es[i]? = some d → ∃ q, rows[i]? = some q ∧ rowD d q) : RowsL es rows := by
  induction rows generalizing es with
  | nil => rw [List.length_eq_zero_iff.mp hl]; exact .nil
  | cons q r ih =>
    cases es with
    | nil => cases hl
    | cons d es =>
      obtain ⟨q', hq, hd⟩ := h 0 d rfl
      obtain rfl := Option.some.inj hq
      exact .cons hd (ih (Nat.succ.inj hl) fun i d hi => h (i + 1) d hi)
theorem take_app {α : Type} {A B : List α} {x : α} {k n : Nat} (h : A.length = k) : (A ++ x :: B).take (k + 1 + n) = A ++ x :: B.take n := by
  subst h
  rw [List.take_append, List.take_of_length_le (by omega), show A.length + 1 + n - A.length = n + 1 by omega, List.take_succ_cons]
theorem drop_app {α : Type} {A B : List α} {x : α} {k n : Nat} (h : A.length = k) : (A ++ x :: B).drop (k + 1 + n) = B.drop n := by
  subst h
  rw [List.drop_append, List.drop_eq_nil_of_le (by omega), show A.length + 1 + n - A.length = n + 1 by omega, List.drop_succ_cons, List.nil_append]
theorem bad_term {l : List (D FilS)} {k : Nat} {d : D FilS} (h : badL l = some k) (hd : d = .lst l ∨ d = .tup l) : dBad d = .int (k : Int) := by
  rcases hd with rfl | rfl <;> (simp only [dBad]; rw [h])
abbrev law_S : Stmt := topS 62
abbrev law_N : List Str := ["_law_script", "_law_spring_here", "_law_turn", "_law_p", "_law_rows", "_law_k", "_law_at", "_law_bad", "_law_strange", "_law_things", "_law_thing", "_law_good", "_law_row"]
theorem law_sc : FnScope law_N ["_law_script"] (defScope law_S) := ⟨rfl, rfl, rfl, by decide +kernel, rfl, by decide +kernel, by decide +kernel⟩
theorem ok_law {a0 f : Addr} {fd : FuncData} (F : Fun K "law" "law" law_S f fd) (B : Bi mg) (c : FilC K C) (h0 : ∀ H, SqT K H a0 [])
    (h__law_spring : DefOk P w K mg base 1 "_law_spring" ["_law_script"] (spSpring K))
    (h__law_prime : DefOk P w K mg base 3 "_law_prime" ["_law_spring_here"] (SpX K (FilO K C) 1 pPrime rPrime))
    (h__law_draw : DefOk P w K mg base 1 "_law_draw" ["_law_spring_here", "_law_many"] (SpX K (FilO K C) 1 pDraw rDraw))
    (h__law_pick : DefOk P w K mg base 2 "_law_pick" ["_law_spring_here", "_law_things"] (SpX K (FilO K C) 1 pPick rPick))
    (h__law_odd_terms : DefOk P w K mg base 1 "_law_odd_terms" [] (SpD K (FilO K C) rOddT))
    (h__law_odd_primes : DefOk P w K mg base 1 "_law_odd_primes" [] (SpD K (FilO K C) rOddP))
    (h__law_tried : DefOk P w K mg base 9 "_law_tried" ["_law_p", "_law_rows"] (SpD K (FilO K C) (rTried 4)))
    (h__law_same : DefOk P w K mg base 4 "_law_same" ["_law_found", "_law_due"] (SpD K (FilO K C) (rSmD 4)))
    (h__law_frozen : DefOk P w K mg base 4 "_law_frozen" ["_law_thing"] (SpD K (FilO K C) (rFrz 4)))
    (h_Filter1 : MakeOk P w K mg base C 4 "Filter" ["self", "prime", "terms"] [.ref a0] (spInit K C))
    (h__law_held : DefOk P w K mg base 1 "_law_held" ["_law_prime_here", "_law_terms"] (SpD K (FilO K C) rHeld))
    (h__law_pairs : DefOk P w K mg base 1 "_law_pairs" ["_law_held_here"] (SpD K (FilO K C) rPairs)) :
    FnOk P w K mg base CX0 10 f fd ["_law_script"] (spLaw K) := by
  refine F.ok law_sc (fun vs H Q E h => ?_) (fun cdv A outer s0 H vs Q E hr h => ?_)
  · obtain ⟨a, ns, rfl, _⟩ := h
    rfl
  · obtain ⟨a, ns, rfl, hsq, hns, k⟩ := h
    refine ⟨_, (pss_cons (ps_set (i := 1) law_sc.nd rfl (Or.inr rfl) (pe_callD h__law_spring (hr.mono (by first | decide | exact Nat.le_refl _)) (pa_cons (pv 0) pa_nil)))
    (pss_cons (ps_for PassesOwn.never rfl (pi_range1 (by rfl) B.range (pa_cons pe_int pa_nil)) (pg_name (i := 2) law_sc.nd rfl (Or.inl rfl)) (pss_cons (ps_par (i := 3) (j := 4) (by rfl) law_sc.nd rfl rfl (by decide) rfl rfl (pa_cons (pe_callD h__law_prime (hr.mono (by first | decide | exact Nat.le_refl _)) (pa_cons (pv 1) pa_nil)) (pa_cons (pe_lst pa_nil) pa_nil)) (by rfl))
    (pss_cons (ps_for PassesOwn.never rfl (pi_range1 (by rfl) B.range (pa_cons (pe_callD h__law_draw (hr.mono (by first | decide | exact Nat.le_refl _)) (pa_cons (pv 1) (pa_cons pe_int pa_nil))) pa_nil)) (pg_name (i := 5) law_sc.nd rfl (Or.inl rfl)) (pss_one (ps_expr (pe_bm PySem.F.plainAttrs_list PySem.F.slot_list_append PySem.F.type_list_append mt_append (pv 4) (pa_cons (pe_tup (pa_cons (pe_op op_sub (pe_callD h__law_draw (hr.mono (by first | decide | exact Nat.le_refl _)) (pa_cons (pv 1) (pa_cons pe_int pa_nil))) pe_int) (pa_cons (pe_op op_sub (pe_callD h__law_draw (hr.mono (by first | decide | exact Nat.le_refl _)) (pa_cons (pv 1) (pa_cons pe_int pa_nil))) pe_int) pa_nil))) pa_nil)))))
    (pss_cons (ps_set (i := 6) law_sc.nd rfl (Or.inl rfl) (pe_callD h__law_draw (hr.mono (by first | decide | exact Nat.le_refl _)) (pa_cons (pv 1) (pa_cons (pe_op op_add (pe_callB (call_lenK K) (by rfl) B.len (by decide +kernel) (pa_cons (pv 4) pa_nil)) pe_int) pa_nil))))
    (pss_cons (ps_set (i := 7) law_sc.nd rfl (Or.inl rfl) (pe_op op_cat (pe_op op_cat (pe_slice sl_list (pv 4) po_none (po_some (pv 6))) (pe_lst (pa_cons (pe_callD h__law_pick (hr.mono (by first | decide | exact Nat.le_refl _)) (pa_cons (pv 1) (pa_cons (pe_callD0 h__law_odd_terms (hr.mono (by first | decide | exact Nat.le_refl _))) pa_nil))) pa_nil))) (pe_slice sl_list (pv 4) (po_some (pv 6)) po_none)))
    (pss_cons (ps_if (pt_cmpR op_eq (pe_callD h__law_draw (hr.mono (by first | decide | exact Nat.le_refl _)) (pa_cons (pv 1) (pa_cons pe_int pa_nil))) pe_int (nomark _)) (pss_one (ps_expr (pe_bm PySem.F.plainAttrs_list PySem.F.slot_list_insert PySem.F.type_list_insert mt_insert (pv 7) (pa_cons (pe_op op_add (pe_op op_add (pv 6) pe_int) (pe_callD h__law_draw (hr.mono (by first | decide | exact Nat.le_refl _)) (pa_cons (pv 1) (pa_cons (pe_op op_add (pe_op op_sub (pe_callB (call_lenK K) (by rfl) B.len (by decide +kernel) (pa_cons (pv 4) pa_nil)) (pv 6)) pe_int) pa_nil)))) (pa_cons (pe_callD h__law_pick (hr.mono (by first | decide | exact Nat.le_refl _)) (pa_cons (pv 1) (pa_cons (pe_callD0 h__law_odd_terms (hr.mono (by first | decide | exact Nat.le_refl _))) pa_nil))) pa_nil))))) pss_nil)
    (pss_cons (ps_if (pt_not (pt_val (pe_callD h__law_same (hr.mono (by first | decide | exact Nat.le_refl _)) (pa_cons (pe_callD h__law_tried (hr.mono (by first | decide | exact Nat.le_refl _)) (pa_cons (pv 3) (pa_cons (pe_callD h__law_pick (hr.mono (by first | decide | exact Nat.le_refl _)) (pa_cons (pv 1) (pa_cons (pe_lst (pa_cons (pv 7) (pa_cons (pe_callTy call_tupleF (by rfl) B.tuple (by decide +kernel) (pa_cons (pv 7) pa_nil)) pa_nil))) pa_nil))) pa_nil))) (pa_cons (pe_tup (pa_cons pe_str (pa_cons (pv 6) pa_nil))) pa_nil))))) (pss_one (ps_ret pe_bl)) pss_nil)
    (pss_cons (ps_set (i := 8) law_sc.nd rfl (Or.inl rfl) (pe_callD h__law_pick (hr.mono (by first | decide | exact Nat.le_refl _)) (pa_cons (pv 1) (pa_cons (pe_callD0 h__law_odd_primes (hr.mono (by first | decide | exact Nat.le_refl _))) pa_nil))))
    (pss_cons (ps_for PassesOwn.never rfl (pi_list (pe_lst (pa_cons (pv 4) (pa_cons (pv 7) (pa_cons pe_non pa_nil))))) (pg_name (i := 9) law_sc.nd rfl (Or.inl rfl)) (pss_one (ps_if (pt_not (pt_val (pe_callD h__law_same (hr.mono (by first | decide | exact Nat.le_refl _)) (pa_cons (pe_callD h__law_tried (hr.mono (by first | decide | exact Nat.le_refl _)) (pa_cons (pv 8) (pa_cons (pv 9) pa_nil))) (pa_cons (pe_tup (pa_cons pe_str (pa_cons (pe_callD h__law_frozen (hr.mono (by first | decide | exact Nat.le_refl _)) (pa_cons (pv 8) pa_nil)) pa_nil))) pa_nil))))) (pss_one (ps_ret pe_bl)) pss_nil)))
    (pss_cons (ps_for PassesOwn.never rfl (pi_list (pe_lst (pa_cons pe_non (pa_cons pe_int (pa_cons pe_str (pa_cons pe_str (pa_cons pe_dnewK (pa_cons pe_bl (pa_cons (pe_makeD h_Filter1 (hr.mono (by first | decide | exact Nat.le_refl _)) (pa_cons (pv 3) pa_nil)) pa_nil))))))))) (pg_name (i := 10) law_sc.nd rfl (Or.inl rfl)) (pss_one (ps_if (pt_not (pt_val (pe_callD h__law_same (hr.mono (by first | decide | exact Nat.le_refl _)) (pa_cons (pe_callD h__law_tried (hr.mono (by first | decide | exact Nat.le_refl _)) (pa_cons (pv 3) (pa_cons (pv 10) pa_nil))) (pa_cons (pe_tup (pa_cons pe_str (pa_cons pe_int pa_nil))) pa_nil))))) (pss_one (ps_ret pe_bl)) pss_nil)))
    (pss_cons (ps_setLc (i := 11) (own := [("_law_row", 12)]) rfl law_sc.nd rfl rfl (sw_true rfl rfl rfl (by decide +kernel)) (pi_list (pv 4)) (blkOk_by (N := law_N) (sc := defScope law_S) (by decide +kernel)) (fun _ _ _ _ _ => (pg_name (i := 12) law_sc.nd rfl (Or.inl rfl))) (fun _ _ _ _ _ => pts_nil) (fun _ _ _ _ _ => by exact (pe_callD h__law_pick (hr.mono (by first | decide | exact Nat.le_refl _)) (pa_cons (pv 1) (pa_cons (pe_lst (pa_cons (pv 12) (pa_cons (pe_callTy (call_listK K) (by rfl) B.list (by decide +kernel) (pa_cons (pv 12) pa_nil)) pa_nil))) pa_nil)))))
    (pss_one (ps_if (pt_not (pt_val (pe_callD h__law_same (hr.mono (by first | decide | exact Nat.le_refl _)) (pa_cons (pe_callD h__law_tried (hr.mono (by first | decide | exact Nat.le_refl _)) (pa_cons (pv 3) (pa_cons (pv 11) pa_nil))) (pa_cons (pe_tup (pa_cons pe_str (pa_cons (pe_callD h__law_pairs (hr.mono (by first | decide | exact Nat.le_refl _)) (pa_cons (pe_callD h__law_held (hr.mono (by first | decide | exact Nat.le_refl _)) (pa_cons (pv 3) (pa_cons (pv 4) pa_nil))) pa_nil)) pa_nil))) pa_nil))))) (pss_one (ps_ret pe_bl)) pss_nil)))))))))))))
    (pss_one (ps_ret pe_bl)))), ?_⟩
    refine ⟨_, rfl, ⟨a, ns, rfl, hsq, hns, fun s q H1 hs0 hq0 ex1 spr0 => ?_⟩⟩
    show tSeq _ _ _ (S13 (.some (.ref a)) (.some (.ref s)) none none none none none none none none none none none) H1
    have A0 : At2 s q (fun _ => none) H1 0 := ⟨fun _ _ z => (nomatch z), rfl, rfl, spr0⟩
    refine q_forS (K := K) (O := FilO K C) (src_r1 (O := FilO K C) (ea_cons ev_c ea_nil) ⟨by decide, by decide⟩) A0.e (fun i σ' G' H' => (∃ x2 x3 x4 x5 x6 x7 x8 x9 x10 x11 x12, σ' = (S13 (.some (.ref a)) (.some (.ref s)) x2 x3 x4 x5 x6 x7 x8 x9 x10 x11 x12)) ∧ At2 s q G' H' (100 * i)) (fun G0 H0 l0 => ⟨⟨_, _, _, _, _, _, _, _, _, _, _, rfl⟩, A0.le l0⟩) ?_ ?_
    · rintro G0 i d x σ' Gi Hi Gi' Hi' e0 hd e1 e2 ⟨⟨x2, x3, x4, x5, x6, x7, x8, x9, x10, x11, x12, rfl⟩, Ai⟩ l' ad N hN
      have hi8 : i < 8 := by
        have := (List.getElem?_eq_some_iff.mp hd).1
        simpa [rngD] using this
      have A := Ai.le l'
      have eI : Ex Gi' Gi' := Ex.refl _
      clear ad hd
      show tSeq (tPar _ _ _) _ _ (S13 (.some (.ref a)) (.some (.ref s)) (.some x) x3 x4 x5 x6 x7 x8 x9 x10 x11 x12) Hi'
      refine rw_par (rw_cons ?_)
      refine x_call A.e A.gs A.gq A.spr (by omega) (i := 1) rfl eda_nil rfl fun dp vp G2 H2 ⟨p, hdp, hp⟩ l2 sp2 ap => rw_cons (rw_lst (rw_nil ⟨by show 0 ≤ sizeLine; exact Nat.zero_le _, fun ra hra => rw_nil ⟨_, _, rfl, ?_⟩⟩))
      subst hdp
      obtain rfl := at_int.mp ap
      have eI := eI.trans l2.g
      have A := A.go l2 sp2
      have hp0 := prime_pos hp
      have gra : G2 ra = none := none_of_ex A.e hra
      have nra := A.neZ hra
      have A := A.newZ (o := .lst []) hra
      show tSeq _ _ _ (S13 (.some (.ref a)) (.some (.ref s)) (.some x) (.some (.int p)) (.some (.ref ra)) x5 x6 x7 x8 x9 x10 x11 x12) _
      refine rw_for1 (rw_cons ?_)
      refine x_drawI (i := 1) A (by omega) rfl (many := 6) (eda_int ev_c) (by decide) (by decide) fun z G3 H3 hz0 hz1 l3 A3 => rw_nil ?_
      have hu3 := l3.h ra _ nra.1 nra.2 (upd_same (o := .lst []))
      have gra := l3.gnone gra (by rw [upd_same]; exact fun z => nomatch z)
      have eI := eI.trans l3.g
      refine q_forS (K := K) (O := FilO K C) (src_r1 (O := FilO K C) (n := z) ea_const ⟨by omega, by omega⟩) A3.e
        (fun j σ' G' H' => (∃ x5, σ' = S13 (.some (.ref a)) (.some (.ref s)) (.some x) (.some (.int p)) (.some (.ref ra)) x5 x6 x7 x8 x9 x10 x11 x12) ∧ At2 s q G' H' (100 * i + 2 + 2 * j) ∧ G' ra = none ∧ ∃ us rows, H' ra = some (.lst us) ∧ AtL K (FilO K C) G' (rows.map pairD) us ∧ rows.length = j)
        (fun G0 H0 l0 => ⟨⟨_, rfl⟩, (A3.le l0).upZ (by omega), l0.gnone gra (by rw [hu3]; exact fun z => nomatch z), [], [], l0.h ra _ hu3, atL_nil.mpr rfl, rfl⟩) ?_ ?_
      · rintro G0 j d xx σ' Gj Hj Gj' Hj' e0 hdj e1 e2 ⟨⟨x5', rfl⟩, Aj, gj, us, rows, hu, au, hrl⟩ l' ad Nx hN'
        have hj : j < 6 := by
          have := (List.getElem?_eq_some_iff.mp hdj).1
          have h2 : (rngD (ω := FilS) 0 z.toNat).length = z.toNat := by simp [rngD]
          omega
        have Aj := Aj.le l'
        have gj := l'.gnone gj (by rw [hu]; exact fun z => nomatch z)
        have hu := l'.h ra _ hu
        have au := au.mono l'.g
        refine ⟨.ref ra, rfl, Or.inl ⟨rfl, us, sq_of hu⟩, rw_cons (rw_tup (rw_cons (rw_op ?_)))⟩
        refine x_drawI (i := 1) Aj (by omega) rfl (many := 25) (eda_int ev_c) (by decide) (by decide) fun o G4 H4 _ _ l4 A4 => ⟨o, 12, rfl, rfl, rw_cons (rw_op ?_)⟩
        refine x_drawI (i := 1) A4 (by omega) rfl (many := 31) (eda_int ev_c) (by decide) (by decide) fun cc G5 H5 _ _ l5 A5 => ⟨cc, 15, rfl, rfl, rw_nil ⟨by show 2 ≤ sizeLine; decide, fun t1 ht1 => ?_⟩⟩
        have hu4 := l4.h ra _ nra.1 nra.2 hu
        have gj4 := l4.gnone gj (by rw [hu]; exact fun z => nomatch z)
        have hu5 := l5.h ra _ nra.1 nra.2 hu4
        have gj5 := l5.gnone gj4 (by rw [hu4]; exact fun z => nomatch z)
        have l6 := Le.new A5.e (o := .tup [.int (o - 12), .int (cc - 15)]) ht1
        have A6 := A5.le l6
        have hu6 := l6.h ra _ hu5
        have gj6 := l6.gnone gj5 (by rw [hu5]; exact fun z => nomatch z)
        have hul : us.length = j := by have := au.len; rw [List.length_map] at this; omega
        refine rw_nil ⟨ra, us, .ref t1, rfl, rfl, hu6, sz_lt (by omega), ?_⟩
        have A7 := A6.mutZ (o := .lst (us ++ [.ref t1])) gj6 nra
        refine hN' _ _ _ ((l4.g.trans l5.g).trans l6.g) A7.e ⟨⟨_, rfl⟩, A7.upZ (by omega), gj6, us ++ [.ref t1], rows ++ [(o - 12, cc - 15)], upd_same, ?_, by rw [List.length_append, hrl]; rfl⟩
        rw [List.map_append]
        exact (au.mono ((l4.g.trans l5.g).trans l6.g)).app (AtL.one (at_tup.mpr ⟨t1, _, rfl, st_of upd_same, atL_cons.mpr ⟨_, _, rfl, at_int.mpr rfl, AtL.one (at_int.mpr rfl)⟩⟩))
      · rintro σ' G4 H4 eg4 eh4 ⟨⟨x5', rfl⟩, A4, gra4, us, rows, hu, au, hrl⟩
        have hrl5 : rows.length ≤ 5 := by
          have h2 : (rngD (ω := FilS) 0 z.toNat).length = z.toNat := by simp [rngD]
          omega
        have hlen : (rngD (ω := FilS) 0 z.toNat).length = rows.length := by omega
        rw [hlen] at A4
        have A := A4.fixZ hu nra
        have eI := (eI.trans eg4).trans (Ex.new (o := .lst us) gra4)
        have aR : At K (FilO K C) (upd G4 ra (.lst us)) (.lst (rows.map pairD)) (.ref ra) := at_lst.mpr ⟨ra, us, rfl, upd_same, au.mono (Ex.new gra4)⟩
        clear hu au gra4 hu3 gra
        generalize upd G4 ra (.lst us) = G4 at A aR eI
        refine rw_asg ?_
        refine x_drawI (i := 1) A (by omega) rfl (many := (rows.length : Int) + 1) (eda_int (ev_op (ev_lenZ (n := rows.length) (ed_var (i := 4) rfl aR) (by rw [List.length_map])) ev_c rv_I0)) (by omega) (by omega) fun z5 G5 H5 hz0 hz1 l5 A5 => ?_
        obtain ⟨kk, rfl⟩ := Int.eq_ofNat_of_zero_le hz0
        have hk : kk ≤ rows.length := by omega
        have aR := aR.mono l5.g
        have eI := eI.trans l5.g
        show tSeq _ _ _ (S13 (.some (.ref a)) (.some (.ref s)) (.some x) (.some (.int p)) (.some (.ref ra)) x5' (.some (.int (kk : Int))) x7 x8 x9 x10 x11 x12) H5
        refine rw_asg (rw_op (rw_op ?_))
        refine ed_takeZ (K := K) (O := FilO K C) (hi := kk) (ed_var (i := 4) rfl aR) (ev_var (i := 6) rfl) H5 A5.e _ fun v1 G6 H6 l6 b1 => rw_lst (rw_cons ?_)
        have A6 := A5.le l6
        refine x_call A6.e A6.gs A6.gq A6.spr (by omega) (i := 1) rfl (eda_cons (ed_call (d := .lst (oddT1 ++ oddT2)) eda_nil ⟨rfl, rfl⟩) eda_nil) ⟨_, rfl, by decide, by decide⟩ fun d7 v7 G7 H7 ⟨lq, hlq, hd7⟩ l7 sp7 a7 => rw_nil ⟨by show 1 ≤ sizeLine; decide, fun pl hpl => ?_⟩
        obtain rfl := D.lst.inj (List.cons.inj hlq).1
        clear hlq
        have hd7 : dTerm d7 = false := by
          have := odd_terms d7 hd7
          rw [Bool.not_eq_true'] at this
          exact this
        have A7 := A6.go l7 sp7
        have l8 := Le.new A7.e (o := .lst [v7]) hpl
        have A8 := A7.le l8
        refine cat_go (K := K) (O := FilO K C) (ds := (rows.map pairD).take kk) (es := [d7]) (b1.mono (l7.g.trans l8.g)) (at_lst.mpr ⟨pl, _, rfl, upd_same, AtL.one (a7.mono l8.g)⟩) (by rw [List.length_take, List.length_map]; show _ + 1 ≤ _; omega) A8.e fun v9 G9 H9 l9 a9 => ?_
        have A9 := A8.le l9
        have e59 := ((l6.g.trans l7.g).trans l8.g).trans l9.g
        have aR := aR.mono e59
        have eI := eI.trans e59
        refine ed_dropZ (K := K) (O := FilO K C) (lo := kk) (ed_var (i := 4) rfl aR) (ev_var (i := 6) rfl) H9 A9.e _ fun v10 G10 H10 l10 a10 => ?_
        have A10 := A9.le l10
        have aR := aR.mono l10.g
        have eI := eI.trans l10.g
        refine cat_new (K := K) (O := FilO K C) (a9.mono l10.g) a10 (by rw [List.length_append, List.length_take, List.length_drop, List.length_map]; show _ + 1 + _ ≤ _; omega) A10.e fun bd us hbd hus => ?_
        have gbd : G10 bd = none := none_of_ex A10.e hbd
        have nbd := A10.neZ hbd
        have A11 := A10.newZ (o := .lst us) hbd
        show tSeq _ _ _ (S13 (.some (.ref a)) (.some (.ref s)) (.some x) (.some (.int p)) (.some (.ref ra)) x5' (.some (.int (kk : Int))) (.some (.ref bd)) x8 x9 x10 x11 x12) _
        have hus : AtL K (FilO K C) G10 ((rows.take kk).map pairD ++ d7 :: (rows.drop kk).map pairD) us := by
          rw [List.map_take, List.map_drop]
          rw [List.append_assoc] at hus
          exact hus
        refine rw_split (fun σ' H' => ∃ (G' : Hp) (us' : List V) (rest : List (D FilS)), σ' = S13 (.some (.ref a)) (.some (.ref s)) (.some x) (.some (.int p)) (.some (.ref ra)) x5' (.some (.int (kk : Int))) (.some (.ref bd)) x8 x9 x10 x11 x12 ∧ Ex G10 G' ∧ At2 s q G' H' (100 * i + 30) ∧ G' bd = none ∧ H' bd = some (.lst us') ∧ AtL K (FilO K C) G' ((rows.take kk).map pairD ++ d7 :: rest) us' ∧ rest.length ≤ 6) (fun TZ hTZ => ?_) ?_
        · refine if_drawI (i := 1) A11 (by omega) rfl (many := 2) (eda_int ev_c) (by decide) (by decide) (fun G12 H12 l12 A12 => ?_) (fun G12 H12 l12 A12 => ?_)
          · have hu12 := l12.h bd _ nbd.1 nbd.2 (upd_same (o := .lst us))
            have g12 := l12.gnone gbd (by rw [upd_same]; exact fun z => nomatch z)
            have aR := aR.mono l12.g
            refine ⟨.ref bd, rfl, Or.inl ⟨rfl, us, sq_of hu12⟩, rw_cons (rw_op ?_)⟩
            refine (ev_op (ev_var (i := 6) rfl) ev_c (rv_I0 (g := fun i j => .int (i + j)))) H12 A12.e _ fun H13 e13 => ?_
            have A13 := A12.grZ e13 (Nat.le_refl _)
            have hu13 := e13 bd _ hu12
            refine x_drawHI (i := 1) A13 (by omega) rfl (many := (rows.length : Int) - (kk : Int) + 1) (ev_op (ev_op (ev_lenZ (K := K) (O := FilO K C) (n := rows.length) (ed_var (i := 4) rfl (aR.mono A13.e)) (by rw [List.length_map])) (ev_var (i := 6) rfl) rv_I0) ev_c rv_I0) (by omega) (by omega) fun zi G14 H14 hzi0 hzi1 l14 A14 => ⟨_, zi, rfl, rfl, rw_cons ?_⟩
            have hu14 := l14.h bd _ nbd.1 nbd.2 hu13
            have g14 := l14.gnone g12 (by rw [hu13]; exact fun z => nomatch z)
            refine x_call A14.e A14.gs A14.gq A14.spr (by omega) (i := 1) rfl (eda_cons (ed_call (d := .lst (oddT1 ++ oddT2)) eda_nil ⟨rfl, rfl⟩) eda_nil) ⟨_, rfl, by decide, by decide⟩ fun d15 v15 G15 H15 _ l15 sp15 a15 => rw_nil ?_
            have A15 := A14.go l15 sp15
            have hu15 := l15.h bd _ nbd.1 nbd.2 hu14
            have g15 := l15.gnone g14 (by rw [hu14]; exact fun z => nomatch z)
            have hul : us.length = rows.length + 1 := by have := hus.len; rw [List.length_append, List.length_cons, List.length_map, List.length_map, List.length_take, List.length_drop] at this; omega
            obtain ⟨zn, rfl⟩ := Int.eq_ofNat_of_zero_le hzi0
            have e10 := (l12.g.trans l14.g).trans l15.g
            have hidx : ((kk : Int) + 1 + (zn : Int)).toNat = kk + 1 + zn := by omega
            refine ⟨bd, us, _, v15, rfl, rfl, hu15, sz_lt (by omega), by omega, by omega, ?_⟩
            refine hTZ _ _ ⟨G15, _, ((rows.drop kk).map pairD).take zn ++ d15 :: ((rows.drop kk).map pairD).drop zn, rfl, e10, (A15.mutZ g15 nbd).upZ (by omega), g15, upd_same, ?_, ?_⟩
            · have h8 := hus.mono e10
              rw [hidx]
              have h9 := ((atL_take (n := kk + 1 + zn) h8).app (AtL.one a15)).app (atL_drop (n := kk + 1 + zn) h8)
              have ht : ((rows.take kk).map (pairD (ω := FilS))).length = kk := by rw [List.length_map, List.length_take]; omega
              rw [take_app ht, drop_app ht, List.append_assoc, List.append_assoc, List.cons_append, List.singleton_append] at h9
              exact h9
            · rw [List.length_append, List.length_cons, List.length_take, List.length_drop, List.length_map, List.length_drop]
              omega
          · have hu12 := l12.h bd _ nbd.1 nbd.2 (upd_same (o := .lst us))
            have g12 := l12.gnone gbd (by rw [upd_same]; exact fun z => nomatch z)
            exact hTZ _ _ ⟨G12, us, _, rfl, l12.g, A12.upZ (by omega), g12, hu12, hus.mono l12.g, by rw [List.length_map, List.length_drop]; omega⟩
        · rintro σ' H12 ⟨G12, us', rest, rfl, e12, A12, g12, hu12, hus', hrest⟩
          have A := A12.fixZ hu12 nbd
          have aR := aR.mono (e12.trans (Ex.new (o := .lst us') g12))
          have eI := eI.trans (e12.trans (Ex.new (o := .lst us') g12))
          have hbl := bad_at (rows := rows) (rest := rest) hk hd7
          obtain ⟨bs, hbs⟩ : ∃ bs, bs = (rows.take kk).map pairD ++ d7 :: rest := ⟨_, rfl⟩
          have aB : At K (FilO K C) (upd G12 bd (.lst us')) (.lst bs) (.ref bd) := at_lst.mpr ⟨bd, us', rfl, upd_same, by rw [hbs]; exact hus'.mono (Ex.new g12)⟩
          rw [← hbs] at hbl
          clear hus' hus g12 hu12 hbs
          generalize upd G12 bd (.lst us') = G12 at A aR eI aB
          refine q_sp (x := .int p) rfl ?_
          refine x_call A.e A.gs A.gq A.spr (by omega) (i := 1) rfl (eda_cons (ed_lst (ds := [.lst bs, .tup bs]) (eda_cons (ed_var (i := 7) rfl aB) (eda_cons (ed_tupleF (ed_var (i := 7) rfl aB)) eda_nil)) (by show 2 ≤ 100000; decide)) eda_nil) ⟨_, rfl, by show 0 < 2; decide, by show 2 ≤ 1000; decide⟩ fun d13 v13 G13 H13 ⟨lq, hlq, hd13⟩ l13 sp13 a13 => ?_
          obtain rfl := D.lst.inj (List.cons.inj hlq).1
          clear hlq
          have hd13 : d13 = .lst bs ∨ d13 = .tup bs := by
            simp only [List.mem_cons, List.mem_nil_iff, or_false] at hd13
            exact hd13
          have A := A.go l13 sp13
          have aR := aR.mono l13.g
          have aB := aB.mono l13.g
          have eI := eI.trans l13.g
          refine q_skip (et_is (et_not (et_ofD (K := K) (O := FilO K C) (ed_call (d := .bl true) (eda_cons (ed_call (d := .tup [.str "term", .int (kk : Int)]) (eda_cons (ed_of ev_c (at_int.mpr rfl)) (eda_cons (ed_cv a13) eda_nil)) ⟨.int p, d13, rfl, by show 0 < 4; decide, rfl, Or.inr (Or.inl ⟨hp, _, bad_term hbl hd13, rfl⟩)⟩) (eda_cons (ed_tup (eda_cons (ed_of ev_c (at_str.mpr rfl)) (eda_cons (ed_of (ev_var (i := 6) rfl) (at_int.mpr rfl)) eda_nil)) (by show 2 ≤ 100000; decide)) eda_nil)) ⟨_, rfl, by show 1 < 4; decide, rfl, rfl, rfl⟩))) rfl) A.e fun H14 l14 => ?_
          have A := A.le l14
          refine rw_asg ?_
          refine x_call A.e A.gs A.gq A.spr (by omega) (i := 1) rfl (eda_cons (ed_call (d := .lst oddP) eda_nil ⟨rfl, rfl⟩) eda_nil) ⟨_, rfl, by decide, by decide⟩ fun d15 v15 G15 H15 ⟨lq, hlq, hd15⟩ l15 sp15 a15 => ?_
          obtain rfl := D.lst.inj (List.cons.inj hlq).1
          clear hlq
          have ho := odd_primes d15 hd15
          simp only [Bool.and_eq_true, Bool.not_eq_true', decide_eq_true_eq] at ho
          obtain ⟨o1, o2, o3, o4, o5⟩ := ho
          have A := A.go l15 sp15
          have aR := aR.mono l15.g
          have aB := aB.mono l15.g
          have eI := eI.trans l15.g
          show tSeq _ _ _ (S13 (.some (.ref a)) (.some (.ref s)) (.some x) (.some (.int p)) (.some (.ref ra)) x5' (.some (.int (kk : Int))) (.some (.ref bd)) (.some v15) x9 x10 x11 x12) _
          refine q_forS (K := K) (O := FilO K C) (ds := [.lst (rows.map pairD), .lst bs, .non]) (src_list (ed_lst (eda_cons (ed_var (i := 4) rfl aR) (eda_cons (ed_var (i := 7) rfl aB) (eda_cons (ed_of ev_c (at_non.mpr rfl)) eda_nil))) (by show 3 ≤ 100000; decide))) A.e
            (fun j σ' G' H' => (∃ x9, σ' = S13 (.some (.ref a)) (.some (.ref s)) (.some x) (.some (.int p)) (.some (.ref ra)) x5' (.some (.int (kk : Int))) (.some (.ref bd)) (.some v15) x9 x10 x11 x12) ∧ At2 s q G' H' (100 * i + 40))
            (fun G0 H0 l0 => ⟨⟨_, rfl⟩, (A.le l0).upZ (by omega)⟩) ?_ ?_
          · rintro Ga j d xx σ' Gj Hj Gj' Hj' e0 hdj e1 e2 ⟨⟨x9', rfl⟩, Aj⟩ l' ad Nx hN'
            have Aj := Aj.le l'
            have a15 := a15.mono ((e0.trans e1).trans l'.g)
            refine s_ifG (b := false) (et_is (et_not (et_ofD (K := K) (O := FilO K C) (ed_call (d := .bl true) (eda_cons (ed_call (d := .tup [.str "prime", frz d15]) (eda_cons (ed_var (i := 8) rfl a15) (eda_cons (ed_var (i := 9) rfl ad) eda_nil)) ⟨d15, d, rfl, o2, o3, Or.inl ⟨o1, rfl⟩⟩) (eda_cons (ed_tup (eda_cons (ed_of ev_c (at_str.mpr rfl)) (eda_cons (ed_call (eda_cons (ed_var (i := 8) rfl a15) eda_nil) ⟨d15, rfl, o2, o3, rfl⟩) eda_nil)) (by show 2 ≤ 100000; decide)) eda_nil)) ⟨_, rfl, ?_, ?_, ?_, rfl⟩))) rfl) Aj.e (fun z => nomatch z) fun _ H16 l16 => ?_
            · exact odd_dep d15 hd15
            · show (true && (noObD (frz d15) && true)) = true
              rw [o4]; rfl
            · show (decide (2 ≤ 30000) && (true && (allOk (frz d15) && true))) = true
              rw [o5]; rfl
            exact hN' _ _ H16 (Ex.refl _) l16.e ⟨⟨_, rfl⟩, Aj.le l16⟩
          · rintro σ' G16 H16 eg16 eh16 ⟨⟨x9', rfl⟩, A⟩
            have aR := aR.mono eg16
            have eI := eI.trans eg16
            refine q_forS (K := K) (O := FilO K C) (ds := [.non, .int 5, .str "ab", .str "", .dic [], .bl true, .obj ⟨p, coll p []⟩]) (src_list (ed_lst (eda_cons (ed_of ev_c (at_non.mpr rfl)) (eda_cons (ed_of ev_c (at_int.mpr rfl)) (eda_cons (ed_of ev_c (at_str.mpr rfl)) (eda_cons (ed_of ev_c (at_str.mpr rfl)) (eda_cons ed_newD (eda_cons (ed_of ev_c (at_bl.mpr rfl)) (eda_cons (ed_make1 (eda_cons (ed_of (ev_var (i := 3) rfl) (at_int.mpr rfl)) eda_nil) hp h0) eda_nil))))))) (by show 7 ≤ 100000; decide))) A.e
              (fun j σ' G' H' => (∃ x10, σ' = S13 (.some (.ref a)) (.some (.ref s)) (.some x) (.some (.int p)) (.some (.ref ra)) x5' (.some (.int (kk : Int))) (.some (.ref bd)) (.some v15) x9' x10 x11 x12) ∧ At2 s q G' H' (100 * i + 40))
              (fun G0 H0 l0 => ⟨⟨_, rfl⟩, (A.le l0).upZ (by omega)⟩) ?_ ?_
            · rintro Ga j d xx σ' Gj Hj Gj' Hj' e0 hdj e1 e2 ⟨⟨x10', rfl⟩, Aj⟩ l' ad Nx hN'
              have Aj := Aj.le l'
              have hb : dBad d = .int 0 := by
                have := List.mem_of_getElem? hdj
                simp only [List.mem_cons, List.mem_nil_iff, or_false] at this
                rcases this with rfl | rfl | rfl | rfl | rfl | rfl | rfl <;> rfl
              refine s_ifG (b := false) (et_is (et_not (et_ofD (K := K) (O := FilO K C) (ed_call (d := .bl true) (eda_cons (ed_call (d := .tup [.str "term", .int 0]) (eda_cons (ed_of (ev_var (i := 3) rfl) (at_int.mpr rfl)) (eda_cons (ed_var (i := 10) rfl ad) eda_nil)) ⟨.int p, d, rfl, by show 0 < 4; decide, rfl, Or.inr (Or.inl ⟨hp, _, hb, rfl⟩)⟩) (eda_cons (ed_tup (eda_cons (ed_of ev_c (at_str.mpr rfl)) (eda_cons (ed_of ev_c (at_int.mpr rfl)) eda_nil)) (by show 2 ≤ 100000; decide)) eda_nil)) ⟨_, rfl, by show 1 < 4; decide, rfl, rfl, rfl⟩))) rfl) Aj.e (fun z => nomatch z) fun _ H16 l16 => ?_
              exact hN' _ _ H16 (Ex.refl _) l16.e ⟨⟨_, rfl⟩, Aj.le l16⟩
            · rintro σ' G17 H17 eg17 eh17 ⟨⟨x10', rfl⟩, A⟩
              have aR := aR.mono eg17
              have eI := eI.trans eg17
              refine rw_asg ?_
              refine x_lcZ (K := K) (O := FilO K C) (add := 1) (s := s) (q := q) (fun i d => ∃ r, rows[i]? = some r ∧ rowD d r) (src_list (ed_var (i := 4) rfl aR)) (by rw [List.length_map]; omega) A ?_ _ ?_
              · intro j d x' Gj Hj hj hdj lj Aj ad Q' hQ
                rw [List.length_map] at hj
                obtain ⟨r, hr⟩ : ∃ r, rows[j]? = some r := ⟨_, List.getElem?_eq_getElem hj⟩
                rw [List.getElem?_map, hr] at hdj
                obtain rfl := Option.some.inj hdj
                refine hQ _ Hj (Ex.refl _) rfl et_yes fun H3 Q3 l3 A3 hk3 => ?_
                refine x_call A3.e A3.gs A3.gq A3.spr (by omega) (i := 1) rfl (eda_cons (ed_lst (ds := [pairD r, .lst [.int r.1, .int r.2]]) (eda_cons (ed_var (i := 12) rfl ad) (eda_cons (ed_listT (ed_var (i := 12) rfl ad)) eda_nil)) (by show 2 ≤ 100000; decide)) eda_nil) ⟨_, rfl, by show 0 < 2; decide, by show 2 ≤ 1000; decide⟩ fun d4 v4 G4 H4 ⟨lq, hlq, hd4⟩ l4 sp4 a4 => ?_
                obtain rfl := D.lst.inj (List.cons.inj hlq).1
                refine hk3 d4 v4 G4 H4 ⟨r, hr, ?_⟩ l4 (by rw [Nat.mul_add, Nat.mul_one, ← Nat.add_assoc]; exact sp4) a4
                simp only [List.mem_cons, List.mem_nil_iff, or_false] at hd4
                exact hd4.elim (fun z => Or.inr z) Or.inl
              · intro Dl Gl H18 ul es hDl l18 sp18 gDl as18 hl18 hp18
                rw [List.length_map] at hl18 sp18
                have A := A.go l18 sp18
                have aR := aR.mono l18.g
                have eI := eI.trans l18.g
                have hRL : RowsL es rows := row_ok hl18 hp18
                have aG : At K (FilO K C) (upd Gl Dl (.lst ul)) (.lst es) (.ref Dl) := at_lst.mpr ⟨Dl, ul, rfl, upd_same, as18.mono (Ex.new gDl)⟩
                have hcl : (coll p rows).length ≤ 5 := Nat.le_trans coll_len hrl5
                show tIfS _ _ _ _ (S13 (.some (.ref a)) (.some (.ref s)) (.some x) (.some (.int p)) (.some (.ref ra)) x5' (.some (.int (kk : Int))) (.some (.ref bd)) (.some v15) x9' x10' (.some (.ref Dl)) x12) H18
                refine s_ifG (b := false) (et_is (et_not (et_ofD (K := K) (O := FilO K C) (ed_call (d := .bl true) (eda_cons (ed_call (d := .tup [.str "made", .lst ((coll p rows).map pairD)]) (eda_cons (ed_of (ev_var (i := 3) rfl) (at_int.mpr rfl)) (eda_cons (ed_var (i := 11) rfl aG) eda_nil)) ⟨.int p, .lst es, rfl, by show 0 < 4; decide, rfl, Or.inr (Or.inr ⟨p, rows, rfl, ⟨es, Or.inl rfl, hRL⟩, by omega, hp, rfl⟩)⟩) (eda_cons (ed_tup (eda_cons (ed_of ev_c (at_str.mpr rfl)) (eda_cons (ed_call (d := .lst ((coll p rows).map pairD)) (eda_cons (ed_call (d := .dic (coll p rows)) (eda_cons (ed_of (ev_var (i := 3) rfl) (at_int.mpr rfl)) (eda_cons (ed_var (i := 4) rfl aR) eda_nil)) ⟨p, rows, rfl, hp0, by omega, rfl⟩) eda_nil) ⟨_, rfl, coll_nd, by omega, rfl⟩) eda_nil)) (by show 2 ≤ 100000; decide)) eda_nil)) ⟨_, rfl, ?_, ?_, ?_, rfl⟩))) rfl) A.e (fun z => nomatch z) fun _ H19 l19 => ?_
                · have := depL_pairs (ω := FilS) (m := coll p rows)
                  show max 0 (max (depL ((coll p rows).map pairD) + 1) 0) + 1 < 4
                  omega
                · show (true && (noObDL ((coll p rows).map pairD) && true)) = true
                  rw [noObD_pairs]; rfl
                · show (decide (2 ≤ 30000) && (true && ((decide (((coll p rows).map (pairD (ω := FilS))).length ≤ 30000) && allOkL ((coll p rows).map pairD)) && true))) = true
                  have h1 : decide (((coll p rows).map (pairD (ω := FilS))).length ≤ 30000) = true := decide_eq_true (by rw [List.length_map]; omega)
                  rw [allOk_pairs, h1]; rfl
                exact hN _ _ H19 eI l19.e ⟨⟨_, _, _, _, _, _, _, _, _, _, _, rfl⟩, (A.le l19).upZ (by omega)⟩
    · rintro σ' G' H' e1 e2 ⟨⟨x2, x3, x4, x5, x6, x7, x8, x9, x10, x11, x12, rfl⟩, Ai⟩
      exact k H'
end
end SR
set_option maxRecDepth 100000
set_option maxHeartbeats 4000000
namespace SR
open PySem PySem.Spec PyProof.Rows L2 Evl
/-! ### the end: what the top leaves -/
theorem kit_ref {K : PySem.W.Frag} {C : Addr} {x : String} {v : ClassData} (h1 : PySem.W.clsIn K C = some v) (h2 : PySem.W.typeIn K (.ref C) = some (.type "type")) (h3 : PySem.W.subIn K (.type x) (.ref C) = some false) : PySem.W.kitOne K (.type x) (.ref C) = some false := by
  show (if (Value.type x == Value.ref C) = true then some true else PySem.W.kitCls K (.type x) (.ref C)) = some false
  have e : (Value.type x == Value.ref C) = false := rfl
  rw [e, if_neg Bool.false_ne_true]
  show (if ((PySem.W.clsIn K C).isSome && PySem.W.typeIn K (.ref C) == some (.type "type")) = true then PySem.W.subIn K (.type x) (.ref C) else none) = some false
  rw [h1, h2, h3]
  rfl
theorem kit_type {K : PySem.W.Frag} {C : Addr} {T : String} (h1 : PySem.W.kitMeta T = true) (h3 : PySem.W.subIn K (.ref C) (.type T) = some false) : PySem.W.kitOne K (.ref C) (.type T) = some false := by
  show (if (Value.ref C == Value.type T) = true then some true else PySem.W.kitCls K (.ref C) (.type T)) = some false
  have e : (Value.ref C == Value.type T) = false := rfl
  rw [e, if_neg Bool.false_ne_true]
  show (if PySem.W.kitMeta T = true then PySem.W.subIn K (.ref C) (.type T) else none) = some false
  rw [h1, h3]
  rfl
def oexB (K : PySem.W.Frag) (C : Addr) : Bool := match K.lookup C with
  | some ⟨.type "type", _, .cls cd, sl⟩ => (match cd.mro, sl.toList with
    | .ref C' :: bm, [_, _, _, _, some (.builtin n), _] => C' == C && n == "ValueError.__new__" && !cd.hasDel && cd.hasDict && PySem.HandSPX.refsVE bm
    | _, _ => false)
  | _ => false
theorem oexB_ok {K : PySem.W.Frag} {C : Addr} (q : oexB K C = true) (sa : PySem.W.findIn K (.ref C) "__setattr__" = some (some (.builtin "object.__setattr__"))) (exC : PySem.W.subIn K (.ref C) (.type "BaseException") = some true) (tyC : PySem.W.typeIn K (.ref C) = some (.type "type")) (kC : PySem.W.keepIn K (.ref C) = true) : OexC K C := by
  refine ⟨?_, sa, exC, tyC, kC⟩
  unfold oexB at q
  split at q
  · rename_i dd cd sl ho
    split at q
    · rename_i C' bm k0 k1 k2 k3 n k5 hm hs
      simp only [Bool.and_eq_true, beq_iff_eq, Bool.not_eq_true'] at q
      obtain ⟨⟨⟨⟨rfl, rfl⟩, hdel⟩, hdi⟩, ht⟩ := q
      obtain ⟨nm, bs, mro, ns, qn, hd, sn, sub, ab, col, del⟩ := cd
      dsimp only at hm hdel hdi
      subst hm hdel hdi
      have hsl : sl = #[k0, k1, k2, k3, some (.builtin "ValueError.__new__"), k5] := by
        obtain ⟨l⟩ := sl
        simp only at hs
        rw [hs]
      subst hsl
      exact ⟨nm, qn, ns, bs, bm, sn, sub, ab, col, dd, k0, k1, k2, k3, k5, ho, ht⟩
    · cases q
  · cases q
theorem all_mk {l : PySem.W.OpenLaw} {w : World} {K : PySem.W.Frag} {h : Heap} {mg : Str → Option Value} {C aP T0 e0 fa : Addr} {CPe : Addr} {CTm : Addr} {fCO : Addr} {fFB : Addr} {fII : Addr} {fIL : Addr} {fIP : Addr} {fIPe : Addr} {fIT : Addr} {fITm : Addr} {fIn : Addr} {fLA : Addr} {fLD : Addr} {fLF : Addr} {fLH : Addr} {fLL : Addr} {fLM : Addr} {fLO : Addr} {fLP : Addr} {fLQ : Addr} {fLR : Addr} {fLS : Addr} {fLT : Addr} {fTe : Addr} {slCO : Array (Option Value)} {slFB : Array (Option Value)} {slII : Array (Option Value)} {slIL : Array (Option Value)} {slIP : Array (Option Value)} {slIPe : Array (Option Value)} {slIT : Array (Option Value)} {slITm : Array (Option Value)} {slIn : Array (Option Value)} {slLA : Array (Option Value)} {slLD : Array (Option Value)} {slLF : Array (Option Value)} {slLH : Array (Option Value)} {slLL : Array (Option Value)} {slLM : Array (Option Value)} {slLO : Array (Option Value)} {slLP : Array (Option Value)} {slLQ : Array (Option Value)} {slLR : Array (Option Value)} {slLS : Array (Option Value)} {slLT : Array (Option Value)} {slP slT slE : Array (Option Value)} {slTe : Array (Option Value)} {clsv : ClassData} {nP nT nE : Nat} {odCO anCO : Option Addr} {odFB anFB : Option Addr} {odII anII : Option Addr} {odIL anIL : Option Addr} {odIP anIP : Option Addr} {odIPe anIPe : Option Addr} {odIT anIT : Option Addr} {odITm anITm : Option Addr} {odIn anIn : Option Addr} {odLA anLA : Option Addr} {odLD anLD : Option Addr} {odLF anLF : Option Addr} {odLH anLH : Option Addr} {odLL anLL : Option Addr} {odLM anLM : Option Addr} {odLO anLO : Option Addr} {odLP anLP : Option Addr} {odLQ anLQ : Option Addr} {odLR anLR : Option Addr} {odLS anLS : Option Addr} {odLT anLT : Option Addr} {odP odT odE : Option Addr} {odTe anTe : Option Addr} {tP1 tP2 tP3 tP4 : Tok} {ocCO kVCO dcCO pmCO cdCO ctCO : Value} {ocFB kVFB dcFB pmFB cdFB ctFB : Value} {ocII kVII dcII pmII cdII ctII : Value} {ocIL kVIL dcIL pmIL cdIL ctIL : Value} {ocIP kVIP dcIP pmIP cdIP ctIP : Value} {ocIPe kVIPe dcIPe pmIPe cdIPe ctIPe : Value} {ocIT kVIT dcIT pmIT cdIT ctIT : Value} {ocITm kVITm dcITm pmITm cdITm ctITm : Value} {ocIn kVIn dcIn pmIn cdIn ctIn : Value} {ocLA kVLA dcLA pmLA cdLA ctLA : Value} {ocLD kVLD dcLD pmLD cdLD ctLD : Value} {ocLF kVLF dcLF pmLF cdLF ctLF : Value} {ocLH kVLH dcLH pmLH cdLH ctLH : Value} {ocLL kVLL dcLL pmLL cdLL ctLL : Value} {ocLM kVLM dcLM pmLM cdLM ctLM : Value} {ocLO kVLO dcLO pmLO cdLO ctLO : Value} {ocLP kVLP dcLP pmLP cdLP ctLP : Value} {ocLQ kVLQ dcLQ pmLQ cdLQ ctLQ : Value} {ocLR kVLR dcLR pmLR cdLR ctLR : Value} {ocLS kVLS dcLS pmLS cdLS ctLS : Value} {ocLT kVLT dcLT pmLT cdLT ctLT : Value} {ocT : Value} {ocTe kVTe dcTe pmTe cdTe ctTe : Value} (X : K.In h) (G : h.Ns mainGlobals mg) (hfa : mg "law" = some (.ref fa))
    (aC : PySem.W.nsIn K mainGlobals "Filter" = some (some (.ref C)))
    (pg : PySem.W.plainGet K C Str.empty = true)
    (hdi : PySem.W.hasDictIn K C = true)
    (po : PySem.W.plainOver K C = true)
    (sa : PySem.W.findIn K (.ref C) "__setattr__" = some (some (.builtin "object.__setattr__")))
    (mk : PySem.W.makesIn K C = true)
    (kc : PySem.W.keepIn K (.ref C) = true)
    (n1 : PySem.W.findIn K (.ref C) "prime" = some none)
    (n2 : PySem.W.findIn K (.ref C) "pairs" = some none)
    (n3 : PySem.W.findIn K (.ref C) "coefficients" = some none)
    (cC : PySem.W.clsIn K C = some clsv)
    (tyC : PySem.W.typeIn K (.ref C) = some (.type "type"))
    (tk_NoneType : PySem.W.subIn K (.type "NoneType") (.ref C) = some false)
    (tk_bool : PySem.W.subIn K (.type "bool") (.ref C) = some false)
    (tk_int : PySem.W.subIn K (.type "int") (.ref C) = some false)
    (tk_str : PySem.W.subIn K (.type "str") (.ref C) = some false)
    (tk_list : PySem.W.subIn K (.type "list") (.ref C) = some false)
    (tk_tuple : PySem.W.subIn K (.type "tuple") (.ref C) = some false)
    (tk_dict : PySem.W.subIn K (.type "dict") (.ref C) = some false)
    (to_int : PySem.W.subIn K (.ref C) (.type "int") = some false)
    (to_bool : PySem.W.subIn K (.ref C) (.type "bool") = some false)
    (to_list : PySem.W.subIn K (.ref C) (.type "list") = some false)
    (to_tuple : PySem.W.subIn K (.ref C) (.type "tuple") = some false)
    (tca : PySem.W.findIn K (.ref C) "__class__" = some (some (.builtin "object.__class__")))
    (tcn : PySem.W.specialIn K (.builtin "object.__class__") "__get__" = some (some (.builtin "getset_descriptor.__get__")))
    (tct : PySem.W.takesIn K (.builtin "object.__class__") = some true)
    (tcm : PySem.W.mroIn K C (.type "object") = some true)
    (z_len : PySem.W.nsIn K mainGlobals "len" = some none)
    (z_isinstance : PySem.W.nsIn K mainGlobals "isinstance" = some none)
    (z_int : PySem.W.nsIn K mainGlobals "int" = some none)
    (z_bool : PySem.W.nsIn K mainGlobals "bool" = some none)
    (z_list : PySem.W.nsIn K mainGlobals "list" = some none)
    (z_tuple : PySem.W.nsIn K mainGlobals "tuple" = some none)
    (z_dict : PySem.W.nsIn K mainGlobals "dict" = some none)
    (z_sorted : PySem.W.nsIn K mainGlobals "sorted" = some none)
    (z_enumerate : PySem.W.nsIn K mainGlobals "enumerate" = some none)
    (z_zip : PySem.W.nsIn K mainGlobals "zip" = some none)
    (z_range : PySem.W.nsIn K mainGlobals "range" = some none)
    (z_all : PySem.W.nsIn K mainGlobals "all" = some none)
    (z_any : PySem.W.nsIn K mainGlobals "any" = some none)
    (z_reversed : PySem.W.nsIn K mainGlobals "reversed" = some none)
    (z_sum : PySem.W.nsIn K mainGlobals "sum" = some none)
    (z_min : PySem.W.nsIn K mainGlobals "min" = some none)
    (z_max : PySem.W.nsIn K mainGlobals "max" = some none)
    (z_abs : PySem.W.nsIn K mainGlobals "abs" = some none)
    (aPr : PySem.W.nsIn K mainGlobals "PRIMES" = some (some (.ref aP)))
    (lP : K.lookup aP = some ⟨.type "tuple", odP, .seq #[.int 2 tP1, .int 3 tP2, .int 5 tP3, .int 7 tP4] nP, slP⟩)
    (aIn : PySem.W.findIn K (.ref C) "__init__" = some (some (.ref fIn)))
    (iIn : PySem.W.isFn K (.ref fIn) = true)
    (lIn : K.lookup fIn = some ⟨ocIn, odIn, .func (PySem.W.fnOf "__init__" "Filter.__init__" (defArgs Filter___init___S) (defBody Filter___init___S) (defScope Filter___init___S) (.ref T0) kVIn dcIn pmIn anIn cdIn ctIn), slIn⟩)
    (cIn : PySem.W.codeIn K cdIn "Filter.__init__" = true)
    (kIn : PySem.W.keepIn K (.ref fIn) = true)
    (lT : K.lookup T0 = some ⟨ocT, odT, .seq #[.ref e0] nT, slT⟩)
    (lE : K.lookup e0 = some ⟨.type "tuple", odE, .seq #[] nE, slE⟩)
    (aTe : PySem.W.findIn K (.ref C) "terms" = some (some (.ref fTe)))
    (iTe : PySem.W.isFn K (.ref fTe) = true)
    (lTe : K.lookup fTe = some ⟨ocTe, odTe, .func (PySem.W.fnOf "terms" "Filter.terms" (defArgs Filter_terms_S) (defBody Filter_terms_S) (defScope Filter_terms_S) .none kVTe dcTe pmTe anTe cdTe ctTe), slTe⟩)
    (cTe : PySem.W.codeIn K cdTe "Filter.terms" = true)
    (kTe : PySem.W.keepIn K (.ref fTe) = true)
    (xPe : PySem.W.nsIn K mainGlobals "BadPrime" = some (some (.ref CPe)))
    (oPe : SR.oexB K CPe = true)
    (sPe : PySem.W.findIn K (.ref CPe) "__setattr__" = some (some (.builtin "object.__setattr__")))
    (kPe : PySem.W.keepIn K (.ref CPe) = true)
    (bPe : PySem.W.subIn K (.ref CPe) (.type "BaseException") = some true)
    (tPe : PySem.W.typeIn K (.ref CPe) = some (.type "type"))
    (gPe : PySem.W.findIn K (.ref CPe) "__getattribute__" = some (some (.builtin "BaseException.__getattribute__")))
    (ggPe : PySem.W.findIn K (.ref CPe) "__getattr__" = some none)
    (hdPe : PySem.W.hasDictIn K CPe = true)
    (noPe : PySem.W.findIn K (.ref CPe) "prime" = some none)
    (aIPe : PySem.W.findIn K (.ref CPe) "__init__" = some (some (.ref fIPe)))
    (tIPe : PySem.W.typeIn K (.ref fIPe) = some (.type "function"))
    (lIPe : K.lookup fIPe = some ⟨ocIPe, odIPe, .func (PySem.W.fnOf "__init__" "BadPrime.__init__" (defArgs BadPrime___init___S) (defBody BadPrime___init___S) (defScope BadPrime___init___S) .none kVIPe dcIPe pmIPe anIPe cdIPe ctIPe), slIPe⟩)
    (cIPe : PySem.W.codeIn K cdIPe "BadPrime.__init__" = true)
    (kIPe : PySem.W.keepIn K (.ref fIPe) = true)
    (xTm : PySem.W.nsIn K mainGlobals "BadTerm" = some (some (.ref CTm)))
    (oTm : SR.oexB K CTm = true)
    (sTm : PySem.W.findIn K (.ref CTm) "__setattr__" = some (some (.builtin "object.__setattr__")))
    (kTm : PySem.W.keepIn K (.ref CTm) = true)
    (bTm : PySem.W.subIn K (.ref CTm) (.type "BaseException") = some true)
    (tTm : PySem.W.typeIn K (.ref CTm) = some (.type "type"))
    (gTm : PySem.W.findIn K (.ref CTm) "__getattribute__" = some (some (.builtin "BaseException.__getattribute__")))
    (ggTm : PySem.W.findIn K (.ref CTm) "__getattr__" = some none)
    (hdTm : PySem.W.hasDictIn K CTm = true)
    (noTm : PySem.W.findIn K (.ref CTm) "index" = some none)
    (aITm : PySem.W.findIn K (.ref CTm) "__init__" = some (some (.ref fITm)))
    (tITm : PySem.W.typeIn K (.ref fITm) = some (.type "function"))
    (lITm : K.lookup fITm = some ⟨ocITm, odITm, .func (PySem.W.fnOf "__init__" "BadTerm.__init__" (defArgs BadTerm___init___S) (defBody BadTerm___init___S) (defScope BadTerm___init___S) .none kVITm dcITm pmITm anITm cdITm ctITm), slITm⟩)
    (cITm : PySem.W.codeIn K cdITm "BadTerm.__init__" = true)
    (kITm : PySem.W.keepIn K (.ref fITm) = true)
    (ePP : PySem.W.subIn K (.ref CPe) (.ref CPe) = some true)
    (eTP : PySem.W.subIn K (.ref CTm) (.ref CPe) = some false)
    (eTT : PySem.W.subIn K (.ref CTm) (.ref CTm) = some true)
    (aII : PySem.W.nsIn K mainGlobals "is_int" = some (some (.ref fII)))
    (lII : K.lookup fII = some ⟨ocII, odII, .func (PySem.W.fnOf "is_int" "is_int" (defArgs is_int_S) (defBody is_int_S) (defScope is_int_S) .none kVII dcII pmII anII cdII ctII), slII⟩)
    (cII : PySem.W.codeIn K cdII "is_int" = true)
    (kII : PySem.W.keepIn K (.ref fII) = true)
    (aIL : PySem.W.nsIn K mainGlobals "is_list" = some (some (.ref fIL)))
    (lIL : K.lookup fIL = some ⟨ocIL, odIL, .func (PySem.W.fnOf "is_list" "is_list" (defArgs is_list_S) (defBody is_list_S) (defScope is_list_S) .none kVIL dcIL pmIL anIL cdIL ctIL), slIL⟩)
    (cIL : PySem.W.codeIn K cdIL "is_list" = true)
    (kIL : PySem.W.keepIn K (.ref fIL) = true)
    (aIP : PySem.W.nsIn K mainGlobals "is_prime" = some (some (.ref fIP)))
    (lIP : K.lookup fIP = some ⟨ocIP, odIP, .func (PySem.W.fnOf "is_prime" "is_prime" (defArgs is_prime_S) (defBody is_prime_S) (defScope is_prime_S) .none kVIP dcIP pmIP anIP cdIP ctIP), slIP⟩)
    (cIP : PySem.W.codeIn K cdIP "is_prime" = true)
    (kIP : PySem.W.keepIn K (.ref fIP) = true)
    (aIT : PySem.W.nsIn K mainGlobals "is_term" = some (some (.ref fIT)))
    (lIT : K.lookup fIT = some ⟨ocIT, odIT, .func (PySem.W.fnOf "is_term" "is_term" (defArgs is_term_S) (defBody is_term_S) (defScope is_term_S) .none kVIT dcIT pmIT anIT cdIT ctIT), slIT⟩)
    (cIT : PySem.W.codeIn K cdIT "is_term" = true)
    (kIT : PySem.W.keepIn K (.ref fIT) = true)
    (aFB : PySem.W.nsIn K mainGlobals "first_bad_term" = some (some (.ref fFB)))
    (lFB : K.lookup fFB = some ⟨ocFB, odFB, .func (PySem.W.fnOf "first_bad_term" "first_bad_term" (defArgs first_bad_term_S) (defBody first_bad_term_S) (defScope first_bad_term_S) .none kVFB dcFB pmFB anFB cdFB ctFB), slFB⟩)
    (cFB : PySem.W.codeIn K cdFB "first_bad_term" = true)
    (kFB : PySem.W.keepIn K (.ref fFB) = true)
    (aCO : PySem.W.nsIn K mainGlobals "collected" = some (some (.ref fCO)))
    (lCO : K.lookup fCO = some ⟨ocCO, odCO, .func (PySem.W.fnOf "collected" "collected" (defArgs collected_S) (defBody collected_S) (defScope collected_S) .none kVCO dcCO pmCO anCO cdCO ctCO), slCO⟩)
    (cCO : PySem.W.codeIn K cdCO "collected" = true)
    (kCO : PySem.W.keepIn K (.ref fCO) = true)
    (aLS : PySem.W.nsIn K mainGlobals "_law_spring" = some (some (.ref fLS)))
    (lLS : K.lookup fLS = some ⟨ocLS, odLS, .func (PySem.W.fnOf "_law_spring" "_law_spring" (defArgs _law_spring_S) (defBody _law_spring_S) (defScope _law_spring_S) .none kVLS dcLS pmLS anLS cdLS ctLS), slLS⟩)
    (cLS : PySem.W.codeIn K cdLS "_law_spring" = true)
    (kLS : PySem.W.keepIn K (.ref fLS) = true)
    (aLD : PySem.W.nsIn K mainGlobals "_law_draw" = some (some (.ref fLD)))
    (lLD : K.lookup fLD = some ⟨ocLD, odLD, .func (PySem.W.fnOf "_law_draw" "_law_draw" (defArgs _law_draw_S) (defBody _law_draw_S) (defScope _law_draw_S) .none kVLD dcLD pmLD anLD cdLD ctLD), slLD⟩)
    (cLD : PySem.W.codeIn K cdLD "_law_draw" = true)
    (kLD : PySem.W.keepIn K (.ref fLD) = true)
    (aLP : PySem.W.nsIn K mainGlobals "_law_pick" = some (some (.ref fLP)))
    (lLP : K.lookup fLP = some ⟨ocLP, odLP, .func (PySem.W.fnOf "_law_pick" "_law_pick" (defArgs _law_pick_S) (defBody _law_pick_S) (defScope _law_pick_S) .none kVLP dcLP pmLP anLP cdLP ctLP), slLP⟩)
    (cLP : PySem.W.codeIn K cdLP "_law_pick" = true)
    (kLP : PySem.W.keepIn K (.ref fLP) = true)
    (aLM : PySem.W.nsIn K mainGlobals "_law_same" = some (some (.ref fLM)))
    (lLM : K.lookup fLM = some ⟨ocLM, odLM, .func (PySem.W.fnOf "_law_same" "_law_same" (defArgs _law_same_S) (defBody _law_same_S) (defScope _law_same_S) .none kVLM dcLM pmLM anLM cdLM ctLM), slLM⟩)
    (cLM : PySem.W.codeIn K cdLM "_law_same" = true)
    (kLM : PySem.W.keepIn K (.ref fLM) = true)
    (aLH : PySem.W.nsIn K mainGlobals "_law_held" = some (some (.ref fLH)))
    (lLH : K.lookup fLH = some ⟨ocLH, odLH, .func (PySem.W.fnOf "_law_held" "_law_held" (defArgs _law_held_S) (defBody _law_held_S) (defScope _law_held_S) .none kVLH dcLH pmLH anLH cdLH ctLH), slLH⟩)
    (cLH : PySem.W.codeIn K cdLH "_law_held" = true)
    (kLH : PySem.W.keepIn K (.ref fLH) = true)
    (aLA : PySem.W.nsIn K mainGlobals "_law_pairs" = some (some (.ref fLA)))
    (lLA : K.lookup fLA = some ⟨ocLA, odLA, .func (PySem.W.fnOf "_law_pairs" "_law_pairs" (defArgs _law_pairs_S) (defBody _law_pairs_S) (defScope _law_pairs_S) .none kVLA dcLA pmLA anLA cdLA ctLA), slLA⟩)
    (cLA : PySem.W.codeIn K cdLA "_law_pairs" = true)
    (kLA : PySem.W.keepIn K (.ref fLA) = true)
    (aLR : PySem.W.nsIn K mainGlobals "_law_prime" = some (some (.ref fLR)))
    (lLR : K.lookup fLR = some ⟨ocLR, odLR, .func (PySem.W.fnOf "_law_prime" "_law_prime" (defArgs _law_prime_S) (defBody _law_prime_S) (defScope _law_prime_S) .none kVLR dcLR pmLR anLR cdLR ctLR), slLR⟩)
    (cLR : PySem.W.codeIn K cdLR "_law_prime" = true)
    (kLR : PySem.W.keepIn K (.ref fLR) = true)
    (aLF : PySem.W.nsIn K mainGlobals "_law_frozen" = some (some (.ref fLF)))
    (lLF : K.lookup fLF = some ⟨ocLF, odLF, .func (PySem.W.fnOf "_law_frozen" "_law_frozen" (defArgs _law_frozen_S) (defBody _law_frozen_S) (defScope _law_frozen_S) .none kVLF dcLF pmLF anLF cdLF ctLF), slLF⟩)
    (cLF : PySem.W.codeIn K cdLF "_law_frozen" = true)
    (kLF : PySem.W.keepIn K (.ref fLF) = true)
    (aLT : PySem.W.nsIn K mainGlobals "_law_tried" = some (some (.ref fLT)))
    (lLT : K.lookup fLT = some ⟨ocLT, odLT, .func (PySem.W.fnOf "_law_tried" "_law_tried" (defArgs _law_tried_S) (defBody _law_tried_S) (defScope _law_tried_S) .none kVLT dcLT pmLT anLT cdLT ctLT), slLT⟩)
    (cLT : PySem.W.codeIn K cdLT "_law_tried" = true)
    (kLT : PySem.W.keepIn K (.ref fLT) = true)
    (aLO : PySem.W.nsIn K mainGlobals "_law_odd_terms" = some (some (.ref fLO)))
    (lLO : K.lookup fLO = some ⟨ocLO, odLO, .func (PySem.W.fnOf "_law_odd_terms" "_law_odd_terms" (defArgs _law_odd_terms_S) (defBody _law_odd_terms_S) (defScope _law_odd_terms_S) .none kVLO dcLO pmLO anLO cdLO ctLO), slLO⟩)
    (cLO : PySem.W.codeIn K cdLO "_law_odd_terms" = true)
    (kLO : PySem.W.keepIn K (.ref fLO) = true)
    (aLQ : PySem.W.nsIn K mainGlobals "_law_odd_primes" = some (some (.ref fLQ)))
    (lLQ : K.lookup fLQ = some ⟨ocLQ, odLQ, .func (PySem.W.fnOf "_law_odd_primes" "_law_odd_primes" (defArgs _law_odd_primes_S) (defBody _law_odd_primes_S) (defScope _law_odd_primes_S) .none kVLQ dcLQ pmLQ anLQ cdLQ ctLQ), slLQ⟩)
    (cLQ : PySem.W.codeIn K cdLQ "_law_odd_primes" = true)
    (kLQ : PySem.W.keepIn K (.ref fLQ) = true)
    (aLL : PySem.W.nsIn K mainGlobals "law" = some (some (.ref fLL)))
    (lLL : K.lookup fLL = some ⟨ocLL, odLL, .func (PySem.W.fnOf "law" "law" (defArgs law_S) (defBody law_S) (defScope law_S) .none kVLL dcLL pmLL anLL cdLL ctLL), slLL⟩)
    (cLL : PySem.W.codeIn K cdLL "law" = true)
    (kLL : PySem.W.keepIn K (.ref fLL) = true) :
    ∃ fd : FuncData, (∀ (s : Shared) (v : Value), BindsTo s fd ⟨[v], []⟩ [("_law_script", v)]) ∧ ∀ base : Heap, K.In base → base.Ns mainGlobals mg → FnOk l.prog w K mg base CX0 10 fa fd ["_law_script"] (spLaw K) := by
  have e := hfa.symm.trans (PySem.W.mg_of X G aLL)
  cases e
  have mC := PySem.W.mg_of X G aC
  have B : Bi mg := ⟨PySem.W.mg_none_of X G z_len, PySem.W.mg_none_of X G z_isinstance, PySem.W.mg_none_of X G z_int, PySem.W.mg_none_of X G z_bool, PySem.W.mg_none_of X G z_list, PySem.W.mg_none_of X G z_tuple, PySem.W.mg_none_of X G z_dict, PySem.W.mg_none_of X G z_sorted, PySem.W.mg_none_of X G z_enumerate, PySem.W.mg_none_of X G z_zip, PySem.W.mg_none_of X G z_range, PySem.W.mg_none_of X G z_all, PySem.W.mg_none_of X G z_any, PySem.W.mg_none_of X G z_reversed, PySem.W.mg_none_of X G z_sum, PySem.W.mg_none_of X G z_min, PySem.W.mg_none_of X G z_max, PySem.W.mg_none_of X G z_abs⟩
  have cl : Cls K C := ⟨pg, hdi, po, sa⟩
  have c : FilC K C := ⟨cl, n1, n2, n3⟩
  have t : FilT K C := ⟨fun n hn => by
    simp only [kinds, List.mem_cons, List.mem_nil_iff, or_false] at hn
    rcases hn with rfl | rfl | rfl | rfl | rfl | rfl | rfl
    · exact kit_ref cC tyC tk_NoneType
    · exact kit_ref cC tyC tk_bool
    · exact kit_ref cC tyC tk_int
    · exact kit_ref cC tyC tk_str
    · exact kit_ref cC tyC tk_list
    · exact kit_ref cC tyC tk_tuple
    · exact kit_ref cC tyC tk_dict, kit_type (by rfl) to_int, kit_type (by rfl) to_bool, kit_type (by rfl) to_list, kit_type (by rfl) to_tuple, tca, tcn, tct, tcm⟩
  have pr : ∀ H, SqT K H aP (primes.map V.int) := fun H => Or.inr ⟨_, _, _, lP, rfl, rfl, by show 4 ≤ sizeLine; exact sz_of (by decide), .cons ⟨_, rfl⟩ (.cons ⟨_, rfl⟩ (.cons ⟨_, rfl⟩ (.cons ⟨_, rfl⟩ .nil)))⟩
  have FII := fun_mk (st := is_int_S) lII cII kII
  have FIL := fun_mk (st := is_list_S) lIL cIL kIL
  have FIP := fun_mk (st := is_prime_S) lIP cIP kIP
  have FIT := fun_mk (st := is_term_S) lIT cIT kIT
  have FFB := fun_mk (st := first_bad_term_S) lFB cFB kFB
  have FCO := fun_mk (st := collected_S) lCO cCO kCO
  have FLS := fun_mk (st := _law_spring_S) lLS cLS kLS
  have FLD := fun_mk (st := _law_draw_S) lLD cLD kLD
  have FLP := fun_mk (st := _law_pick_S) lLP cLP kLP
  have FLM := fun_mk (st := _law_same_S) lLM cLM kLM
  have FLH := fun_mk (st := _law_held_S) lLH cLH kLH
  have FLA := fun_mk (st := _law_pairs_S) lLA cLA kLA
  have FLR := fun_mk (st := _law_prime_S) lLR cLR kLR
  have FLF := fun_mk (st := _law_frozen_S) lLF cLF kLF
  have FLT := fun_mk (st := _law_tried_S) lLT cLT kLT
  have FLO := fun_mk (st := _law_odd_terms_S) lLO cLO kLO
  have FLQ := fun_mk (st := _law_odd_primes_S) lLQ cLQ kLQ
  have FLL := fun_mk (st := law_S) lLL cLL kLL
  have FTe := fun_mk (st := Filter_terms_S) lTe cTe kTe
  have bII := FII.binds (ps := ["thing"]) fun _ _ _ _ _ _ us hl => match us, hl with | [_], _ => rfl
  have bIL := FIL.binds (ps := ["thing"]) fun _ _ _ _ _ _ us hl => match us, hl with | [_], _ => rfl
  have bIP := FIP.binds (ps := ["thing"]) fun _ _ _ _ _ _ us hl => match us, hl with | [_], _ => rfl
  have bIT := FIT.binds (ps := ["thing"]) fun _ _ _ _ _ _ us hl => match us, hl with | [_], _ => rfl
  have bFB := FFB.binds (ps := ["terms"]) fun _ _ _ _ _ _ us hl => match us, hl with | [_], _ => rfl
  have bCO := FCO.binds (ps := ["prime", "pairs"]) fun _ _ _ _ _ _ us hl => match us, hl with | [_, _], _ => rfl
  have bLS := FLS.binds (ps := ["_law_script"]) fun _ _ _ _ _ _ us hl => match us, hl with | [_], _ => rfl
  have bLD := FLD.binds (ps := ["_law_spring_here", "_law_many"]) fun _ _ _ _ _ _ us hl => match us, hl with | [_, _], _ => rfl
  have bLP := FLP.binds (ps := ["_law_spring_here", "_law_things"]) fun _ _ _ _ _ _ us hl => match us, hl with | [_, _], _ => rfl
  have bLM := FLM.binds (ps := ["_law_found", "_law_due"]) fun _ _ _ _ _ _ us hl => match us, hl with | [_, _], _ => rfl
  have bLH := FLH.binds (ps := ["_law_prime_here", "_law_terms"]) fun _ _ _ _ _ _ us hl => match us, hl with | [_, _], _ => rfl
  have bLA := FLA.binds (ps := ["_law_held_here"]) fun _ _ _ _ _ _ us hl => match us, hl with | [_], _ => rfl
  have bLR := FLR.binds (ps := ["_law_spring_here"]) fun _ _ _ _ _ _ us hl => match us, hl with | [_], _ => rfl
  have bLF := FLF.binds (ps := ["_law_thing"]) fun _ _ _ _ _ _ us hl => match us, hl with | [_], _ => rfl
  have bLT := FLT.binds (ps := ["_law_p", "_law_rows"]) fun _ _ _ _ _ _ us hl => match us, hl with | [_, _], _ => rfl
  have bLO := FLO.binds (ps := []) fun _ _ _ _ _ _ us hl => match us, hl with | [], _ => rfl
  have bLQ := FLQ.binds (ps := []) fun _ _ _ _ _ _ us hl => match us, hl with | [], _ => rfl
  have bLL := FLL.binds (ps := ["_law_script"]) fun _ _ _ _ _ _ us hl => match us, hl with | [_], _ => rfl
  have bTe := FTe.binds (ps := ["self"]) fun _ _ _ _ _ _ us hl => match us, hl with | [_], _ => rfl
  have FIn : FunD K "__init__" "Filter.__init__" (defArgs Filter___init___S) (defBody Filter___init___S) (defScope Filter___init___S) [.ref e0] [] fIn _ := ⟨⟨_, _, _, _, _, _, _, _, _, _, rfl, lIn, cIn, Or.inr ⟨(fun z => nomatch z), T0, _, [.ref e0], nT, rfl, lT, rfl, .cons rfl .nil⟩, Or.inl rfl⟩, kIn⟩
  have bIn0 : ∃ ds, Vals (([V.ref e0] : List V).drop 1) ds ∧ Binds K _ ["self", "prime", "terms"] ds := FIn.binds1 3 1 (fun z => nomatch z) rfl fun T kV doc pm an cdv ct us its hu hi => match us, its, hu, hi with | [_, _, _], [_], _, _ => ⟨_, rfl, rfl⟩
  refine ⟨PySem.W.fnOf "law" "law" (defArgs law_S) (defBody law_S) (defScope law_S) .none kVLL dcLL pmLL anLL cdLL ctLL, fun s v => .of_eq rfl, fun base _ _ => ?_⟩
  have dd := @defOk l.prog w K mg base
  have OKf := ot_fil c t
  have g_PR := PySem.W.mg_of X G aPr
  have hII := dd FII (PySem.W.mg_of X G aII) (ok_is_int FII B OKf) bII
  have hIL := dd FIL (PySem.W.mg_of X G aIL) (ok_is_list FIL B OKf) bIL
  have hIP := dd FIP (PySem.W.mg_of X G aIP) (ok_is_prime FIP g_PR pr hII) bIP
  have hIT := dd FIT (PySem.W.mg_of X G aIT) (ok_is_term FIT B hII hIL) bIT
  have hFB := dd FFB (PySem.W.mg_of X G aFB) (ok_first_bad_term FFB B hIT hIL) bFB
  have hCO := dd FCO (PySem.W.mg_of X G aCO) (ok_collected (O := FilO K C) FCO B) bCO
  have okI := ok_init FIn B c hIP hFB hCO
  have hF0 : MakeOk l.prog w K mg base C 4 "Filter" ["self", "prime", "terms"] [] (spInit K C) := by
    obtain ⟨ds, hv, hb⟩ := bIn0
    exact ⟨fIn, _, ds, ⟨mk, aIn, iIn, kc⟩, mC, hb, hv, okI⟩
  have h0 : ∀ H, SqT K H e0 [] := fun H => Or.inr ⟨_, _, _, lE, rfl, rfl, by show 0 ≤ sizeLine; exact sz_of (by decide), .nil⟩
  have bIn1 : ∃ ds, Vals (([V.ref e0] : List V).drop 0) ds ∧ Binds K _ ["self", "prime", "terms"] ds := FIn.binds1 2 0 (fun z => nomatch z) rfl fun T kV doc pm an cdv ct us its hu hi => match us, its, hu, hi with | [_, _], [_], _, _ => ⟨_, rfl, rfl⟩
  have hF1 : MakeOk l.prog w K mg base C 4 "Filter" ["self", "prime", "terms"] [.ref e0] (spInit K C) := by
    obtain ⟨ds, hv, hb⟩ := bIn1
    exact ⟨fIn, _, ds, ⟨mk, aIn, iIn, kc⟩, mC, hb, hv, okI⟩
  have FIPe := fun_mk (st := BadPrime___init___S) lIPe cIPe kIPe
  have bIPe := FIPe.binds (ps := ["self", "prime"]) fun _ _ _ _ _ _ us hl => match us, hl with | [_, _], _ => rfl
  have TPe : OexC K CPe := oexB_ok oPe sPe bPe tPe kPe
  have XPe : XcP l.prog w K mg base "BadPrime" "prime" CPe := ⟨TPe, PySem.W.mg_of X G xPe, noPe, _, _, aIPe, tIPe, bIPe, ok_badprime FIPe TPe noPe⟩
  have FPex : XfC K CPe := ⟨gPe, ggPe, bPe, hdPe⟩
  have FITm := fun_mk (st := BadTerm___init___S) lITm cITm kITm
  have bITm := FITm.binds (ps := ["self", "index"]) fun _ _ _ _ _ _ us hl => match us, hl with | [_, _], _ => rfl
  have TTm : OexC K CTm := oexB_ok oTm sTm bTm tTm kTm
  have XTm : XcP l.prog w K mg base "BadTerm" "index" CTm := ⟨TTm, PySem.W.mg_of X G xTm, noTm, _, _, aITm, tITm, bITm, ok_badterm FITm TTm noTm⟩
  have FTmx : XfC K CTm := ⟨gTm, ggTm, bTm, hdTm⟩
  have okE := ok_initE FIn B c XPe XTm hIP hFB hCO
  have hME : MakeE l.prog w K mg base C 4 "Filter" ["self", "prime", "terms"] (spInitE K C CPe CTm) := by
    obtain ⟨ds, hv, hb⟩ := bIn0
    cases hv
    exact ⟨fIn, _, ⟨mk, aIn, iIn, kc⟩, mC, hb, okE⟩
  have mTe : MethOk l.prog w K mg base C 1 "terms" ["self"] (SpD K (FilO K C) rTerms) := ⟨fTe, _, ⟨aTe, iTe, kTe⟩, bTe, ok_terms FTe B c⟩
  have hLS := dd FLS (PySem.W.mg_of X G aLS) (ok_spring FLS B) bLS
  have hLD := dd FLD (PySem.W.mg_of X G aLD) (ok_draw (O := FilO K C) FLD B) bLD
  have hLP := dd FLP (PySem.W.mg_of X G aLP) (ok_pick FLP B hLD) bLP
  have hLM := dd FLM (PySem.W.mg_of X G aLM) (ok_sameD FLM B OKf (PySem.W.mg_of X G aLM) bLM 4) bLM
  have hLH := dd FLH (PySem.W.mg_of X G aLH) (ok_held (O := FilO K C) FLH B) bLH
  have hLA := dd FLA (PySem.W.mg_of X G aLA) (ok_pairs (O := FilO K C) FLA B) bLA
  have hLR := dd FLR (PySem.W.mg_of X G aLR) (ok_prime FLR B hLP) bLR
  have hLF := dd FLF (PySem.W.mg_of X G aLF) (ok_frozen FLF B OKf (PySem.W.mg_of X G aLF) bLF 4) bLF
  have hHF : SR.DefH l.prog w K mg base 4 "_law_frozen" ["_law_thing"] (SpD K (FilO K C) (rFrz 4)) := ⟨fLF, _, PySem.W.mg_of X G aLF, FLF.kp, bLF, ok_frozenH FLF B OKf (PySem.W.mg_of X G aLF) bLF 4⟩
  have hLO := dd FLO (PySem.W.mg_of X G aLO) (ok_odd_terms (O := FilO K C) FLO) bLO
  have hLQ := dd FLQ (PySem.W.mg_of X G aLQ) (ok_odd_primes (O := FilO K C) FLQ) bLQ
  have hLT := dd FLT (PySem.W.mg_of X G aLT) (ok_tried FLT B c hME (PySem.W.mg_of X G xPe) (PySem.W.mg_of X G xTm) FPex FTmx noPe noTm (PySem.W.exm_ref bPe hdPe tPe ePP) (PySem.W.exm_ref bPe hdPe tPe eTP) (PySem.W.exm_ref bTm hdTm tTm eTT) hHF mTe (by decide)) bLT
  exact ok_law FLL B c h0 hLS hLR hLD hLP hLO hLQ hLT hLM hLF hF1 hLH hLA
theorem walk {l : PySem.W.OpenLaw} {q : Program} {loose : List Str} {XP : (Str → Option Value) → Heap → Prop} {YP : World → Heap → Prop} {d : DefRec} {K : Params → PySem.W.Frag} (hn : l.most = some 63) (hdf : d.params.defaults = [])
    (hY : ∀ (w : World) (h : Heap), YP w h → (K w.params).In h)
    (F : ∀ (w : World) (mg : Str → Option Value) (fa : Addr) (h : Heap), (K w.params).In h → h.Ns mainGlobals mg → mg d.name = some (.ref fa) →
      ∃ fd : FuncData, (∀ (s : Shared) (u : Value), BindsTo s fd ⟨[u], []⟩ [("_law_script", u)]) ∧ ∀ base : Heap, (K w.params).In base → base.Ns mainGlobals mg → FnOk l.prog w (K w.params) mg base CX0 10 fa fd ["_law_script"] (spLaw (K w.params))) :
    PySem.W.WalkO q loose XP YP l.row.toRowW d [] (fun f vs => PySem.call f vs) :=
  L2.walk_of (n := 63) (k := 10) (x := "_law_script") (CX := fun _ => CX0) (sp := fun w => spLaw (K w.params)) hn (by decide) hdf ⟨rfl, by decide, by decide⟩ hY F (fun _ _ a ns hl _ hS => ⟨a, ns, rfl, hS, hl, fun _ => rfl⟩) fun _ _ _ _ _ z => z
end SR
set_option maxRecDepth 100000
open PySem PySem.W PyProof.Rows
set_option maxRecDepth 100000 in
set_option maxHeartbeats 0 in
theorem PySem.Challenge.cw_seenrows_k02_filters_refused_holds : PySem.Challenge.rw_seenrows_k02_filters_refused.Holds := by
  w_on; o_law
  refine HeadRun.head_any (r := (PySem.W.OpenLaw.row PySem.Challenge.rw_seenrows_k02_filters_refused)) (q := SR.VV) (H := kHook SR.KK SR.KA SR.kk_as) (ob := fun s => SR.KA.map (HeadRun.getT s)) (M := 3587) (loose := SR.LO) (d := HeadRun.topDef (PySem.W.OpenLaw.row PySem.Challenge.rw_seenrows_k02_filters_refused).prog 62) (kwd := []) SR.ob_eq
    (by kernel_rfl) (fun s => by kernel_rfl) SR.run_all (by kernel_rfl) (by kernel_rfl) (by kernel_rfl) (by rfl) (by first | assumption | decide +kernel) (by decide +kernel) ⟨rfl, rfl, rfl, rfl, rfl, by decide +kernel⟩ ?hw ?hc
  case hw => w_witness2
  case hc =>
    k_fill
    refine SR.walk (l := PySem.Challenge.rw_seenrows_k02_filters_refused) rfl rfl (fun w h Y => PySem.W.kIn_of Y) ?F
    case F =>
      intro w mg fa h KX G hmg
      refine' SR.all_mk KX G hmg ?aC ?pg ?hdi ?po ?sa ?mk ?kc ?n1 ?n2 ?n3 ?cC ?tyC ?tk_NoneType ?tk_bool ?tk_int ?tk_str ?tk_list ?tk_tuple ?tk_dict ?to_int ?to_bool ?to_list ?to_tuple ?tca ?tcn ?tct ?tcm ?z_len ?z_isinstance ?z_int ?z_bool ?z_list ?z_tuple ?z_dict ?z_sorted ?z_enumerate ?z_zip ?z_range ?z_all ?z_any ?z_reversed ?z_sum ?z_min ?z_max ?z_abs ?aPr ?lP ?aIn ?iIn ?lIn ?cIn ?kIn ?lT ?lE ?aTe ?iTe ?lTe ?cTe ?kTe ?xPe ?oPe ?sPe ?kPe ?bPe ?tPe ?gPe ?ggPe ?hdPe ?noPe ?aIPe ?tIPe ?lIPe ?cIPe ?kIPe ?xTm ?oTm ?sTm ?kTm ?bTm ?tTm ?gTm ?ggTm ?hdTm ?noTm ?aITm ?tITm ?lITm ?cITm ?kITm ?ePP ?eTP ?eTT ?aII ?lII ?cII ?kII ?aIL ?lIL ?cIL ?kIL ?aIP ?lIP ?cIP ?kIP ?aIT ?lIT ?cIT ?kIT ?aFB ?lFB ?cFB ?kFB ?aCO ?lCO ?cCO ?kCO ?aLS ?lLS ?cLS ?kLS ?aLD ?lLD ?cLD ?kLD ?aLP ?lLP ?cLP ?kLP ?aLM ?lLM ?cLM ?kLM ?aLH ?lLH ?cLH ?kLH ?aLA ?lLA ?cLA ?kLA ?aLR ?lLR ?cLR ?kLR ?aLF ?lLF ?cLF ?kLF ?aLT ?lLT ?cLT ?kLT ?aLO ?lLO ?cLO ?kLO ?aLQ ?lLQ ?cLQ ?kLQ ?aLL ?lLL ?cLL ?kLL
      (case aC => k_is)
      (case pg => k_is)
      (case hdi => k_is)
      (case po => k_is)
      (case sa => k_is)
      (case mk => k_is)
      (case kc => k_is)
      (case n1 => k_is)
      (case n2 => k_is)
      (case n3 => k_is)
      (case cC => k_is)
      (case tyC => k_is)
      (case tk_NoneType => k_is)
      (case tk_bool => k_is)
      (case tk_int => k_is)
      (case tk_str => k_is)
      (case tk_list => k_is)
      (case tk_tuple => k_is)
      (case tk_dict => k_is)
      (case to_int => k_is)
      (case to_bool => k_is)
      (case to_list => k_is)
      (case to_tuple => k_is)
      (case tca => k_is)
      (case tcn => k_is)
      (case tct => k_is)
      (case tcm => k_is)
      (case z_len => k_is)
      (case z_isinstance => k_is)
      (case z_int => k_is)
      (case z_bool => k_is)
      (case z_list => k_is)
      (case z_tuple => k_is)
      (case z_dict => k_is)
      (case z_sorted => k_is)
      (case z_enumerate => k_is)
      (case z_zip => k_is)
      (case z_range => k_is)
      (case z_all => k_is)
      (case z_any => k_is)
      (case z_reversed => k_is)
      (case z_sum => k_is)
      (case z_min => k_is)
      (case z_max => k_is)
      (case z_abs => k_is)
      (case aPr => k_is)
      (case lP => k_is)
      (case aIn => k_is)
      (case iIn => k_is)
      (case lIn => k_is)
      (case cIn => k_is)
      (case kIn => k_is)
      (case lT => k_is)
      (case lE => k_is)
      (case aTe => k_is)
      (case iTe => k_is)
      (case lTe => k_is)
      (case cTe => k_is)
      (case kTe => k_is)
      (case xPe => k_is)
      (case oPe => first | rfl | kernel_rfl | decide +kernel)
      (case sPe => k_is)
      (case kPe => k_is)
      (case bPe => k_is)
      (case tPe => k_is)
      (case gPe => k_is)
      (case ggPe => k_is)
      (case hdPe => k_is)
      (case noPe => k_is)
      (case aIPe => k_is)
      (case tIPe => k_is)
      (case lIPe => k_is)
      (case cIPe => k_is)
      (case kIPe => k_is)
      (case xTm => k_is)
      (case oTm => first | rfl | kernel_rfl | decide +kernel)
      (case sTm => k_is)
      (case kTm => k_is)
      (case bTm => k_is)
      (case tTm => k_is)
      (case gTm => k_is)
      (case ggTm => k_is)
      (case hdTm => k_is)
      (case noTm => k_is)
      (case aITm => k_is)
      (case tITm => k_is)
      (case lITm => k_is)
      (case cITm => k_is)
      (case kITm => k_is)
      (case ePP => k_is)
      (case eTP => k_is)
      (case eTT => k_is)
      (case aII => k_is)
      (case lII => k_is)
      (case cII => k_is)
      (case kII => k_is)
      (case aIL => k_is)
      (case lIL => k_is)
      (case cIL => k_is)
      (case kIL => k_is)
      (case aIP => k_is)
      (case lIP => k_is)
      (case cIP => k_is)
      (case kIP => k_is)
      (case aIT => k_is)
      (case lIT => k_is)
      (case cIT => k_is)
      (case kIT => k_is)
      (case aFB => k_is)
      (case lFB => k_is)
      (case cFB => k_is)
      (case kFB => k_is)
      (case aCO => k_is)
      (case lCO => k_is)
      (case cCO => k_is)
      (case kCO => k_is)
      (case aLS => k_is)
      (case lLS => k_is)
      (case cLS => k_is)
      (case kLS => k_is)
      (case aLD => k_is)
      (case lLD => k_is)
      (case cLD => k_is)
      (case kLD => k_is)
      (case aLP => k_is)
      (case lLP => k_is)
      (case cLP => k_is)
      (case kLP => k_is)
      (case aLM => k_is)
      (case lLM => k_is)
      (case cLM => k_is)
      (case kLM => k_is)
      (case aLH => k_is)
      (case lLH => k_is)
      (case cLH => k_is)
      (case kLH => k_is)
      (case aLA => k_is)
      (case lLA => k_is)
      (case cLA => k_is)
      (case kLA => k_is)
      (case aLR => k_is)
      (case lLR => k_is)
      (case cLR => k_is)
      (case kLR => k_is)
      (case aLF => k_is)
      (case lLF => k_is)
      (case cLF => k_is)
      (case kLF => k_is)
      (case aLT => k_is)
      (case lLT => k_is)
      (case cLT => k_is)
      (case kLT => k_is)
      (case aLO => k_is)
      (case lLO => k_is)
      (case cLO => k_is)
      (case kLO => k_is)
      (case aLQ => k_is)
      (case lLQ => k_is)
      (case cLQ => k_is)
      (case kLQ => k_is)
      (case aLL => k_is)
      (case lLL => k_is)
      (case cLL => k_is)
      (case kLL => k_is)
  
