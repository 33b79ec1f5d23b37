import PyProof.Rows.All
import Wide.All
import OpenK.AllK
import Wide.FinOn
import KE.GoesMore
import KE.GoesEnum
import PyProof.EqAt
import PyProof.EqKinds
import PyProof.TupleCall
import PyProof.InstEq
import KE.KDictPairs
import KE.KFmtOwn
import HandS.ForMost
import HandS.Evl
import HandS.IsInst
import HandS.More
import HandS.ClsMeth
import HandS.Defaults
import HandS.CallLocal
import HandS.NoneIn
import HandS.SortInts
import HandS.Style
import HandS.Wide
import HandS.TupAny
import HandS.Slots
import HandS.SlotsOwn
import HandS.Walk
import HandS.Zip
import HandS.Rev
import HandS.Small
import KE.KOpsOwn
import PyProof.LongRange
import HandS.Base
import HandS.Call
import HandS.FStr
import HandS.IntHex
import HandS.Text
import KE.KxField
import HandS.WideBits
import KE.HD2
import PySem.Challenge.RW_seenrows_k04_filters_multiplied
set_option Elab.async false
set_option linter.all false
set_option maxRecDepth 100000
set_option maxHeartbeats 4000000
/-! Rules for instances of an own class: ==, !=, [], bool, + - * // % with a dunder of its own. -/
namespace SR
open PySem PySem.Spec PyProof.Rows L2

section
variable {X : Cx} {CX : CXT} {pins : List (Addr × Obj)} {σ : L2.St} {H : Hp} {s : Shared} {a C dx g : Addr} {fs : List (Str × V)} {fd : FuncData} {ps : List Str} {n : Nat} {sp : Sp} {E : XK}

theorem ins_inst (I : Inv X pins σ H s) (ea : H a = some (.ins C dx fs)) : ∃ od, PySem.W.InstAt s.heap a (PySem.W.instObj C dx) C (some od) := by
  obtain ⟨mA, O, _⟩ := ins_get I.hok ea
  obtain ⟨od, J, _⟩ := O.look
  exact ⟨od, J⟩

/-- x == y, x an instance of the class at C whose __eq__ is at g; y anything whose type is known -/
def rEqOwn (K : PySem.W.Frag) (C : Addr) (sp : Sp) (E : XK) : R2 := fun x y H Q => ∃ a dx fs t, x = .ref a ∧ H a = some (.ins C dx fs) ∧ TyX K H y t ∧ PySem.W.notFirst K C t = true ∧ sp [x, y] H (fun z H' => ∃ b, z = .bl b ∧ Q (.bl b) H') E
theorem op_eqOwn (hs : PySem.W.findIn X.K (.ref C) "__eq__" = some (some (.ref g))) (hf : PySem.W.isFn X.K (.ref g) = true) (F : FnOk X.prog X.w X.K X.mg X.base CX n g fd ps sp)
    (hr : Room n X.A) (hb : Binds X.K fd ps []) (hx : Passes CX X E) : OpR X (compareOp .Eq) (rEqOwn X.K C sp E) := by
  intro pins s σ H x y v u Q I rx ry h
  obtain ⟨a, dx, fs, t, rfl, ha, ty, hn, q⟩ := h
  cases (show v = Value.ref a from rx)
  obtain ⟨od, J⟩ := ins_inst I ha
  obtain ⟨P, Z, p, hx'⟩ := kit_of I ry ty
  obtain ⟨m, hF⟩ := I.fr
  show wpAny _ _ (richCompare .Eq (.ref a) u) _ _ _
  refine PySem.W.cmp_K (op := .Eq) (tb := t) hr.units0 hF I.ok.mod.kin J (Z.ty _ _ I.kIn p) hn hs hf ?_
  refine wpAny_mono (run_fn (us := [.ref a, u]) (vs := [.ref a, y]) F hr hb .nil hx I (.cons rfl (.cons ry .nil)) (by exact q)) (fun w s' z => ?_) fun _ _ x => x
  obtain ⟨z', H', I', rz, b, rfl, qz⟩ := z
  cases (show w = Value.bool b from rz)
  exact ⟨.bl b, H', I', rfl, qz⟩
end

section
variable {prog : Program} {w : World} {A : Around} {E : Value → Shared → Prop} {s : Shared} {K : PySem.W.Frag} {x C L f : Addr} {h₀ : Heap} {m : Str → Option Value} {ox : Obj} {od : Option Obj} {name : Str} {b tb : Value}
open PySem.W in
theorem ifBound_bi {M : Model} {id : String} {args : List Value} {Q : Option Value → Shared → Prop} (X : K.In s.heap) (I : InstAt s.heap x ox C od) (hs : findIn K (.ref C) name = some (some (.builtin id)))
    (hb : ∀ self, bindSpecial (.builtin id) self = pure (.builtin id, [self]))
    (h : wpAny M A (call (.builtin id) (.ref x :: args)) (fun v => Q (some v)) E s) : wpAny M A (callSpecialIfBound? (.ref x) name args) Q E s := by
  simp only [callSpecialIfBound?, bindSpecialIfBound?]
  refine wpAny_holding (wpAny_bind (wpAny_bind (wpAny_bind (I.type.here ((looks_findIn X hs).here ?_)))))
  refine wpAny_bind (wpAny_askSetting (wpAny_ite ?_))
  have fin : wpAny M A (call (.builtin id) ([.ref x] ++ args) >>= fun v => pure (some v)) Q E s := wpAny_bind (wpAny_mono h (fun v s' h' => wpAny_pure h') fun _ _ h' => h')
  split
  · exact wpAny_bind ((Looks.of_pure (hb _)).here (wpAny_pure (by exact fin)))
  · exact wpAny_tryCatch (wpAny_bind ((Looks.of_pure (hb _)).here (wpAny_pure (by exact fin))))
open PySem.W in
/-- a comparison whose first try gives a value -/
theorem cmp_first {op : CmpOp} {Q : Value → Shared → Prop} (hu : A.units < cLine) (X : K.In s.heap) (I : InstAt s.heap x ox C od) (hb : Looks (model prog w) s.heap (typeOf b) tb) (hn : notFirst K C tb = true)
    (one : wpAny (model prog w) A (tryCompare (.ref x) (cmpInfo op).2.1 b) (fun r s' => ∃ v, r = some v ∧ Q v s') E s) : wpAny (model prog w) A (richCompare op (.ref x) b) Q E s := by
  unfold richCompare
  simp only [oneThing_ref]
  refine wpAny_holding (wpAny_bind (wpAny_cRoomFor hu ?_))
  refine wpAny_bind (I.type.here (wpAny_bind (hb.here ?_)))
  split
  · rename_i q
    have e : subIn K tb (.ref C) = some false := by
      rcases Bool.or_eq_true_iff.mp hn with e | e
      · rw [beq_iff_eq.mp e] at q; simp at q
      · exact beq_iff_eq.mp e
    refine wpAny_bind ((looks_subIn X e).here ?_)
    simp only [Bool.false_eq_true, if_false]
    refine wpAny_bind (wpAny_mono one (fun r s' z => ?_) fun _ _ e => e)
    obtain ⟨v, rfl, hq⟩ := z
    exact wpAny_pure hq
  · refine wpAny_bind (wpAny_pure ?_)
    simp only [Bool.false_eq_true, if_false]
    refine wpAny_bind (wpAny_mono one (fun r s' z => ?_) fun _ _ e => e)
    obtain ⟨v, rfl, hq⟩ := z
    exact wpAny_pure hq
open PySem.W Builtin in
theorem obj_ne {Q : Value → Shared → Prop} (hu : A.in1.units < cLine) (X : K.In s.heap) (I : InstAt s.heap x ox C od) (hm : mroIn K C (.type "object") = some true) (hs : findIn K (.ref C) "__eq__" = some (some (.ref f))) (hf : isFn K (.ref f) = true)
    (h : wpAny (model prog w) A.in1 (call (.ref f) [.ref x, b]) (fun v s' => ∃ k, v = .bool k ∧ Q (.bool (!k)) s') E s) : wpAny (model prog w) A (call (.builtin "object.__ne__") [.ref x, b]) Q E s := by
  refine wpAny_call (codeAny_call_builtin PySem.F.cmp_object.ne.plain PySem.F.cmpEntry_ne (check_slot (i := "object.__ne__") (owner := "object") (n := "__ne__") PySem.F.cmpKind_ne PySem.F.cmpSplit_ne (I.type.andThen (looks_mroIn X hm)) (PySem.F.cmpArgs_ne _ _) ?_))
  unfold Builtin.«object.__ne__»
  refine wpAny_bind (m := slotArgs "__ne__" 1 _) (wpAny_pure ?_)
  refine wpAny_bind (m := cRoomFor _ _) (wpAny_cRoomFor hu ?_)
  refine wpAny_bind (m := callSpecialIfBound? (.ref x) (Str.ofString "__eq__") _) (ifBound_K X I hs hf (wpAny_mono h (fun r s' hq => ?_) fun _ _ y => y))
  obtain ⟨k, rfl, hq⟩ := hq
  refine wpAny_bind (m := truthy (.bool k)) (wpAny_truthy_bool ?_)
  exact wpAny_pure hq
open PySem.W in
theorem ne_own {Q : Value → Shared → Prop} (hu : A.units + 2 < cLine) (X : K.In s.heap) (I : InstAt s.heap x ox C od) (hb : Looks (model prog w) s.heap (typeOf b) tb) (hn : notFirst K C tb = true) (hm : mroIn K C (.type "object") = some true)
    (hne : findIn K (.ref C) "__ne__" = some (some (.builtin "object.__ne__"))) (hs : findIn K (.ref C) "__eq__" = some (some (.ref f))) (hf : isFn K (.ref f) = true)
    (h : wpAny (model prog w) A.in1 (call (.ref f) [.ref x, b]) (fun v s' => ∃ k, v = .bool k ∧ Q (.bool (!k)) s') E s) : wpAny (model prog w) A (richCompare .NotEq (.ref x) b) Q E s := by
  refine cmp_first (op := .NotEq) (by omega) X I hb hn ?_
  unfold tryCompare
  refine wpAny_bind (ifBound_bi X I hne PySem.F.cmp_object.ne.bind (obj_ne (by show A.units + 1 < cLine; omega) X I hm hs hf (wpAny_mono h (fun r s' hq => ?_) fun _ _ y => y)))
  obtain ⟨k, rfl, hq⟩ := hq
  exact ⟨k, rfl, wpAny_pure ⟨_, rfl, hq⟩⟩
end
section
variable {X : Cx} {CX : CXT} {pins : List (Addr × Obj)} {σ : L2.St} {H : Hp} {s : Shared} {a C dx g : Addr} {fs : List (Str × V)} {fd : FuncData} {ps : List Str} {n : Nat} {sp : Sp} {E : XK}
/-- the callee runs one room deeper -/
theorem run_fn1 {Q : VK} {us : List Value} {vs : List V} (F : FnOk X.prog X.w X.K X.mg X.base CX n g fd ps sp) (hr : Room (n + 1) X.A) (hb : Binds X.K fd ps []) (hx : Passes CX X E) (I : Inv X pins σ H s) (r : Vals vs us) (h : sp vs H Q E) :
    wpAny (model X.prog X.w) X.A.in1 (call (.ref g) us) (EP X pins σ Q) X.xe s := by
  have hl : (us ++ []).length = ps.length := by rw [List.append_nil, ← r.length]; exact F.len _ _ _ _ h
  have hb' := hb s us I.kIn hl
  rw [List.append_nil] at hb'
  refine wpAny_call (codeAny_mono (F.run X.A.in1 X.stack s H ⟨us, []⟩ us vs Q E hr.in1 I.env0.in1 hb' r h) fun r s' hq => ?_)
  cases r with
  | error e => exact hx pins σ H s e s' I hq
  | ok fl =>
    cases fl with
    | ret u => exact I.after hq
    | next => exact False.elim hq
    | brk => exact False.elim hq
    | cont => exact False.elim hq
def rNeOwn (K : PySem.W.Frag) (C : Addr) (sp : Sp) (E : XK) : R2 := fun x y H Q => ∃ a dx fs t, x = .ref a ∧ H a = some (.ins C dx fs) ∧ TyX K H y t ∧ PySem.W.notFirst K C t = true ∧ sp [x, y] H (fun z H' => ∃ b, z = .bl b ∧ Q (.bl (!b)) H') E
theorem op_neOwn (hs : PySem.W.findIn X.K (.ref C) "__eq__" = some (some (.ref g))) (hf : PySem.W.isFn X.K (.ref g) = true) (hne : PySem.W.findIn X.K (.ref C) "__ne__" = some (some (.builtin "object.__ne__"))) (hm : PySem.W.mroIn X.K C (.type "object") = some true)
    (F : FnOk X.prog X.w X.K X.mg X.base CX n g fd ps sp) (hr : Room (n + 1) X.A) (hb : Binds X.K fd ps []) (hx : Passes CX X E) : OpR X (compareOp .NotEq) (rNeOwn X.K C sp E) := by
  intro pins s σ H x y v u Q I rx ry h
  obtain ⟨a, dx, fs, t, rfl, ha, ty, hn, q⟩ := h
  cases (show v = Value.ref a from rx)
  obtain ⟨od, J⟩ := ins_inst I ha
  obtain ⟨P, Z, p, hx'⟩ := kit_of I ry ty
  show wpAny _ _ (richCompare .NotEq (.ref a) u) _ _ _
  refine ne_own (tb := t) (by have := hr.units; omega) I.kIn J (Z.ty _ _ I.kIn p) hn hm hne hs hf ?_
  refine wpAny_mono (run_fn1 (us := [.ref a, u]) (vs := [.ref a, y]) F hr hb hx I (.cons rfl (.cons ry .nil)) (by exact q)) (fun w s' z => ?_) fun _ _ x => x
  obtain ⟨z', H', I', rz, b, rfl, qz⟩ := z
  cases (show w = Value.bool b from rz)
  exact ⟨b, rfl, .bl (!b), H', I', rfl, qz⟩
end

section
variable {prog : Program} {w : World} {A : Around} {E : Value → Shared → Prop} {s : Shared} {K : PySem.W.Frag} {x C f : Addr} {ox : Obj} {od : Option Obj}
open PySem.W Builtin in
theorem truthy_own {M : Model} {Q : Bool → Shared → Prop} (X : K.In s.heap) (I : InstAt s.heap x ox C od) (hs : findIn K (.ref C) "__bool__" = some (some (.ref f))) (hf : isFn K (.ref f) = true)
    (h : wpAny M A (call (.ref f) [.ref x]) (fun v s' => ∃ b, v = .bool b ∧ Q b s') E s) : wpAny M A (truthy (.ref x)) Q E s := by
  unfold truthy
  refine wpAny_bind (m := callSpecial? (.ref x) (Str.ofString "__bool__")) (special_fn X I hs (beq_iff_eq.mp hf) (wpAny_mono h (fun r s' hr => ?_) fun _ _ y => y))
  obtain ⟨b, rfl, q⟩ := hr
  exact wpAny_pure q
open Builtin in
/-- bool(x) by x's truth -/
theorem bool_of {x : Value} {Q : Value → Shared → Prop} (h : wpAny (model prog w) A.in1.in1 (truthy x) (fun b s' => Q (.bool b) s') E s) : wpAny (model prog w) A (call (.type "bool") [x]) Q E s := by
  refine callType_codes (T := "bool") (Bi := Builtin.«object.__init__») (Q₁ := fun r s₁ => ∃ b, r = Value.bool b ∧ Q r s₁) PySem.F.called_bool (PySem.F.typeCall_bool_1 _) PySem.F.entry_object_init ?_ ?_
  · refine codeAny_of_tree ?_
    show wpAny _ A.in1.in1 (do checkBuiltinCall "bool.__new__" ⟨[.type "bool", x], []⟩; again (.builtin "bool.__new__" ⟨[.type "bool", x], []⟩)) _ _ s
    refine wpAny_bind (wpAny_of_eq (PySem.F.newCall_bool_1 _) (wpAny_pure ⟨plainId_quiet (by decide +kernel) _, codeAny_builtin PySem.F.entry_bool_new ?_⟩))
    rw [Around.under_plainId (by decide +kernel) _]
    unfold Builtin.«bool.__new__»
    refine wpAny_bind (wpAny_of_eq (a := true) (by first | rfl | kernel_rfl) ?_)
    refine PySem.W.KFB.if_not rfl ?_
    refine wpAny_bind (wpAny_of_eq (a := true) PySem.F.conv_sub_bool ?_)
    refine PySem.W.KFB.if_not rfl ?_
    refine wpAny_bind (m := someArgs "bool" 0 1 _) (wpAny_of_eq (a := [x]) (by first | rfl | kernel_rfl) ?_)
    refine wpAny_bind (wpAny_mono h (fun b s' q => ?_) fun _ _ y => y)
    exact wpAny_pure ⟨b, rfl, q⟩
  · rintro obj s₁ ⟨b, rfl, hq⟩
    exact ⟨rfl, PySem.F.args_object_init_2 _ _, object_init_meets PySem.F.called_bool.init.lookup PySem.F.called_bool.made (by decide) prog w A.in1 _ s₁ ⟨rfl, rfl, hq⟩⟩
end
section
variable {X : Cx} {CX : CXT} {pins : List (Addr × Obj)} {σ : L2.St} {H : Hp} {s : Shared} {a C dx g : Addr} {fs : List (Str × V)} {fd : FuncData} {ps : List Str} {n : Nat} {sp : Sp} {E : XK}
theorem run_fn2 {Q : VK} {us : List Value} {vs : List V} (F : FnOk X.prog X.w X.K X.mg X.base CX n g fd ps sp) (hr : Room (n + 2) X.A) (hb : Binds X.K fd ps []) (hx : Passes CX X E) (I : Inv X pins σ H s) (r : Vals vs us) (h : sp vs H Q E) :
    wpAny (model X.prog X.w) X.A.in1.in1 (call (.ref g) us) (EP X pins σ Q) X.xe s := by
  have hl : (us ++ []).length = ps.length := by rw [List.append_nil, ← r.length]; exact F.len _ _ _ _ h
  have hb' := hb s us I.kIn hl
  rw [List.append_nil] at hb'
  refine wpAny_call (codeAny_mono (F.run X.A.in1.in1 X.stack s H ⟨us, []⟩ us vs Q E (show Room (n + 1) X.A.in1 from Room.in1 hr).in1 I.env0.in1.in1 hb' r h) fun r s' hq => ?_)
  cases r with
  | error e => exact hx pins σ H s e s' I hq
  | ok fl =>
    cases fl with
    | ret u => exact I.after hq
    | next => exact False.elim hq
    | brk => exact False.elim hq
    | cont => exact False.elim hq
/-- the truth of an instance -/
def rTruOwn (C : Addr) (sp : Sp) (E : XK) : V → Hp → (Bool → Hp → Prop) → Prop := fun x H Q => ∃ a dx fs, x = .ref a ∧ H a = some (.ins C dx fs) ∧ sp [x] H (fun z H' => ∃ b, z = .bl b ∧ Q b H') E
theorem tru_own (hs : PySem.W.findIn X.K (.ref C) "__bool__" = some (some (.ref g))) (hf : PySem.W.isFn X.K (.ref g) = true) (F : FnOk X.prog X.w X.K X.mg X.base CX n g fd ps sp)
    (hr : Room n X.A) (hb : Binds X.K fd ps []) (hx : Passes CX X E) : TruR X (rTruOwn C sp E) := by
  intro pins s σ H x v Q I rx h
  obtain ⟨a, dx, fs, rfl, ha, q⟩ := h
  cases (show v = Value.ref a from rx)
  obtain ⟨od, J⟩ := ins_inst I ha
  refine truthy_own I.kIn J hs hf (wpAny_mono (run_fn (us := [.ref a]) (vs := [.ref a]) F hr hb .nil hx I (.cons rfl .nil) (by exact q)) (fun w s' z => ?_) fun _ _ x => x)
  obtain ⟨z', H', I', rz, b, rfl, qz⟩ := z
  cases (show w = Value.bool b from rz)
  exact ⟨b, rfl, H', I', qz⟩
def rBoolOwn (C : Addr) (sp : Sp) (E : XK) : List V → Hp → VK → Prop := fun xs H Q => ∃ a dx fs, xs = [.ref a] ∧ H a = some (.ins C dx fs) ∧ sp [.ref a] H (fun z H' => ∃ b, z = .bl b ∧ Q (.bl b) H') E
theorem call_boolOwn (hs : PySem.W.findIn X.K (.ref C) "__bool__" = some (some (.ref g))) (hf : PySem.W.isFn X.K (.ref g) = true) (F : FnOk X.prog X.w X.K X.mg X.base CX n g fd ps sp)
    (hr : Room (n + 2) X.A) (hb : Binds X.K fd ps []) (hx : Passes CX X E) : CallR X (.type "bool") (rBoolOwn C sp E) := by
  intro pins s σ H xs us Q I r h
  obtain ⟨a, dx, fs, rfl, ha, q⟩ := h
  obtain rfl := Vals.ref1 r
  obtain ⟨od, J⟩ := ins_inst I ha
  refine bool_of (truthy_own I.kIn J hs hf (wpAny_mono (run_fn2 (us := [.ref a]) (vs := [.ref a]) F hr hb hx I (.cons rfl .nil) (by exact q)) (fun w s' z => ?_) fun _ _ x => x))
  obtain ⟨z', H', I', rz, b, rfl, qz⟩ := z
  cases (show w = Value.bool b from rz)
  exact ⟨b, rfl, .bl b, H', I', rfl, qz⟩
/-- o[i] by an own __getitem__ -/
def rIxOwn (C : Addr) (sp : Sp) (E : XK) : R2 := fun x y H Q => ∃ a dx fs, x = .ref a ∧ H a = some (.ins C dx fs) ∧ sp [x, y] H Q E
def PlainIxO (b : Expr) : Prop := ∀ o i, subscripted b true o i = runValue (.builtin "lifetime.subscript" ⟨[o, i], []⟩)
theorem pe_ixOwn {a b : Expr} {ta tb : TE} {pos : Pos} (hs : PySem.W.findIn X.K (.ref C) "__getitem__" = some (some (.ref g))) (hf : PySem.W.fnIn X.K g = true) (hfn : PySem.W.isFn X.K (.ref g) = true) (F : FnOk X.prog X.w X.K X.mg X.base CX n g fd ps sp)
    (hr : Room (n + 1) X.A) (hb : Binds X.K fd ps []) (hx : Passes CX X E) (ha : PE X a ta) (hi : PE X b tb) (hsl : PlainIxO b) : PE X (.Subscript a b pos) (tOp (rIxOwn C sp E) ta tb) := by
  refine ⟨fun pins s σ H Q I h => ?_⟩
  refine Subscript_ (binT ha hi I h fun v u s2 x y H2 I2 rx ry q => ?_)
  obtain ⟨p, dx, fs, rfl, hp, q⟩ := q
  cases (show v = Value.ref p from rx)
  obtain ⟨od, J⟩ := ins_inst I2 hp
  obtain ⟨m, hF⟩ := I2.fr
  exact PySem.W.sub_K hF I2.ok.mod.kin J hs hf hfn (run_fn1 (us := [.ref p, u]) (vs := [.ref p, y]) F hr hb hx I2 (.cons rfl (.cons ry .nil)) q) (hsl _ _)
theorem not_ni {z : V} {v : Value} {P : Value → Shared → Prop} {s' : Shared} (r : RelV z v) (h : P v s') : PySem.W.CmpBack P v s' := SlX.cmpback r h
/-- x op y, both instances of the class at C -/
def rBinOwn (C : Addr) (sp : Sp) (E : XK) : R2 := fun x y H Q => ∃ a dx fs b dy gs, x = .ref a ∧ y = .ref b ∧ H a = some (.ins C dx fs) ∧ H b = some (.ins C dy gs) ∧ sp [x, y] H Q E
theorem op_binOwn {op : Operator} (hc : PySem.W.selfFirst X.K C = true) (hs : PySem.W.findIn X.K (.ref C) (PySem.dunder op.info.2) = some (some (.ref g))) (hf : PySem.W.isFn X.K (.ref g) = true) (F : FnOk X.prog X.w X.K X.mg X.base CX n g fd ps sp)
    (hr : Room n X.A) (hb : Binds X.K fd ps []) (hx : Passes CX X E) : OpR X (binaryOp op) (rBinOwn C sp E) := by
  intro pins s σ H x y v u Q I rx ry h
  obtain ⟨a, dx, fs, b, dy, gs, rfl, rfl, ha, hb', q⟩ := h
  cases (show v = Value.ref a from rx)
  cases (show u = Value.ref b from ry)
  obtain ⟨od, J⟩ := ins_inst I ha
  obtain ⟨od', J'⟩ := ins_inst I hb'
  obtain ⟨m, hF⟩ := I.fr
  refine PySem.W.binop_K (op := op) hF I.ok.mod.kin J J'.type hc hs hf ?_
  refine wpAny_mono (run_fn (us := [.ref a, .ref b]) (vs := [.ref a, .ref b]) F hr hb .nil hx I (.cons rfl (.cons rfl .nil)) (by exact q)) (fun w s' z => ?_) fun _ _ x => x
  obtain ⟨z', H', I', rz, qz⟩ := z
  exact not_ni rz ⟨z', H', I', rz, qz⟩
end
end SR
set_option maxRecDepth 100000
set_option maxHeartbeats 4000000
namespace SR
open PySem PySem.Spec PyProof.Rows L2

/-! ### either of two rules -/
section
variable {X : Cx}
theorem OpR.or {f : Value → Value → Sem Value} {r r' : R2} (h : OpR X f r) (h' : OpR X f r') : OpR X f (fun x y H Q => r x y H Q ∨ r' x y H Q) := by
  intro pins s σ H x y v u Q I rx ry q
  rcases q with q | q
  · exact h pins s σ H x y v u Q I rx ry q
  · exact h' pins s σ H x y v u Q I rx ry q
theorem TruR.or {r r' : V → Hp → (Bool → Hp → Prop) → Prop} (h : TruR X r) (h' : TruR X r') : TruR X (fun x H Q => r x H Q ∨ r' x H Q) := by
  intro pins s σ H x v Q I rx q
  rcases q with q | q
  · exact h pins s σ H x v Q I rx q
  · exact h' pins s σ H x v Q I rx q
theorem pi_or {tg iter : Expr} {w1 w2 : TI} (h1 : PI X tg iter w1) (h2 : PI X tg iter w2) : PI X tg iter (fun σ H R => w1 σ H R ∨ w2 σ H R) := by
  refine ⟨fun pins s σ H R I h => ?_⟩
  rcases h with h | h
  · exact h1.run pins s σ H R I h
  · exact h2.run pins s σ H R I h
theorem pg_or {tg : Expr} {g1 g2 : TG} (h1 : PG X tg g1) (h2 : PG X tg g2) : PG X tg (fun v σ H Q => g1 v σ H Q ∨ g2 v σ H Q) := by
  refine ⟨fun pins s σ H v u Q I r h => ?_⟩
  rcases h with h | h
  · exact h1.run pins s σ H v u Q I r h
  · exact h2.run pins s σ H v u Q I r h
theorem pe_or2 {e : Expr} {t1 t2 : TE} (h1 : PE X e t1) (h2 : PE X e t2) : PE X e (fun σ H Q => t1 σ H Q ∨ t2 σ H Q) := by
  refine ⟨fun pins s σ H Q I h => ?_⟩
  rcases h with h | h
  · exact h1.run pins s σ H Q I h
  · exact h2.run pins s σ H Q I h
end

/-! ### tuple(a list), the tuple told as its object; dict(such a tuple of pairs) -/
section
variable {X : Cx}
theorem call_tupleF : CallR X (.type "tuple") (fun xs H Q => ∃ p ys, xs = [.ref p] ∧ SqL X.K H p ys ∧ ∀ l o, H l = none → o.dict = none → Q (.ref l) (upd H l (.frz o (.tup ys)))) := by
  intro pins s σ H xs us Q I r h
  obtain ⟨p, ys, rfl, hq, q⟩ := h
  obtain ⟨u, rfl, rx⟩ := vals1 r
  cases rx
  obtain ⟨its, r', pl, hz⟩ := I.list hq
  have hlen := r'.length
  refine call_tuple_list pl.isList (fun h' kp => ?_) (by simp only [List.size_toArray] <;> omega)
  have I1 : Inv X pins σ H { s with heap := h' } := I.kept (t' := s.toks) kp
  have I2 : Inv X pins σ (upd H h'.objs.size (.frz { cls := .type "tuple", data := .seq its.toArray } (.tup ys))) { s with heap := h'.push { cls := .type "tuple", data := .seq its.toArray } } :=
    I1.laid (t' := s.toks) (fun b o e => Heap.get?_push_of_some _ e) (Nat.le_refl _) (show ObjOk X.prog X.w _ _ _ (.frz _ (.tup ys)) from ⟨Heap.get?_push_size _ rfl, hz, its, r', IsTup.new _ _⟩)
  exact ⟨.ref h'.objs.size, _, I2, rfl, q _ _ (I1.hok.fresh (Nat.le_refl _)) rfl⟩
theorem pairs_two {pins : List (Addr × Obj)} {σ : L2.St} {H : Hp} {s : Shared} (I : Inv X pins σ H s) : ∀ {ps : List Addr} {kvs : List (Key × V)}, Paired (fun p kv => SqT X.K H p [kV kv.1, kv.2]) ps kvs →
    ∃ (prs : List (Key × Value)) (us : List (Value × Value)), KV kvs prs ∧ prs.length = ps.length ∧ us.length = ps.length ∧ ∀ (j : Nat) (k v : Value), us[j]? = some (k, v) → ∃ (b : Addr) (kk : Key), ps[j]? = some b ∧ prs[j]? = some (kk, v) ∧ IsTup s.heap b #[k, v] ∧ keyIs kk k = true
  | _, _, .nil => ⟨[], [], .nil, rfl, rfl, fun j k v e => by simp at e⟩
  | _, _, .cons (a := p) (b := kv) h t => by
    obtain ⟨prs, us, r, hl, hl2, hp⟩ := pairs_two I t
    obtain ⟨its, rv, ht, _⟩ := I.tuple h
    obtain ⟨u, y, ei, ru, ry⟩ := vals2 rv
    subst ei
    refine ⟨(kv.1, y) :: prs, (u, y) :: us, .cons ⟨rfl, ry⟩ r, by rw [List.length_cons, List.length_cons, hl], by rw [List.length_cons, List.length_cons, hl2], fun j k v e => ?_⟩
    cases j with
    | zero =>
      have e' : (u, y) = (k, v) := Option.some.inj e
      injection e' with e1 e2
      subst e1 e2
      refine ⟨p, kv.1, rfl, rfl, ht, ?_⟩
      cases hk : kv.1 with
      | inl i =>
        rw [hk] at ru
        obtain ⟨t, e⟩ := (show ∃ t, u = Value.int i t from ru)
        rw [e]
        exact keyIs_int i t
      | inr z =>
        rw [hk] at ru
        obtain ⟨t, e⟩ := (show ∃ t, u = Value.str z t from ru)
        rw [e]
        exact keyIs_str z t
    | succ j =>
      obtain ⟨b, kk, e1, e2, e3, e4⟩ := hp j k v (by simpa using e)
      exact ⟨b, kk, by simpa using e1, by simpa using e2, e3, e4⟩
theorem call_dictT (hcalm : X.calm = true) : CallR X (.type "dict") (fun xs H Q => ∃ (a : Addr) (o : Obj) (ps : List Addr) (kvs : List (Key × V)), xs = [.ref a] ∧ o.dict = none ∧ H a = some (.frz o (.tup (ps.map V.ref))) ∧ Paired (fun p kv => SqT X.K H p [kV kv.1, kv.2]) ps kvs ∧
    ∀ p, H p = none → Q (.ref p) (upd H p (.dK (mergeK [] kvs)))) := by
  intro pins s σ H xs us Q I r q
  obtain ⟨a, o, ps, kvs, ex, hod, hq, hp, q⟩ := q
  subst ex
  obtain ⟨u, eu, rx⟩ := vals1 r
  subst eu
  cases rx
  obtain ⟨ho, hz, its, rv, o', ho', hc, n, hdat⟩ := (show ObjOk X.prog X.w H s.heap a (.frz o (.tup (ps.map V.ref))) from I.hok a _ hq)
  obtain rfl : o = o' := Option.some.inj (ho.symm.trans ho')
  have ei := refs_at rv
  subst ei
  rw [List.length_map] at hz
  obtain ⟨prs, us, rel, hl, hl2, hpr⟩ := pairs_two I hp
  have hkl : prs.length = kvs.length := rel.length.symm
  refine PySem.call_dict_pairs (knd := mixKind X.prog X.w) (kvs := prs) (PairArg.tuple a (ps.map Value.ref).toArray (fun j => ps.getD j 0) us) (I.ok.hd hcalm) ⟨⟨o, n, ho, hc, hod, hdat⟩, ?_⟩ ⟨?_, ?_⟩ (by rw [hl2]; exact hz) fun h' tk hd' k => ?_
  · refine ⟨by simp [hl2], fun j k v e => ?_⟩
    obtain ⟨b, kk, e1, e2, e3, e4⟩ := hpr j k v e
    have e5 : ps.getD j 0 = b := by simp [List.getD, e1]
    show (List.map Value.ref ps).toArray[j]? = some (Value.ref (ps.getD j 0)) ∧ PairAt s.heap (ps.getD j 0) k v
    rw [e5]
    exact ⟨by simp [e1], Or.inl e3⟩
  · rw [hl, hl2]
  · intro i key v e
    obtain ⟨b, kk, e1, e2, e3, e4⟩ := hpr i key v e
    exact ⟨kk, e2, e4⟩
  · have hm : (s.heap.objs.size == sysModules) = false := beq_eq_false_iff_ne.mpr (Nat.ne_of_gt I.big)
    have hlen : (mergeK [] kvs).length ≤ sizeLine := by
      refine Nat.le_trans (length_mergeK kvs []) ?_
      rw [List.length_nil, Nat.zero_add, rel.length, hl]
      exact hz
    exact ⟨.ref s.heap.objs.size, upd H s.heap.objs.size (.dK (mergeK [] kvs)), I.laid (t' := tk) (fun b ob e => k b ob (fun z => nomatch z) e) (Nat.le_refl _) (show ObjOk X.prog X.w _ _ _ (.dK (mergeK [] kvs)) from ⟨hlen, hm, merged [] prs, KV.merge rel .nil, hd'⟩), rfl, q _ (I.hok.fresh (Nat.le_refl _))⟩
end

/-! ### enumerate(a tuple) -/
theorem meets_enumerate_new1 {v : Value} {o : Obj} {Hh : Heap → Prop} (B : Begins v o Hh) :
    Meets (Builtin.«enumerate.__new__» ⟨[.type "enumerate", v], []⟩) (fun _ R s => Hh s.heap ∧
      R (.ok (.ret (.ref (s.heap.push o).objs.size))) { s with heap := (s.heap.push o).push { cls := .type "enumerate", data := .fields #[.none, .bool false, .ref s.heap.objs.size, rawInt 0, .none, .none] } }) :=
  .of_wp fun prog w A R s h => by
    obtain ⟨hp, g, d, tk, os⟩ := s; obtain ⟨h1, h⟩ := h
    have hsub := sub_enumerate
    have q1 : ∀ {A' : Around} {E : Value → Shared → Prop} {Q : Value → Shared → Prop}, Q (.ref hp.objs.size) ⟨hp.push o, g, d, tk, os⟩ → wpAny (model prog w) A' (pyIter v) Q E ⟨hp, g, d, tk, os⟩ :=
      fun q => B.iter prog w _ _ ⟨hp, g, d, tk, os⟩ _ h1 q
    wp_walk using q1
    refine wpAny_stack_any fun st => wpAny_pure ?_
    split
    · rename_i c _ _ _ _ _
      cases (c == Value.type "enumerate")
      · wp_walk using q1
        exact ⟨_, rfl, h⟩
      · wp_walk using q1
        exact ⟨_, rfl, h⟩
    · wp_walk using q1
      exact ⟨_, rfl, h⟩
section
variable {prog : Program} {w : World} {A : Around} {E : Value → Shared → Prop} {s : Shared}
theorem enum_begins1 {v : Value} {o : Obj} {Hh : Heap → Prop} {Q : Value → Shared → Prop} (B : Begins v o Hh) (h1 : Hh s.heap)
    (h : ∀ h', IsEnum h' (s.heap.objs.size + 1) s.heap.objs.size 0 .none → h'.get? s.heap.objs.size = some o → h'.objs.size = s.heap.objs.size + 2 →
      (∀ b o, s.heap.get? b = some o → h'.get? b = some o) → Q (.ref (s.heap.objs.size + 1)) { s with heap := h' }) :
    wpAny (model prog w) A (call (.type "enumerate") [v]) Q E s := by
  refine callType_new F.called_enumerate (by decide) (F.typeCall_enumerate_1 _) (F.newCall_enumerate_1 _) (fun obj => F.args_object_init_2 obj _) F.entry_enumerate_new
    (meets_enumerate_new1 B) ⟨h1, ?_⟩
  have hz : (s.heap.push o).objs.size = s.heap.objs.size + 1 := Heap.size_push ..
  show _ ∧ _
  rw [hz]
  have he : IsEnum ((s.heap.push o).push { cls := .type "enumerate", data := .fields #[.none, .bool false, .ref s.heap.objs.size, rawInt 0, .none, .none] }) (s.heap.objs.size + 1) s.heap.objs.size 0 .none := by
    have := Heap.get?_push_size (s.heap.push o) (o := { cls := .type "enumerate", data := .fields #[.none, .bool false, .ref s.heap.objs.size, rawInt 0, .none, .none] }) rfl
    rw [hz] at this; exact this
  refine ⟨⟨_, he, rfl⟩, h _ he (Heap.get?_push_of_some _ (Heap.get?_push_size _ B.free)) (by rw [Heap.size_push, hz]) fun b o x => Heap.get?_push_of_some _ (Heap.get?_push_of_some _ x)⟩
end
/-- the tuple at a, each item in a new pair -/
def IteT (K : PySem.W.Frag) (a : Addr) (xs : List V) : It :=
  ⟨fun i H => SqT K H a xs ∧ i < xs.length, fun i H v H' => ∃ T x, v = .ref T ∧ H T = none ∧ H' = upd H T (.tup [.int (i : Nat), x]) ∧ xs[i]? = some x, fun i H => SqT K H a xs ∧ xs.length ≤ i⟩
theorem turn_enumT {P : Program} {w : World} {K : PySem.W.Frag} {elts : List Expr} {kk : Nat} {tpos : Pos} (a e it : Addr) (xs : List V) :
    Turn P w K (.Tuple elts kk tpos) (IteT K a xs) [e, it] e (fun i h => (∃ old, IsEnum h e it ((i : Nat) : Int) old) ∧ h.IsTupleIter it a i ∧ e ≠ it ∧ i ≤ xs.length) where
  mem := by simp
  obj := fun i h st b hb => by
    obtain ⟨⟨old, he⟩, ⟨o, ho, hc, hd⟩, _⟩ := st
    have e' : b = e ∨ b = it := by simpa using hb
    rcases e' with z | z
    · rw [z]; exact ⟨_, he, fun v q => nomatch q⟩
    · rw [z]; exact ⟨o, ho, fun v q => by rw [hd] at q; cases q⟩
  keep := fun i h h' st k => let ⟨⟨old, he⟩, hi, hne⟩ := st; ⟨⟨old, k e (by simp) _ he⟩, hi.at fun o q => k it (by simp) o q, hne⟩
  item := by
    intro X hP hw hK hc i pins s σ H E I hf st hg
    subst hP hw hK
    obtain ⟨⟨old, he⟩, hit, hne, hile⟩ := st
    obtain ⟨hq, hlt⟩ := hg
    obtain ⟨its, rv, p, hz⟩ := I.tuple hq
    have hT : s.heap.IsTuple a its.toArray := p
    have hlen := rv.length
    have hel : e < s.heap.objs.size := Heap.lt_size he
    have hil : it < s.heap.objs.size := by obtain ⟨_, q, _⟩ := hit; exact Heap.lt_size q
    have hai : a ≠ it := by
      intro z
      subst z
      obtain ⟨o1, q1, c1, _⟩ := hit
      obtain ⟨o2, q2, c2, _⟩ := hT
      rw [q1] at q2
      cases q2
      rw [c1] at c2
      exact absurd c2 (by decide)
    have hea : e ≠ a := by
      intro z
      subst z
      obtain ⟨o2, q2, c2, _⟩ := hT
      rw [he] at q2
      have q3 := Option.some.inj q2
      subst q3
      exact absurd c2 (show ¬ (Value.type "enumerate" = Value.type "tuple") by decide)
    have D := Draws.tuple (prog := X.prog) (w := X.w) (A := X.A.in1) (by show X.A.handled = none; exact I.ok.hd hc) it a hai its.toArray
    refine wpAny_pyNext_enum_itemD D he ⟨hit, hT⟩ (by simp; omega) hne (by simp [hne, hea]) fun u h' tk hu ho hst' hTT hsz hk => ?_
    obtain ⟨x, hx⟩ : ∃ x, xs[i]? = some x := ⟨xs[i], List.getElem?_eq_getElem hlt⟩
    obtain ⟨u', hu', ru⟩ := rv.get hx
    have eu : u = u' := by
      have z : its.toArray[i]? = some u := hu
      rw [List.getElem?_toArray, hu'] at z
      exact (Option.some.inj z).symm
    subst eu
    refine ⟨_, rfl, wpAny_letOwnedTupleGo_enum (s := { s with heap := h', toks := tk + 1 }) ho fun h'' he' sb => ?_⟩
    have hT2 : h''.get? s.heap.objs.size = some { cls := .type "tuple", data := .seq #[.int i tk, u] } := (sb.2 _ (Nat.ne_of_gt hel)).trans hTT
    have new : ObjOk X.prog X.w (upd H s.heap.objs.size (.tup [.int (i : Nat), x])) h'' s.heap.objs.size (.tup [.int (i : Nat), x]) :=
      ⟨by show 2 ≤ sizeLine; decide, [.int i tk, u], .cons ⟨_, rfl⟩ (.cons ru .nil), ⟨_, hT2, rfl, _, rfl⟩⟩
    have I1 : Inv X pins σ (upd H s.heap.objs.size (.tup [.int (i : Nat), x])) { s with heap := h'', toks := tk + 1 } :=
      I.turnedNew (ch := [e, it]) (fun b ob hb q => (sb.2 b (fun z => hb (by simp [z]))).trans (hk b ob (fun z => hb (by simp [z])) (fun z => hb (by simp [z])) q)) hf (Nat.le_refl _) new
    refine ⟨.ref s.heap.objs.size, _, I1, rfl, ⟨_, x, rfl, I.hok.fresh (Nat.le_refl _), rfl, hx⟩, ⟨⟨u, ?_⟩, hst'.1.at fun o q => (sb.2 it (Ne.symm hne)).trans q, hne, hlt⟩, fun b hb => ?_⟩
    · have e1 : ((i + 1 : Nat) : Int) = (i : Int) + 1 := by omega
      rw [e1]; exact he'
    · have hb' : b < s.heap.objs.size := by
        have e' : b = e ∨ b = it := by simpa using hb
        rcases e' with z | z
        · rw [z]; exact hel
        · rw [z]; exact hil
      rw [upd_ne (Nat.ne_of_lt hb')]
      exact (hf b hb).1
  done := by
    intro X hP hw hK hc i pins s σ H E I hf st hg
    subst hP hw hK
    obtain ⟨⟨old, he⟩, hit, hne, hile⟩ := st
    obtain ⟨hq, hx⟩ := hg
    obtain ⟨its, rv, p, hz⟩ := I.tuple hq
    have hT : s.heap.IsTuple a its.toArray := p
    obtain ⟨f0, f1, f2, f3, f4, f5⟩ := hf it (by simp)
    have hl := rv.length
    have hai : a ≠ it := by
      intro z
      subst z
      obtain ⟨o1, q1, c1, _⟩ := hit
      obtain ⟨o2, q2, c2, _⟩ := hT
      rw [q1] at q2
      cases q2
      rw [c1] at c2
      exact absurd c2 (by decide)
    have D := Draws.tuple (prog := X.prog) (w := X.w) (A := X.A.in1) (by show X.A.handled = none; exact I.ok.hd hc) it a hai its.toArray
    have ei : i = its.toArray.size := by simp; omega
    subst ei
    exact wpAny_pyNext_enum_endD D he ⟨hit, hT⟩ fun h' eb => ⟨rfl, I.turned (t' := s.toks) (fun b o hb q => eb b o hb q) f0 f1 f3 f4 f5⟩
  self := fun A i s Q E st h => let ⟨⟨_, he⟩, _⟩ := st; wpAny_pyIter_enum he h
def iEnumT (K : PySem.W.Frag) (ta : TA) : TI := fun σ H R => ta σ H fun vs H1 => ∃ a xs, vs = [.ref a] ∧ SqT K H1 a xs ∧ R (IteT K a xs) H1
theorem pi_enumT {X : Cx} {e : Expr} {ta : TA} {p pos tpos : Pos} {elts : List Expr} {kk : Nat} (hg : Gl X "enumerate") (hm : X.mg "enumerate" = none) (ha : PA X [e] ta) (hs : starEach [e] X.env = [(false, eval e X.env)] := by rfl) :
    PI X (.Tuple elts kk tpos) (.Call (.Name "enumerate" p) [e] [] pos) (iEnumT X.K ta) := by
  refine ⟨fun pins s σ H R I h => ?_⟩
  refine Call_ (ld_blt I hg hm boot_enumerate (PyProof.Rows.callWith_type1 (thn (ha.run pos pins s σ H _ I h) fun us s1 ⟨vs, H1, I1, r1, q1⟩ => ?_) hs rfl))
  obtain ⟨a, xs, ex, hq, q⟩ := q1
  subst ex
  cases r1 with
  | cons r rr =>
    cases rr
    cases r
    obtain ⟨its, rv, p', hz⟩ := I1.tuple hq
    refine enum_begins1 (begins_tuple a its.toArray) p' fun h' he hit hsz hk => wpAny_pyIter_enum he ?_
    have I2 : Inv X pins σ H1 { s1 with heap := h' } := I1.kept (t' := s1.toks) hk
    refine ⟨s1.heap.objs.size + 1, [s1.heap.objs.size + 1, s1.heap.objs.size], _, _, H1, rfl, I2, turn_enumT a (s1.heap.objs.size + 1) s1.heap.objs.size xs, ⟨⟨.none, he⟩, ⟨_, hit, rfl, rfl⟩, Nat.succ_ne_self _, Nat.zero_le _⟩, fun b hb => ?_, q⟩
    have e' : b = s1.heap.objs.size + 1 ∨ b = s1.heap.objs.size := by simpa using hb
    have hle : s1.heap.objs.size ≤ b := by
      rcases e' with z | z
      · rw [z]; exact Nat.le_add_right _ _
      · rw [z]; exact Nat.le_refl _
    exact I1.fpOk hle (I1.hok.fresh hle)

/-! ### cls(e, ..), a local name that holds the class -/
section
variable {X : Cx} {CX : CXT} {k : Nat} {f C : Addr} {fd : FuncData} {ps : List Str} {sp : Sp} {dvs : List V} {ds : List Value} {E : XK} {x : Str} {p pos : Pos} {e : Expr} {es : List Expr} {t : TA} {i : Nat}
def tMakeL (i : Nat) (C : Addr) (sp : Sp) (dvs : List V) (E : XK) (t : TA) : TE := fun σ H Q => σ[i]? = some (some (.ref C)) ∧ tMake C sp dvs E t σ H Q
theorem pe_makeL (M : Mk X.K C f) (F : FnOk X.prog X.w X.K X.mg X.base CX k f fd ps sp) (hr : Room (k + 1) X.A) (hN : X.N[i]? = some x) (hv : Vis X.env.scope x) (hb : Binds X.K fd ps ds) (hd : Vals dvs ds) (hx : Passes CX X E)
    (ha : PA X (e :: es) t) (hdb : (x == ("__debug__" : Str)) = false := by decide) (hcd : (x == ("__classdict__" : Str)) = false := by decide) (he : starEach (e :: es) X.env = (false, eval e X.env) :: starEach es X.env := by rfl) (hpl : (backTo pos (starEach es X.env)).any (·.1) = false := by rfl) :
    PE X (.Call (.Name x p) (e :: es) [] pos) (tMakeL i C sp dvs E t) := by
  refine ⟨fun pins s σ H Q I h => ?_⟩
  obtain ⟨hs, ht⟩ := h
  refine wpAny_Call_Name_kw (thn ((pe_var (pos := p) hN hv hdb hcd).run pins s σ H (fun v H1 => v = .ref C ∧ H1 = H) I ⟨.ref C, hs, rfl, rfl⟩) fun u s1 ⟨v, H1, I1, r1, q1⟩ => ?_)
  obtain ⟨rfl, rfl⟩ := q1
  cases r1
  refine PySem.W.callWith_K (h₀ := X.base) I.ok.mod.kin M.kp (thn (ha.run pos pins s1 σ _ _ I1 ht) fun us s2 ⟨vs, H2, I2, r, q⟩ => ⟨I2.kIn, ?_⟩) he hpl
  exact run_make M F hr hb hd hx I2 r q
end
end SR
set_option maxRecDepth 100000
set_option maxHeartbeats 4000000
/-! What a value stands for: data of any depth, objects told by what they hold. -/
namespace SR
open PySem PySem.Spec PyProof.Rows L2 Evl

/-- a dict of ints, its pairs in order -/
def kvI (m : List (Int × Int)) : List (Key × V) := m.map fun q => (Sum.inl q.1, V.int q.2)
inductive D (ω : Type) where
  | non | bl (b : Bool) | int (i : Int) | str (x : Str) | lst (l : List (D ω)) | tup (l : List (D ω)) | dic (m : List (Int × Int)) | obj (w : ω)

/-- what an object of the program's own holds -/
structure OI (ω : Type) where
  at_ : Hp → Addr → ω → Prop
  mono : ∀ {H H' a w}, Ex H H' → at_ H a w → at_ H' a w

section
variable {ω : Type} (K : PySem.W.Frag) (O : OI ω) (H : Hp)
mutual
def At : D ω → V → Prop
  | .non, v => v = .non
  | .bl b, v => v = .bl b
  | .int i, v => v = .int i
  | .str x, v => v = .str x
  | .lst l, v => ∃ a vs, v = .ref a ∧ H a = some (.lst vs) ∧ AtL l vs
  | .tup l, v => ∃ a vs, v = .ref a ∧ SqT K H a vs ∧ AtL l vs
  | .dic m, v => ∃ a, v = .ref a ∧ H a = some (.dK (kvI m))
  | .obj w, v => ∃ a, v = .ref a ∧ O.at_ H a w
def AtL : List (D ω) → List V → Prop
  | [], vs => vs = []
  | d :: l, vs => ∃ v r, vs = v :: r ∧ At d v ∧ AtL l r
end
end
section
variable {ω : Type} {K : PySem.W.Frag} {O : OI ω} {H H' : Hp}
mutual
theorem At.mono (e : Ex H H') : ∀ {d : D ω} {v : V}, At K O H d v → At K O H' d v
  | .non, v, h => by simp only [At] at h ⊢; exact h
  | .bl b, v, h => by simp only [At] at h ⊢; exact h
  | .int i, v, h => by simp only [At] at h ⊢; exact h
  | .str x, v, h => by simp only [At] at h ⊢; exact h
  | .lst l, v, h => by
    simp only [At] at h ⊢
    obtain ⟨a, vs, e1, e2, e3⟩ := h
    exact ⟨a, vs, e1, e _ _ e2, AtL.mono e e3⟩
  | .tup l, v, h => by
    simp only [At] at h ⊢
    obtain ⟨a, vs, e1, e2, e3⟩ := h
    exact ⟨a, vs, e1, ex_t e e2, AtL.mono e e3⟩
  | .dic m, v, h => by
    simp only [At] at h ⊢
    obtain ⟨a, e1, e2⟩ := h
    exact ⟨a, e1, e _ _ e2⟩
  | .obj w, v, h => by
    simp only [At] at h ⊢
    obtain ⟨a, e1, e2⟩ := h
    exact ⟨a, e1, O.mono e e2⟩
theorem AtL.mono (e : Ex H H') : ∀ {l : List (D ω)} {vs : List V}, AtL K O H l vs → AtL K O H' l vs
  | [], vs, h => by simp only [AtL] at h ⊢; exact h
  | d :: l, vs, h => by
    simp only [AtL] at h ⊢
    obtain ⟨v, r, e1, e2, e3⟩ := h
    exact ⟨v, r, e1, At.mono e e2, AtL.mono e e3⟩
end
@[simp] theorem at_non {v : V} : At K O H .non v ↔ v = .non := by simp only [At]
@[simp] theorem at_bl {b : Bool} {v : V} : At K O H (.bl b) v ↔ v = .bl b := by simp only [At]
@[simp] theorem at_int {i : Int} {v : V} : At K O H (.int i) v ↔ v = .int i := by simp only [At]
@[simp] theorem at_str {x : Str} {v : V} : At K O H (.str x) v ↔ v = .str x := by simp only [At]
theorem at_lst {l : List (D ω)} {v : V} : At K O H (.lst l) v ↔ ∃ a vs, v = .ref a ∧ H a = some (.lst vs) ∧ AtL K O H l vs := by simp only [At]
theorem at_tup {l : List (D ω)} {v : V} : At K O H (.tup l) v ↔ ∃ a vs, v = .ref a ∧ SqT K H a vs ∧ AtL K O H l vs := by simp only [At]
theorem at_dic {m : List (Int × Int)} {v : V} : At K O H (.dic m) v ↔ ∃ a, v = .ref a ∧ H a = some (.dK (kvI m)) := by simp only [At]
theorem at_obj {w : ω} {v : V} : At K O H (.obj w) v ↔ ∃ a, v = .ref a ∧ O.at_ H a w := by simp only [At]
theorem atL_nil {vs : List V} : AtL K O H [] vs ↔ vs = [] := by simp only [AtL]
theorem atL_cons {d : D ω} {l : List (D ω)} {vs : List V} : AtL K O H (d :: l) vs ↔ ∃ v r, vs = v :: r ∧ At K O H d v ∧ AtL K O H l r := by simp only [AtL]
theorem AtL.len : ∀ {l : List (D ω)} {vs : List V}, AtL K O H l vs → vs.length = l.length
  | [], vs, h => by rw [atL_nil] at h; subst h; rfl
  | d :: l, vs, h => by
    obtain ⟨v, r, rfl, _, h3⟩ := atL_cons.mp h
    rw [List.length_cons, List.length_cons, AtL.len h3]
theorem AtL.get : ∀ {l : List (D ω)} {vs : List V} {i : Nat} {v : V}, AtL K O H l vs → vs[i]? = some v → ∃ d, l[i]? = some d ∧ At K O H d v
  | [], vs, i, v, h, e => by rw [atL_nil] at h; subst h; simp at e
  | d :: l, vs, i, v, h, e => by
    obtain ⟨w, r, rfl, h2, h3⟩ := atL_cons.mp h
    cases i with
    | zero =>
      have e' : w = v := Option.some.inj e
      subst e'
      exact ⟨d, rfl, h2⟩
    | succ i => exact AtL.get (i := i) h3 (by simpa using e)
theorem AtL.get' {l : List (D ω)} {vs : List V} {i : Nat} {d : D ω} (h : AtL K O H l vs) (e : l[i]? = some d) : ∃ v, vs[i]? = some v ∧ At K O H d v := by
  have hl := h.len
  have hi : i < l.length := (List.getElem?_eq_some_iff.mp e).1
  have e2 : vs[i]? = some vs[i] := List.getElem?_eq_getElem (by omega)
  obtain ⟨d', e3, e4⟩ := h.get e2
  rw [e] at e3
  cases e3
  exact ⟨_, e2, e4⟩
theorem AtL.app : ∀ {l m : List (D ω)} {vs ws : List V}, AtL K O H l vs → AtL K O H m ws → AtL K O H (l ++ m) (vs ++ ws)
  | [], m, vs, ws, h, g => by rw [atL_nil] at h; subst h; exact g
  | d :: l, m, vs, ws, h, g => by
    obtain ⟨w, r, rfl, h2, h3⟩ := atL_cons.mp h
    exact atL_cons.mpr ⟨w, r ++ ws, rfl, h2, AtL.app h3 g⟩
theorem AtL.one {d : D ω} {v : V} (h : At K O H d v) : AtL K O H [d] [v] := atL_cons.mpr ⟨v, [], rfl, h, atL_nil.mpr rfl⟩
theorem AtL.ints : ∀ {ns : List Int}, AtL K O H (ns.map D.int) (ns.map V.int)
  | [] => atL_nil.mpr rfl
  | n :: r => atL_cons.mpr ⟨_, _, rfl, at_int.mpr rfl, AtL.ints⟩
theorem AtL.ints' : ∀ {ns : List Int} {vs : List V}, AtL K O H (ns.map D.int) vs → vs = ns.map V.int
  | [], vs, h => atL_nil.mp h
  | n :: r, vs, h => by
    obtain ⟨v, w, rfl, h2, h3⟩ := atL_cons.mp h
    rw [at_int.mp h2, AtL.ints' h3]
    rfl
/-- the type that isinstance sees -/
theorem tyL {a : Addr} {vs : List V} (h : SqL K H a vs) : TyX K H (.ref a) (.type "list") := by
  rcases h with (h | ⟨o, h⟩) | ⟨o, its, n, h1, h2, _⟩
  · exact .base (.lst h)
  · exact .base (.frz h)
  · exact .kList h1 h2
theorem tyT {a : Addr} {vs : List V} (h : SqT K H a vs) : TyX K H (.ref a) (.type "tuple") := by
  rcases h with (h | ⟨o, h⟩) | ⟨o, its, n, h1, h2, _⟩
  · exact .base (.tup h)
  · exact .fTuple h
  · exact .kTuple h1 h2
/-- .. of data; T: of objects -/
def tyD (T : ω → Value) : D ω → Value
  | .non => .type "NoneType" | .bl _ => .type "bool" | .int _ => .type "int" | .str _ => .type "str" | .lst _ => .type "list" | .tup _ => .type "tuple" | .dic _ => .type "dict" | .obj w => T w
theorem ty_of {T : ω → Value} (hT : ∀ H a w, O.at_ H a w → TyX K H (.ref a) (T w)) {d : D ω} {v : V} (h : At K O H d v) : TyX K H v (tyD T d) := by
  cases d with
  | non => rw [at_non] at h; subst h; exact .base .non
  | bl b => rw [at_bl] at h; subst h; exact .base (.bl b)
  | int i => rw [at_int] at h; subst h; exact .base (.int i)
  | str x => rw [at_str] at h; subst h; exact .base (.str x)
  | lst l => obtain ⟨a, vs, rfl, h2, _⟩ := at_lst.mp h; exact tyL (sq_of h2)
  | tup l => obtain ⟨a, vs, rfl, h2, _⟩ := at_tup.mp h; exact tyT h2
  | dic m => obtain ⟨a, rfl, h2⟩ := at_dic.mp h; exact .base (.dK h2)
  | obj w => obtain ⟨a, rfl, h2⟩ := at_obj.mp h; exact hT _ _ _ h2
end
end SR
set_option maxRecDepth 100000
set_option maxHeartbeats 4000000
/-! Defs, methods, classes by what they promise, without their addresses. -/
namespace SR
open PySem PySem.Spec PyProof.Rows L2 Evl

/-- the built-in names that the module leaves as they are -/
structure Bi (mg : Str → Option Value) : Prop where
  len : mg "len" = none
  isinstance : mg "isinstance" = none
  int : mg "int" = none
  bool : mg "bool" = none
  list : mg "list" = none
  tuple : mg "tuple" = none
  dict : mg "dict" = none
  sorted : mg "sorted" = none
  enumerate : mg "enumerate" = none
  zip : mg "zip" = none
  range : mg "range" = none
  all : mg "all" = none
  any : mg "any" = none
  reversed : mg "reversed" = none
  sum : mg "sum" = none
  min : mg "min" = none
  max : mg "max" = none
  abs : mg "abs" = none

section
variable (P : Program) (w : World) (K : PySem.W.Frag) (mg : Str → Option Value) (base : Heap)
structure DefOk (k : Nat) (x : Str) (ps : List Str) (sp : Sp) : Prop where
  ex : ∃ f fd, mg x = some (.ref f) ∧ PySem.W.keepIn K (.ref f) = true ∧ Binds K fd ps [] ∧ FnOk P w K mg base CX0 k f fd ps sp
/-- .. its last parameters filled by the defaults ds -/
structure DefOkD (k : Nat) (x : Str) (ps : List Str) (dvs : List V) (sp : Sp) : Prop where
  ex : ∃ f fd ds, mg x = some (.ref f) ∧ PySem.W.keepIn K (.ref f) = true ∧ Binds K fd ps ds ∧ Vals dvs ds ∧ FnOk P w K mg base CX0 k f fd ps sp
structure MethOk (C : Addr) (k : Nat) (m : Str) (ps : List Str) (sp : Sp) : Prop where
  ex : ∃ f fd, Meth K C m f ∧ Binds K fd ps [] ∧ FnOk P w K mg base CX0 k f fd ps sp
structure MakeOk (C : Addr) (k : Nat) (x : Str) (ps : List Str) (dvs : List V) (sp : Sp) : Prop where
  ex : ∃ f fd ds, Mk K C f ∧ mg x = some (.ref C) ∧ Binds K fd ps ds ∧ Vals dvs ds ∧ FnOk P w K mg base CX0 k f fd ps sp
end
section
variable {P : Program} {w : World} {K : PySem.W.Frag} {mg : Str → Option Value} {base : Heap}
theorem defOk {x qual : Str} {st : Stmt} {f : Addr} {fd : FuncData} {ps : List Str} {k : Nat} {sp : Sp} (F : Fun K x qual st f fd) (hm : mg x = some (.ref f)) (G : FnOk P w K mg base CX0 k f fd ps sp) (b : Binds K fd ps []) : DefOk P w K mg base k x ps sp := ⟨f, fd, hm, F.kp, b, G⟩
end
section
variable {X : Cx} {k : Nat} {C : Addr} {ps : List Str} {sp : Sp} {dvs : List V} {x m : Str} {p pos apos : Pos} {e o : Expr} {es : List Expr} {ta : TE} {t : TA}
theorem pe_callD (h : DefOk X.prog X.w X.K X.mg X.base k x ps sp) (hr : Room k X.A) (ha : PA X (e :: es) t) (hg : Gl X x := by rfl) (hdb : (x == ("__debug__" : Str)) = false := by decide)
    (he : starEach (e :: es) X.env = (false, eval e X.env) :: starEach es X.env := by rfl) (hpl : (backTo pos (starEach es X.env)).any (·.1) = false := by rfl) : PE X (.Call (.Name x p) (e :: es) [] pos) (tCall sp [] E0 t) := by
  obtain ⟨f, fd, hm, hk, hb, F⟩ := h.ex
  exact pe_call F hr hg hm hk hb .nil pass0 ha hdb he hpl
theorem pe_callD0 (h : DefOk X.prog X.w X.K X.mg X.base k x ps sp) (hr : Room k X.A) (hg : Gl X x := by rfl) (hdb : (x == ("__debug__" : Str)) = false := by decide) : PE X (.Call (.Name x p) [] [] pos) (tCall sp [] E0 tNil) := by
  obtain ⟨f, fd, hm, hk, hb, F⟩ := h.ex
  exact pe_call0 F hr hg hm hk hb .nil pass0 hdb
theorem pe_methD {pl : Sem Bool} (c : Cls X.K C) (h : MethOk X.prog X.w X.K X.mg X.base C k m ps sp) (hr : Room k X.A) (he : PE X o ta) (ha : PA X (e :: es) t)
    (hst : starEach (e :: es) X.env = (false, eval e X.env) :: starEach es X.env := by rfl) (hpl : (backTo pos (starEach es X.env)).any (·.1) = false := by rfl)
    (ht : eval (.Call (.Attribute o m apos) (e :: es) [] pos) X.env = (do
      let ov ← eval o X.env
      standAt apos.atName
      let (f, first) ← holding [ov] (getMethod ov m pl)
      callWith pos f first (backTo pos (starEach (e :: es) X.env)) (backToKw pos (keywordEach [] X.env))) := by rfl) :
    PE X (.Call (.Attribute o m apos) (e :: es) [] pos) (tMeth C m sp [] E0 ta t) := by
  obtain ⟨f, fd, hm, hb, F⟩ := h.ex
  exact pe_meth he c hm F hr hb .nil pass0 ha hst hpl ht
theorem pe_methD0 {pl : Sem Bool} (c : Cls X.K C) (h : MethOk X.prog X.w X.K X.mg X.base C k m ps sp) (hr : Room k X.A) (he : PE X o ta)
    (ht : eval (.Call (.Attribute o m apos) [] [] pos) X.env = (do
      let ov ← eval o X.env
      standAt apos.atName
      let (f, first) ← holding [ov] (getMethod ov m pl)
      callWith pos f first (backTo pos (starEach [] X.env)) (backToKw pos (keywordEach [] X.env))) := by rfl) :
    PE X (.Call (.Attribute o m apos) [] [] pos) (tMeth C m sp [] E0 ta tNil) := by
  obtain ⟨f, fd, hm, hb, F⟩ := h.ex
  exact pe_meth0 he c hm F hr hb .nil pass0 ht
theorem pe_makeD (h : MakeOk X.prog X.w X.K X.mg X.base C k x ps dvs sp) (hr : Room (k + 1) X.A) (ha : PA X (e :: es) t) (hg : Gl X x := by rfl) (hdb : (x == ("__debug__" : Str)) = false := by decide)
    (he : starEach (e :: es) X.env = (false, eval e X.env) :: starEach es X.env := by rfl) (hpl : (backTo pos (starEach es X.env)).any (·.1) = false := by rfl) : PE X (.Call (.Name x p) (e :: es) [] pos) (tMake C sp dvs E0 t) := by
  obtain ⟨f, fd, ds, M, hm, hb, hd, F⟩ := h.ex
  exact pe_make M F hr hg hm hb hd pass0 ha hdb he hpl
theorem pe_makeDL {i : Nat} (h : MakeOk X.prog X.w X.K X.mg X.base C k x ps dvs sp) {y : Str} (hr : Room (k + 1) X.A) (ha : PA X (e :: es) t) (hN : X.N[i]? = some y := by rfl) (hv : Vis X.env.scope y := by first | exact Or.inl rfl | exact Or.inr (Or.inl rfl)) (hdb : (y == ("__debug__" : Str)) = false := by decide) (hcd : (y == ("__classdict__" : Str)) = false := by decide)
    (he : starEach (e :: es) X.env = (false, eval e X.env) :: starEach es X.env := by rfl) (hpl : (backTo pos (starEach es X.env)).any (·.1) = false := by rfl) : PE X (.Call (.Name y p) (e :: es) [] pos) (tMakeL i C sp dvs E0 t) := by
  obtain ⟨f, fd, ds, M, hm, hb, hd, F⟩ := h.ex
  exact pe_makeL M F hr hN hv hb hd pass0 ha hdb hcd he hpl
end
end SR
set_option maxRecDepth 100000
set_option maxHeartbeats 4000000
/-! Readings over a known part G of the heap H: what is in G stays; what a def is still filling stands in H alone. -/
namespace SR
open PySem PySem.Spec PyProof.Rows L2 Evl

/-- from (G, H) to (G', H') -/
structure Le (G H G' H' : Hp) : Prop where
  h : Ex H H'
  g : Ex G G'
  e : Ex G' H'
  f : ∀ a, G a = none → H a ≠ none → G' a = none
  t : ∀ a ps, G' a = some (.tbl ps) → G a = some (.tbl ps)
/-- no table of code objects -/
def NoTb (o : HO) : Prop := ∀ ps, o ≠ .tbl ps
section
variable {G H G1 H1 G2 H2 : Hp}
theorem Le.refl (e : Ex G H) : Le G H G H := ⟨Ex.refl _, Ex.refl _, e, fun _ h _ => h, fun _ _ h => h⟩
theorem Le.trans (a : Le G H G1 H1) (b : Le G1 H1 G2 H2) : Le G H G2 H2 where
  h := a.h.trans b.h
  g := a.g.trans b.g
  e := b.e
  f := fun x hg hh => b.f x (a.f x hg hh) fun z => by
    cases q : H x with
    | none => exact hh q
    | some o => rw [a.h x o q] at z; cases z
  t := fun x ps h => a.t x ps (b.t x ps h)
/-- the heap alone grows -/
theorem Le.heap (e : Ex G H) (x : Ex H H1) : Le G H G H1 := ⟨x, Ex.refl _, e.trans x, fun _ h _ => h, fun _ _ h => h⟩
theorem none_of_ex (e : Ex G H) {p : Addr} (h : H p = none) : G p = none := by
  cases q : G p with
  | none => rfl
  | some o => rw [e p o q] at h; cases h
/-- a new object, known -/
theorem Le.new (e : Ex G H) {p : Addr} {o : HO} (h : H p = none) (ht : NoTb o := by intro _ z; cases z) : Le G H (upd G p o) (upd H p o) where
  h := Ex.new h
  g := Ex.new (none_of_ex e h)
  e := fun a u q => by
    by_cases z : a = p
    · subst z; rw [upd_same] at q ⊢; exact q
    · rw [upd_ne z] at q ⊢; exact e a u q
  f := fun a hg hh => by
    by_cases z : a = p
    · subst z; exact absurd h hh
    · rw [upd_ne z]; exact hg
  t := fun a ps q => by
    by_cases z : a = p
    · subst z; rw [upd_same] at q; exact absurd (Option.some.inj q) (ht ps)
    · rw [upd_ne z] at q; exact q
/-- what was filled since (G, H) is known from now on -/
theorem Le.fix (e : Ex G H) (l : Le G H G1 H1) {p : Addr} {o : HO} (h : H p = none) (h1 : H1 p = some o) (ht : NoTb o := by intro _ z; cases z) : Le G H (upd G1 p o) H1 where
  h := l.h
  g := fun a u q => by
    by_cases z : a = p
    · subst z; rw [none_of_ex e h] at q; cases q
    · rw [upd_ne z]; exact l.g a u q
  e := fun a u q => by
    by_cases z : a = p
    · subst z; rw [upd_same] at q; rw [h1]; exact q
    · rw [upd_ne z] at q; exact l.e a u q
  f := fun a hg hh => by
    by_cases z : a = p
    · subst z; exact absurd h hh
    · rw [upd_ne z]; exact l.f a hg hh
  t := fun a ps q => by
    by_cases z : a = p
    · subst z; rw [upd_same] at q; exact absurd (Option.some.inj q) (ht ps)
    · rw [upd_ne z] at q; exact l.t a ps q
/-- what (G, H) does not know changes -/
theorem Le.mut (l : Le G H G1 H1) {p : Addr} {o : HO} (h : H p = none) (hg : G1 p = none) : Le G H G1 (upd H1 p o) where
  h := fun a u q => by
    rw [upd_ne (ne_of_none q h)]; exact l.h a u q
  g := l.g
  e := fun a u q => by
    rw [upd_ne (ne_of_none q hg)]; exact l.e a u q
  f := l.f
  t := l.t
/-- a fresh one, not known -/
theorem Le.newM (e : Ex G H) {p : Addr} {o : HO} (h : H p = none) : Le G H G (upd H p o) := (Le.refl e).mut h (none_of_ex e h)
/-- fresh behind is fresh ahead -/
theorem Le.back (l : Le G H G1 H1) {p : Addr} (h : H1 p = none) : H p = none := fresh_back l.h h
theorem Le.gnone (l : Le G H G1 H1) {p : Addr} (hg : G p = none) (hh : H p ≠ none) : G1 p = none := l.f p hg hh
/-- both parts -/
def hun (A B : Hp) : Hp := fun a => match A a with
  | some o => some o
  | none => B a
theorem hun_l {A B : Hp} : Ex A (hun A B) := fun a o h => by unfold hun; rw [h]
theorem hun_r {A B C : Hp} (h1 : Ex A C) (h2 : Ex B C) : Ex B (hun A B) := fun a o h => by
  unfold hun
  cases q : A a with
  | none => exact h
  | some u =>
    have e1 := h1 a u q
    have e2 := h2 a o h
    rw [e1] at e2
    exact e2
theorem hun_t {A B C : Hp} (h1 : ∀ a ps, A a = some (.tbl ps) → C a = some (.tbl ps)) (h2 : ∀ a ps, B a = some (.tbl ps) → C a = some (.tbl ps)) (a : Addr) (ps : Array Value) (h : hun A B a = some (.tbl ps)) : C a = some (.tbl ps) := by
  unfold hun at h
  cases q : A a with
  | none => rw [q] at h; exact h2 a ps h
  | some u => rw [q] at h; exact h1 a ps (q.trans h)
theorem hun_ex {A B C : Hp} (h1 : Ex A C) (h2 : Ex B C) : Ex (hun A B) C := fun a o h => by
  unfold hun at h
  cases q : A a with
  | none => rw [q] at h; exact h2 a o h
  | some u => rw [q] at h; rw [← h]; exact h1 a u q
end

section
variable {ω : Type} (K : PySem.W.Frag) (O : OI ω)
/-- the data is handed back: known behind -/
def RetG (d : D ω) (G H : Hp) (Q : VK) : Prop := ∀ v G2 H2, Le G H G2 H2 → At K O G2 d v → Q v H2
def EvD (te : TE) (σ : L2.St) (G : Hp) (d : D ω) : Prop := ∀ H1, Ex G H1 → ∀ Q : VK, RetG K O d G H1 Q → te σ H1 Q
def EvDA (ta : TA) (σ : L2.St) (G : Hp) (ds : List (D ω)) : Prop := ∀ H1, Ex G H1 → ∀ Q : List V → Hp → Prop, (∀ vs G2 H2, Le G H1 G2 H2 → AtL K O G2 ds vs → Q vs H2) → ta σ H1 Q
end
section
variable {ω : Type} {K : PySem.W.Frag} {O : OI ω} {G G' H : Hp} {te ta tb : TE} {σ : L2.St} {d : D ω} {v : V}
theorem RetG.mono {Q : VK} {G1 H1 : Hp} (l : Le G H G1 H1) (k : RetG K O d G H Q) : RetG K O d G1 H1 Q := fun v G2 H2 l2 a => k v G2 H2 (l.trans l2) a
theorem EvD.mono (e : Ex G G') (h : EvD K O te σ G d) : EvD K O te σ G' d := fun H1 e1 Q k => h H1 (e.trans e1) Q fun v G2 H2 l a =>
  k v (hun G2 G') H2 ⟨l.h, hun_r l.e (e1.trans l.h), hun_ex l.e (e1.trans l.h), (fun x hg hh => by
    unfold hun
    have g0 : G x = none := none_of_ex e hg
    rw [l.f x g0 hh]
    exact hg), hun_t (fun a ps q => e a _ (l.t a ps q)) fun _ _ q => q⟩ (a.mono hun_l)
theorem ed_var {i : Nat} (h : σ[i]? = some (some v)) (a : At K O G d v) : EvD K O (tVar i) σ G d := fun H1 e Q k => ⟨v, h, k v G H1 (Le.refl e) a⟩
theorem ed_of (h : Ev te σ G v) (a : At K O G d v) : EvD K O te σ G d := fun H1 e Q k => h H1 e Q fun H2 e2 => k v G H2 (Le.heap e e2) a
theorem eda_nil : EvDA K O tNil σ G [] := fun H1 e Q k => k [] G H1 (Le.refl e) (atL_nil.mpr rfl)
theorem eda_cons {tr : TA} {ds : List (D ω)} (h : EvD K O te σ G d) (hr : EvDA K O tr σ G ds) : EvDA K O (tCons te tr) σ G (d :: ds) := fun H1 e Q k =>
  h H1 e _ fun v G2 H2 l a => hr H2 ((l.g).trans l.e) _ fun vs G3 H3 l3 as => by
    have e3 : Ex G2 (hun G3 G2) := hun_r l3.e (l.e.trans l3.h)
    refine k (v :: vs) (hun G3 G2) H3 ⟨l.h.trans l3.h, l.g.trans e3, hun_ex l3.e (l.e.trans l3.h), fun x hg hh => ?_, hun_t l3.t l.t⟩ (atL_cons.mpr ⟨v, vs, rfl, a.mono e3, as.mono hun_l⟩)
    have n2 := l.f x hg hh
    have h2 : H2 x ≠ none := fun z => hh (fresh_back l.h z)
    unfold hun
    rw [l3.f x hg h2]
    exact n2
/-- a display -/
theorem ed_lst {ta : TA} {ds : List (D ω)} (h : EvDA K O ta σ G ds) (hl : ds.length ≤ 100000) : EvD K O (tLst ta) σ G (.lst ds) := fun H1 e Q k =>
  h H1 e _ fun vs G2 H2 l as => ⟨sz_of (by rw [as.len]; exact hl), fun p hp => k (.ref p) (upd G2 p (.lst vs)) _ (l.trans (Le.new l.e hp)) (at_lst.mpr ⟨p, vs, rfl, upd_same, as.mono (Ex.new (none_of_ex l.e hp))⟩)⟩
theorem ed_tup {ta : TA} {ds : List (D ω)} (h : EvDA K O ta σ G ds) (hl : ds.length ≤ 100000) : EvD K O (tTup ta) σ G (.tup ds) := fun H1 e Q k =>
  h H1 e _ fun vs G2 H2 l as => ⟨sz_of (by rw [as.len]; exact hl), fun p hp => k (.ref p) (upd G2 p (.tup vs)) _ (l.trans (Le.new l.e hp)) (at_tup.mpr ⟨p, vs, rfl, st_of upd_same, as.mono (Ex.new (none_of_ex l.e hp))⟩)⟩
end
end SR
set_option maxRecDepth 100000
set_option maxHeartbeats 4000000
namespace SR
open PySem PySem.Spec PyProof.Rows L2 Evl
section
variable {ω : Type} {K : PySem.W.Frag} {O : OI ω} {G G' H : Hp} {te ta tb tl : TE} {σ : L2.St} {d : D ω} {v : V}

theorem ev_ofD (h : EvD K O te σ G d) (one : ∀ G v', At K O G d v' → v' = v) : Ev te σ G v := fun H1 e Q q => h H1 e Q fun v' G2 H2 l a => by rw [one G2 v' a]; exact q H2 l.h
theorem ev_bl {b : Bool} (h : EvD K O te σ G (.bl b)) : Ev te σ G (.bl b) := ev_ofD h fun G v a => at_bl.mp a
theorem ev_int {i : Int} (h : EvD K O te σ G (.int i)) : Ev te σ G (.int i) := ev_ofD h fun G v a => at_int.mp a
theorem ev_non (h : EvD K O te σ G .non) : Ev te σ G .non := ev_ofD h fun G v a => at_non.mp a
theorem et_ofD {b : Bool} (h : EvD K O te σ G (.bl b)) : EvT (tB te) σ G b := et_B (ev_bl h)

/-! ### a def over data -/
def SpD (K : PySem.W.Frag) (O : OI ω) (R : List (D ω) → D ω → Prop) : Sp := fun vs H Q _ => ∃ G ds d, Ex G H ∧ AtL K O G ds vs ∧ R ds d ∧ RetG K O d G H Q
theorem ed_call {R : List (D ω) → D ω → Prop} {E : XK} {t : TA} {ds : List (D ω)} (h : EvDA K O t σ G ds) (r : R ds d) : EvD K O (tCall (SpD K O R) [] E t) σ G d := fun H1 e Q k =>
  h H1 e _ fun vs G2 H2 l as => ⟨G2, ds, d, l.e, by rw [List.append_nil]; exact as, r, k.mono l⟩

/-! ### sources -/
def Src (K : PySem.W.Frag) (O : OI ω) (wi : TI) (σ : L2.St) (G : Hp) (ds : List (D ω)) : Prop := ∀ H1, Ex G H1 → ∀ R : It → Hp → Prop,
  (∀ (J : It) (Gd : Hp → Prop) (Y : Nat → Hp → V → Hp → Prop) (G2 H2 : Hp), Le G H1 G2 H2 → Walk J ds.length Gd Y → (∀ H, Ex G2 H → Gd H) →
    (∀ i Gi Hi x Hi', Ex G2 Gi → Ex Gi Hi → i < ds.length → Y i Hi x Hi' → ∃ d Gi', ds[i]? = some d ∧ Le Gi Hi Gi' Hi' ∧ At K O Gi' d x) → R J H2) → wi σ H1 R
theorem src_list {ds : List (D ω)} (h : EvD K O tl σ G (.lst ds)) : Src K O (iList K tl) σ G ds := fun H1 e R k =>
  h H1 e _ fun v G2 H2 l a => by
    obtain ⟨p, vs, rfl, hs, as⟩ := at_lst.mp a
    refine ⟨p, rfl, ⟨vs, sq_of (l.e _ _ hs)⟩, ?_⟩
    have hl : vs.length = ds.length := as.len
    refine k (Itl K p) _ _ G2 H2 l (by rw [← hl]; exact walk_list (xs := vs)) (fun H x => sq_of (x _ _ hs)) fun i Gi Hi x Hi' eg eh hi y => ?_
    obtain ⟨rfl, hx⟩ := y
    obtain ⟨d, hd, ad⟩ := as.get hx
    exact ⟨d, Gi, hd, Le.refl eh, ad.mono eg⟩
theorem src_tup {ds : List (D ω)} (h : EvD K O tl σ G (.tup ds)) : Src K O (iTup K tl) σ G ds := fun H1 e R k =>
  h H1 e _ fun v G2 H2 l a => by
    obtain ⟨p, vs, rfl, hs, as⟩ := at_tup.mp a
    refine ⟨p, rfl, ⟨vs, ex_t l.e hs⟩, ?_⟩
    have hl : vs.length = ds.length := as.len
    refine k (Itt K p) _ _ G2 H2 l (by rw [← hl]; exact walk_tup (xs := vs)) (fun H x => ex_t x hs) fun i Gi Hi x Hi' eg eh hi y => ?_
    obtain ⟨rfl, hx⟩ := y
    obtain ⟨d, hd, ad⟩ := as.get hx
    exact ⟨d, Gi, hd, Le.refl eh, ad.mono eg⟩
theorem src_or1 {w1 w2 : TI} {ds : List (D ω)} (h : Src K O w1 σ G ds) : Src K O (fun σ H R => w1 σ H R ∨ w2 σ H R) σ G ds := fun H1 e R k => Or.inl (h H1 e R k)
theorem src_or2 {w1 w2 : TI} {ds : List (D ω)} (h : Src K O w2 σ G ds) : Src K O (fun σ H R => w1 σ H R ∨ w2 σ H R) σ G ds := fun H1 e R k => Or.inr (h H1 e R k)
def idxD (ds : List (D ω)) : List (D ω) := ds.zipIdx.map fun p => .tup [.int (p.2 : Nat), p.1]
theorem idxD_len {ds : List (D ω)} : (idxD ds).length = ds.length := by simp [idxD]
theorem idxD_get {ds : List (D ω)} {i : Nat} {d : D ω} (h : ds[i]? = some d) : (idxD ds)[i]? = some (.tup [.int (i : Nat), d]) := by
  simp [idxD, List.getElem?_zipIdx, h]
theorem src_enum {ta : TA} {ds : List (D ω)} (h : EvDA K O ta σ G [.lst ds]) : Src K O (iEnum K ta) σ G (idxD ds) := fun H1 e R k =>
  h H1 e _ fun vs G2 H2 l as => by
    obtain ⟨v, r, rfl, a, n⟩ := atL_cons.mp as
    obtain rfl := atL_nil.mp n
    obtain ⟨p, ws, rfl, hs, aw⟩ := at_lst.mp a
    refine ⟨p, ws, rfl, sq_of (l.e _ _ hs), ?_⟩
    have hl : ws.length = ds.length := aw.len
    refine k (Ite K p) _ _ G2 H2 l (by rw [idxD_len, ← hl]; exact walk_enum (xs := ws)) (fun H x => sq_of (x _ _ hs)) fun i Gi Hi x Hi' eg eh hi y => ?_
    obtain ⟨T, x1, x2, rfl, hT, rfl, h1, h2⟩ := y
    obtain ⟨d, hd, ad⟩ := aw.get h2
    have e1 : x1 = .int (i : Nat) := (Option.some.inj h1).symm
    subst e1
    refine ⟨_, upd Gi T (.tup [.int (i : Nat), x2]), idxD_get hd, Le.new eh hT, at_tup.mpr ⟨T, _, rfl, st_of upd_same, atL_cons.mpr ⟨_, _, rfl, at_int.mpr rfl, ?_⟩⟩⟩
    exact AtL.one ((ad.mono eg).mono (Ex.new (none_of_ex eh hT)))
theorem walk_enumT {a : Addr} {xs : List V} : Walk (IteT K a xs) xs.length (fun H => SqT K H a xs) (YPair (fun i => some (.int (i : Nat))) (fun i => xs[i]?)) := by
  refine ⟨fun i _ hi q => ⟨q, hi⟩, fun _ q => ⟨q, Nat.le_refl _⟩, fun i H v H' _ q y => ?_⟩
  obtain ⟨T, x, h1, h2, h3, h4⟩ := y
  exact ⟨T, .int (i : Nat), x, h1, h2, h3, rfl, h4⟩
theorem src_enumT {ta : TA} {ds : List (D ω)} (h : EvDA K O ta σ G [.tup ds]) : Src K O (iEnumT K ta) σ G (idxD ds) := fun H1 e R k =>
  h H1 e _ fun vs G2 H2 l as => by
    obtain ⟨v, r, rfl, a, n⟩ := atL_cons.mp as
    obtain rfl := atL_nil.mp n
    obtain ⟨p, ws, rfl, hs, aw⟩ := at_tup.mp a
    refine ⟨p, ws, rfl, ex_t l.e hs, ?_⟩
    have hl : ws.length = ds.length := aw.len
    refine k (IteT K p ws) _ _ G2 H2 l (by rw [idxD_len, ← hl]; exact walk_enumT (xs := ws)) (fun H x => ex_t x hs) fun i Gi Hi x Hi' eg eh hi y => ?_
    obtain ⟨T, x1, x2, rfl, hT, rfl, h1, h2⟩ := y
    obtain ⟨d, hd, ad⟩ := aw.get h2
    have e1 : x1 = .int (i : Nat) := (Option.some.inj h1).symm
    subst e1
    refine ⟨_, upd Gi T (.tup [.int (i : Nat), x2]), idxD_get hd, Le.new eh hT, at_tup.mpr ⟨T, _, rfl, st_of upd_same, atL_cons.mpr ⟨_, _, rfl, at_int.mpr rfl, ?_⟩⟩⟩
    exact AtL.one ((ad.mono eg).mono (Ex.new (none_of_ex eh hT)))
def zipD (ds es : List (D ω)) : List (D ω) := (ds.zip es).map fun p => .tup [p.1, p.2]
/-- zip of two lists -/
theorem src_zipL {ta : TA} {ds es : List (D ω)} (h : EvDA K O ta σ G [.lst ds, .lst es]) : Src K O (RZ.iZipA K ta) σ G (zipD ds es) := fun H1 e R k =>
  h H1 e _ fun vs G2 H2 l as => by
    obtain ⟨v, r, rfl, a, n⟩ := atL_cons.mp as
    obtain ⟨v', r', rfl, a', n'⟩ := atL_cons.mp n
    obtain rfl := atL_nil.mp n'
    obtain ⟨p, ws, rfl, hs, aw⟩ := at_lst.mp a
    obtain ⟨q, us, rfl, hs', aw'⟩ := at_lst.mp a'
    refine ⟨p, q, ws, us, rfl, Or.inl ⟨sq_of (l.e _ _ hs), sq_of (l.e _ _ hs'), ?_⟩⟩
    have hl : ws.length = ds.length := aw.len
    have hl' : us.length = es.length := aw'.len
    have hn : (zipD ds es).length = min ws.length us.length := by simp [zipD, hl, hl']
    refine k (Itz K p q) _ _ G2 H2 l (walk_zip hn) (fun H x => ⟨sq_of (x _ _ hs), sq_of (x _ _ hs')⟩) fun i Gi Hi x Hi' eg eh hi y => ?_
    obtain ⟨T, x1, x2, rfl, hT, rfl, h1, h2⟩ := y
    obtain ⟨d, hd, ad⟩ := aw.get h1
    obtain ⟨d', hd', ad'⟩ := aw'.get h2
    have e3 : (zipD ds es)[i]? = some (.tup [d, d']) := by
      simp [zipD, List.zip, List.getElem?_zipWith, hd, hd']
    refine ⟨_, upd Gi T (.tup [x1, x2]), e3, Le.new eh hT, at_tup.mpr ⟨T, _, rfl, st_of upd_same, atL_cons.mpr ⟨_, _, rfl, (ad.mono eg).mono (Ex.new (none_of_ex eh hT)), ?_⟩⟩⟩
    exact AtL.one ((ad'.mono eg).mono (Ex.new (none_of_ex eh hT)))
def rngD (lo : Int) (n : Nat) : List (D ω) := (List.range n).map fun i => .int (lo + (i : Nat))
theorem rngD_get {lo : Int} {n i : Nat} (h : i < n) : (rngD (ω := ω) lo n)[i]? = some (.int (lo + (i : Nat))) := by simp [rngD, h]
theorem src_r1 {ta : TA} {n : Int} (h : EvA ta σ G [.int n]) (hn : -(2 ^ 62) ≤ n ∧ n < 2 ^ 62) : Src K O (iRng1 ta) σ G (rngD (ω := ω) 0 n.toNat) := fun H1 e R k =>
  h H1 e _ fun H2 e2 => ⟨n, rfl, hn.1, hn.2, k (Itr 0 n.toNat) _ _ G H2 (Le.heap e e2) (by rw [show (rngD (ω := ω) 0 n.toNat).length = n.toNat by simp [rngD]]; exact walk_range) (fun _ _ => True.intro) fun i Gi Hi x Hi' eg eh hi y => by
    obtain ⟨rfl, rfl⟩ := y
    exact ⟨_, Gi, rngD_get (by simpa [rngD] using hi), Le.refl eh, at_int.mpr rfl⟩⟩
theorem src_r2 {ta : TA} {lo n : Int} (h : EvA ta σ G [.int lo, .int n]) (hn : -(2 ^ 62) ≤ lo ∧ lo < 2 ^ 62 ∧ -(2 ^ 62) ≤ n ∧ n < 2 ^ 62) : Src K O (iRng2 ta) σ G (rngD (ω := ω) lo (n - lo).toNat) := fun H1 e R k =>
  h H1 e _ fun H2 e2 => ⟨lo, n, rfl, hn, k (Itr lo (n - lo).toNat) _ _ G H2 (Le.heap e e2) (by rw [show (rngD (ω := ω) lo (n - lo).toNat).length = (n - lo).toNat by simp [rngD]]; exact walk_range) (fun _ _ => True.intro) fun i Gi Hi x Hi' eg eh hi y => by
    obtain ⟨rfl, rfl⟩ := y
    exact ⟨_, Gi, rngD_get (by simpa [rngD] using hi), Le.refl eh, at_int.mpr rfl⟩⟩

/-! ### targets -/
theorem tg_pair {j k : Nat} {d1 d2 : D ω} {x : V} {Q : L2.St → Hp → Prop} (a : At K O G (.tup [d1, d2]) x) (e : Ex G H) (q : ∀ x1 x2, At K O G d1 x1 → At K O G d2 x2 → Q ((σ.set j (some x1)).set k (some x2)) H) :
    gTup K 2 (gCons (gName j) (gCons (gName k) gNil)) x σ H Q := by
  obtain ⟨p, vs, rfl, hs, as⟩ := at_tup.mp a
  obtain ⟨x1, r, rfl, a1, n⟩ := atL_cons.mp as
  obtain ⟨x2, r2, rfl, a2, n2⟩ := atL_cons.mp n
  obtain rfl := atL_nil.mp n2
  exact ⟨p, _, rfl, ex_t e hs, rfl, x1, _, rfl, x2, _, rfl, rfl, q x1 x2 a1 a2⟩
theorem tg_pairL {j k : Nat} {d1 d2 : D ω} {x : V} {Q : L2.St → Hp → Prop} (a : At K O G (.lst [d1, d2]) x) (e : Ex G H) (q : ∀ x1 x2, At K O G d1 x1 → At K O G d2 x2 → Q ((σ.set j (some x1)).set k (some x2)) H) :
    gUnl K 2 (gCons (gName j) (gCons (gName k) gNil)) x σ H Q := by
  obtain ⟨p, vs, rfl, hs, as⟩ := at_lst.mp a
  obtain ⟨x1, r, rfl, a1, n⟩ := atL_cons.mp as
  obtain ⟨x2, r2, rfl, a2, n2⟩ := atL_cons.mp n
  obtain rfl := atL_nil.mp n2
  exact ⟨p, _, rfl, sq_of (e _ _ hs), rfl, x1, _, rfl, x2, _, rfl, rfl, q x1 x2 a1 a2⟩

/-! ### a comprehension -/
theorem take_snoc {α : Type} {l : List α} {i : Nat} {x : α} (h : l[i]? = some x) : l.take (i + 1) = l.take i ++ [x] := by
  rw [List.take_add_one, h]
  rfl
theorem ed_lc {wi : TI} {g : TG} {tt : TT} {vs : List Nat} {ds : List (D ω)} (f : D ω → Bool) (m : D ω → D ω) (hs : Src K O wi σ G ds) (hz : ds.length ≤ 40000)
    (body : ∀ (i : Nat) (d : D ω) (x : V) (Gi Hi : Hp), ds[i]? = some d → Ex G Gi → Ex Gi Hi → At K O Gi d x → ∀ Q : L2.St → Hp → Prop,
      (∀ σ2 H2, Ex Hi H2 → wipe σ2 vs = wipe σ vs → EvT tt σ2 Gi (f d) → (f d = true → EvD K O te σ2 Gi (m d)) → Q σ2 H2) → g x (wipe σ vs) Hi Q) :
    EvD K O (tLc wi g tt te vs) σ G (.lst ((ds.filter f).map m)) := fun H1 e Q k => by
  refine hs H1 e _ fun J Gd Y G0 H0 l0 w hG yl => ?_
  intro Dl hD
  refine lc_it w (fun i H => ∃ Gi us, Le G0 H0 Gi H ∧ H Dl = some (.lst us) ∧ Gi Dl = none ∧ AtL K O Gi (((ds.take i).filter f).map m) us)
    ⟨G0, [], Le.newM l0.e hD, upd_same, none_of_ex l0.e hD, by simp; exact atL_nil.mpr rfl⟩ (fun i H _ p => ?_) (fun i x Hi Hi' hi p y => ?_) fun H p => ?_
  · obtain ⟨Gi, us, l, _⟩ := p
    exact hG H (l.g.trans l.e)
  · obtain ⟨Gi, us, l, hu, gn, as⟩ := p
    obtain ⟨d, Gi', hd, l', ad⟩ := yl i Gi Hi x Hi' l.g l.e hi y
    have tk := take_snoc hd
    have gn' : Gi' Dl = none := l'.gnone gn (by rw [hu]; exact fun z => nomatch z)
    have hu' : Hi' Dl = some (.lst us) := l'.h Dl _ hu
    have lt : Le G0 H0 Gi' Hi' := l.trans l'
    refine body i d x Gi' Hi' hd (l0.g.trans lt.g) l'.e ad _ fun σ2 H2 e2 hw ht he => ⟨hw, ?_⟩
    refine ht H2 (l'.e.trans e2) _ fun H3 e3 => ?_
    have e23 := e2.trans e3
    have lt3 : Le G0 H0 Gi' H3 := lt.trans (Le.heap l'.e e23)
    cases hf : f d with
    | false =>
      rw [if_neg Bool.false_ne_true]
      refine ⟨Gi', us, lt3, e23 Dl _ hu', gn', ?_⟩
      rw [tk, List.filter_append, List.filter_cons, if_neg (by rw [hf]; decide), List.filter_nil, List.append_nil]
      exact as.mono l'.g
    | true =>
      rw [if_pos rfl]
      refine he hf H3 (l'.e.trans e23) _ fun u G4 H4 l4 a4 => ?_
      have hu4 : H4 Dl = some (.lst us) := l4.h Dl _ (e23 Dl _ hu')
      have gn4 : G4 Dl = none := l4.gnone gn' (by rw [e23 Dl _ hu']; exact fun z => nomatch z)
      have ul : us.length ≤ i := by
        have := as.len
        have h2 := List.length_filter_le f (ds.take i)
        simp at this h2
        omega
      refine ⟨us, hu4, sz_lt (by omega), G4, us ++ [u], (lt3.trans l4).mut hD gn4, upd_same, gn4, ?_⟩
      rw [tk, List.filter_append, List.filter_cons, if_pos hf, List.filter_nil, List.map_append]
      exact (as.mono (l'.g.trans l4.g)).app (AtL.one a4)
  · obtain ⟨Gi, us, l, hu, gn, as⟩ := p
    rw [List.take_length] at as
    exact k (.ref Dl) (upd Gi Dl (.lst us)) H (l0.trans (Le.fix l0.e l hD hu)) (at_lst.mpr ⟨Dl, us, rfl, upd_same, as.mono (Ex.new gn)⟩)
end

/-! ### statements -/
section
variable {ω : Type} {K : PySem.W.Frag} {O : OI ω} {G G' H : Hp} {te ta tb tl : TE} {σ : L2.St} {d : D ω} {v : V} {De : Ends} {tu tw tz : TS} {g : TG} {t : TT}
theorem s_forS {wi : TI} {ds : List (D ω)} (hs : Src K O wi σ G ds) (e : Ex G H) (Pv : Nat → L2.St → Hp → Hp → Prop) (h0 : ∀ G0 H0, Le G H G0 H0 → Pv 0 σ G0 H0)
    (turn : ∀ G0 i d x σ' Gi Hi Gi' Hi', Ex G G0 → ds[i]? = some d → Ex G0 Gi → Ex Gi Hi → Pv i σ' Gi Hi → Le Gi Hi Gi' Hi' → At K O Gi' d x → ∀ N : L2.St → Hp → Prop,
      (∀ σ2 G2 H2, Ex Gi' G2 → Ex G2 H2 → Pv (i + 1) σ2 G2 H2 → N σ2 H2) → g x σ' Hi' fun σ2 H2 => tu { De with nx := N, ct := N, bk := De.nx } σ2 H2)
    (hd : ∀ σ' G' H', Ex G G' → Ex G' H' → Pv ds.length σ' G' H' → De.nx σ' H') : tFor wi g tu De σ H := by
  refine hs H e _ fun J Gd Y G0 H0 l0 w hG yl => ?_
  refine for_it w (fun i σ' H' => ∃ G', Ex G0 G' ∧ Ex G' H' ∧ Pv i σ' G' H') ⟨G0, Ex.refl _, l0.e, h0 G0 H0 l0⟩ (fun i σ' H' _ p => ?_) (fun i x σ' Hi Hi' hi p y => ?_) fun σ' H' p => ?_
  · obtain ⟨G', e1, e2, _⟩ := p
    exact hG H' (e1.trans e2)
  · obtain ⟨Gi, e1, e2, pv⟩ := p
    obtain ⟨d, Gi', hd', l', ad⟩ := yl i Gi Hi x Hi' e1 e2 hi y
    exact turn G0 i d x σ' Gi Hi Gi' Hi' l0.g hd' e1 e2 pv l' ad _ fun σ2 G2 H2 e3 e4 p4 => ⟨G2, (e1.trans l'.g).trans e3, e4, p4⟩
  · obtain ⟨G', e1, e2, pv⟩ := p
    exact hd σ' G' H' (l0.g.trans e1) e2 pv
theorem q_forS {wi : TI} {ds : List (D ω)} (hs : Src K O wi σ G ds) (e : Ex G H) (Pv : Nat → L2.St → Hp → Hp → Prop) (h0 : ∀ G0 H0, Le G H G0 H0 → Pv 0 σ G0 H0)
    (turn : ∀ G0 i d x σ' Gi Hi Gi' Hi', Ex G G0 → ds[i]? = some d → Ex G0 Gi → Ex Gi Hi → Pv i σ' Gi Hi → Le Gi Hi Gi' Hi' → At K O Gi' d x → ∀ N : L2.St → Hp → Prop,
      (∀ σ2 G2 H2, Ex Gi' G2 → Ex G2 H2 → Pv (i + 1) σ2 G2 H2 → N σ2 H2) → g x σ' Hi' fun σ2 H2 => tu { De with nx := N, ct := N, bk := tz De } σ2 H2)
    (hd : ∀ σ' G' H', Ex G G' → Ex G' H' → Pv ds.length σ' G' H' → tz De σ' H') : tSeq (tFor wi g tu) tz De σ H := s_forS (De := { De with nx := tz De }) hs e Pv h0 turn hd
theorem s_asgD {i : Nat} (h : EvD K O te σ G d) (e : Ex G H) (k : ∀ v G2 H2, Le G H G2 H2 → At K O G2 d v → De.nx (σ.set i (some v)) H2) : tAsg te (gName i) De σ H := h H e _ k
theorem q_asgD {i : Nat} (h : EvD K O te σ G d) (e : Ex G H) (k : ∀ v G2 H2, Le G H G2 H2 → At K O G2 d v → tz De (σ.set i (some v)) H2) : tSeq (tAsg te (gName i)) tz De σ H := h H e _ k
/-- a value: nothing known is added -/
theorem q_asgV {i : Nat} (h : Ev te σ G v) (e : Ex G H) (k : ∀ H2, Le G H G H2 → tz De (σ.set i (some v)) H2) : tSeq (tAsg te (gName i)) tz De σ H := h H e _ fun H2 e2 => k H2 (Le.heap e e2)
theorem s_asgV {i : Nat} (h : Ev te σ G v) (e : Ex G H) (k : ∀ H2, Le G H G H2 → De.nx (σ.set i (some v)) H2) : tAsg te (gName i) De σ H := h H e _ fun H2 e2 => k H2 (Le.heap e e2)
theorem s_retD (h : EvD K O te σ G d) (e : Ex G H) (k : RetG K O d G H De.rt) : tRet te De σ H := h H e _ k
theorem s_ifG {b : Bool} (h : EvT t σ G b) (e : Ex G H) (h1 : b = true → ∀ H2, Le G H G H2 → tu De σ H2) (h2 : b = false → ∀ H2, Le G H G H2 → tw De σ H2) : tIfS t tu tw De σ H := h H e _ fun H2 e2 => by
  cases b with
  | true =>
    rw [if_pos rfl]
    exact h1 rfl H2 (Le.heap e e2)
  | false =>
    rw [if_neg Bool.false_ne_true]
    exact h2 rfl H2 (Le.heap e e2)
theorem q_ifG {b : Bool} (h : EvT t σ G b) (e : Ex G H) (h1 : b = true → ∀ H2, Le G H G H2 → tu { De with nx := tz De } σ H2) (h2 : b = false → ∀ H2, Le G H G H2 → tw { De with nx := tz De } σ H2) : tSeq (tIfS t tu tw) tz De σ H := s_ifG (De := { De with nx := tz De }) h e h1 h2
theorem q_whenG {b : Bool} (h : EvT t σ G b) (e : Ex G H) (h1 : b = true → ∀ H2, Le G H G H2 → tu { De with nx := tz De } σ H2) (h2 : b = false → ∀ H2, Le G H G H2 → tz De σ H2) : tSeq (tIfS t tu tNext) tz De σ H := q_ifG h e h1 h2
/-- an if that is not taken -/
theorem q_skip (h : EvT t σ G false) (e : Ex G H) (k : ∀ H2, Le G H G H2 → tz De σ H2) : tSeq (tIfS t tu tNext) tz De σ H := q_ifG h e (fun z => nomatch z) fun _ H2 l => k H2 l
/-- a truth told by pt_truth, pt_truthR -/
theorem et_tru {b : Bool} (h : Ev te σ G (.bl b)) : EvT (fun σ H Q => te σ H fun x H' => ∃ k, TruV K x H' k ∧ Q k H') σ G b := fun H1 e Q q => h H1 e _ fun H2 e2 => ⟨b, rfl, q H2 e2⟩
end
end SR
set_option maxRecDepth 100000
set_option maxHeartbeats 4000000
namespace SR
open PySem PySem.Spec PyProof.Rows L2 Evl
/-! ### isinstance, told for data -/
section
variable {ω : Type} {K : PySem.W.Frag} {O : OI ω} {T : ω → Value}
/-- what the classes of objects answer -/
structure OT (K : PySem.W.Frag) (O : OI ω) (T : ω → Value) : Prop where
  ty : ∀ H a w, O.at_ H a w → TyX K H (.ref a) (T w)
  int : ∀ w, PySem.W.kitOne K (T w) (.type "int") = some false
  bool : ∀ w, PySem.W.kitOne K (T w) (.type "bool") = some false
  list : ∀ w, PySem.W.kitOne K (T w) (.type "list") = some false
  tuple : ∀ w, PySem.W.kitOne K (T w) (.type "tuple") = some false
def dInt : D ω → Bool | .int _ => true | _ => false
def dBool : D ω → Bool | .bl _ => true | _ => false
def dIntB : D ω → Bool | .int _ => true | .bl _ => true | _ => false
def dLst : D ω → Bool | .lst _ => true | _ => false
def dTup : D ω → Bool | .tup _ => true | _ => false
def dSeq : D ω → Bool | .lst _ => true | .tup _ => true | _ => false
theorem kit_int (h : OT K O T) (d : D ω) : PySem.W.kitOne K (tyD T d) (.type "int") = some (dIntB d) := by
  cases d with
  | obj w => exact h.int w
  | _ => first | exact kit_ty (r := false) (by decide +kernel) | exact kit_ty (r := true) (by decide +kernel)
theorem kit_bool (h : OT K O T) (d : D ω) : PySem.W.kitOne K (tyD T d) (.type "bool") = some (dBool d) := by
  cases d with
  | obj w => exact h.bool w
  | _ => first | exact kit_ty (r := false) (by decide +kernel) | exact kit_ty (r := true) (by decide +kernel)
theorem kit_list (h : OT K O T) (d : D ω) : PySem.W.kitOne K (tyD T d) (.type "list") = some (dLst d) := by
  cases d with
  | obj w => exact h.list w
  | _ => first | exact kit_ty (r := false) (by decide +kernel) | exact kit_ty (r := true) (by decide +kernel)
theorem kit_tuple (h : OT K O T) (d : D ω) : PySem.W.kitOne K (tyD T d) (.type "tuple") = some (dTup d) := by
  cases d with
  | obj w => exact h.tuple w
  | _ => first | exact kit_ty (r := false) (by decide +kernel) | exact kit_ty (r := true) (by decide +kernel)
theorem kit_seq (h : OT K O T) (d : D ω) : PySem.W.kitAny K (tyD T d) [.type "list", .type "tuple"] = some (dSeq d) := by
  refine kitAny_cons (kit_list h d) (fun hb => kitAny_cons (kit_tuple h d) (fun hb2 => ?_) fun hb2 => ?_) (fun hb => ?_)
  · rw [kitAny_nil]
    cases d <;> simp_all [dLst, dTup, dSeq]
  · cases d <;> simp_all [dLst, dTup, dSeq]
  · cases d <;> simp_all [dLst, dTup, dSeq]
end


/-! ### tests on data, as values and as truths -/
section
variable {ω : Type} {K : PySem.W.Frag} {O : OI ω} {T : ω → Value} {G : Hp} {te : TE} {σ : L2.St} {d : D ω}
theorem isi_int (OK : OT K O T) (h : EvD K O te σ G d) : Ev (tCB (rIsi K) (tCons te (tCons (tC (.ty "int")) tNil))) σ G (.bl (dIntB d)) := fun H1 e Q q =>
  h H1 e _ fun v G2 H2 l a => ⟨v, .ty "int", _, _, _, rfl, .ty _, (ty_of OK.ty (a.mono l.e)), kit_int OK d, q H2 l.h⟩
theorem isi_bool (OK : OT K O T) (h : EvD K O te σ G d) : Ev (tCB (rIsi K) (tCons te (tCons (tC (.ty "bool")) tNil))) σ G (.bl (dBool d)) := fun H1 e Q q =>
  h H1 e _ fun v G2 H2 l a => ⟨v, .ty "bool", _, _, _, rfl, .ty _, (ty_of OK.ty (a.mono l.e)), kit_bool OK d, q H2 l.h⟩
theorem isi_list (OK : OT K O T) (h : EvD K O te σ G d) : Ev (tCB (rIsi K) (tCons te (tCons (tC (.ty "list")) tNil))) σ G (.bl (dLst d)) := fun H1 e Q q =>
  h H1 e _ fun v G2 H2 l a => ⟨v, .ty "list", _, _, _, rfl, .ty _, (ty_of OK.ty (a.mono l.e)), kit_list OK d, q H2 l.h⟩
theorem isi_tuple (OK : OT K O T) (h : EvD K O te σ G d) : Ev (tCB (rIsi K) (tCons te (tCons (tC (.ty "tuple")) tNil))) σ G (.bl (dTup d)) := fun H1 e Q q =>
  h H1 e _ fun v G2 H2 l a => ⟨v, .ty "tuple", _, _, _, rfl, .ty _, (ty_of OK.ty (a.mono l.e)), kit_tuple OK d, q H2 l.h⟩
theorem isi_seq (OK : OT K O T) (h : EvD K O te σ G d) : Ev (tCB (rIsiT K) (tCons te (tCons (tTup (tCons (tC (.ty "list")) (tCons (tC (.ty "tuple")) tNil))) tNil))) σ G (.bl (dSeq d)) := fun H1 e Q q =>
  h H1 e _ fun v G2 H2 l a => ⟨by show 2 ≤ sizeLine; decide, fun p hp => ⟨v, p, _, _, [.type "list", .type "tuple"], _, rfl, upd_same, .cons (.ty _) (.cons (.ty _) .nil), ty_of OK.ty ((a.mono l.e).mono (Ex.new hp)), kit_seq OK d, q _ (l.h.trans (Ex.new hp))⟩⟩
/-- one item of a list or tuple -/
def dItem : D ω → Nat → Option (D ω) | .lst l, i => l[i]? | .tup l, i => l[i]? | _, _ => none
def dLen : D ω → Nat | .lst l => l.length | .tup l => l.length | _ => 0
theorem ed_item {ti : TE} {i : Nat} {c : D ω} (h : EvD K O te σ G d) (hi : Ev ti σ G (.int (i : Nat))) (hc : dItem d i = some c) : EvD K O (tOp (fun x y H Q => rIxL K x y H Q ∨ rIxT K x y H Q) te ti) σ G c := fun H1 e Q k =>
  h H1 e _ fun v G2 H2 l a => hi H2 (e.trans l.h) _ fun H3 e3 => by
    cases d with
    | lst ds =>
      obtain ⟨p, vs, rfl, hs, as⟩ := at_lst.mp a
      obtain ⟨x, hx, ax⟩ := as.get' (i := i) hc
      exact Or.inl ⟨p, vs, _, x, rfl, rfl, sq_of ((l.e.trans e3) _ _ hs), atI_nat hx, k x G2 H3 (l.trans (Le.heap l.e e3)) ax⟩
    | tup ds =>
      obtain ⟨p, vs, rfl, hs, as⟩ := at_tup.mp a
      obtain ⟨x, hx, ax⟩ := as.get' (i := i) hc
      exact Or.inr ⟨p, vs, _, x, rfl, rfl, ex_t (l.e.trans e3) hs, atI_nat hx, k x G2 H3 (l.trans (Le.heap l.e e3)) ax⟩
    | _ => cases hc
theorem ed_itemL {ti : TE} {i : Nat} {c : D ω} {ds : List (D ω)} (h : EvD K O te σ G (.lst ds)) (hi : Ev ti σ G (.int (i : Nat))) (hc : ds[i]? = some c) : EvD K O (tOp (rIxL K) te ti) σ G c := fun H1 e Q k =>
  h H1 e _ fun v G2 H2 l a => hi H2 (e.trans l.h) _ fun H3 e3 => by
    obtain ⟨p, vs, rfl, hs, as⟩ := at_lst.mp a
    obtain ⟨x, hx, ax⟩ := as.get' (i := i) hc
    exact ⟨p, vs, _, x, rfl, rfl, sq_of ((l.e.trans e3) _ _ hs), atI_nat hx, k x G2 H3 (l.trans (Le.heap l.e e3)) ax⟩
theorem ed_itemT {ti : TE} {i : Nat} {c : D ω} {ds : List (D ω)} (h : EvD K O te σ G (.tup ds)) (hi : Ev ti σ G (.int (i : Nat))) (hc : ds[i]? = some c) : EvD K O (tOp (rIxT K) te ti) σ G c := fun H1 e Q k =>
  h H1 e _ fun v G2 H2 l a => hi H2 (e.trans l.h) _ fun H3 e3 => by
    obtain ⟨p, vs, rfl, hs, as⟩ := at_tup.mp a
    obtain ⟨x, hx, ax⟩ := as.get' (i := i) hc
    exact ⟨p, vs, _, x, rfl, rfl, ex_t (l.e.trans e3) hs, atI_nat hx, k x G2 H3 (l.trans (Le.heap l.e e3)) ax⟩
theorem len_d (h : EvD K O te σ G d) (hs : dSeq d = true) : Ev (tCB (fun xs H Q => ∃ p ys, xs = [V.ref p] ∧ (SqL K H p ys ∨ SqT K H p ys) ∧ Q (.int ys.length) H) (tCons te tNil)) σ G (.int (dLen d : Nat)) := fun H1 e Q q =>
  h H1 e _ fun v G2 H2 l a => by
    cases d with
    | lst ds =>
      obtain ⟨p, vs, rfl, hs, as⟩ := at_lst.mp a
      refine ⟨p, vs, rfl, Or.inl (sq_of (l.e _ _ hs)), ?_⟩
      rw [as.len]
      exact q H2 l.h
    | tup ds =>
      obtain ⟨p, vs, rfl, hs, as⟩ := at_tup.mp a
      refine ⟨p, vs, rfl, Or.inr (ex_t l.e hs), ?_⟩
      rw [as.len]
      exact q H2 l.h
    | _ => cases hs
end
theorem inV_int {i : Int} : ∀ {ns : List Int}, inV (.int i) (ns.map V.int) = ns.contains i
  | [] => rfl
  | n :: r => by
    have ih := inV_int (i := i) (ns := r)
    show (eqV (.int n) (.int i) || inV (.int i) (r.map V.int)) = (n :: r).contains i
    rw [ih, List.contains_cons]
    congr 1
    show (n == i) = (i == n)
    exact BEq.comm
end SR
set_option maxRecDepth 100000
set_option maxHeartbeats 4000000
namespace SR
open PySem PySem.Spec PyProof.Rows L2 Evl
/-! ### pairs of ints as a dict -/
def getI (m : List (Int × Int)) (o : Int) : Option Int := (m.find? fun q => decide (q.1 = o)).map (·.2)
def putI (m : List (Int × Int)) (o c : Int) : List (Int × Int) := if (m.any fun q => decide (q.1 = o)) = true then m.map (fun q => if q.1 = o then (q.1, c) else q) else m ++ [(o, c)]
theorem valV_kvI {o : Int} : ∀ {m : List (Int × Int)}, valV (kvI m) (Sum.inl o) = (getI m o).map V.int
  | [] => rfl
  | q :: r => by
    have ih := valV_kvI (o := o) (m := r)
    by_cases h : q.1 = o
    · have e : valV (kvI (q :: r)) (Sum.inl o : Key) = some (V.int q.2) := valV_pos (p := ((Sum.inl q.1 : Key), V.int q.2)) (by show (Sum.inl q.1 : Key) = Sum.inl o; rw [h])
      rw [e]
      simp [getI, h]
    · have e : valV (kvI (q :: r)) (Sum.inl o : Key) = valV (kvI r) (Sum.inl o) := valV_neg (p := ((Sum.inl q.1 : Key), V.int q.2)) (by show ¬ (Sum.inl q.1 : Key) = Sum.inl o; intro z; injection z with z; exact h z)
      rw [e, ih]
      simp [getI, h]
theorem any_kvI {o : Int} {m : List (Int × Int)} : ((kvI m).any fun kv => decide (kv.1 = (Sum.inl o : Key))) = m.any fun q => decide (q.1 = o) := by
  unfold kvI
  rw [List.any_map]
  congr 1
  funext q
  show decide ((Sum.inl q.1 : Key) = Sum.inl o) = decide (q.1 = o)
  exact decide_eq_decide.mpr ⟨fun z => by injection z, fun z => by rw [z]⟩
theorem putK_kvI {o c : Int} {m : List (Int × Int)} : putK (kvI m) (Sum.inl o) (V.int c) = kvI (putI m o c) := by
  unfold putK putI
  rw [any_kvI]
  by_cases h : (m.any fun q => decide (q.1 = o)) = true
  · rw [if_pos h, if_pos h]
    unfold kvI
    rw [List.map_map, List.map_map]
    refine List.map_congr_left fun q _ => ?_
    show (if (Sum.inl q.1 : Key) = Sum.inl o then ((Sum.inl q.1 : Key), V.int c) else (Sum.inl q.1, V.int q.2)) = (Sum.inl (if q.1 = o then (q.1, c) else q).1, V.int (if q.1 = o then (q.1, c) else q).2)
    by_cases hq : q.1 = o
    · rw [if_pos hq, if_pos (by rw [hq])]
    · rw [if_neg hq, if_neg (by intro z; injection z with z; exact hq z)]
  · rw [if_neg h, if_neg h]
    unfold kvI
    rw [List.map_append]
    rfl
theorem optInt_inj {a b : Option Int} (h : a.map V.int = b.map V.int) : a = b := by
  cases a <;> cases b <;> simp at h ⊢
  exact h
theorem getI_put {m : List (Int × Int)} {o c j : Int} : getI (putI m o c) j = if j = o then some c else getI m j := by
  refine optInt_inj ?_
  rw [← valV_kvI, ← putK_kvI, valV_put]
  by_cases h : j = o
  · rw [if_pos (by rw [h]), if_pos h]
    rfl
  · rw [if_neg (by intro z; injection z with z; exact h z), if_neg h, valV_kvI]
theorem len_put {m : List (Int × Int)} {o c : Int} : (putI m o c).length ≤ m.length + 1 := by
  unfold putI
  split <;> simp
theorem keys_put {m : List (Int × Int)} {o c : Int} : (putI m o c).map (·.1) = if (m.any fun q => decide (q.1 = o)) = true then m.map (·.1) else m.map (·.1) ++ [o] := by
  unfold putI
  split
  · rw [List.map_map]
    refine List.map_congr_left fun q _ => ?_
    show (if q.1 = o then (q.1, c) else q).1 = q.1
    split <;> rfl
  · rw [List.map_append]
    rfl
theorem any_keys {m : List (Int × Int)} {o : Int} : (m.any fun q => decide (q.1 = o)) = true ↔ o ∈ m.map (·.1) := by
  rw [List.any_eq_true, List.mem_map]
  exact ⟨fun ⟨q, h1, h2⟩ => ⟨q, h1, of_decide_eq_true h2⟩, fun ⟨q, h1, h2⟩ => ⟨q, h1, decide_eq_true h2⟩⟩
theorem nd_put {m : List (Int × Int)} {o c : Int} (h : (m.map (·.1)).Nodup) : ((putI m o c).map (·.1)).Nodup := by
  rw [keys_put]
  split
  · exact h
  · rename_i n
    rw [List.nodup_append]
    refine ⟨h, by simp, fun a ha b hb => ?_⟩
    rw [List.mem_singleton] at hb
    subst hb
    intro z
    subst z
    exact n (any_keys.mpr ha)
theorem getI_some {m : List (Int × Int)} {o : Int} : (getI m o).isSome = true ↔ o ∈ m.map (·.1) := by
  unfold getI
  rw [Option.isSome_map, List.find?_isSome, List.mem_map]
  exact ⟨fun ⟨q, h1, h2⟩ => ⟨q, h1, of_decide_eq_true h2⟩, fun ⟨q, h1, h2⟩ => ⟨q, h1, decide_eq_true h2⟩⟩
section
variable {ω : Type} {K : PySem.W.Frag} {O : OI ω} {G H : Hp} {td ty tx te ta tb : TE} {σ : L2.St} {a : Addr} {m : List (Int × Int)} {o z c : Int} {v : V} {De : Ends} {tz : TS}
theorem rd_ex {H H' : Hp} {a : Addr} {u : HO} (e : Ex H H') (h : Rd H a u) : Rd H' a u := ex_rd e h
theorem ev_dget2 (hd : Ev td σ G (.ref a)) (hm : G a = some (.dK (kvI m))) (hy : Ev ty σ G (.int o)) (hx : Ev tx σ G (.int z)) : Ev (tDGet2 td ty tx) σ G (.int ((getI m o).getD z)) := fun H1 e Q q =>
  hd H1 e _ fun H2 e2 => ⟨a, rfl, Or.inl ⟨kvI m, Or.inl (e2 a _ (e a _ hm))⟩, hy H2 (e.trans e2) _ fun H3 e3 => hx H3 ((e.trans e2).trans e3) _ fun H4 e4 =>
    ⟨_, DGet.k (k := Sum.inl o) (((e.trans e2).trans e3).trans e4 a _ hm), by
      rw [valV_kvI]
      have q' := q H4 ((e2.trans e3).trans e4)
      cases hg : getI m o with
      | none => rw [hg] at q'; exact q'
      | some x => rw [hg] at q'; exact q'⟩⟩
theorem ev_dget (hd : Ev td σ G (.ref a)) (hm : G a = some (.dK (kvI m))) (hy : Ev ty σ G (.int o)) (hc : getI m o = some c) : Ev (tDGet td ty) σ G (.int c) := fun H1 e Q q =>
  hd H1 e _ fun H2 e2 => hy H2 (e.trans e2) _ fun H3 e3 => ⟨a, .int c, rfl, by
      have h1 := DGet.k (k := Sum.inl o) ((e.trans e2).trans e3 a _ hm)
      rw [valV_kvI, hc] at h1
      exact h1, q H3 (e2.trans e3)⟩
theorem s_setD (hm : H a = some (.dK (kvI m))) (h : Ev te σ H (.int c)) (ho : Ev ta σ H (.ref a)) (hi : Ev tb σ H (.int o)) (hz : m.length < 100000) (k : ∀ H1, Ex H H1 → De.nx σ (upd H1 a (.dK (kvI (putI m o c))))) :
    tAsg te (gSub ta tb rSetD) De σ H := h H (Ex.refl H) _ fun H1 e1 => ho H1 e1 _ fun H2 e2 => hi H2 (e1.trans e2) _ fun H3 e3 =>
  ⟨a, _, rfl, DPut.k (k := Sum.inl o) (v := .int c) (((e1.trans e2).trans e3) a _ hm) (by unfold kvI; rw [List.length_map]; exact sz_lt hz), by
    rw [putK_kvI]
    exact k H3 ((e1.trans e2).trans e3)⟩
theorem q_setD (hm : H a = some (.dK (kvI m))) (h : Ev te σ H (.int c)) (ho : Ev ta σ H (.ref a)) (hi : Ev tb σ H (.int o)) (hz : m.length < 100000) (k : ∀ H1, Ex H H1 → tz De σ (upd H1 a (.dK (kvI (putI m o c))))) :
    tSeq (tAsg te (gSub ta tb rSetD)) tz De σ H := s_setD (De := { De with nx := tz De }) hm h ho hi hz k
/-- {} -/
theorem q_newD {i : Nat} (k : ∀ p, H p = none → tz De (σ.set i (some (.ref p))) (upd H p (.dK []))) : tSeq (tAsg tDNewK (gName i)) tz De σ H := fun p hp => k p hp

/-! ### a dict's keys walked under a lock -/
mutual
def noObj : D ω → Bool
  | .lst l => noObjL l
  | .tup l => noObjL l
  | .dic _ => false
  | .obj _ => false
  | _ => true
def noObjL : List (D ω) → Bool
  | [] => true
  | d :: l => noObj d && noObjL l
end
theorem sql_swap {A B : Hp} {od : Obj} {kvs : List (Key × V)} {p : Addr} {xs : List V} (hne : ∀ x, x ≠ a → A x = B x) (hA : A a = some (.frz od (.dK kvs))) (h : SqL K A p xs) : SqL K B p xs := by
  rcases h with (h | ⟨o, h⟩) | h
  · have n : p ≠ a := by intro z; subst z; rw [hA] at h; cases h
    exact .inl (.inl (by rw [← hne p n]; exact h))
  · have n : p ≠ a := by intro z; subst z; rw [hA] at h; cases h
    exact .inl (.inr ⟨o, by rw [← hne p n]; exact h⟩)
  · exact .inr h
theorem sqt_swap {A B : Hp} {od : Obj} {kvs : List (Key × V)} {p : Addr} {xs : List V} (hne : ∀ x, x ≠ a → A x = B x) (hA : A a = some (.frz od (.dK kvs))) (h : SqT K A p xs) : SqT K B p xs := by
  rcases h with (h | ⟨o, h⟩) | h
  · have n : p ≠ a := by intro z; subst z; rw [hA] at h; cases h
    exact .inl (.inl (by rw [← hne p n]; exact h))
  · have n : p ≠ a := by intro z; subst z; rw [hA] at h; cases h
    exact .inl (.inr ⟨o, by rw [← hne p n]; exact h⟩)
  · exact .inr h
mutual
theorem at_swap {A B : Hp} {od : Obj} {kvs : List (Key × V)} (hne : ∀ x, x ≠ a → A x = B x) (hA : A a = some (.frz od (.dK kvs))) : ∀ {d : D ω} {v : V}, noObj d = true → At K O A d v → At K O B d v
  | .non, v, _, h => by rw [at_non] at h ⊢; exact h
  | .bl b, v, _, h => by rw [at_bl] at h ⊢; exact h
  | .int i, v, _, h => by rw [at_int] at h ⊢; exact h
  | .str x, v, _, h => by rw [at_str] at h ⊢; exact h
  | .lst l, v, n, h => by
    obtain ⟨p, vs, e, hs, as⟩ := at_lst.mp h
    have np : p ≠ a := by intro z; subst z; rw [hA] at hs; cases hs
    exact at_lst.mpr ⟨p, vs, e, (by rw [← hne p np]; exact hs), atL_swap hne hA (by simpa only [noObj] using n) as⟩
  | .tup l, v, n, h => by
    obtain ⟨p, vs, e, hs, as⟩ := at_tup.mp h
    exact at_tup.mpr ⟨p, vs, e, sqt_swap hne hA hs, atL_swap hne hA (by simpa only [noObj] using n) as⟩
  | .dic m, v, n, h => by simp only [noObj] at n; cases n
  | .obj w, v, n, h => by simp only [noObj] at n; cases n
theorem atL_swap {A B : Hp} {od : Obj} {kvs : List (Key × V)} (hne : ∀ x, x ≠ a → A x = B x) (hA : A a = some (.frz od (.dK kvs))) : ∀ {l : List (D ω)} {vs : List V}, noObjL l = true → AtL K O A l vs → AtL K O B l vs
  | [], vs, _, h => by rw [atL_nil] at h ⊢; exact h
  | d :: l, vs, n, h => by
    obtain ⟨v, r, e, h1, h2⟩ := atL_cons.mp h
    simp only [noObjL, Bool.and_eq_true] at n
    exact atL_cons.mpr ⟨v, r, e, at_swap hne hA n.1 h1, atL_swap hne hA n.2 h2⟩
end
/-- a comprehension over a known dict: within, the dict stands locked -/
theorem ed_lock {t : TE} {d : D ω} {u : HO} (hm : G a = some u) (hu : Mut (some u)) (hk : ∃ kvs, u = .dK kvs) (n : noObj d = true) (h : ∀ od, EvD K O t σ (upd G a (.frz od u)) d) : EvD K O (tLockE t) σ G d := fun H1 e Q k => by
  obtain ⟨kvs, rfl⟩ := hk
  refine ⟨a, _, e a _ hm, hu, fun od => ?_⟩
  have e1 : Ex (upd G a (.frz od (.dK kvs))) (upd H1 a (.frz od (.dK kvs))) := fun x y q => by
    by_cases z : x = a
    · subst z; rw [upd_same] at q ⊢; exact q
    · rw [upd_ne z] at q ⊢; exact e x y q
  refine h od _ e1 _ fun v G2 H2 l av => ⟨l.h a _ upd_same, ?_⟩
  have hG2 : G2 a = some (.frz od (.dK kvs)) := l.g a _ upd_same
  have hH2 : H2 a = some (.frz od (.dK kvs)) := l.h a _ upd_same
  refine k v (upd G2 a (.dK kvs)) (upd H2 a (.dK kvs)) ⟨fun x y q => ?_, fun x y q => ?_, fun x y q => ?_, fun x hg hh => ?_, fun x ps q => ?_⟩ (at_swap (fun x z => by rw [upd_ne z]) hG2 n av)
  · by_cases z : x = a
    · subst z; rw [upd_same, ← q]; exact (e x _ hm).symm
    · rw [upd_ne z]; exact l.h x y (by rw [upd_ne z]; exact q)
  · by_cases z : x = a
    · subst z; rw [upd_same, ← q]; exact hm.symm
    · rw [upd_ne z]; exact l.g x y (by rw [upd_ne z]; exact q)
  · by_cases z : x = a
    · subst z; rw [upd_same] at q ⊢; exact q
    · rw [upd_ne z] at q ⊢; exact l.e x y q
  · by_cases z : x = a
    · subst z; rw [hm] at hg; cases hg
    · rw [upd_ne z]; exact l.f x (by rw [upd_ne z]; exact hg) (by rw [upd_ne z]; exact hh)
  · by_cases z : x = a
    · subst z; rw [upd_same] at q; cases q
    · rw [upd_ne z] at q
      have := l.t x ps q
      rwa [upd_ne z] at this
/-- its keys -/
theorem src_keys {od : Obj} (hd : Ev td σ G (.ref a)) (hm : G a = some (.frz od (.dK (kvI m)))) : Src K O (iKeys td) σ G (m.map fun q => D.int q.1) := fun H1 e R k =>
  hd H1 e _ fun H2 e2 => by
    refine ⟨a, od, rfl, Or.inl ⟨kvI m, e2 a _ (e a _ hm), ?_⟩⟩
    refine k (Itk a od (kvI m)) _ _ G H2 (Le.heap e e2) (by rw [show (m.map fun q => (D.int q.1 : D ω)).length = (kvI m).length by simp [kvI]]; exact walk_keys) (fun H x => x a _ hm) fun i Gi Hi x Hi' eg eh hi y => ?_
    obtain ⟨rfl, kk, vv, h1, rfl⟩ := y
    have hi' : i < m.length := by simpa using hi
    have e3 : (kvI m)[i]? = some (Sum.inl (m[i]).1, V.int (m[i]).2) := by simp [kvI, hi']
    rw [e3] at h1
    cases h1
    exact ⟨.int (m[i]).1, Gi, by simp [hi'], Le.refl eh, at_int.mpr rfl⟩
end
end SR
set_option maxRecDepth 100000
set_option maxHeartbeats 4000000
namespace SR
open PySem PySem.Spec PyProof.Rows L2 Evl
/-! ### sorted ints -/
def srt (l : List Int) : List Int := l.mergeSort fun a b => decide (a ≤ b)
theorem srt_perm {l : List Int} : (srt l).Perm l := List.mergeSort_perm l _
theorem srt_pair {l : List Int} : (srt l).Pairwise (· ≤ ·) := by
  have h := List.pairwise_mergeSort (le := fun a b : Int => decide (a ≤ b)) (fun a b c h1 h2 => decide_eq_true (Int.le_trans (of_decide_eq_true h1) (of_decide_eq_true h2))) (fun a b => by
    rcases Int.le_total a b with h | h
    · simp [h]
    · simp [h]) l
  exact h.imp fun h => of_decide_eq_true h
theorem srt_one {l m : List Int} (h : m.Perm l) (p : m.Pairwise (· ≤ ·)) : m = srt l := PySem.W.ksm_same (h.trans srt_perm.symm) p srt_pair
section
variable {ω : Type} {K : PySem.W.Frag} {O : OI ω} {G H : Hp} {te : TE} {σ : L2.St}
theorem ed_sorted {ns : List Int} (h : EvD K O te σ G (.lst (ns.map D.int))) : EvD K O (tCB (rSortedI K) (tCons te tNil)) σ G (.lst ((srt ns).map D.int)) := fun H1 e Q k =>
  h H1 e _ fun v G2 H2 l a => by
    obtain ⟨p, vs, rfl, hs, as⟩ := at_lst.mp a
    obtain rfl := AtL.ints' as
    refine ⟨p, ns, rfl, sq_of (l.e _ _ hs), fun ns' q hp hq hn => ?_⟩
    obtain rfl := srt_one hp hq
    exact k (.ref q) (upd G2 q _) _ (l.trans (Le.new l.e hn)) (at_lst.mpr ⟨q, _, rfl, upd_same, AtL.ints⟩)
end
/-! ### rows of two ints, their sums by the first -/
def rowD {ω : Type} (c : D ω) (q : Int × Int) : Prop := c = .lst [.int q.1, .int q.2] ∨ c = .tup [.int q.1, .int q.2]
def pairD {ω : Type} (q : Int × Int) : D ω := .tup [.int q.1, .int q.2]
inductive RowsL {ω : Type} : List (D ω) → List (Int × Int) → Prop where
  | nil : RowsL [] []
  | cons {c q l r} (h : rowD c q) (t : RowsL l r) : RowsL (c :: l) (q :: r)
def RowsD {ω : Type} (d : D ω) (rows : List (Int × Int)) : Prop := ∃ l, (d = .lst l ∨ d = .tup l) ∧ RowsL l rows
theorem RowsL.len {ω : Type} {l : List (D ω)} {r : List (Int × Int)} (h : RowsL l r) : l.length = r.length := by
  induction h with
  | nil => rfl
  | cons _ _ ih => simp [ih]
theorem RowsL.get {ω : Type} {l : List (D ω)} {r : List (Int × Int)} (h : RowsL l r) : ∀ {i : Nat} {c : D ω}, l[i]? = some c → ∃ q, r[i]? = some q ∧ rowD c q := by
  induction h with
  | nil => intro i c e; simp at e
  | cons h t ih =>
    intro i c e
    cases i with
    | zero =>
      have e' := Option.some.inj e
      subst e'
      exact ⟨_, rfl, h⟩
    | succ i => exact ih (i := i) (by simpa using e)
theorem RowsL.pairs {ω : Type} : ∀ {r : List (Int × Int)}, RowsL (ω := ω) (r.map pairD) r
  | [] => .nil
  | q :: r => .cons (Or.inr rfl) RowsL.pairs
def step (p : Int) (m : List (Int × Int)) (q : Int × Int) : List (Int × Int) := putI m q.1 (((getI m q.1).getD 0 + q.2).fmod p)
def sums (p : Int) (rows : List (Int × Int)) : List (Int × Int) := rows.foldl (step p) []
theorem sums_more {p : Int} {rows : List (Int × Int)} {i : Nat} {q : Int × Int} (h : rows[i]? = some q) : sums p (rows.take (i + 1)) = step p (sums p (rows.take i)) q := by
  unfold sums
  rw [take_snoc h, List.foldl_append]
  rfl
theorem sums_len {p : Int} : ∀ {rows m : List (Int × Int)}, (rows.foldl (step p) m).length ≤ m.length + rows.length
  | [], m => by simp
  | q :: r, m => by
    have h1 := sums_len (p := p) (rows := r) (m := step p m q)
    have h2 := len_put (m := m) (o := q.1) (c := ((getI m q.1).getD 0 + q.2).fmod p)
    rw [List.foldl_cons, List.length_cons]
    unfold step at h1
    unfold step
    omega
theorem sums_nd {p : Int} : ∀ {rows m : List (Int × Int)}, (m.map (·.1)).Nodup → ((rows.foldl (step p) m).map (·.1)).Nodup
  | [], m, h => h
  | q :: r, m, h => sums_nd (rows := r) (m := step p m q) (nd_put h)
def coef (p : Int) (rows : List (Int × Int)) (o : Int) : Int := (getI (sums p rows) o).getD 0
def coll (p : Int) (rows : List (Int × Int)) : List (Int × Int) := ((srt ((sums p rows).map (·.1))).filter fun o => coef p rows o != 0).map fun o => (o, coef p rows o)
/-- the coefficient: the sum of the second ones at the place, modulo p -/
def tot (rows : List (Int × Int)) (o : Int) : Int := (rows.filter fun q => q.1 == o).foldl (fun s q => s + q.2) 0
theorem et_yes {σ : L2.St} {G : Hp} : EvT tYes σ G true := fun H1 _ Q q => q H1 (Ex.refl H1)
theorem noObj_ints {ω : Type} : ∀ {l : List Int}, noObjL (ω := ω) (l.map D.int) = true
  | [] => rfl
  | n :: r => by
    show (noObj (D.int n : D ω) && noObjL (r.map D.int)) = true
    rw [noObj_ints]
    rfl
theorem ev_int1 {te : TE} {σ : L2.St} {G : Hp} {i : Int} (h : Ev te σ G (.int i)) : Ev (tCB (fun xs H Q => (∃ i, xs = [V.int i] ∧ Q (.int i) H) ∨ ∃ k, xs = [V.bl k] ∧ Q (.int (if k then 1 else 0)) H) (tCons te tNil)) σ G (.int i) := fun H1 e Q q =>
  h H1 e _ fun H2 e2 => Or.inl ⟨i, rfl, q H2 e2⟩
theorem et_truI {te : TE} {K : PySem.W.Frag} {σ : L2.St} {G : Hp} {i : Int} (h : Ev te σ G (.int i)) : EvT (fun σ H Q => te σ H fun x H' => ∃ k, TruV K x H' k ∧ Q k H') σ G (i != 0) := fun H1 e Q q => h H1 e _ fun H2 e2 => ⟨i != 0, rfl, q H2 e2⟩
end SR
set_option maxRecDepth 100000
set_option maxHeartbeats 4000000
/-! The rules whose readings name the written part, with that part told: for a comprehension's block. -/
namespace SR
open PySem PySem.Spec PyProof.Rows L2 Evl
def tTruK (K : PySem.W.Frag) (ta : TE) : TT := fun σ H Q => ta σ H fun x H' => ∃ k, TruV K x H' k ∧ Q k H'
section
variable {X : Cx} {a b e : Expr} {es : List Expr} {ta tb : TE} {t : TA} {tg : TGs} {pos p : Pos} {n k : Nat} {x : Str} {f : Str}
theorem pt_truK (K : PySem.W.Frag) (ha : PE X a ta) (he : ∀ whole, isTrue a X.env whole = (do let v ← whole; standAt a.pos; holding [v] (truthy v))) (hK : X.K = K := by rfl) : PT X a (tTruK K ta) := by
  subst hK
  exact pt_truth ha he
theorem pe_ixK (K : PySem.W.Frag) (ha : PE X a ta) (hb : PE X b tb) (hs : PlainIx b) (hK : X.K = K := by rfl) : PE X (.Subscript a b pos) (tOp (fun x y H Q => rIxL K x y H Q ∨ rIxT K x y H Q) ta tb) := by
  subst hK
  exact pe_ix (IxR.or ix_list ix_tup) ha hb hs
theorem pe_ixLK (K : PySem.W.Frag) (ha : PE X a ta) (hb : PE X b tb) (hs : PlainIx b) (hK : X.K = K := by rfl) : PE X (.Subscript a b pos) (tOp (rIxL K) ta tb) := by
  subst hK
  exact pe_ix ix_list ha hb hs
theorem pe_ixTK (K : PySem.W.Frag) (ha : PE X a ta) (hb : PE X b tb) (hs : PlainIx b) (hK : X.K = K := by rfl) : PE X (.Subscript a b pos) (tOp (rIxT K) ta tb) := by
  subst hK
  exact pe_ix ix_tup ha hb hs
theorem pg_tupK (K : PySem.W.Frag) (hc : X.calm = true) (h : PGs X es tg) (hn : (assignEach es X.env).length = k := by rfl) (hst : (assignEach es X.env).findIdx? (·.1) = none := by rfl) (hK : X.K = K := by rfl) : PG X (.Tuple es n pos) (gTup K k tg) := by
  subst hK
  exact pg_tup hc h hn hst
theorem pe_fldK (K : PySem.W.Frag) (he : PE X e ta) (hb : attributeBase e f X.env (eval e X.env) = eval e X.env := by rfl) (hK : X.K = K := by rfl) : PE X (.Attribute e f pos) (tFld K ta f) := by
  subst hK
  exact pe_fld he hb
theorem cr_allK (K : PySem.W.Frag) (hc : X.calm = true) (hK : X.K = K := by rfl) : CallR X (.builtin "all") (rAll K) := by
  subst hK
  exact cr_all hc
theorem cr_anyK (K : PySem.W.Frag) (hc : X.calm = true) (hK : X.K = K := by rfl) : CallR X (.builtin "any") (rAny K) := by
  subst hK
  exact cr_any hc
theorem call_lenK (K : PySem.W.Frag) (hK : X.K = K := by rfl) : CallR X (.builtin "len") (fun xs H Q => ∃ p ys, xs = [V.ref p] ∧ (SqL K H p ys ∨ SqT K H p ys) ∧ Q (.int ys.length) H) := by
  subst hK
  exact call_len_seq
theorem call_isiK' (K : PySem.W.Frag) (hK : X.K = K := by rfl) : CallR X (.builtin "isinstance") (rIsi K) := by
  subst hK
  exact call_isi
theorem call_isiTK (K : PySem.W.Frag) (hK : X.K = K := by rfl) : CallR X (.builtin "isinstance") (rIsiT K) := by
  subst hK
  exact call_isiT
end
end SR
set_option maxRecDepth 100000
set_option maxHeartbeats 4000000
namespace SR
open PySem PySem.Spec PyProof.Rows L2 Evl
theorem putI_new {a : List (Int × Int)} {o c : Int} (h : o ∉ a.map (·.1)) : putI a o c = a ++ [(o, c)] := by
  unfold putI
  rw [if_neg (fun z => h (any_keys.mp z))]
theorem mergeK_kvI : ∀ {b a : List (Int × Int)}, ((a ++ b).map (·.1)).Nodup → mergeK (kvI a) (kvI b) = kvI (a ++ b)
  | [], a, _ => by rw [List.append_nil]; rfl
  | q :: r, a, h => by
    have hn : q.1 ∉ a.map (·.1) := by
      rw [List.map_append, List.map_cons, List.nodup_append] at h
      intro z
      exact h.2.2 q.1 z q.1 (List.mem_cons_self ..) rfl
    show mergeK (putK (kvI a) (Sum.inl q.1) (V.int q.2)) (kvI r) = kvI (a ++ q :: r)
    rw [putK_kvI, putI_new hn]
    have e : a ++ q :: r = (a ++ [q]) ++ r := by simp
    rw [e]
    exact mergeK_kvI (by rw [← e]; exact h)
theorem nd_map_fst {l : List Int} {f : Int → Int} : ((l.map fun o => (o, f o)).map (·.1)) = l := by
  rw [List.map_map]
  exact List.map_id' l
theorem coll_nd {p : Int} {rows : List (Int × Int)} : ((coll p rows).map (·.1)).Nodup := by
  unfold coll
  rw [nd_map_fst]
  exact (srt_perm.nodup_iff.mpr (sums_nd (rows := rows) (m := []) List.nodup_nil)).filter _
theorem coll_len {p : Int} {rows : List (Int × Int)} : (coll p rows).length ≤ rows.length := by
  unfold coll
  rw [List.length_map]
  refine Nat.le_trans (List.length_filter_le ..) ?_
  rw [srt_perm.length_eq, List.length_map]
  have h5 := sums_len (p := p) (rows := rows) (m := [])
  simp only [List.length_nil] at h5
  unfold sums
  omega
/-! ### what a Filter holds -/
structure FilS where
  p : Int
  ps : List (Int × Int)
def flds (p : Int) (tp kd : Addr) : List (Str × V) := [("prime", .int p), ("pairs", .ref tp), ("coefficients", .ref kd)]
abbrev TsAt (K : PySem.W.Frag) (H : Hp) (ts : List Addr) (ps : List (Int × Int)) : Prop := Paired (fun t q => SqT K H t [.int q.1, .int q.2]) ts ps
def FilAt (K : PySem.W.Frag) (C : Addr) (H : Hp) (a : Addr) (w : FilS) : Prop := ∃ dx tp o ts kd, H a = some (.ins C dx (flds w.p tp kd)) ∧ o.dict = none ∧ H tp = some (.frz o (.tup (ts.map V.ref))) ∧ TsAt K H ts w.ps ∧ H kd = some (.dK (kvI w.ps))
theorem TsAt.mono {K : PySem.W.Frag} {H H' : Hp} (e : Ex H H') {ts : List Addr} {ps : List (Int × Int)} (h : TsAt K H ts ps) : TsAt K H' ts ps := Paired.mapP h fun _ _ q => ex_t e q
def FilO (K : PySem.W.Frag) (C : Addr) : OI FilS where
  at_ := FilAt K C
  mono := fun e ⟨dx, tp, o, ts, kd, h1, h2, h3, h4, h5⟩ => ⟨dx, tp, o, ts, kd, e _ _ h1, h2, e _ _ h3, h4.mono e, e _ _ h5⟩
theorem atL_pairs {ω : Type} {K : PySem.W.Frag} {O : OI ω} {H : Hp} : ∀ {ts : List Addr} {ps : List (Int × Int)}, TsAt K H ts ps → AtL K O H (ps.map pairD) (ts.map V.ref)
  | _, _, .nil => atL_nil.mpr rfl
  | _, _, .cons h t => atL_cons.mpr ⟨_, _, rfl, at_tup.mpr ⟨_, _, rfl, h, atL_cons.mpr ⟨_, _, rfl, at_int.mpr rfl, atL_cons.mpr ⟨_, _, rfl, at_int.mpr rfl, atL_nil.mpr rfl⟩⟩⟩, atL_pairs t⟩
theorem pairs_atL {ω : Type} {K : PySem.W.Frag} {O : OI ω} {H : Hp} : ∀ {ps : List (Int × Int)} {vs : List V}, AtL K O H (ps.map pairD) vs → ∃ ts : List Addr, vs = ts.map V.ref ∧ TsAt K H ts ps
  | [], vs, h => ⟨[], by rw [atL_nil.mp h]; rfl, .nil⟩
  | q :: r, vs, h => by
    obtain ⟨v, w, rfl, h1, h2⟩ := atL_cons.mp h
    obtain ⟨t, us, rfl, hs, as⟩ := at_tup.mp h1
    obtain ⟨x1, r1, rfl, a1, n1⟩ := atL_cons.mp as
    obtain ⟨x2, r2, rfl, a2, n2⟩ := atL_cons.mp n1
    obtain rfl := atL_nil.mp n2
    obtain rfl := at_int.mp a1
    obtain rfl := at_int.mp a2
    obtain ⟨ts, rfl, ht⟩ := pairs_atL h2
    exact ⟨t :: ts, rfl, .cons hs ht⟩
/-- the class as the top has made it, for its fields -/
structure FilC (K : PySem.W.Frag) (C : Addr) : Prop where
  cl : Cls K C
  n1 : NoAttr K C "prime"
  n2 : NoAttr K C "pairs"
  n3 : NoAttr K C "coefficients"
theorem lk1 {p : Int} {tp kd : Addr} : (flds p tp kd).lookup ("prime" : Str) = some (.int p) := by
  unfold flds
  simp [List.lookup]
theorem lk2 {p : Int} {tp kd : Addr} : (flds p tp kd).lookup ("pairs" : Str) = some (.ref tp) := by
  unfold flds
  have h : (("pairs" : Str) == "prime") = false := by decide +kernel
  simp [List.lookup, h]
theorem lk3 {p : Int} {tp kd : Addr} : (flds p tp kd).lookup ("coefficients" : Str) = some (.ref kd) := by
  unfold flds
  have h : (("coefficients" : Str) == "prime") = false := by decide +kernel
  have h2 : (("coefficients" : Str) == "pairs") = false := by decide +kernel
  simp [List.lookup, h, h2]
theorem lkN {p : Int} {tp kd : Addr} {m : Str} (h1 : (m == "prime") = false) (h2 : (m == "pairs") = false) (h3 : (m == "coefficients") = false) : (flds p tp kd).lookup m = none := by
  unfold flds
  simp [List.lookup, h1, h2, h3]
section
variable {K : PySem.W.Frag} {C : Addr} {G H : Hp} {te ta : TE} {σ : L2.St} {w : FilS}
theorem ev_prime (c : FilC K C) (h : EvD K (FilO K C) te σ G (.obj w)) : Ev (tFld K te "prime") σ G (.int w.p) := fun H1 e Q q =>
  h H1 e _ fun v G2 H2 l a => by
    obtain ⟨x, rfl, dx, tp, o, ts, kd, h1, h2, h3, h4, h5⟩ := at_obj.mp a
    exact ⟨x, C, dx, _, _, rfl, l.e _ _ h1, c.cl, c.n1, lk1, q H2 l.h⟩
/-- self.pairs: the tuple -/
theorem ed_pairs (c : FilC K C) (h : EvD K (FilO K C) te σ G (.obj w)) : EvD K (FilO K C) (tFld K te "pairs") σ G (.tup (w.ps.map pairD)) := fun H1 e Q k =>
  h H1 e _ fun v G2 H2 l a => by
    obtain ⟨x, rfl, dx, tp, o, ts, kd, h1, h2, h3, h4, h5⟩ := at_obj.mp a
    exact ⟨x, C, dx, _, _, rfl, l.e _ _ h1, c.cl, c.n2, lk2, k _ G2 H2 l (at_tup.mpr ⟨tp, _, rfl, Or.inl (Or.inr ⟨o, h3⟩), atL_pairs h4⟩)⟩
theorem ed_coefs (c : FilC K C) (h : EvD K (FilO K C) te σ G (.obj w)) : EvD K (FilO K C) (tFld K te "coefficients") σ G (.dic w.ps) := fun H1 e Q k =>
  h H1 e _ fun v G2 H2 l a => by
    obtain ⟨x, rfl, dx, tp, o, ts, kd, h1, h2, h3, h4, h5⟩ := at_obj.mp a
    exact ⟨x, C, dx, _, _, rfl, l.e _ _ h1, c.cl, c.n3, lk3, k _ G2 H2 l (at_dic.mpr ⟨kd, rfl, h5⟩)⟩
end
end SR
set_option maxRecDepth 100000
set_option maxHeartbeats 4000000
namespace SR
open PySem PySem.Spec PyProof.Rows L2 Evl
/-! ### == of plain data -/
mutual
def toP {ω : Type} : D ω → PyData
  | .non => .none | .bl b => .bool b | .int i => .int i | .str x => .str x
  | .lst l => .list (toPL l) | .tup l => .tuple (toPL l) | .dic _ => .none | .obj _ => .none
def toPL {ω : Type} : List (D ω) → List PyData
  | [] => []
  | d :: l => toP d :: toPL l
end
section
variable {ω : Type} {K : PySem.W.Frag} {O : OI ω} {H : Hp}
mutual
theorem dp_of : ∀ {d : D ω} {v : V}, noObj d = true → At K O H d v → Dp K H v (toP d)
  | .non, v, _, h => by rw [at_non.mp h]; exact .non
  | .bl b, v, _, h => by rw [at_bl.mp h]; exact .bl b
  | .int i, v, _, h => by rw [at_int.mp h]; exact .int i
  | .str x, v, _, h => by rw [at_str.mp h]; exact .str x
  | .lst l, v, n, h => by
    obtain ⟨a, vs, rfl, hs, as⟩ := at_lst.mp h
    exact .lst (sq_of hs) (dpl_of (by simpa only [noObj] using n) as)
  | .tup l, v, n, h => by
    obtain ⟨a, vs, rfl, hs, as⟩ := at_tup.mp h
    exact .tup hs (dpl_of (by simpa only [noObj] using n) as)
  | .dic m, v, n, h => by simp only [noObj] at n; cases n
  | .obj w, v, n, h => by simp only [noObj] at n; cases n
theorem dpl_of : ∀ {l : List (D ω)} {vs : List V}, noObjL l = true → AtL K O H l vs → DpAll K H vs (toPL l)
  | [], vs, _, h => by rw [atL_nil.mp h]; exact .nil
  | d :: l, vs, n, h => by
    obtain ⟨v, r, rfl, h1, h2⟩ := atL_cons.mp h
    simp only [noObjL, Bool.and_eq_true] at n
    exact .cons (dp_of n.1 h1) (dpl_of n.2 h2)
end
end
theorem ev_eqD {ω : Type} {K : PySem.W.Frag} {O : OI ω} {G : Hp} {ta tb : TE} {σ : L2.St} {d e : D ω} {b : Bool} (h1 : EvD K O ta σ G d) (h2 : EvD K O tb σ G e) (n1 : noObj d = true) (n2 : noObj e = true) (s1 : SeqAt.shaped (toP d) = true) (s2 : SeqAt.shaped (toP e) = true) (hb : PyData.eqv (toP d) (toP e) = b) :
    Ev (tOp (rEqD K) ta tb) σ G (.bl b) := fun H1 e1 Q q =>
  h1 H1 e1 _ fun v G2 H2 l a => h2 H2 (e1.trans l.h) _ fun u G3 H3 l3 a3 => ⟨toP d, toP e, dp_of n1 ((a.mono l.e).mono l3.h), dp_of n2 (a3.mono l3.e), s1, s2, by rw [hb]; exact q H3 (l.h.trans l3.h)⟩
theorem ev_neD {ω : Type} {K : PySem.W.Frag} {O : OI ω} {G : Hp} {ta tb : TE} {σ : L2.St} {d e : D ω} {b : Bool} (h1 : EvD K O ta σ G d) (h2 : EvD K O tb σ G e) (n1 : noObj d = true) (n2 : noObj e = true) (s1 : SeqAt.shaped (toP d) = true) (s2 : SeqAt.shaped (toP e) = true) (hb : PyData.eqv (toP d) (toP e) = b) :
    Ev (tOp (rNeD K) ta tb) σ G (.bl (!b)) := fun H1 e1 Q q =>
  h1 H1 e1 _ fun v G2 H2 l a => h2 H2 (e1.trans l.h) _ fun u G3 H3 l3 a3 => ⟨toP d, toP e, dp_of n1 ((a.mono l.e).mono l3.h), dp_of n2 (a3.mono l3.e), s1, s2, by rw [hb]; exact q H3 (l.h.trans l3.h)⟩
/-! ### lists of pairs of ints -/
theorem noObj_pairs {ω : Type} : ∀ {ps : List (Int × Int)}, noObjL (ω := ω) (ps.map pairD) = true
  | [] => rfl
  | q :: r => by
    show (noObj (pairD q : D ω) && noObjL (r.map pairD)) = true
    rw [noObj_pairs]
    rfl
theorem lay_pairs {ω : Type} : ∀ {ps : List (Int × Int)}, PyData.canLayAll0 (toPL (ω := ω) (ps.map pairD)) = true ∧ PyData.depthAll (toPL (ω := ω) (ps.map pairD)) ≤ 1
  | [] => ⟨rfl, Nat.zero_le _⟩
  | q :: r => by
    have ih := lay_pairs (ω := ω) (ps := r)
    refine ⟨?_, ?_⟩
    · show (PyData.canLay0 (toP (pairD q : D ω)) && PyData.canLayAll0 (toPL (r.map pairD))) = true
      rw [ih.1]
      rfl
    · show max (PyData.depth (toP (pairD q : D ω))) (PyData.depthAll (toPL (r.map pairD))) ≤ 1
      have h1 : PyData.depth (toP (pairD q : D ω)) = 1 := rfl
      rw [h1]
      have := ih.2
      omega
theorem shaped_tup {ω : Type} {ps : List (Int × Int)} : SeqAt.shaped (toP (D.tup (ω := ω) (ps.map pairD))) = true := by
  have h := lay_pairs (ω := ω) (ps := ps)
  show (PyData.canLayAll0 (toPL (ps.map pairD)) && decide (PyData.depthAll (toPL (ω := ω) (ps.map pairD)) + 1 ≤ 64)) = true
  rw [h.1, decide_eq_true (by have := h.2; omega)]
  rfl
theorem shaped_lst {ω : Type} {ps : List (Int × Int)} : SeqAt.shaped (toP (D.lst (ω := ω) (ps.map pairD))) = true := by
  have h := lay_pairs (ω := ω) (ps := ps)
  show (PyData.canLayAll0 (toPL (ps.map pairD)) && decide (PyData.depthAll (toPL (ω := ω) (ps.map pairD)) + 1 ≤ 64)) = true
  rw [h.1, decide_eq_true (by have := h.2; omega)]
  rfl
theorem eqv_pairs {ω : Type} : ∀ {ps qs : List (Int × Int)}, PyData.eqvAll (toPL (ω := ω) (ps.map pairD)) (toPL (ω := ω) (qs.map pairD)) = decide (ps = qs)
  | [], [] => rfl
  | [], q :: s => rfl
  | p :: r, [] => rfl
  | p :: r, q :: s => by
    have ih := eqv_pairs (ω := ω) (ps := r) (qs := s)
    show (PyData.eqv (toP (pairD p : D ω)) (toP (pairD q : D ω)) && PyData.eqvAll (toPL (r.map pairD)) (toPL (s.map pairD))) = decide (p :: r = q :: s)
    rw [ih]
    have h1 : PyData.eqv (toP (pairD p : D ω)) (toP (pairD q : D ω)) = decide (p = q) := by
      show ((p.1 == q.1) && ((p.2 == q.2) && true)) = decide (p = q)
      obtain ⟨a, b⟩ := p
      obtain ⟨c, d⟩ := q
      by_cases h : a = c <;> by_cases h' : b = d <;> simp [h, h']
    rw [h1]
    by_cases h : p = q <;> by_cases h' : r = s <;> simp [h, h']
/-! ### list(t), bool(t), tests of a tuple -/
section
variable {ω : Type} {K : PySem.W.Frag} {O : OI ω} {G : Hp} {te : TE} {σ : L2.St} {l : List (D ω)}
abbrev rListOf (K : PySem.W.Frag) : List V → Hp → VK → Prop := fun xs H Q => ∃ p ys, xs = [V.ref p] ∧ (SqL K H p ys ∨ SqT K H p ys) ∧ ∀ l, H l = none → Q (.ref l) (upd H l (.lst ys))
theorem ed_listT (h : EvD K O te σ G (.tup l)) : EvD K O (tCB (rListOf K) (tCons te tNil)) σ G (.lst l) := fun H1 e Q k =>
  h H1 e _ fun v G2 H2 le a => by
    obtain ⟨p, vs, rfl, hs, as⟩ := at_tup.mp a
    exact ⟨p, vs, rfl, Or.inr (ex_t le.e hs), fun q hq => k _ (upd G2 q (.lst vs)) _ (le.trans (Le.new le.e hq)) (at_lst.mpr ⟨q, vs, rfl, upd_same, as.mono (Ex.new (none_of_ex le.e hq))⟩)⟩
theorem ed_listL (h : EvD K O te σ G (.lst l)) : EvD K O (tCB (rListOf K) (tCons te tNil)) σ G (.lst l) := fun H1 e Q k =>
  h H1 e _ fun v G2 H2 le a => by
    obtain ⟨p, vs, rfl, hs, as⟩ := at_lst.mp a
    exact ⟨p, vs, rfl, Or.inl (sq_of (le.e _ _ hs)), fun q hq => k _ (upd G2 q (.lst vs)) _ (le.trans (Le.new le.e hq)) (at_lst.mpr ⟨q, vs, rfl, upd_same, as.mono (Ex.new (none_of_ex le.e hq))⟩)⟩
theorem et_truT (h : EvD K O te σ G (.tup l)) : EvT (tTruK K te) σ G (!l.isEmpty) := fun H1 e Q q =>
  h H1 e _ fun v G2 H2 le a => by
    obtain ⟨p, vs, rfl, hs, as⟩ := at_tup.mp a
    refine ⟨!l.isEmpty, Or.inr (Or.inl ⟨vs, ex_t le.e hs, ?_⟩), q H2 le.h⟩
    have h1 := as.len
    cases vs <;> cases l <;> first | rfl | simp at h1
theorem et_truL (h : EvD K O te σ G (.lst l)) : EvT (tTruK K te) σ G (!l.isEmpty) := fun H1 e Q q =>
  h H1 e _ fun v G2 H2 le a => by
    obtain ⟨p, vs, rfl, hs, as⟩ := at_lst.mp a
    refine ⟨!l.isEmpty, Or.inl ⟨vs, sq_of (le.e _ _ hs), ?_⟩, q H2 le.h⟩
    have h1 := as.len
    cases vs <;> cases l <;> first | rfl | simp at h1
end
section
variable {X : Cx}
def rBoolT (K : PySem.W.Frag) : List V → Hp → VK → Prop := fun xs H Q => ∃ (a : Addr) (zs : List V), xs = [.ref a] ∧ SqT K H a zs ∧ Q (.bl (!zs.isEmpty)) H
theorem call_boolT (K : PySem.W.Frag) (hK : X.K = K := by rfl) : CallR X (.type "bool") (rBoolT K) := by
  subst hK
  intro pins s σ H xs us Q I r h
  obtain ⟨a, zs, rfl, hq, q⟩ := h
  obtain rfl := Vals.ref1 r
  obtain ⟨its, rv, pl, hz⟩ := I.tuple hq
  have hl := line63
  have hlen := rv.length
  refine bool_of (truthy_tuple pl (by simp only [List.size_toArray]; omega) ?_)
  exact ⟨.bl (!zs.isEmpty), H, I.tok _, by rw [isEmpty_of rv]; rfl, q⟩
end
theorem ev_boolT {ω : Type} {K : PySem.W.Frag} {O : OI ω} {G : Hp} {te : TE} {σ : L2.St} {l : List (D ω)} (h : EvD K O te σ G (.tup l)) : Ev (tCB (rBoolT K) (tCons te tNil)) σ G (.bl (!l.isEmpty)) := fun H1 e Q q =>
  h H1 e _ fun v G2 H2 le a => by
    obtain ⟨p, vs, rfl, hs, as⟩ := at_tup.mp a
    refine ⟨p, vs, rfl, ex_t le.e hs, ?_⟩
    have h1 := as.len
    have e2 : (!vs.isEmpty) = !l.isEmpty := by cases vs <;> cases l <;> first | rfl | simp at h1
    rw [e2]
    exact q H2 le.h
end SR
set_option maxRecDepth 100000
set_option maxHeartbeats 4000000
namespace SR
open PySem PySem.Spec PyProof.Rows L2 Evl
section
variable {K : PySem.W.Frag} {C : Addr} {G H : Hp} {te ta tb ti : TE} {σ : L2.St} {w : FilS} {t : TA}
/-- f.m(..), m no field -/
theorem ed_meth {R : List (D FilS) → D FilS → Prop} {m : Str} {ds : List (D FilS)} {d : D FilS} {E : XK} (ho : EvD K (FilO K C) te σ G (.obj w)) (ha : EvDA K (FilO K C) t σ G ds) (r : R (.obj w :: ds) d)
    (h1 : (m == "prime") = false := by decide +kernel) (h2 : (m == "pairs") = false := by decide +kernel) (h3 : (m == "coefficients") = false := by decide +kernel) : EvD K (FilO K C) (tMeth C m (SpD K (FilO K C) R) [] E te t) σ G d := fun H1 e Q k =>
  ho H1 e _ fun v G2 H2 l a => by
    obtain ⟨x, rfl, dx, tp, o, ts, kd, g1, g2, g3, g4, g5⟩ := at_obj.mp a
    refine ⟨x, dx, _, rfl, l.e _ _ g1, lkN h1 h2 h3, ha H2 ((e.trans l.h)) _ fun vs G3 H3 l3 as => ?_⟩
    have e2 : Ex G2 H3 := l.e.trans l3.h
    have e3 : Ex G2 (hun G3 G2) := hun_r l3.e e2
    refine ⟨hun G3 G2, .obj w :: ds, d, hun_ex l3.e e2, ?_, r, fun u G4 H4 l4 b => k u G4 H4 ⟨(l.h.trans l3.h).trans l4.h, (l.g.trans e3).trans l4.g, l4.e, fun y hg hh => ?_, fun y ps q => hun_t l3.t l.t y ps (l4.t y ps q)⟩ b⟩
    · rw [List.append_nil]
      exact atL_cons.mpr ⟨_, _, rfl, a.mono e3, as.mono hun_l⟩
    · have n2 := l.f y hg hh
      have h2' : H2 y ≠ none := fun z => hh (fresh_back l.h z)
      have h3' : H3 y ≠ none := fun z => h2' (fresh_back l3.h z)
      refine l4.f y ?_ h3'
      unfold hun
      rw [l3.f y hg h2']
      exact n2
theorem ed_lastT {ω : Type} {O : OI ω} {ds : List (D ω)} {c : D ω} (h : EvD K O te σ G (.tup ds)) (hi : Ev ti σ G (.int (-1))) (hc : ds[ds.length - 1]? = some c) : EvD K O (tOp (rIxT K) te ti) σ G c := fun H1 e Q k =>
  h H1 e _ fun v G2 H2 l a => hi H2 (e.trans l.h) _ fun H3 e3 => by
    obtain ⟨p, vs, rfl, hs, as⟩ := at_tup.mp a
    obtain ⟨x, hx, ax⟩ := as.get' hc
    have hl := as.len
    have hpos : 0 < ds.length := by
      have := (List.getElem?_eq_some_iff.mp hc).1
      omega
    refine ⟨p, vs, _, x, rfl, rfl, ex_t (l.e.trans e3) hs, ?_, k x G2 H3 (l.trans (Le.heap l.e e3)) ax⟩
    unfold atI ixN
    rw [if_neg (by decide), if_pos (by omega)]
    rw [← hl] at hx
    have e5 : ((-1 : Int) + (vs.length : Int)).toNat = vs.length - 1 := by omega
    show vs[((-1 : Int) + (vs.length : Int)).toNat]? = some x
    rw [e5]
    exact hx
theorem ev_neg1 : Ev (tUn (rU fun i => .int (-i)) (tC (.int 1))) σ G (.int (-1)) := ev_un ev_c ru_neg
end
section
variable {ω : Type} {K : PySem.W.Frag} {O : OI ω} {G : Hp} {td ty tx : TE} {σ : L2.St} {m : List (Int × Int)} {o z c : Int}
theorem ev_dget2D (h : EvD K O td σ G (.dic m)) (hy : Ev ty σ G (.int o)) (hx : Ev tx σ G (.int z)) : Ev (tDGet2 td ty tx) σ G (.int ((getI m o).getD z)) := fun H1 e Q q =>
  h H1 e _ fun v G2 H2 l a => by
    obtain ⟨d, rfl, hd⟩ := at_dic.mp a
    refine ⟨d, rfl, Or.inl ⟨kvI m, Or.inl (l.e _ _ hd)⟩, hy H2 (e.trans l.h) _ fun H3 e3 => hx H3 ((e.trans l.h).trans e3) _ fun H4 e4 => ⟨_, DGet.k (k := Sum.inl o) ((l.e.trans e3).trans e4 d _ hd), ?_⟩⟩
    rw [valV_kvI]
    have q' := q H4 ((l.h.trans e3).trans e4)
    cases hg : getI m o with
    | none => rw [hg] at q'; exact q'
    | some x => rw [hg] at q'; exact q'
theorem ev_dgetD (h : EvD K O td σ G (.dic m)) (hy : Ev ty σ G (.int o)) (hc : getI m o = some c) : Ev (tDGet td ty) σ G (.int c) := fun H1 e Q q =>
  h H1 e _ fun v G2 H2 l a => by
    obtain ⟨d, rfl, hd⟩ := at_dic.mp a
    refine hy H2 (e.trans l.h) _ fun H3 e3 => ⟨d, .int c, rfl, ?_, q H3 (l.h.trans e3)⟩
    have h1 := DGet.k (k := Sum.inl o) ((l.e.trans e3) d _ hd)
    rw [valV_kvI, hc] at h1
    exact h1
end
end SR
set_option maxRecDepth 100000
set_option maxHeartbeats 4000000
/-! The source of drawn numbers: a list that the law's helpers change; what stands beside it stays. -/
namespace SR
open PySem PySem.Spec PyProof.Rows L2 Evl
/-- from (G, H) to (G', H'), s and q may change -/
structure LeX (s q : Addr) (G H G' H' : Hp) : Prop where
  h : ∀ a o, a ≠ s → a ≠ q → H a = some o → H' a = some o
  g : Ex G G'
  e : Ex G' H'
  f : ∀ a, G a = none → H a ≠ none → G' a = none
  k : ∀ a, H a ≠ none → H' a ≠ none
  t : ∀ a ps, G' a = some (.tbl ps) → G a = some (.tbl ps)
section
variable {s q : Addr} {G H G1 H1 G2 H2 : Hp}
theorem Le.x (l : Le G H G1 H1) : LeX s q G H G1 H1 := ⟨fun a o _ _ e => l.h a o e, l.g, l.e, l.f, fun a h z => h (fresh_back l.h z), l.t⟩
theorem LeX.trans (a : LeX s q G H G1 H1) (b : LeX s q G1 H1 G2 H2) : LeX s q G H G2 H2 := ⟨fun x o n m e => b.h x o n m (a.h x o n m e), a.g.trans b.g, b.e, fun x hg hh => b.f x (a.f x hg hh) (a.k x hh), fun x h => b.k x (a.k x h), fun x ps h => a.t x ps (b.t x ps h)⟩
theorem LeX.refl (e : Ex G H) : LeX s q G H G H := (Le.refl e).x
theorem LeX.mutS (l : LeX s q G H G1 H1) {o : HO} (hg : G1 s = none) : LeX s q G H G1 (upd H1 s o) where
  h := fun a u n m e => by rw [upd_ne n]; exact l.h a u n m e
  g := l.g
  e := fun a u e => by rw [upd_ne (ne_of_none e hg)]; exact l.e a u e
  f := l.f
  t := l.t
  k := fun a h => by
    by_cases z : a = s
    · subst z; rw [upd_same]; exact fun z => nomatch z
    · rw [upd_ne z]; exact l.k a h
theorem LeX.mutQ (l : LeX s q G H G1 H1) {o : HO} (hg : G1 q = none) : LeX s q G H G1 (upd H1 q o) where
  h := fun a u n m e => by rw [upd_ne m]; exact l.h a u n m e
  g := l.g
  e := fun a u e => by rw [upd_ne (ne_of_none e hg)]; exact l.e a u e
  f := l.f
  t := l.t
  k := fun a h => by
    by_cases z : a = q
    · subst z; rw [upd_same]; exact fun z => nomatch z
    · rw [upd_ne z]; exact l.k a h
theorem LeX.gnone (l : LeX s q G H G1 H1) {p : Addr} (hg : G p = none) (hh : H p ≠ none) : G1 p = none := l.f p hg hh
theorem LeX.back (l : LeX s q G H G1 H1) {p : Addr} (h : H1 p = none) : H p = none := by
  cases e : H p with
  | none => rfl
  | some o => exact absurd h (l.k p (by rw [e]; exact fun z => nomatch z))
/-- an object filled since -/
theorem LeX.mut (l : LeX s q G H G1 H1) {p : Addr} {o : HO} (h : H p = none) (hg : G1 p = none) : LeX s q G H G1 (upd H1 p o) where
  h := fun a u n m e => by rw [upd_ne (ne_of_none e h)]; exact l.h a u n m e
  g := l.g
  e := fun a u e => by rw [upd_ne (ne_of_none e hg)]; exact l.e a u e
  f := l.f
  t := l.t
  k := fun a h' => by
    by_cases z : a = p
    · subst z; rw [upd_same]; exact fun z => nomatch z
    · rw [upd_ne z]; exact l.k a h'
theorem LeX.fix (e : Ex G H) (l : LeX s q G H G1 H1) {p : Addr} {o : HO} (h : H p = none) (h1 : H1 p = some o) (ht : NoTb o := by intro _ z; cases z) : LeX s q G H (upd G1 p o) H1 where
  h := l.h
  g := fun a u r => by
    by_cases z : a = p
    · subst z; rw [none_of_ex e h] at r; cases r
    · rw [upd_ne z]; exact l.g a u r
  e := fun a u r => by
    by_cases z : a = p
    · subst z; rw [upd_same] at r; rw [h1]; exact r
    · rw [upd_ne z] at r; exact l.e a u r
  f := fun a hg hh => by
    by_cases z : a = p
    · subst z; exact absurd h hh
    · rw [upd_ne z]; exact l.f a hg hh
  k := l.k
  t := fun a ps r => by
    by_cases z : a = p
    · subst z; rw [upd_same] at r; exact absurd (Option.some.inj r) (ht ps)
    · rw [upd_ne z] at r; exact l.t a ps r
end
/-- what the source holds: its cells at q, a rest, at most n draws done, a seed -/
structure Spr (H : Hp) (s q : Addr) (n : Nat) : Prop where
  ex : ∃ (cells : List Int) (r m sd : Int), H s = some (.lst [.ref q, .int r, .int m, .int sd]) ∧ H q = some (.lst (cells.map V.int)) ∧ cells.length ≤ 63 ∧ 0 ≤ m ∧ m ≤ n ∧ 0 ≤ sd ∧ sd < 2147483647
theorem Spr.keep {s q : Addr} {n k : Nat} {H H' : Hp} (p : Spr H s q n) (h : ∀ a o, H a = some o → H' a = some o) (hn : n ≤ k) : Spr H' s q k := by
  obtain ⟨cells, r, m, sd, h1, h2, h3, h4, h5, h6, h7⟩ := p.ex
  exact ⟨cells, r, m, sd, h _ _ h1, h _ _ h2, h3, h4, by omega, h6, h7⟩
theorem Spr.sne {s q : Addr} {n : Nat} {H : Hp} (p : Spr H s q n) : H s ≠ none := by
  obtain ⟨cells, r, m, sd, h1, _⟩ := p.ex
  rw [h1]; exact fun z => nomatch z
theorem Spr.qne {s q : Addr} {n : Nat} {H : Hp} (p : Spr H s q n) : H q ≠ none := by
  obtain ⟨cells, r, m, sd, h1, h2, _⟩ := p.ex
  rw [h2]; exact fun z => nomatch z
theorem Spr.ne {s q : Addr} {n : Nat} {H : Hp} (p : Spr H s q n) : s ≠ q := by
  obtain ⟨cells, r, m, sd, h1, h2, _⟩ := p.ex
  intro z
  subst z
  rw [h1] at h2
  have h3 := Option.some.inj h2
  injection h3 with h3
  cases cells with
  | nil => cases h3
  | cons c cs => simp at h3
/-- a def over the source and data: R tells which data may come -/
def SpX (K : PySem.W.Frag) {ω : Type} (O : OI ω) (add : Nat) (Pre : List (D ω) → Prop) (R : List (D ω) → D ω → Prop) : Sp := fun vs H Q _ => ∃ G s q n ds ws, vs = .ref s :: ws ∧ Ex G H ∧ G s = none ∧ G q = none ∧ Spr H s q n ∧ n + add ≤ 1000000 ∧ AtL K O G ds ws ∧ Pre ds ∧
  ∀ d v G2 H2, R ds d → LeX s q G H G2 H2 → Spr H2 s q (n + add) → At K O G2 d v → Q v H2
end SR
set_option maxRecDepth 100000
set_option maxHeartbeats 4000000
namespace SR
open PySem PySem.Spec PyProof.Rows L2 Evl
theorem walk_zipT {K : PySem.W.Frag} {a b : Addr} {xs ys : List V} {n : Nat} (hn : n = min xs.length ys.length) : Walk (RZ.ItzT K a b) n (fun H => SqT K H a xs ∧ SqT K H b ys) (YPair (fun i => xs[i]?) (fun i => ys[i]?)) := by
  subst hn
  refine ⟨fun i _ hi q => ?_, fun _ q => ⟨xs, ys, q.1, q.2, by omega⟩, fun i H v H' _ q y => ?_⟩
  · have h1 : i < xs.length := by omega
    have h2 : i < ys.length := by omega
    exact ⟨xs, ys, xs[i], ys[i], q.1, q.2, by simp [h1], by simp [h2]⟩
  · obtain ⟨T, x, z, h1, h2, h3, h4, h5⟩ := y
    exact ⟨T, x, z, h1, h2, h3, h4 xs q.1, h5 ys q.2⟩
section
variable {ω : Type} {K : PySem.W.Frag} {O : OI ω} {G : Hp} {te : TE} {σ : L2.St} {d : D ω} {T : ω → Value}
theorem src_zipT {ta : TA} {ds es : List (D ω)} (h : EvDA K O ta σ G [.tup ds, .tup es]) : Src K O (RZ.iZipA K ta) σ G (zipD ds es) := fun H1 e R k =>
  h H1 e _ fun vs G2 H2 l as => by
    obtain ⟨v, r, rfl, a, n⟩ := atL_cons.mp as
    obtain ⟨v', r', rfl, a', n'⟩ := atL_cons.mp n
    obtain rfl := atL_nil.mp n'
    obtain ⟨p, ws, rfl, hs, aw⟩ := at_tup.mp a
    obtain ⟨q, us, rfl, hs', aw'⟩ := at_tup.mp a'
    refine ⟨p, q, ws, us, rfl, Or.inr ⟨ex_t l.e hs, ex_t l.e hs', ?_⟩⟩
    have hl : ws.length = ds.length := aw.len
    have hl' : us.length = es.length := aw'.len
    have hn : (zipD ds es).length = min ws.length us.length := by simp [zipD, hl, hl']
    refine k (RZ.ItzT K p q) _ _ G2 H2 l (walk_zipT hn) (fun H x => ⟨ex_t x hs, ex_t x hs'⟩) fun i Gi Hi x Hi' eg eh hi y => ?_
    obtain ⟨T, x1, x2, rfl, hT, rfl, h1, h2⟩ := y
    obtain ⟨d, hd, ad⟩ := aw.get h1
    obtain ⟨d', hd', ad'⟩ := aw'.get h2
    have e3 : (zipD ds es)[i]? = some (.tup [d, d']) := by
      simp [zipD, List.zip, List.getElem?_zipWith, hd, hd']
    refine ⟨_, upd Gi T (.tup [x1, x2]), e3, Le.new eh hT, at_tup.mpr ⟨T, _, rfl, st_of upd_same, atL_cons.mpr ⟨_, _, rfl, (ad.mono eg).mono (Ex.new (none_of_ex eh hT)), ?_⟩⟩⟩
    exact AtL.one ((ad'.mono eg).mono (Ex.new (none_of_ex eh hT)))
theorem kit_ils (h : OT K O T) (d : D ω) : PySem.W.kitAny K (tyD T d) [.type "int", .type "list", .type "tuple"] = some (dIntB d || dSeq d) := by
  refine kitAny_cons (kit_int h d) (fun hb => ?_) (fun hb => by rw [hb]; rfl)
  rw [hb, Bool.false_or]
  exact kit_seq h d
theorem isi_ils (OK : OT K O T) (h : EvD K O te σ G d) : Ev (tCB (rIsiT K) (tCons te (tCons (tTup (tCons (tC (.ty "int")) (tCons (tC (.ty "list")) (tCons (tC (.ty "tuple")) tNil)))) tNil))) σ G (.bl (dIntB d || dSeq d)) := fun H1 e Q q =>
  h H1 e _ fun v G2 H2 l a => ⟨by show 3 ≤ sizeLine; decide, fun p hp => ⟨v, p, _, _, [.type "int", .type "list", .type "tuple"], _, rfl, upd_same, .cons (.ty _) (.cons (.ty _) (.cons (.ty _) .nil)), ty_of OK.ty ((a.mono l.e).mono (Ex.new hp)), kit_ils OK d, q _ (l.h.trans (Ex.new hp))⟩⟩
/-- all([..]) of truth values that are all True -/
theorem AtL.bools {bs : List Bool} {vs : List V} (h : AtL K O G (bs.map D.bl) vs) : vs = bs.map V.bl := by
  induction bs generalizing vs with
  | nil => exact atL_nil.mp h
  | cons b r ih =>
    obtain ⟨v, w, rfl, h1, h2⟩ := atL_cons.mp h
    rw [at_bl.mp h1, ih h2]
    rfl
theorem ev_allD {bs : List Bool} (h : EvD K O te σ G (.lst (bs.map D.bl))) : Ev (tCB (rAll K) (tCons te tNil)) σ G (.bl (bs.all id)) := fun H1 e Q q =>
  h H1 e _ fun v G2 H2 l a => by
    obtain ⟨p, vs, rfl, hs, as⟩ := at_lst.mp a
    obtain rfl := as.bools
    exact ⟨p, bs, rfl, sq_of (l.e _ _ hs), q H2 l.h⟩
theorem ev_anyD {bs : List Bool} (h : EvD K O te σ G (.lst (bs.map D.bl))) : Ev (tCB (rAny K) (tCons te tNil)) σ G (.bl (bs.any id)) := fun H1 e Q q =>
  h H1 e _ fun v G2 H2 l a => by
    obtain ⟨p, vs, rfl, hs, as⟩ := at_lst.mp a
    obtain rfl := as.bools
    exact ⟨p, bs, rfl, sq_of (l.e _ _ hs), q H2 l.h⟩
/-- within a lock -/
theorem ev_dgetF {td ty : TE} {a : Addr} {od : Obj} {m : List (Int × Int)} {o c : Int} (hd : Ev td σ G (.ref a)) (hm : G a = some (.frz od (.dK (kvI m)))) (hy : Ev ty σ G (.int o)) (hc : getI m o = some c) : Ev (tDGet td ty) σ G (.int c) := fun H1 e Q q =>
  hd H1 e _ fun H2 e2 => hy H2 (e.trans e2) _ fun H3 e3 => ⟨a, .int c, rfl, Or.inl ⟨kvI m, Sum.inl o, Or.inr ⟨od, (e.trans e2).trans e3 a _ hm⟩, rfl, by rw [valV_kvI, hc]; rfl⟩, q H3 (e2.trans e3)⟩
end
/-! ### depth -/
mutual
def dep {ω : Type} : D ω → Nat
  | .lst l => depL l + 1
  | .tup l => depL l + 1
  | _ => 0
def depL {ω : Type} : List (D ω) → Nat
  | [] => 0
  | d :: l => max (dep d) (depL l)
end
theorem depL_le {ω : Type} : ∀ {l : List (D ω)} {d : D ω}, d ∈ l → dep d ≤ depL l
  | c :: l, d, h => by
    show dep d ≤ max (dep c) (depL l)
    rcases List.mem_cons.mp h with rfl | h
    · exact Nat.le_max_left _ _
    · exact Nat.le_trans (depL_le h) (Nat.le_max_right _ _)
theorem noObjL_mem {ω : Type} : ∀ {l : List (D ω)} {d : D ω}, noObjL l = true → d ∈ l → noObj d = true
  | c :: l, d, n, h => by
    simp only [noObjL, Bool.and_eq_true] at n
    rcases List.mem_cons.mp h with rfl | h
    · exact n.1
    · exact noObjL_mem n.2 h
end SR
set_option maxRecDepth 100000
set_option maxHeartbeats 4000000
namespace SR
open PySem PySem.Spec PyProof.Rows L2 Evl
section
variable (P : Program) (w : World) (K : PySem.W.Frag) (mg : Str → Option Value) (base : Heap)
/-- a special method of the class at C -/
structure DunOk (C : Addr) (k : Nat) (m : Str) (ps : List Str) (sp : Sp) : Prop where
  ex : ∃ g fd, PySem.W.findIn K (.ref C) m = some (some (.ref g)) ∧ PySem.W.isFn K (.ref g) = true ∧ PySem.W.fnIn K g = true ∧ Binds K fd ps [] ∧ FnOk P w K mg base CX0 k g fd ps sp
end
section
variable {X : Cx} {k : Nat} {C : Addr} {ps : List Str} {sp : Sp} {a b : Expr} {ta tb : TE} {pos : Pos}
theorem call_boolD (h : DunOk X.prog X.w X.K X.mg X.base C k "__bool__" ps sp) (hr : Room (k + 2) X.A) : CallR X (.type "bool") (rBoolOwn C sp E0) := by
  obtain ⟨g, fd, hs, hf, _, hb, F⟩ := h.ex
  exact call_boolOwn hs hf F hr hb pass0
theorem tru_D (h : DunOk X.prog X.w X.K X.mg X.base C k "__bool__" ps sp) (hr : Room k X.A) : TruR X (rTruOwn C sp E0) := by
  obtain ⟨g, fd, hs, hf, _, hb, F⟩ := h.ex
  exact tru_own hs hf F hr hb pass0
theorem pe_ixD (h : DunOk X.prog X.w X.K X.mg X.base C k "__getitem__" ps sp) (hr : Room (k + 1) X.A) (ha : PE X a ta) (hi : PE X b tb) (hsl : PlainIxO b) : PE X (.Subscript a b pos) (tOp (rIxOwn C sp E0) ta tb) := by
  obtain ⟨g, fd, hs, hf, hf2, hb, F⟩ := h.ex
  exact pe_ixOwn hs hf2 hf F hr hb pass0 ha hi hsl
theorem op_eqDun (K : PySem.W.Frag) (h : DunOk X.prog X.w X.K X.mg X.base C k "__eq__" ps sp) (hr : Room k X.A) (hK : X.K = K := by rfl) : OpR X (compareOp .Eq) (rEqOwn K C sp E0) := by
  subst hK
  obtain ⟨g, fd, hs, hf, _, hb, F⟩ := h.ex
  exact op_eqOwn hs hf F hr hb pass0
theorem op_neDun (K : PySem.W.Frag) (h : DunOk X.prog X.w X.K X.mg X.base C k "__eq__" ps sp) (hne : PySem.W.findIn X.K (.ref C) "__ne__" = some (some (.builtin "object.__ne__"))) (hm : PySem.W.mroIn X.K C (.type "object") = some true) (hr : Room (k + 1) X.A) (hK : X.K = K := by rfl) : OpR X (compareOp .NotEq) (rNeOwn K C sp E0) := by
  subst hK
  obtain ⟨g, fd, hs, hf, _, hb, F⟩ := h.ex
  exact op_neOwn hs hf hne hm F hr hb pass0
end
section
variable {K : PySem.W.Frag} {C : Addr} {G H : Hp} {te ta tb ti : TE} {σ : L2.St} {w : FilS} {R : List (D FilS) → D FilS → Prop}
theorem ev_boolF {b : Bool} (h : EvD K (FilO K C) te σ G (.obj w)) (r : R [.obj w] (.bl b)) : Ev (tCB (rBoolOwn C (SpD K (FilO K C) R) E0) (tCons te tNil)) σ G (.bl b) := fun H1 e Q q =>
  h H1 e _ fun v G2 H2 l a => by
    obtain ⟨x, rfl, dx, tp, o, ts, kd, h1, _⟩ := at_obj.mp a
    exact ⟨x, dx, _, rfl, l.e _ _ h1, G2, [.obj w], .bl b, l.e, AtL.one a, r, fun v G3 H3 l3 a3 => ⟨b, at_bl.mp a3, q H3 (l.h.trans l3.h)⟩⟩
theorem et_truF {b : Bool} (h : EvD K (FilO K C) te σ G (.obj w)) (r : R [.obj w] (.bl b)) : EvT (fun σ H Q => te σ H fun x H' => rTruOwn C (SpD K (FilO K C) R) E0 x H' Q) σ G b := fun H1 e Q q =>
  h H1 e _ fun v G2 H2 l a => by
    obtain ⟨x, rfl, dx, tp, o, ts, kd, h1, _⟩ := at_obj.mp a
    exact ⟨x, dx, _, rfl, l.e _ _ h1, G2, [.obj w], .bl b, l.e, AtL.one a, r, fun v G3 H3 l3 a3 => ⟨b, at_bl.mp a3, q H3 (l.h.trans l3.h)⟩⟩
theorem ed_getF {d : D FilS} {o : Int} (h : EvD K (FilO K C) te σ G (.obj w)) (hi : Ev ti σ G (.int o)) (r : R [.obj w, .int o] d) : EvD K (FilO K C) (tOp (rIxOwn C (SpD K (FilO K C) R) E0) te ti) σ G d := fun H1 e Q k =>
  h H1 e _ fun v G2 H2 l a => hi H2 (e.trans l.h) _ fun H3 e3 => by
    obtain ⟨x, rfl, dx, tp, oo, ts, kd, h1, h2⟩ := at_obj.mp a
    exact ⟨x, dx, _, rfl, e3 _ _ (l.e _ _ h1), G2, [.obj w, .int o], d, l.e.trans e3, atL_cons.mpr ⟨_, _, rfl, a, AtL.one (at_int.mpr rfl)⟩, r, fun v G4 H4 l4 a4 => k v G4 H4 ((l.trans (Le.heap l.e e3)).trans l4) a4⟩
/-- f == x -/
theorem ev_eqF {b : Bool} {d : D FilS} {T : FilS → Value} (hT : ∀ H a w, (FilO K C).at_ H a w → TyX K H (.ref a) (T w)) (hn : ∀ d : D FilS, PySem.W.notFirst K C (tyD T d) = true) (h : EvD K (FilO K C) ta σ G (.obj w)) (h2 : EvD K (FilO K C) tb σ G d) (r : R [.obj w, d] (.bl b)) : Ev (tOp (rEqOwn K C (SpD K (FilO K C) R) E0) ta tb) σ G (.bl b) := fun H1 e Q q =>
  h H1 e _ fun v G2 H2 l a => h2 H2 (e.trans l.h) _ fun u G3 H3 l3 a3 => by
    obtain ⟨x, rfl, dx, tp, o, ts, kd, h1, _⟩ := at_obj.mp a
    have e2 : Ex G2 H3 := l.e.trans l3.h
    exact ⟨x, dx, _, _, rfl, e2 _ _ h1, ty_of hT (a3.mono l3.e), hn d, hun G3 G2, [.obj w, d], .bl b, hun_ex l3.e e2, atL_cons.mpr ⟨_, _, rfl, a.mono (hun_r l3.e e2), AtL.one (a3.mono hun_l)⟩, r, fun v G4 H4 l4 a4 => ⟨b, at_bl.mp a4, q H4 ((l.h.trans l3.h).trans l4.h)⟩⟩
theorem ev_neF {b : Bool} {d : D FilS} {T : FilS → Value} (hT : ∀ H a w, (FilO K C).at_ H a w → TyX K H (.ref a) (T w)) (hn : ∀ d : D FilS, PySem.W.notFirst K C (tyD T d) = true) (h : EvD K (FilO K C) ta σ G (.obj w)) (h2 : EvD K (FilO K C) tb σ G d) (r : R [.obj w, d] (.bl b)) : Ev (tOp (rNeOwn K C (SpD K (FilO K C) R) E0) ta tb) σ G (.bl (!b)) := fun H1 e Q q =>
  h H1 e _ fun v G2 H2 l a => h2 H2 (e.trans l.h) _ fun u G3 H3 l3 a3 => by
    obtain ⟨x, rfl, dx, tp, o, ts, kd, h1, _⟩ := at_obj.mp a
    have e2 : Ex G2 H3 := l.e.trans l3.h
    exact ⟨x, dx, _, _, rfl, e2 _ _ h1, ty_of hT (a3.mono l3.e), hn d, hun G3 G2, [.obj w, d], .bl b, hun_ex l3.e e2, atL_cons.mpr ⟨_, _, rfl, a.mono (hun_r l3.e e2), AtL.one (a3.mono hun_l)⟩, r, fun v G4 H4 l4 a4 => ⟨b, at_bl.mp a4, q H4 ((l.h.trans l3.h).trans l4.h)⟩⟩
theorem ed_lastL {ω : Type} {O : OI ω} {ds : List (D ω)} {c : D ω} (h : EvD K O te σ G (.lst ds)) (hi : Ev ti σ G (.int (-1))) (hc : ds[ds.length - 1]? = some c) : EvD K O (tOp (rIxL K) te ti) σ G c := fun H1 e Q k =>
  h H1 e _ fun v G2 H2 l a => hi H2 (e.trans l.h) _ fun H3 e3 => by
    obtain ⟨p, vs, rfl, hs, as⟩ := at_lst.mp a
    obtain ⟨x, hx, ax⟩ := as.get' hc
    have hl := as.len
    have hpos : 0 < ds.length := by
      have := (List.getElem?_eq_some_iff.mp hc).1
      omega
    refine ⟨p, vs, _, x, rfl, rfl, sq_of ((l.e.trans e3) _ _ hs), ?_, k x G2 H3 (l.trans (Le.heap l.e e3)) ax⟩
    unfold atI ixN
    rw [if_neg (by decide), if_pos (by omega)]
    rw [← hl] at hx
    have e5 : ((-1 : Int) + (vs.length : Int)).toNat = vs.length - 1 := by omega
    show vs[((-1 : Int) + (vs.length : Int)).toNat]? = some x
    rw [e5]
    exact hx
/-- xs + ys -/
theorem ed_cat {ω : Type} {O : OI ω} {ds es : List (D ω)} (h1 : EvD K O ta σ G (.lst ds)) (h2 : EvD K O tb σ G (.lst es)) (hz : ds.length + es.length ≤ 100000) : EvD K O (tOp rCat ta tb) σ G (.lst (ds ++ es)) := fun H1 e Q k =>
  h1 H1 e _ fun v G2 H2 l a => h2 H2 (e.trans l.h) _ fun u G3 H3 l3 a3 => by
    obtain ⟨p, vs, rfl, hs, as⟩ := at_lst.mp a
    obtain ⟨q, us, rfl, hs3, as3⟩ := at_lst.mp a3
    have e2 : Ex G2 H3 := l.e.trans l3.h
    have lw : Le G H1 (hun G3 G2) H3 := ⟨l.h.trans l3.h, l.g.trans (hun_r l3.e e2), hun_ex l3.e e2, (fun y hg hh => by
      have n2 := l.f y hg hh
      have h2' : H2 y ≠ none := fun z => hh (fresh_back l.h z)
      have g0 : G y = none := hg
      unfold hun
      rw [l3.f y g0 h2']
      exact n2), hun_t l3.t l.t⟩
    refine ⟨p, q, vs, us, rfl, rfl, e2 _ _ hs, l3.e _ _ hs3, sz_of (by rw [as.len, as3.len]; exact hz), fun m hm => ?_⟩
    have ln := Le.new (o := .lst (vs ++ us)) lw.e hm
    refine k _ (upd (hun G3 G2) m (.lst (vs ++ us))) _ (lw.trans ln) (at_lst.mpr ⟨m, _, rfl, upd_same, ?_⟩)
    exact (((as.mono (hun_r l3.e e2)).app (as3.mono hun_l)).mono ln.g)
end
section
variable {ω : Type} {K : PySem.W.Frag} {O : OI ω} {G H : Hp} {ta : TA} {σ : L2.St} {De : Ends} {tz : TS} {i j : Nat}
theorem q_par {x y : V} (h : EvA ta σ G [x, y]) (e : Ex G H) (k : ∀ H2, Le G H G H2 → tz De ((σ.set i (some x)).set j (some y)) H2) : tSeq (tPar i j ta) tz De σ H := h H e _ fun H2 e2 => ⟨x, y, rfl, k H2 (Le.heap e e2)⟩
theorem q_parD {d1 d2 : D ω} (h : EvDA K O ta σ G [d1, d2]) (e : Ex G H) (k : ∀ x y G2 H2, Le G H G2 H2 → At K O G2 d1 x → At K O G2 d2 y → tz De ((σ.set i (some x)).set j (some y)) H2) : tSeq (tPar i j ta) tz De σ H := h H e _ fun vs G2 H2 l as => by
  obtain ⟨x, r, rfl, a1, n⟩ := atL_cons.mp as
  obtain ⟨y, r, rfl, a2, n⟩ := atL_cons.mp n
  obtain rfl := atL_nil.mp n
  exact ⟨x, y, rfl, k x y G2 H2 l a1 a2⟩
end
end SR
set_option maxRecDepth 100000
set_option maxHeartbeats 4000000
namespace SR
open PySem PySem.Spec PyProof.Rows L2 Evl
/-- the sum of the second ones at a place -/
def totl : List (Int × Int) → Int → Int
  | [], _ => 0
  | q :: r, o => (if q.1 = o then q.2 else 0) + totl r o
theorem totl_append {a b : List (Int × Int)} {o : Int} : totl (a ++ b) o = totl a o + totl b o := by
  induction a with
  | nil => show totl b o = 0 + totl b o; omega
  | cons q r ih =>
    show (if q.1 = o then q.2 else 0) + totl (r ++ b) o = (if q.1 = o then q.2 else 0) + totl r o + totl b o
    rw [ih]
    omega
theorem totl_one {q : Int × Int} {o : Int} : totl [q] o = if q.1 = o then q.2 else 0 := by
  show (if q.1 = o then q.2 else 0) + 0 = _
  omega
theorem totl_rev {a : List (Int × Int)} {o : Int} : totl a.reverse o = totl a o := by
  induction a with
  | nil => rfl
  | cons q r ih =>
    rw [List.reverse_cons, totl_append, ih, totl_one]
    show totl r o + _ = (if q.1 = o then q.2 else 0) + totl r o
    omega
theorem coef_fold {p : Int} (hp : 0 < p) {o : Int} : ∀ {rows m : List (Int × Int)}, 0 ≤ (getI m o).getD 0 → (getI m o).getD 0 < p → (getI (rows.foldl (step p) m) o).getD 0 = ((getI m o).getD 0 + totl rows o) % p
  | [], m, h0, h1 => by
    show (getI m o).getD 0 = ((getI m o).getD 0 + 0) % p
    rw [Int.add_zero, Int.emod_eq_of_lt h0 h1]
  | q :: r, m, h0, h1 => by
    have hs : (getI (step p m q) o).getD 0 = if o = q.1 then ((getI m q.1).getD 0 + q.2) % p else (getI m o).getD 0 := by
      unfold step
      rw [getI_put, Int.fmod_eq_emod_of_nonneg _ (by omega)]
      split <;> rfl
    have h0' : 0 ≤ (getI (step p m q) o).getD 0 := by
      rw [hs]
      split
      · exact Int.emod_nonneg _ (by omega)
      · exact h0
    have h1' : (getI (step p m q) o).getD 0 < p := by
      rw [hs]
      split
      · exact Int.emod_lt_of_pos _ hp
      · exact h1
    have ih := coef_fold hp (o := o) (rows := r) (m := step p m q) h0' h1'
    show (getI (r.foldl (step p) (step p m q)) o).getD 0 = ((getI m o).getD 0 + ((if q.1 = o then q.2 else 0) + totl r o)) % p
    rw [ih, hs]
    by_cases h : o = q.1
    · rw [if_pos h, if_pos h.symm, h, Int.emod_add_emod]
      congr 1
      omega
    · rw [if_neg h, if_neg (fun z => h z.symm)]
      congr 1
      omega
theorem coef_is {p : Int} (hp : 0 < p) {rows : List (Int × Int)} {o : Int} : coef p rows o = totl rows o % p := by
  unfold coef sums
  rw [coef_fold hp (m := []) (by exact Int.le_refl 0) (by exact hp)]
  show (0 + totl rows o) % p = _
  rw [Int.zero_add]
theorem coef_ne {p : Int} {rows : List (Int × Int)} {o : Int} (h : coef p rows o ≠ 0) : o ∈ (sums p rows).map (·.1) := by
  refine getI_some.mp ?_
  unfold coef at h
  cases e : getI (sums p rows) o with
  | none => rw [e] at h; exact absurd rfl h
  | some c => rfl
theorem keys_nd {p : Int} {rows : List (Int × Int)} : (srt ((sums p rows).map (·.1))).Nodup := srt_perm.nodup_iff.mpr (sums_nd (rows := rows) (m := []) List.nodup_nil)
/-- the coefficients tell the list -/
theorem coll_ext {p p' : Int} {a b : List (Int × Int)} (h : ∀ o, coef p a o = coef p' b o) : coll p a = coll p' b := by
  have e1 : ((srt ((sums p a).map (·.1))).filter fun o => coef p a o != 0) = (srt ((sums p' b).map (·.1))).filter fun o => coef p' b o != 0 := by
    refine List.Perm.eq_of_pairwise (le := fun x y : Int => x ≤ y) (fun x y _ _ h1 h2 => Int.le_antisymm h1 h2) (srt_pair.filter _) (srt_pair.filter _) ((List.perm_ext_iff_of_nodup (keys_nd.filter _) (keys_nd.filter _)).mpr fun o => ?_)
    rw [List.mem_filter, List.mem_filter]
    constructor
    · rintro ⟨h1, h2⟩
      have h3 : coef p' b o ≠ 0 := by rw [← h o]; simpa using h2
      exact ⟨srt_perm.mem_iff.mpr (coef_ne h3), by simpa using h3⟩
    · rintro ⟨h1, h2⟩
      have h3 : coef p a o ≠ 0 := by rw [h o]; simpa using h2
      exact ⟨srt_perm.mem_iff.mpr (coef_ne h3), by simpa using h3⟩
  unfold coll
  rw [e1]
  exact List.map_congr_left fun o _ => by rw [h o]
theorem coll_tot {p : Int} (hp : 0 < p) {a b : List (Int × Int)} (h : ∀ o, ∃ z, totl a o = totl b o + p * z) : coll p a = coll p b := coll_ext fun o => by
  obtain ⟨z, hz⟩ := h o
  rw [coef_is hp, coef_is hp, hz, Int.add_mul_emod_self_left]
/-- a look-up of the list is the coefficient -/
theorem getI_coll {p : Int} {a : List (Int × Int)} {o : Int} : (getI (coll p a) o).getD 0 = coef p a o := by
  have key : ∀ l : List Int, (getI (l.map fun o => (o, coef p a o)) o) = if o ∈ l then some (coef p a o) else none := by
    intro l
    induction l with
    | nil => rfl
    | cons x r ih =>
      unfold getI at ih ⊢
      rw [List.map_cons, List.find?_cons]
      by_cases h : x = o
      · subst h
        rw [decide_eq_true rfl, if_pos (List.mem_cons_self ..)]
        rfl
      · rw [decide_eq_false h]
        rw [ih]
        by_cases h2 : o ∈ r
        · rw [if_pos h2, if_pos (List.mem_cons_of_mem _ h2)]
        · rw [if_neg h2, if_neg (by intro z; rcases List.mem_cons.mp z with z | z; exact h z.symm; exact h2 z)]
  unfold coll
  rw [key]
  by_cases h : coef p a o = 0
  · rw [h]
    split <;> rfl
  · rw [if_pos (List.mem_filter.mpr ⟨srt_perm.mem_iff.mpr (coef_ne h), by simpa using h⟩)]
    rfl
/-- one more at a place: another list -/
theorem coll_more {p : Int} (hp : 1 < p) {a : List (Int × Int)} {o : Int} : coll p (a ++ [(o, 1)]) ≠ coll p a := by
  intro h
  have h1 := getI_coll (p := p) (a := a ++ [(o, 1)]) (o := o)
  rw [h, getI_coll, coef_is (by omega), coef_is (by omega), totl_append, totl_one] at h1
  simp only [if_true] at h1
  have h2 := Int.emod_nonneg (totl a o) (show p ≠ 0 by omega)
  have h3 := Int.emod_lt_of_pos (totl a o) (show 0 < p by omega)
  have h4 := Int.emod_add_mul_ediv (totl a o) p
  have h5 := Int.emod_add_mul_ediv (totl a o + 1) p
  rw [← h1] at h5
  have h6 : p * ((totl a o + 1) / p) - p * (totl a o / p) = 1 := by omega
  rw [← Int.mul_sub] at h6
  have h7 : p ∣ 1 := ⟨_, h6.symm⟩
  have h8 := Int.le_of_dvd (by decide) h7
  omega
section
variable {ω : Type} {K : PySem.W.Frag} {O : OI ω} {G : Hp} {te : TE} {σ : L2.St} {l : List (D ω)}
theorem AtL.rev : ∀ {l : List (D ω)} {vs : List V}, AtL K O G l vs → AtL K O G l.reverse vs.reverse
  | [], vs, h => by rw [atL_nil.mp h]; exact atL_nil.mpr rfl
  | d :: l, vs, h => by
    obtain ⟨v, r, rfl, h1, h2⟩ := atL_cons.mp h
    rw [List.reverse_cons, List.reverse_cons]
    exact (AtL.rev h2).app (AtL.one h1)
theorem AtL.take : ∀ {n : Nat} {l : List (D ω)} {vs : List V}, AtL K O G l vs → AtL K O G (l.take n) (vs.take n)
  | 0, l, vs, h => atL_nil.mpr rfl
  | n + 1, [], vs, h => by rw [atL_nil.mp h]; exact atL_nil.mpr rfl
  | n + 1, d :: l, vs, h => by
    obtain ⟨v, r, rfl, h1, h2⟩ := atL_cons.mp h
    exact atL_cons.mpr ⟨v, _, rfl, h1, AtL.take (n := n) h2⟩
theorem AtL.drop : ∀ {n : Nat} {l : List (D ω)} {vs : List V}, AtL K O G l vs → AtL K O G (l.drop n) (vs.drop n)
  | 0, l, vs, h => h
  | n + 1, [], vs, h => by rw [atL_nil.mp h]; exact atL_nil.mpr rfl
  | n + 1, d :: l, vs, h => by
    obtain ⟨v, r, rfl, h1, h2⟩ := atL_cons.mp h
    exact AtL.drop (n := n) h2
theorem ed_rev (h : EvD K O te σ G (.lst l)) : EvD K O (tRevL K te) σ G (.lst l.reverse) := fun H1 e Q k =>
  h H1 e _ fun v G2 H2 le a => by
    obtain ⟨p, vs, rfl, hs, as⟩ := at_lst.mp a
    exact ⟨p, vs, rfl, sq_of (le.e _ _ hs), fun q hq => k _ (upd G2 q (.lst vs.reverse)) _ (le.trans (Le.new le.e hq)) (at_lst.mpr ⟨q, _, rfl, upd_same, as.rev.mono (Ex.new (none_of_ex le.e hq))⟩)⟩
end
end SR
set_option maxRecDepth 100000
set_option maxHeartbeats 4000000
/-! Own operators: with an int, in place. -/
namespace SR
open PySem PySem.Spec PyProof.Rows L2
section
variable {prog : Program} {w : World} {M : Model} {A : Around} {E : Value → Shared → Prop} {s : Shared} {K : PySem.W.Frag} {x C L f : Addr} {h₀ : Heap} {m : Str → Option Value} {ox : Obj} {od : Option Obj} {nm : String}
open PySem.W
/-- the class has no in-place method of that name -/
theorem fillsI_none {h : Heap} {cd : ClassData} {add : Bool} (X : K.In h) (hc : clsIn K C = some cd) (hm : cd.mro = [.ref C, .type "object"]) (h1 : findIn K (.ref C) (dunderI nm) = some none) (h2 : findIn K (.type "object") (dunderI nm) = some none) : Looks M h (fillsInplaceSlot (.ref C) nm add) false := by
  intro A Q E s k q
  have Lm : Looks M h (mroOf (.ref C)) cd.mro := (looks_clsIn X hc).andThen (f := fun cd => pure cd.mro) .now
  have Lm' := Lm.keeps k
  obtain ⟨hh, g, d, tt, os⟩ := s
  have X' : K.In hh := X.keeps k
  have L1 : Looks M hh (typeLookup (.ref C) (dunderI nm)) none := looks_findIn X' h1
  have L2 : Looks M hh (typeLookup (.type "object") (dunderI nm)) none := looks_findIn X' h2
  unfold fillsInplaceSlot
  refine wpAny_bind (Lm'.at ?_)
  rw [hm, List.anyM_cons, List.anyM_cons, List.anyM_nil]
  refine wpAny_bind ?_
  repeat lk
  exact q
theorem ip_K {op : Operator} {b : Value} {Q : Value → Shared → Prop} {cd : ClassData} (F : Fr h₀ L s.heap m) (X₀ : K.In h₀) (I : InstAt s.heap x ox C od) (hb : Looks (model prog w) s.heap (typeOf b) (.ref C)) (hc : clsIn K C = some cd) (hm : cd.mro = [.ref C, .type "object"])
    (h1 : findIn K (.ref C) (dunderI op.info.2) = some none) (h2 : findIn K (.type "object") (dunderI op.info.2) = some none) (hs : findIn K (.ref C) (PySem.dunder op.info.2) = some (some (.ref f))) (hf : isFn K (.ref f) = true)
    (h : wpAny (model prog w) A (call (.ref f) [.ref x, b]) (PySem.W.CmpBack Q) E s) : wpAny (model prog w) A (inplaceOp op (.ref x) b) Q E s := by
  have X := X₀.keeps F.keep
  unfold inplaceOp
  refine wpAny_holding (wpAny_bind (I.type.here (wpAny_bind ((fillsI_none X hc hm h1 h2).here ?_))))
  simp only [Bool.false_eq_true, if_false]
  refine wpAny_bind ?_
  unfold binaryOp1
  refine wpAny_bind (I.type.here (wpAny_bind (hb.here (wpAny_bind ((fills_K X hc hm hs).here ?_)))))
  simp only [beq_self_eq_true, if_true]
  refine wpAny_bind (wpAny_pure ?_)
  simp only [Bool.and_false, Bool.false_eq_true, if_false, Bool.false_and]
  refine wpAny_bind (wpAny_pure ?_)
  simp only [Bool.false_eq_true, if_false]
  refine wpAny_bind (m := tryMethod (.ref x) _ b) ?_
  unfold tryMethod
  refine wpAny_bind (special_fn X I hs (beq_iff_eq.mp hf) (wpAny_mono h (fun v s' hv => ?_) fun _ _ e => e))
  cases v <;> first | exact hv.elim | exact wpAny_pure (wpAny_pure (wpAny_pure hv))
end
section
variable {X : Cx} {CX : CXT} {pins : List (Addr × Obj)} {σ : L2.St} {H : Hp} {s : Shared} {a C dx g : Addr} {fs : List (Str × V)} {fd : FuncData} {ps : List Str} {n : Nat} {sp : Sp} {E : XK}
theorem ip_binOwn {op : Operator} {cd : ClassData} (hc : PySem.W.clsIn X.K C = some cd) (hm : cd.mro = [.ref C, .type "object"]) (h1 : PySem.W.findIn X.K (.ref C) (PySem.dunderI op.info.2) = some none) (h2 : PySem.W.findIn X.K (.type "object") (PySem.dunderI op.info.2) = some none)
    (hs : PySem.W.findIn X.K (.ref C) (PySem.dunder op.info.2) = some (some (.ref g))) (hf : PySem.W.isFn X.K (.ref g) = true) (F : FnOk X.prog X.w X.K X.mg X.base CX n g fd ps sp)
    (hr : Room n X.A) (hb : Binds X.K fd ps []) (hx : Passes CX X E) : PIp X op (rBinOwn C sp E) := by
  intro pins s σ H x y v u Q I rx ry h
  obtain ⟨a, dx, fs, b, dy, gs, rfl, rfl, ha, hb', q⟩ := h
  cases (show v = Value.ref a from rx)
  cases (show u = Value.ref b from ry)
  obtain ⟨od, J⟩ := ins_inst I ha
  obtain ⟨od', J'⟩ := ins_inst I hb'
  obtain ⟨m, hF⟩ := I.fr
  refine ip_K (op := op) hF I.ok.mod.kin J J'.type hc hm h1 h2 hs hf ?_
  refine wpAny_mono (run_fn (us := [.ref a, .ref b]) (vs := [.ref a, .ref b]) F hr hb .nil hx I (.cons rfl (.cons rfl .nil)) (by exact q)) (fun w s' z => ?_) fun _ _ x => x
  obtain ⟨z', H', I', rz, qz⟩ := z
  exact not_ni rz ⟨z', H', I', rz, qz⟩
/-- x op y, y an int -/
def rBinInt (C : Addr) (sp : Sp) (E : XK) : R2 := fun x y H Q => ∃ a dx fs i, x = .ref a ∧ y = .int i ∧ H a = some (.ins C dx fs) ∧ sp [x, y] H Q E
theorem op_binInt {op : Operator} {fo ro rc : Option Value} (hc : PySem.W.selfFirst X.K C = true) (hs : PySem.W.findIn X.K (.ref C) (PySem.dunder op.info.2) = some (some (.ref g))) (hf : PySem.W.isFn X.K (.ref g) = true)
    (hR : PySem.W.findIn X.K (.ref C) (PySem.dunderR op.info.2) = some rc) (hp : rc = none ∨ ∃ g : Addr, rc = some (.ref g)) (h1 : PySem.W.findIn X.K (.type "int") (PySem.dunder op.info.2) = some fo) (h2 : PySem.W.findIn X.K (.type "int") (PySem.dunderR op.info.2) = some ro) (hsub : PySem.W.subIn X.K (.type "int") (.ref C) = some false)
    (F : FnOk X.prog X.w X.K X.mg X.base CX n g fd ps sp) (hr : Room n X.A) (hb : Binds X.K fd ps []) (hx : Passes CX X E) : OpR X (binaryOp op) (rBinInt C sp E) := by
  intro pins s σ H x y v u Q I rx ry h
  obtain ⟨a, dx, fs, i, rfl, rfl, ha, q⟩ := h
  cases (show v = Value.ref a from rx)
  obtain ⟨t, rfl⟩ := ry
  obtain ⟨od, J⟩ := ins_inst I ha
  obtain ⟨m, hF⟩ := I.fr
  refine PySem.W.ksp_binT (op := op) hF I.ok.mod.kin J rfl hc hs hf hR hp h1 h2 hsub ?_
  refine wpAny_mono (run_fn (us := [.ref a, .int i t]) (vs := [.ref a, .int i]) F hr hb .nil hx I (.cons rfl (.cons ⟨t, rfl⟩ .nil)) (by exact q)) (fun w s' z => ?_) fun _ _ x => x
  obtain ⟨z', H', I', rz, qz⟩ := z
  exact not_ni rz ⟨z', H', I', rz, qz⟩
end
end SR
set_option maxRecDepth 100000
set_option maxHeartbeats 4000000
/-! Own operators by what they promise. -/
namespace SR
open PySem PySem.Spec PyProof.Rows L2 Evl
section
variable (P : Program) (w : World) (K : PySem.W.Frag) (mg : Str → Option Value) (base : Heap)
structure BinOk (C : Addr) (k : Nat) (op : Operator) (sp : Sp) : Prop where
  ex : ∃ g fd ps, PySem.W.selfFirst K C = true ∧ PySem.W.findIn K (.ref C) (PySem.dunder op.info.2) = some (some (.ref g)) ∧ PySem.W.isFn K (.ref g) = true ∧ Binds K fd ps [] ∧ FnOk P w K mg base CX0 k g fd ps sp
structure IntOk (C : Addr) (op : Operator) : Prop where
  ex : ∃ fo ro rc, PySem.W.findIn K (.ref C) (PySem.dunderR op.info.2) = some rc ∧ (rc = none ∨ ∃ g : Addr, rc = some (.ref g)) ∧ PySem.W.findIn K (.type "int") (PySem.dunder op.info.2) = some fo ∧ PySem.W.findIn K (.type "int") (PySem.dunderR op.info.2) = some ro ∧ PySem.W.subIn K (.type "int") (.ref C) = some false
structure InOk (C : Addr) (op : Operator) : Prop where
  ex : ∃ cd, PySem.W.clsIn K C = some cd ∧ cd.mro = [.ref C, .type "object"] ∧ PySem.W.findIn K (.ref C) (PySem.dunderI op.info.2) = some none ∧ PySem.W.findIn K (.type "object") (PySem.dunderI op.info.2) = some none
end
section
variable {X : Cx} {k : Nat} {C : Addr} {sp : Sp} {op : Operator}
theorem op_binD (h : BinOk X.prog X.w X.K X.mg X.base C k op sp) (hr : Room k X.A) : OpR X (binaryOp op) (rBinOwn C sp E0) := by
  obtain ⟨g, fd, ps, hc, hs, hf, hb, F⟩ := h.ex
  exact op_binOwn hc hs hf F hr hb pass0
theorem op_intD (h : BinOk X.prog X.w X.K X.mg X.base C k op sp ∧ IntOk X.K C op) (hr : Room k X.A) : OpR X (binaryOp op) (rBinInt C sp E0) := by
  obtain ⟨g, fd, ps, hc, hs, hf, hb, F⟩ := h.1.ex
  obtain ⟨fo, ro, rc, h1, h2, h3, h4, h5⟩ := h.2.ex
  exact op_binInt hc hs hf h1 h2 h3 h4 h5 F hr hb pass0
theorem ip_binD (h : BinOk X.prog X.w X.K X.mg X.base C k op sp) (i : InOk X.K C op) (hr : Room k X.A) : PIp X op (rBinOwn C sp E0) := by
  obtain ⟨g, fd, ps, hc, hs, hf, hb, F⟩ := h.ex
  obtain ⟨cd, h1, h2, h3, h4⟩ := i.ex
  exact ip_binOwn h1 h2 h3 h4 hs hf F hr hb pass0
end
section
variable {K : PySem.W.Frag} {C : Addr} {G H : Hp} {ta tb : TE} {σ : L2.St} {w u : FilS} {d : D FilS} {R : List (D FilS) → D FilS → Prop}
def bin2 (r : R2) (H : Hp) (Q : VK) : List V → Prop
  | [x, y] => r x y H Q
  | _ => False
theorem bin_go {vs : List V} {Q : VK} (e : Ex G H) (as : AtL K (FilO K C) G [.obj w, .obj u] vs) (r : R [.obj w, .obj u] d) (k : RetG K (FilO K C) d G H Q) : bin2 (rBinOwn C (SpD K (FilO K C) R) E0) H Q vs := by
  obtain ⟨v1, r1, rfl, a1, n1⟩ := atL_cons.mp as
  obtain ⟨v2, r2, rfl, a2, n2⟩ := atL_cons.mp n1
  obtain rfl := atL_nil.mp n2
  obtain ⟨x, rfl, dx, tp, o, ts, kd, g1, _⟩ := at_obj.mp a1
  obtain ⟨y, rfl, dy, tp', o', ts', kd', g1', _⟩ := at_obj.mp a2
  exact ⟨x, dx, _, y, dy, _, rfl, rfl, e _ _ g1, e _ _ g1', G, [.obj w, .obj u], d, e, as, r, k⟩
/-- f op g -/
theorem ed_binF (h1 : EvD K (FilO K C) ta σ G (.obj w)) (h2 : EvD K (FilO K C) tb σ G (.obj u)) (r : R [.obj w, .obj u] d) : EvD K (FilO K C) (tOp (rBinOwn C (SpD K (FilO K C) R) E0) ta tb) σ G d := fun H1 e Q k =>
  (eda_cons h1 (eda_cons h2 eda_nil)) H1 e (fun vs H2 => bin2 (rBinOwn C (SpD K (FilO K C) R) E0) H2 Q vs) fun vs G2 H2 l as => bin_go l.e as r (k.mono l)
/-- f op n -/
theorem ed_intF {n : Int} (h1 : EvD K (FilO K C) ta σ G (.obj w)) (h2 : Ev tb σ G (.int n)) (r : R [.obj w, .int n] d) : EvD K (FilO K C) (tOp (rBinInt C (SpD K (FilO K C) R) E0) ta tb) σ G d := fun H1 e Q k =>
  h1 H1 e _ fun v G2 H2 l a => h2 H2 (l.g.trans l.e) _ fun H3 e3 => by
    obtain ⟨x, rfl, dx, tp, o, ts, kd, g1, gg⟩ := at_obj.mp a
    have l3 := l.trans (Le.heap l.e e3)
    exact ⟨x, dx, _, n, rfl, rfl, l3.e _ _ g1, G2, [.obj w, .int n], d, l3.e, atL_cons.mpr ⟨_, _, rfl, a, AtL.one (at_int.mpr rfl)⟩, r, k.mono l3⟩
/-- f op= g -/
theorem q_augF {i : Nat} {v : V} {De : Ends} {tz : TS} (hv : σ[i]? = some (some v)) (a : At K (FilO K C) G (.obj w) v) (h2 : EvD K (FilO K C) tb σ G (.obj u)) (r : R [.obj w, .obj u] d) (e : Ex G H) (k : ∀ z G2 H2, Le G H G2 H2 → At K (FilO K C) G2 d z → tz De (σ.set i (some z)) H2) :
    tSeq (tAug i tb (rBinOwn C (SpD K (FilO K C) R) E0)) tz De σ H := ⟨v, hv, h2 H e _ fun y G2 H2 l a2 => bin_go (vs := [v, y]) l.e (atL_cons.mpr ⟨_, _, rfl, a.mono l.g, AtL.one a2⟩) r fun z G3 H3 l3 a3 => k z G3 H3 (l.trans l3) a3⟩
end
/-- {k: v} -/
theorem ed_disp1 {ω : Type} {K : PySem.W.Frag} {O : OI ω} {G : Hp} {σ : L2.St} {tk tv : TE} {o c : Int} (h1 : Ev tk σ G (.int o)) (h2 : Ev tv σ G (.int c)) : EvD K O (tDisp [(tk, tv)]) σ G (.dic [(o, c)]) := fun H1 e Q k p hp =>
  have l := Le.newM (o := .dK []) e hp
  h1 _ l.e _ fun H2 e2 => h2 H2 (l.e.trans e2) _ fun H3 e3 => by
    have hp3 : H3 p = some (.dK []) := e3 p _ (e2 p _ upd_same)
    refine ⟨hp3, [(Sum.inl o, .int c)], rfl, by show 1 ≤ 15; decide, ?_⟩
    have l3 : Le G H1 G H3 := l.trans (Le.heap l.e (e2.trans e3))
    refine k (.ref p) (upd G p (.dK (kvI [(o, c)]))) _ ?_ (at_dic.mpr ⟨p, rfl, upd_same⟩)
    have l4 := l3.mut (o := .dK (kvI [(o, c)])) hp (none_of_ex e hp)
    have l5 := Le.fix e l4 hp upd_same
    exact l5
end SR
set_option maxRecDepth 100000
set_option maxHeartbeats 4000000
/-! Lists of places and coefficients as a commutative ring, modulo p. -/
namespace SR
abbrev PL := List (Int × Int)
theorem totl_cons {q : Int × Int} {a : PL} {o : Int} : totl (q :: a) o = (if q.1 = o then q.2 else 0) + totl a o := rfl
def shf (q : Int × Int) (b : PL) : PL := b.map fun r => (q.1 + r.1, q.2 * r.2)
def prodL (a b : PL) : PL := a.flatMap fun q => shf q b
theorem prodL_cons {q : Int × Int} {a b : PL} : prodL (q :: a) b = shf q b ++ prodL a b := rfl
theorem prodL_app {a b c : PL} : prodL (a ++ b) c = prodL a c ++ prodL b c := List.flatMap_append
theorem totl_shf {q : Int × Int} {o : Int} : ∀ {b : PL}, totl (shf q b) o = q.2 * totl b (o - q.1)
  | [] => (Int.mul_zero _).symm
  | r :: b => by
    show totl ((q.1 + r.1, q.2 * r.2) :: shf q b) o = _
    rw [totl_cons, totl_cons, totl_shf, Int.mul_add]
    by_cases h : r.1 = o - q.1
    · rw [if_pos h, if_pos (by show q.1 + r.1 = o; omega)]
    · rw [if_neg h, if_neg (by show ¬ q.1 + r.1 = o; omega), Int.mul_zero]
theorem totl_prod_cons {q : Int × Int} {a b : PL} {o : Int} : totl (prodL (q :: a) b) o = q.2 * totl b (o - q.1) + totl (prodL a b) o := by
  rw [prodL_cons, totl_append, totl_shf]
theorem totl_prod_nil : ∀ {b : PL} {o : Int}, totl (prodL b []) o = 0
  | [], o => rfl
  | q :: b, o => by
    rw [totl_prod_cons, totl_prod_nil]
    show q.2 * 0 + 0 = 0
    rw [Int.mul_zero]
    rfl
theorem totl_prod_consR {q : Int × Int} {a : PL} {o : Int} : ∀ {b : PL}, totl (prodL b (q :: a)) o = q.2 * totl b (o - q.1) + totl (prodL b a) o
  | [] => by show (0 : Int) = q.2 * 0 + 0; rw [Int.mul_zero]; rfl
  | r :: b => by
    rw [totl_prod_cons, totl_prod_cons, totl_prod_consR, totl_cons, totl_cons, Int.mul_add, Int.mul_add]
    by_cases h : q.1 = o - r.1
    · rw [if_pos h, if_pos (by omega), Int.mul_comm r.2 q.2]
      omega
    · rw [if_neg h, if_neg (by omega), Int.mul_zero, Int.mul_zero]
      omega
theorem totl_prod_comm {b : PL} {o : Int} : ∀ {a : PL}, totl (prodL a b) o = totl (prodL b a) o
  | [] => totl_prod_nil.symm
  | q :: a => by rw [totl_prod_cons, totl_prod_consR, totl_prod_comm]
theorem totl_shf_prod {q : Int × Int} {c : PL} {o : Int} : ∀ {b : PL}, totl (prodL (shf q b) c) o = q.2 * totl (prodL b c) (o - q.1)
  | [] => (Int.mul_zero _).symm
  | r :: b => by
    show totl (prodL ((q.1 + r.1, q.2 * r.2) :: shf q b) c) o = _
    rw [totl_prod_cons, totl_prod_cons, totl_shf_prod, Int.mul_add, Int.mul_assoc]
    show q.2 * (r.2 * totl c (o - (q.1 + r.1))) + _ = _
    rw [show o - (q.1 + r.1) = o - q.1 - r.1 by omega]
theorem totl_prod_assoc {b c : PL} {o : Int} : ∀ {a : PL}, totl (prodL (prodL a b) c) o = totl (prodL a (prodL b c)) o
  | [] => rfl
  | q :: a => by rw [prodL_cons, prodL_app, totl_append, totl_shf_prod, totl_prod_cons, totl_prod_assoc]
def scl (n : Int) (a : PL) : PL := a.map fun q => (q.1, n * q.2)
theorem totl_scl {n o : Int} : ∀ {a : PL}, totl (scl n a) o = n * totl a o
  | [] => (Int.mul_zero _).symm
  | q :: a => by
    show totl ((q.1, n * q.2) :: scl n a) o = _
    rw [totl_cons, totl_cons, totl_scl, Int.mul_add]
    by_cases h : q.1 = o
    · rw [if_pos h, if_pos h]
    · rw [if_neg h, if_neg h, Int.mul_zero]
/-! ### equal modulo p -/
def Eqv (p : Int) (a b : PL) : Prop := ∀ o, ∃ z, totl a o = totl b o + p * z
theorem Eqv.of {p : Int} {a b : PL} (h : ∀ o, totl a o = totl b o) : Eqv p a b := fun o => ⟨0, by rw [h o]; omega⟩
theorem Eqv.refl {p : Int} {a : PL} : Eqv p a a := .of fun _ => rfl
theorem Eqv.symm {p : Int} {a b : PL} (h : Eqv p a b) : Eqv p b a := fun o => by
  obtain ⟨z, e⟩ := h o
  exact ⟨-z, by rw [e, Int.mul_neg]; omega⟩
theorem Eqv.trans {p : Int} {a b c : PL} (h : Eqv p a b) (g : Eqv p b c) : Eqv p a c := fun o => by
  obtain ⟨z, e⟩ := h o
  obtain ⟨y, f⟩ := g o
  exact ⟨y + z, by rw [e, f, Int.mul_add]; omega⟩
theorem Eqv.app {p : Int} {a b c d : PL} (h : Eqv p a b) (g : Eqv p c d) : Eqv p (a ++ c) (b ++ d) := fun o => by
  obtain ⟨z, e⟩ := h o
  obtain ⟨y, f⟩ := g o
  exact ⟨z + y, by rw [totl_append, totl_append, e, f, Int.mul_add]; omega⟩
theorem Eqv.scl {p n : Int} {a b : PL} (h : Eqv p a b) : Eqv p (scl n a) (scl n b) := fun o => by
  obtain ⟨z, e⟩ := h o
  exact ⟨n * z, by rw [totl_scl, totl_scl, e, Int.mul_add, Int.mul_left_comm]⟩
theorem Eqv.prodR {p : Int} {b c : PL} (h : Eqv p b c) : ∀ {a : PL}, Eqv p (prodL a b) (prodL a c)
  | [] => .refl
  | q :: a => fun o => by
    obtain ⟨z, e⟩ := h (o - q.1)
    obtain ⟨y, f⟩ := (Eqv.prodR h (a := a)) o
    exact ⟨q.2 * z + y, by rw [totl_prod_cons, totl_prod_cons, e, f, Int.mul_add, Int.mul_add, Int.mul_left_comm]; omega⟩
theorem Eqv.prod {p : Int} {a b c d : PL} (h : Eqv p a b) (g : Eqv p c d) : Eqv p (prodL a c) (prodL b d) :=
  (Eqv.prodR g).trans ((Eqv.of fun _ => totl_prod_comm).trans ((Eqv.prodR h).trans (Eqv.of fun _ => totl_prod_comm)))
def lpS (p : Int) : Setoid PL := ⟨Eqv p, ⟨fun _ => .refl, .symm, .trans⟩⟩
def LP (p : Int) : Type := Quotient (lpS p)
def clp (p : Int) (a : PL) : LP p := Quotient.mk (lpS p) a
theorem clp_eq {p : Int} {a b : PL} : clp p a = clp p b ↔ Eqv p a b := ⟨fun h => Quotient.exact h, fun h => Quotient.sound h⟩
def lpAdd {p : Int} : LP p → LP p → LP p := Quotient.lift₂ (fun a b => clp p (a ++ b)) fun _ _ _ _ h g => clp_eq.mpr (Eqv.app h g)
def lpMul {p : Int} : LP p → LP p → LP p := Quotient.lift₂ (fun a b => clp p (prodL a b)) fun _ _ _ _ h g => clp_eq.mpr (Eqv.prod h g)
def lpScl {p : Int} (n : Int) : LP p → LP p := Quotient.lift (fun a => clp p (scl n a)) fun _ _ h => clp_eq.mpr (Eqv.scl h)
def lpPow {p : Int} (a : LP p) : Nat → LP p
  | 0 => clp p [(0, 1)]
  | n + 1 => lpMul (lpPow a n) a
def cst (n : Int) : PL := [(0, n)]
theorem prod_one {a : PL} : ∀ o, totl (prodL a (cst 1)) o = totl a o := fun o => by
  rw [totl_prod_comm]
  show totl (prodL ((0, 1) :: []) a) o = _
  rw [totl_prod_cons]
  show 1 * totl a (o - 0) + 0 = _
  rw [Int.one_mul, Int.sub_zero, Int.add_zero]
theorem ind1 {p : Int} {P : LP p → Prop} (h : ∀ a, P (clp p a)) (x : LP p) : P x := Quotient.ind (motive := P) h x
theorem cst_add {m n : Int} (o : Int) : totl (cst m ++ cst n) o = totl (cst (m + n)) o := by
  show (if (0:Int) = o then m else 0) + ((if (0:Int) = o then n else 0) + 0) = (if (0:Int) = o then m + n else 0) + 0
  by_cases h : (0 : Int) = o
  · rw [if_pos h, if_pos h, if_pos h]; omega
  · rw [if_neg h, if_neg h, if_neg h]; omega
theorem cst_mul {n : Int} {a : PL} (o : Int) : totl (prodL (cst n) a) o = totl (scl n a) o := by
  show totl (prodL ((0, n) :: []) a) o = _
  rw [totl_prod_cons, totl_scl]
  show n * totl a (o - 0) + 0 = _
  rw [Int.sub_zero, Int.add_zero]
instance lpRing (p : Int) : Lean.Grind.CommRing (LP p) where
  add := lpAdd
  mul := lpMul
  natCast := ⟨fun n => clp p (cst n)⟩
  ofNat := fun n => ⟨clp p (cst n)⟩
  nsmul := ⟨fun n a => lpMul (clp p (cst n)) a⟩
  npow := ⟨fun a n => lpPow a n⟩
  neg := lpScl (-1)
  sub := fun a b => lpAdd a (lpScl (-1) b)
  intCast := ⟨fun n => clp p (cst n)⟩
  zsmul := ⟨fun n a => lpMul (clp p (cst n)) a⟩
  add_zero := ind1 fun a => clp_eq.mpr (.of fun o => by
    rw [totl_append]
    show totl a o + ((if (0:Int) = o then 0 else 0) + 0) = _
    by_cases h : (0 : Int) = o
    · rw [if_pos h]; omega
    · rw [if_neg h]; omega)
  add_comm := ind1 fun a => ind1 fun b => clp_eq.mpr (.of fun o => by rw [totl_append, totl_append]; omega)
  add_assoc := ind1 fun a => ind1 fun b => ind1 fun c => clp_eq.mpr (.of fun o => by rw [List.append_assoc])
  mul_assoc := ind1 fun a => ind1 fun b => ind1 fun c => clp_eq.mpr (.of fun o => totl_prod_assoc)
  mul_one := ind1 fun a => clp_eq.mpr (.of prod_one)
  one_mul := ind1 fun a => clp_eq.mpr (.of fun o => totl_prod_comm.trans (prod_one o))
  right_distrib := ind1 fun a => ind1 fun b => ind1 fun c => clp_eq.mpr (.of fun o => by rw [prodL_app])
  mul_zero := ind1 fun a => clp_eq.mpr (.of fun o => by
    show totl (prodL a (cst 0)) o = totl (cst 0) o
    rw [totl_prod_comm, cst_mul, totl_scl, Int.zero_mul]
    show 0 = (if (0:Int) = o then 0 else 0) + (0 : Int)
    by_cases h : (0 : Int) = o
    · rw [if_pos h]; rfl
    · rw [if_neg h]; rfl)
  left_distrib := ind1 fun a => ind1 fun b => ind1 fun c => clp_eq.mpr (.of fun o => by
    rw [totl_prod_comm, prodL_app, totl_append, totl_append, totl_prod_comm (a := b), totl_prod_comm (a := c)])
  zero_mul := ind1 fun a => clp_eq.mpr (.of fun o => by
    show totl (prodL (cst 0) a) o = totl (cst 0) o
    rw [cst_mul, totl_scl, Int.zero_mul]
    show 0 = (if (0:Int) = o then 0 else 0) + (0 : Int)
    by_cases h : (0 : Int) = o
    · rw [if_pos h]; rfl
    · rw [if_neg h]; rfl)
  pow_zero := fun a => rfl
  pow_succ := fun a n => rfl
  ofNat_succ := fun n => clp_eq.mpr (.of fun o => (cst_add (m := n) (n := 1) o).symm)
  ofNat_eq_natCast := fun n => rfl
  nsmul_eq_natCast_mul := fun n a => rfl
  neg_add_cancel := ind1 fun a => clp_eq.mpr (.of fun o => by
    rw [totl_append, totl_scl]
    show -1 * totl a o + totl a o = (if (0:Int) = o then 0 else 0) + 0
    by_cases h : (0 : Int) = o
    · rw [if_pos h]; omega
    · rw [if_neg h]; omega)
  sub_eq_add_neg := fun a b => rfl
  neg_zsmul := fun i => ind1 fun a => clp_eq.mpr (.of fun o => by
    show totl (prodL (cst (-i)) a) o = totl (scl (-1) (prodL (cst i) a)) o
    rw [cst_mul, totl_scl, totl_scl, cst_mul, totl_scl, ← Int.mul_assoc, Int.neg_one_mul])
  zsmul_natCast_eq_nsmul := fun n a => rfl
  intCast_ofNat := fun n => rfl
  intCast_neg := fun i => clp_eq.mpr (.of fun o => by
    show totl (cst (-i)) o = totl (scl (-1) (cst i)) o
    rw [totl_scl]
    show (if (0:Int) = o then -i else 0) + 0 = -1 * ((if (0:Int) = o then i else 0) + 0)
    by_cases h : (0 : Int) = o
    · rw [if_pos h, if_pos h]; omega
    · rw [if_neg h, if_neg h]; omega)
  mul_comm := ind1 fun a => ind1 fun b => clp_eq.mpr (.of fun o => totl_prod_comm)
/-! ### its words -/
section
variable {p : Int} {a b : PL}
theorem clp_app : clp p (a ++ b) = clp p a + clp p b := rfl
theorem clp_prod : clp p (prodL a b) = clp p a * clp p b := rfl
theorem clp_scl : clp p (scl (-1) a) = -clp p a := rfl
theorem clp_one : clp p [(0, 1)] = 1 := rfl
theorem clp_nil : clp p [] = 0 := clp_eq.mpr (.of fun o => by
  show 0 = (if (0:Int) = o then 0 else 0) + (0 : Int)
  by_cases h : (0 : Int) = o
  · rw [if_pos h]; rfl
  · rw [if_neg h]; rfl)
theorem clp_char : clp p (cst p) = 0 := by
  rw [← clp_nil]
  refine clp_eq.mpr fun o => ?_
  show ∃ z, (if (0:Int) = o then p else 0) + 0 = 0 + p * z
  by_cases h : (0 : Int) = o
  · exact ⟨1, by rw [if_pos h]; omega⟩
  · exact ⟨0, by rw [if_neg h]; omega⟩
end
theorem clp_num {n : Nat} : clp (n : Int) (cst n) = (OfNat.ofNat n : LP n) := rfl
theorem seven0 : (7 : LP 7) = 0 := clp_char (p := 7)
theorem five0 : (5 : LP 5) = 0 := clp_char (p := 5)
theorem three0 : (3 : LP 3) = 0 := clp_char (p := 3)
theorem two0 : (2 : LP 2) = 0 := clp_char (p := 2)
theorem frob7 (a b : LP 7) : (a + b) ^ 7 = a ^ 7 + b ^ 7 := by have := seven0; grind
theorem frob5 (a b : LP 5) : (a + b) ^ 5 = a ^ 5 + b ^ 5 := by have := five0; grind
theorem frob3 (a b : LP 3) : (a + b) ^ 3 = a ^ 3 + b ^ 3 := by have := three0; grind
theorem frob2 (a b : LP 2) : (a + b) ^ 2 = a ^ 2 + b ^ 2 := by have := two0; grind
end SR
set_option maxRecDepth 100000
set_option maxHeartbeats 4000000
namespace SR
section
variable {p : Int}
theorem coll_eqv (hp : 0 < p) {a b : PL} (h : clp p a = clp p b) : coll p a = coll p b := coll_tot hp (clp_eq.mp h)
theorem totl_nd {o : Int} : ∀ {a : PL}, (a.map (·.1)).Nodup → totl a o = (getI a o).getD 0
  | [], _ => rfl
  | q :: a, h => by
    rw [List.map_cons, List.nodup_cons] at h
    rw [totl_cons, totl_nd h.2]
    unfold getI
    rw [List.find?_cons]
    by_cases e : q.1 = o
    · rw [if_pos e, decide_eq_true e]
      have hn : a.find? (fun r => decide (r.1 = o)) = none := List.find?_eq_none.mpr fun r hr hd => h.1 (by rw [e, ← of_decide_eq_true hd]; exact List.mem_map_of_mem hr)
      rw [hn]
      show q.2 + 0 = q.2
      omega
    · rw [if_neg e, decide_eq_false e]
      exact Int.zero_add _
theorem clp_coll (hp : 0 < p) {a : PL} : clp p (coll p a) = clp p a := clp_eq.mpr fun o => by
  have e : totl (coll p a) o = totl a o % p := by rw [totl_nd coll_nd, getI_coll, coef_is hp]
  refine ⟨-(totl a o / p), ?_⟩
  have := Int.emod_add_mul_ediv (totl a o) p
  rw [e, Int.mul_neg]
  omega
theorem coll_coll (hp : 0 < p) {a : PL} : coll p (coll p a) = coll p a := coll_eqv hp (clp_coll hp)
def Nrm (p : Int) (m : PL) : Prop := coll p m = m
theorem nrm_coll (hp : 0 < p) {a : PL} : Nrm p (coll p a) := coll_coll hp
/-! ### powers -/
section
variable {R : Type} [Lean.Grind.CommRing R]
theorem pow_mul_dist (a b : R) : ∀ n : Nat, (a * b) ^ n = a ^ n * b ^ n
  | 0 => by rw [Lean.Grind.Semiring.pow_zero, Lean.Grind.Semiring.pow_zero, Lean.Grind.Semiring.pow_zero, Lean.Grind.Semiring.mul_one]
  | n + 1 => by
    have ih := pow_mul_dist a b n
    rw [Lean.Grind.Semiring.pow_succ, Lean.Grind.Semiring.pow_succ, Lean.Grind.Semiring.pow_succ, ih]
    grind
theorem pow_add' (a : R) (m : Nat) : ∀ n : Nat, a ^ (m + n) = a ^ m * a ^ n
  | 0 => by rw [Lean.Grind.Semiring.pow_zero, Lean.Grind.Semiring.mul_one]; rfl
  | n + 1 => by
    rw [Lean.Grind.Semiring.pow_succ, ← Nat.add_assoc, Lean.Grind.Semiring.pow_succ, pow_add' a m n, Lean.Grind.Semiring.mul_assoc]
theorem pow_pow (a : R) (m : Nat) : ∀ n : Nat, (a ^ m) ^ n = a ^ (m * n)
  | 0 => by rw [Nat.mul_zero, Lean.Grind.Semiring.pow_zero, Lean.Grind.Semiring.pow_zero]
  | n + 1 => by rw [Lean.Grind.Semiring.pow_succ, pow_pow a m n, Nat.mul_succ, pow_add']
theorem one_pow' : ∀ n : Nat, (1 : R) ^ n = 1
  | 0 => Lean.Grind.Semiring.pow_zero _
  | n + 1 => by rw [Lean.Grind.Semiring.pow_succ, one_pow' n, Lean.Grind.Semiring.mul_one]
end
def powL (p : Int) (a : PL) : Nat → PL
  | 0 => [(0, 1)]
  | n + 1 => coll p (prodL (powL p a n) a)
theorem clp_pow (hp : 0 < p) {a : PL} : ∀ {n : Nat}, clp p (powL p a n) = clp p a ^ n
  | 0 => (Lean.Grind.Semiring.pow_zero _).symm
  | n + 1 => by
    show clp p (coll p (prodL (powL p a n) a)) = _
    rw [clp_coll hp, clp_prod, clp_pow hp, Lean.Grind.Semiring.pow_succ]
def str (n : Int) (a : PL) : PL := a.map fun q => (n * q.1, q.2)
theorem clp_mono {o c : Int} : clp p [(o, c)] = clp p [(o, 1)] * clp p (cst c) := by
  rw [← clp_prod]
  refine clp_eq.mpr (.of fun x => ?_)
  show totl [(o, c)] x = totl (prodL ((o, 1) :: []) (cst c)) x
  rw [totl_prod_cons]
  show (if o = x then c else 0) + 0 = 1 * ((if (0:Int) = x - o then c else 0) + 0) + 0
  by_cases h : o = x
  · rw [if_pos h, if_pos (by omega)]; omega
  · rw [if_neg h, if_neg (by omega)]; omega
theorem clp_place {o : Int} : ∀ n : Nat, clp p [(o, 1)] ^ n = clp p [((n : Int) * o, 1)]
  | 0 => by rw [Lean.Grind.Semiring.pow_zero, Int.natCast_zero, Int.zero_mul]; rfl
  | n + 1 => by
    rw [Lean.Grind.Semiring.pow_succ, clp_place n, ← clp_prod]
    show clp p [((n : Int) * o + o, 1 * 1)] = _
    rw [show ((n + 1 : Nat) : Int) * o = (n : Int) * o + o by rw [Int.natCast_add, Int.add_mul]; show _ + 1 * o = _; rw [Int.one_mul]]
    rfl
section
variable {P : Nat} (frob : ∀ a b : LP (P : Int), (a + b) ^ P = a ^ P + b ^ P) (hP : 0 < P)
include frob hP
theorem fermN : ∀ n : Nat, clp (P : Int) (cst n) ^ P = clp (P : Int) (cst n)
  | 0 => by
    show (0 : LP (P : Int)) ^ P = 0
    cases P with
    | zero => exact absurd hP (by decide)
    | succ k => rw [Lean.Grind.Semiring.pow_succ, Lean.Grind.Semiring.mul_zero]
  | n + 1 => by
    have e : clp (P : Int) (cst ((n + 1 : Nat) : Int)) = clp (P : Int) (cst n) + 1 := clp_eq.mpr (.of fun o => (cst_add (m := n) (n := 1) o).symm)
    rw [e, frob, fermN n, one_pow']
theorem ferm (c : Int) : clp (P : Int) (cst c) ^ P = clp (P : Int) (cst c) := by
  have hp : (0 : Int) < P := by omega
  have e : clp (P : Int) (cst c) = clp (P : Int) (cst ((c % P).toNat : Int)) := by
    refine clp_eq.mpr fun o => ?_
    show ∃ z, (if (0:Int) = o then c else 0) + 0 = (if (0:Int) = o then ((c % P).toNat : Int) else 0) + 0 + P * z
    have h1 := Int.emod_nonneg c (show (P : Int) ≠ 0 by omega)
    have h2 := Int.emod_add_mul_ediv c P
    by_cases h : (0 : Int) = o
    · refine ⟨c / P, ?_⟩
      rw [if_pos h, if_pos h]
      omega
    · exact ⟨0, by rw [if_neg h, if_neg h]; omega⟩
  rw [e, fermN frob hP]
theorem clp_str : ∀ a : PL, clp (P : Int) (str P a) = clp (P : Int) a ^ P
  | [] => by
    show clp (P : Int) [] = clp (P : Int) [] ^ P
    rw [clp_nil]
    cases P with
    | zero => exact absurd hP (by decide)
    | succ k => rw [Lean.Grind.Semiring.pow_succ, Lean.Grind.Semiring.mul_zero]
  | q :: a => by
    show clp (P : Int) ([((P : Int) * q.1, q.2)] ++ str P a) = clp (P : Int) ([q] ++ a) ^ P
    rw [clp_app, clp_app, frob, clp_str a, clp_mono, show clp (P : Int) [q] = clp (P : Int) [(q.1, 1)] * clp (P : Int) (cst q.2) from clp_mono (o := q.1) (c := q.2), pow_mul_dist, clp_place, ferm frob hP]
end
def strK (p : Int) (a : PL) : Nat → PL
  | 0 => a
  | k + 1 => coll p (str p (strK p a k))
theorem clp_strK {P : Nat} (frob : ∀ a b : LP (P : Int), (a + b) ^ P = a ^ P + b ^ P) (hP : 0 < P) {a : PL} : ∀ k : Nat, clp (P : Int) (strK P a k) = clp (P : Int) a ^ (P ^ k)
  | 0 => by
    show clp (P : Int) a = clp (P : Int) a ^ 1
    rw [Lean.Grind.Semiring.pow_succ, Lean.Grind.Semiring.pow_zero, Lean.Grind.Semiring.one_mul]
  | k + 1 => by
    show clp (P : Int) (coll P (str P (strK P a k))) = _
    rw [clp_coll (by omega), clp_str frob hP, clp_strK frob hP k, pow_pow, Nat.pow_succ]
theorem pow_step {P : Nat} (frob : ∀ a b : LP (P : Int), (a + b) ^ P = a ^ P + b ^ P) (hP : 0 < P) {a : PL} {j k : Nat} : coll P (prodL (powL P a j) (strK P a k)) = powL P a (j + P ^ k) := by
  have hp : (0 : Int) < P := by omega
  have hpk : 0 < P ^ k := Nat.pow_pos hP
  obtain ⟨n, hn⟩ : ∃ n, j + P ^ k = n + 1 := ⟨j + P ^ k - 1, by omega⟩
  rw [hn]
  show _ = coll P (prodL (powL P a n) a)
  refine coll_eqv hp ?_
  rw [clp_prod, clp_prod, clp_pow hp, clp_pow hp, clp_strK frob hP, ← pow_add', hn, Lean.Grind.Semiring.pow_succ]
/-- for the primes of the document -/
theorem pow_step_p {p : Int} (h' : p = 2 ∨ p = 3 ∨ p = 5 ∨ p = 7) {a : PL} {j k : Nat} : coll p (prodL (powL p a j) (strK p a k)) = powL p a (j + p.toNat ^ k) := by
  rcases h' with rfl | rfl | rfl | rfl
  · exact pow_step (P := 2) frob2 (by decide)
  · exact pow_step (P := 3) frob3 (by decide)
  · exact pow_step (P := 5) frob5 (by decide)
  · exact pow_step (P := 7) frob7 (by decide)
end
end SR
set_option maxRecDepth 100000
set_option maxHeartbeats 4000000
namespace SR
/-- all places within B -/
def Bnd (B : Int) (a : PL) : Prop := ∀ q ∈ a, -B ≤ q.1 ∧ q.1 ≤ B
theorem Bnd.mono {B B' : Int} {a : PL} (h : Bnd B a) (hb : B ≤ B') : Bnd B' a := fun q hq => by
  have := h q hq
  omega
theorem Bnd.app {B : Int} {a b : PL} (h : Bnd B a) (g : Bnd B b) : Bnd B (a ++ b) := fun q hq => (List.mem_append.mp hq).elim (h q) (g q)
theorem Bnd.prod {B B' : Int} {a b : PL} (h : Bnd B a) (g : Bnd B' b) : Bnd (B + B') (prodL a b) := fun q hq => by
  obtain ⟨x, hx, hq⟩ := List.mem_flatMap.mp hq
  obtain ⟨y, hy, rfl⟩ := List.mem_map.mp hq
  have h1 := h x hx
  have h2 := g y hy
  show -(B + B') ≤ x.1 + y.1 ∧ x.1 + y.1 ≤ B + B'
  omega
theorem mem_put {m : PL} {o c x : Int} (h : x ∈ (putI m o c).map (·.1)) : x ∈ m.map (·.1) ∨ x = o := by
  rw [keys_put] at h
  by_cases e : (m.any fun q => decide (q.1 = o)) = true
  · rw [if_pos e] at h
    exact Or.inl h
  · rw [if_neg e] at h
    rcases List.mem_append.mp h with h | h
    · exact Or.inl h
    · exact Or.inr (List.mem_singleton.mp h)
theorem mem_sums {p x : Int} : ∀ {rows m : PL}, x ∈ (rows.foldl (step p) m).map (·.1) → x ∈ m.map (·.1) ∨ x ∈ rows.map (·.1)
  | [], m, h => Or.inl h
  | q :: rows, m, h => by
    rcases mem_sums (rows := rows) (m := step p m q) h with h | h
    · rcases mem_put h with h | h
      · exact Or.inl h
      · exact Or.inr (by rw [h]; exact List.mem_cons_self ..)
    · exact Or.inr (List.mem_cons_of_mem _ h)
theorem mem_coll {p : Int} {a : PL} {q : Int × Int} (h : q ∈ coll p a) : q.1 ∈ a.map (·.1) := by
  obtain ⟨o, ho, rfl⟩ := List.mem_map.mp h
  have h2 := srt_perm.mem_iff.mp (List.mem_filter.mp ho).1
  rcases mem_sums h2 with h3 | h3
  · cases h3
  · exact h3
theorem Bnd.coll {p B : Int} {a : PL} (h : Bnd B a) : Bnd B (coll p a) := fun q hq => by
  obtain ⟨r, hr, e⟩ := List.mem_map.mp (mem_coll hq)
  have := h r hr
  rw [← e]
  exact this
theorem len_range : ∀ {l : List Int} {lo hi : Int}, l.Pairwise (· ≤ ·) → l.Nodup → (∀ x ∈ l, lo ≤ x ∧ x ≤ hi) → l = [] ∨ (l.length : Int) ≤ hi - lo + 1
  | [], _, _, _, _, _ => Or.inl rfl
  | x :: l, lo, hi, h1, h2, h3 => by
    rw [List.pairwise_cons] at h1
    rw [List.nodup_cons] at h2
    have hx := h3 x (List.mem_cons_self ..)
    have ih := len_range (l := l) (lo := x + 1) (hi := hi) h1.2 h2.2 fun y hy => by
      have a := h1.1 y hy
      have b : x ≠ y := fun e => h2.1 (e ▸ hy)
      have c := h3 y (List.mem_cons_of_mem _ hy)
      omega
    right
    rw [List.length_cons]
    rcases ih with rfl | ih
    · show ((0 + 1 : Nat) : Int) ≤ _
      omega
    · omega
theorem len_coll {p B : Int} {a : PL} (h : Bnd B a) (hB : 0 ≤ B) : ((coll p a).length : Int) ≤ 2 * B + 1 := by
  have e : (coll p a).length = ((coll p a).map (·.1)).length := (List.length_map _).symm
  have hb := Bnd.coll (p := p) h
  have hs : ((coll p a).map (·.1)).Pairwise (· ≤ ·) := by
    unfold coll
    rw [nd_map_fst]
    exact srt_pair.filter _
  rcases len_range (l := (coll p a).map (·.1)) (lo := -B) (hi := B) hs coll_nd (fun x hx => by
    obtain ⟨q, hq, rfl⟩ := List.mem_map.mp hx
    exact hb q hq) with h0 | h0
  · rw [e, h0]
    show (0 : Int) ≤ _
    omega
  · rw [e]
    omega
theorem len_prod {a b : PL} : (prodL a b).length = a.length * b.length := by
  induction a with
  | nil => exact (Nat.zero_mul _).symm
  | cons q a ih =>
    rw [prodL_cons, List.length_append, ih, List.length_cons, Nat.succ_mul]
    show (b.map _).length + _ = _
    rw [List.length_map]
    omega
theorem bnd_pow {p B : Int} {a : PL} (h : Bnd B a) (hB : 0 ≤ B) : ∀ n : Nat, Bnd (n * B) (powL p a n)
  | 0 => fun q hq => by
    rw [List.mem_singleton.mp hq]
    show -(((0 : Nat) : Int) * B) ≤ 0 ∧ (0 : Int) ≤ ((0 : Nat) : Int) * B
    rw [Int.natCast_zero, Int.zero_mul]
    omega
  | n + 1 => by
    have e : ((n + 1 : Nat) : Int) * B = n * B + B := by rw [Int.natCast_add, Int.add_mul]; show _ + 1 * B = _; rw [Int.one_mul]
    rw [e]
    exact Bnd.coll (Bnd.prod (bnd_pow h hB n) h)
theorem len_pow {p B : Int} {a : PL} (h : Bnd B a) (hB : 0 ≤ B) {n : Nat} : ((powL p a n).length : Int) ≤ 2 * (n * B) + 1 := by
  cases n with
  | zero => show (1 : Int) ≤ _; rw [Int.natCast_zero, Int.zero_mul]; omega
  | succ n =>
    have e : ((n + 1 : Nat) : Int) * B = n * B + B := by rw [Int.natCast_add, Int.add_mul]; show _ + 1 * B = _; rw [Int.one_mul]
    have := len_coll (p := p) (Bnd.prod (bnd_pow (p := p) h hB n) h) (by have := Int.mul_nonneg (Int.natCast_nonneg n) hB; omega)
    rw [e]
    exact this
theorem len_strK {p : Int} {a : PL} : ∀ {k : Nat}, (strK p a k).length ≤ a.length
  | 0 => Nat.le_refl _
  | k + 1 => by
    have h1 := coll_len (p := p) (rows := str p (strK p a k))
    have h2 : (str p (strK p a k)).length = (strK p a k).length := List.length_map _
    have h3 := len_strK (p := p) (a := a) (k := k)
    show (coll p (str p (strK p a k))).length ≤ _
    omega
end SR
set_option maxRecDepth 100000
set_option maxHeartbeats 4000000
namespace SR
open PySem PySem.Spec PyProof.Rows L2 Evl
section
variable {ω : Type} {K : PySem.W.Frag} {O : OI ω} {G H : Hp} {te : TE} {σ : L2.St}
/-- two fors, no tests -/
theorem ed_lc2 {wi wi1 : TI} {g g1 : TG} {vs vs1 : List Nat} {ds es : List (D ω)} (m : D ω → D ω → D ω) (hs : Src K O wi σ G ds) (hz : ds.length * es.length ≤ 40000)
    (body : ∀ (i : Nat) (d : D ω) (x : V) (Gi Hi : Hp), ds[i]? = some d → Ex G Gi → Ex Gi Hi → At K O Gi d x → ∀ Q : L2.St → Hp → Prop,
      (∀ σ2 H2, Ex Hi H2 → wipe σ2 vs = wipe σ vs → Src K O wi1 σ2 Gi es →
        (∀ (j : Nat) (c : D ω) (y : V) (Gj Hj : Hp), es[j]? = some c → Ex Gi Gj → Ex Gj Hj → At K O Gj c y → ∀ Q' : L2.St → Hp → Prop,
          (∀ σ3 H3, Ex Hj H3 → wipe σ3 vs1 = wipe σ2 vs1 → EvD K O te σ3 Gj (m d c) → Q' σ3 H3) → g1 y (wipe σ2 vs1) Hj Q') → Q σ2 H2) → g x (wipe σ vs) Hi Q) :
    EvD K O (tLc2 wi g tYes wi1 g1 tYes te vs vs1) σ G (.lst (ds.flatMap fun d => es.map (m d))) := fun H1 e Q k => by
  refine hs H1 e _ fun J Gd Y G0 H0 l0 w hG yl => ?_
  intro Dl hD
  refine ⟨fun i n H => n = ds.length - i ∧ i ≤ ds.length ∧ ∃ Gi us, Le G0 H0 Gi H ∧ H Dl = some (.lst us) ∧ Gi Dl = none ∧ AtL K O Gi ((ds.take i).flatMap fun d => es.map (m d)) us, ⟨ds.length, by omega, Nat.zero_le _, G0, [], Le.newM l0.e hD, upd_same, none_of_ex l0.e hD, atL_nil.mpr rfl⟩, ?_⟩
  rintro i n H ⟨rfl, hi, Gi, us, l, hu, gn, as⟩
  have q := hG H (l.g.trans l.e)
  by_cases hlt : i < ds.length
  · refine .inr ⟨w.goes i H hlt q, fun H => ∃ Gi us, Le G0 H0 Gi H ∧ H Dl = some (.lst us) ∧ Gi Dl = none ∧ AtL K O Gi ((ds.take (i + 1)).flatMap fun d => es.map (m d)) us, fun H' p' => ⟨ds.length - (i + 1), by omega, rfl, hlt, p'⟩, fun x Hx yx => ?_⟩
    obtain ⟨d, Gi', hd, l', ad⟩ := yl i Gi H x Hx l.g l.e hlt (w.yields i H x Hx hlt q yx)
    have tk := take_snoc hd
    have gn' : Gi' Dl = none := l'.gnone gn (by rw [hu]; exact fun z => nomatch z)
    have hu' : Hx Dl = some (.lst us) := l'.h Dl _ hu
    have lt : Le G0 H0 Gi' Hx := l.trans l'
    refine body i d x Gi' Hx hd (l0.g.trans lt.g) l'.e ad _ fun σ2 H20 e20 hw hs1 hb1 => ⟨hw, ?_⟩
    refine et_yes (G := Gi') H20 (l'.e.trans e20) _ fun H2 e21 => ?_
    have e2 := e20.trans e21
    rw [if_pos rfl]
    refine hs1 H2 (l'.e.trans e2) _ fun J1 Gd1 Y1 G3 H3 l3 w1 hG1 yl1 => ?_
    have gn3 : G3 Dl = none := l3.gnone gn' (by rw [e2 Dl _ hu']; exact fun z => nomatch z)
    have hu3 : H3 Dl = some (.lst us) := l3.h Dl _ (e2 Dl _ hu')
    have lt3 : Le G0 H0 G3 H3 := (lt.trans (Le.heap l'.e e2)).trans l3
    refine ⟨fun j n H => n = es.length - j ∧ j ≤ es.length ∧ ∃ Gj us, Le G0 H0 Gj H ∧ Ex G3 Gj ∧ H Dl = some (.lst us) ∧ Gj Dl = none ∧ AtL K O Gj (((ds.take i).flatMap fun d => es.map (m d)) ++ (es.take j).map (m d)) us, ⟨es.length, by omega, Nat.zero_le _, G3, us, lt3, Ex.refl _, hu3, gn3, by rw [List.take_zero, List.map_nil, List.append_nil]; exact as.mono (l'.g.trans l3.g)⟩, ?_⟩
    rintro j n H ⟨rfl, hj, Gj, us1, lj, ej, huj, gnj, asj⟩
    have qj := hG1 H (ej.trans lj.e)
    by_cases hjl : j < es.length
    · refine .inr ⟨w1.goes j H hjl qj, fun H => ∃ Gj us, Le G0 H0 Gj H ∧ Ex G3 Gj ∧ H Dl = some (.lst us) ∧ Gj Dl = none ∧ AtL K O Gj (((ds.take i).flatMap fun d => es.map (m d)) ++ (es.take (j + 1)).map (m d)) us, fun H' p' => ⟨es.length - (j + 1), by omega, rfl, hjl, p'⟩, fun y Hy yy => ?_⟩
      obtain ⟨c, Gj', hc, lj', ac⟩ := yl1 j Gj H y Hy ej lj.e hjl (w1.yields j H y Hy hjl qj yy)
      have gnj' : Gj' Dl = none := lj'.gnone gnj (by rw [huj]; exact fun z => nomatch z)
      have huj' : Hy Dl = some (.lst us1) := lj'.h Dl _ huj
      have ltj : Le G0 H0 Gj' Hy := lj.trans lj'
      refine hb1 j c y Gj' Hy hc ((l3.g.trans ej).trans lj'.g) lj'.e ac _ fun σ3 H50 e50 hw1 he => ⟨hw1, ?_⟩
      refine et_yes (G := Gj') H50 (lj'.e.trans e50) _ fun H5 e51 => ?_
      have e5 := e50.trans e51
      rw [if_pos rfl]
      refine he H5 (lj'.e.trans e5) _ fun u G6 H6 l6 a6 => ?_
      have hu6 : H6 Dl = some (.lst us1) := l6.h Dl _ (e5 Dl _ huj')
      have gn6 : G6 Dl = none := l6.gnone gnj' (by rw [e5 Dl _ huj']; exact fun z => nomatch z)
      have ul : us1.length < 40000 := by
        have h1 := asj.len
        have h2 : ∀ l : List (D ω), (l.flatMap fun d => es.map (m d)).length = l.length * es.length := fun l => by
          induction l with
          | nil => exact (Nat.zero_mul _).symm
          | cons a l ih => rw [List.flatMap_cons, List.length_append, ih, List.length_cons, List.length_map, Nat.succ_mul]; omega
        rw [List.length_append, h2, List.length_map, List.length_take, List.length_take] at h1
        have h3 : (i + 1) * es.length ≤ ds.length * es.length := Nat.mul_le_mul_right _ (by omega)
        rw [Nat.succ_mul] at h3
        have h4 : min i ds.length = i := by omega
        rw [h4] at h1
        omega
      refine ⟨us1, hu6, sz_lt (by omega), G6, us1 ++ [u], ((ltj.trans (Le.heap lj'.e e5)).trans l6).mut hD gn6, (ej.trans lj'.g).trans l6.g, upd_same, gn6, ?_⟩
      rw [take_snoc hc, List.map_append, ← List.append_assoc]
      exact (asj.mono (lj'.g.trans l6.g)).app (AtL.one a6)
    · have e4 : j = es.length := by omega
      subst e4
      refine .inl ⟨w1.stops H qj, Gj, us1, lj, huj, gnj, ?_⟩
      rw [tk, List.flatMap_append, List.flatMap_cons, List.flatMap_nil, List.append_nil]
      rw [List.take_length] at asj
      exact asj
  · have e4 : i = ds.length := by omega
    subst e4
    refine .inl ⟨w.stops H q, ?_⟩
    rw [List.take_length] at as
    exact k (.ref Dl) (upd Gi Dl (.lst us)) H (l0.trans (Le.fix l0.e l hD hu)) (at_lst.mpr ⟨Dl, us, rfl, upd_same, as.mono (Ex.new gn)⟩)
end
section
variable {X : Cx} {tg e : Expr} {te : TE}
theorem pi_tupK (K : PySem.W.Frag) (h : PE X e te) (hK : X.K = K := by rfl) : PI X tg e (iTup K te) := by
  subst hK
  exact pi_tup h
theorem pi_listK (K : PySem.W.Frag) (h : PE X e te) (hK : X.K = K := by rfl) : PI X tg e (iList K te) := by
  subst hK
  exact pi_list h
end
end SR
set_option maxRecDepth 100000
set_option maxHeartbeats 4000000
namespace SR
open PySem PySem.Spec PyProof.Rows L2 Evl
def topS (i : Nat) : Stmt := PySem.Challenge.pw_seenrows_k04_filters_multiplied.main.body.getD i (.Pass ⟨0, 0, 0, 0⟩)
section
variable {ω : Type} {P : Program} {w : World} {K : PySem.W.Frag} {mg : Str → Option Value} {base : Heap} {O : OI ω} {Ty : ω → Value}
/-! ### is_int -/
def rIsInt : List (D ω) → D ω → Prop := fun ds r => ∃ d, ds = [d] ∧ r = .bl (dInt d)
abbrev is_int_S : Stmt := topS 9
abbrev is_int_N : List Str := ["thing"]
theorem is_int_sc : FnScope is_int_N ["thing"] (defScope is_int_S) := ⟨rfl, rfl, rfl, by decide +kernel, rfl, by decide +kernel, by decide +kernel⟩
theorem ok_is_int {f : Addr} {fd : FuncData} (F : Fun K "is_int" "is_int" is_int_S f fd) (B : Bi mg) (OK : OT K O Ty) : FnOk P w K mg base CX0 1 f fd ["thing"] (SpD K O rIsInt) := by
  refine F.ok is_int_sc (fun vs H Q E h => ?_) (fun cdv A outer s H vs Q E hr h => ?_)
  · obtain ⟨G, ds, d, e, as, ⟨d0, rfl, rfl⟩, k⟩ := h
    exact as.len
  · obtain ⟨G, ds, d, e, as, ⟨d0, rfl, rfl⟩, k⟩ := h
    obtain ⟨v, r, rfl, a, n⟩ := atL_cons.mp as
    obtain rfl := atL_nil.mp n
    refine ⟨_, (pss_one (ps_ret (pe_and (pe_callB (call_isiK' K) (by rfl) B.isinstance (by decide +kernel) (pa_cons (pv 0) (pa_cons (pe_bltn (v := .ty "int") (by rfl) B.int (by decide +kernel) rfl) pa_nil))) (pe_one (pe_not (pe_callB (call_isiK' K) (by rfl) B.isinstance (by decide +kernel) (pa_cons (pv 0) (pa_cons (pe_bltn (v := .ty "bool") (by rfl) B.bool (by decide +kernel) rfl) pa_nil)))))))), ?_⟩
    exact s_retD (ed_of (ev_is (ev_andV (isi_int OK (ed_var (i := 0) rfl a)) fun _ => ev_notV (isi_bool OK (ed_var (i := 0) rfl a))) (by cases d0 <;> rfl)) (at_bl.mpr rfl)) e k
/-! ### is_list -/
def rIsList : List (D ω) → D ω → Prop := fun ds r => ∃ d, ds = [d] ∧ r = .bl (dSeq d)
abbrev is_list_S : Stmt := topS 10
abbrev is_list_N : List Str := ["thing"]
theorem is_list_sc : FnScope is_list_N ["thing"] (defScope is_list_S) := ⟨rfl, rfl, rfl, by decide +kernel, rfl, by decide +kernel, by decide +kernel⟩
theorem ok_is_list {f : Addr} {fd : FuncData} (F : Fun K "is_list" "is_list" is_list_S f fd) (B : Bi mg) (OK : OT K O Ty) : FnOk P w K mg base CX0 1 f fd ["thing"] (SpD K O rIsList) := by
  refine F.ok is_list_sc (fun vs H Q E h => ?_) (fun cdv A outer s H vs Q E hr h => ?_)
  · obtain ⟨G, ds, d, e, as, ⟨d0, rfl, rfl⟩, k⟩ := h
    exact as.len
  · obtain ⟨G, ds, d, e, as, ⟨d0, rfl, rfl⟩, k⟩ := h
    obtain ⟨v, r, rfl, a, n⟩ := atL_cons.mp as
    obtain rfl := atL_nil.mp n
    refine ⟨_, (pss_one (ps_ret (pe_callB (call_isiTK K) (by rfl) B.isinstance (by decide +kernel) (pa_cons (pv 0) (pa_cons (pe_tup (pa_cons (pe_bltn (v := .ty "list") (by rfl) B.list (by decide +kernel) rfl) (pa_cons (pe_bltn (v := .ty "tuple") (by rfl) B.tuple (by decide +kernel) rfl) pa_nil))) pa_nil))))), ?_⟩
    exact s_retD (ed_of (isi_seq OK (ed_var rfl a)) (at_bl.mpr rfl)) e k
/-! ### is_prime -/
def primes : List Int := [2, 3, 5, 7]
def dPrime : D ω → Bool | .int i => primes.contains i | _ => false
def rIsPrime : List (D ω) → D ω → Prop := fun ds r => ∃ d, ds = [d] ∧ r = .bl (dPrime d)
abbrev is_prime_S : Stmt := topS 11
abbrev is_prime_N : List Str := ["thing"]
theorem is_prime_sc : FnScope is_prime_N ["thing"] (defScope is_prime_S) := ⟨rfl, rfl, rfl, by decide +kernel, rfl, by decide +kernel, by decide +kernel⟩
theorem ok_is_prime {f a_PRIMES : Addr} {fd : FuncData} (F : Fun K "is_prime" "is_prime" is_prime_S f fd) (g_PRIMES : mg "PRIMES" = some (.ref a_PRIMES)) (pr : ∀ H, SqT K H a_PRIMES (primes.map V.int)) (h_is_int : DefOk P w K mg base 1 "is_int" ["thing"] (SpD K O rIsInt)) :
    FnOk P w K mg base CX0 2 f fd ["thing"] (SpD K O rIsPrime) := by
  refine F.ok is_prime_sc (fun vs H Q E h => ?_) (fun cdv A outer s H vs Q E hr h => ?_)
  · obtain ⟨G, ds, d, e, as, ⟨d0, rfl, rfl⟩, k⟩ := h
    exact as.len
  · obtain ⟨G, ds, d, e, as, ⟨d0, rfl, rfl⟩, k⟩ := h
    obtain ⟨v, r, rfl, a, n⟩ := atL_cons.mp as
    obtain rfl := atL_nil.mp n
    refine ⟨_, (pss_one (ps_ret (pe_and (pe_callD h_is_int (hr.mono (by first | decide | exact Nat.le_refl _)) (pa_cons (pv 0) pa_nil)) (pe_one (pe_cmpR op_in_seq (pv 0) (pe_glob (v := .ref a_PRIMES) rfl g_PRIMES rfl) rfl))))), ?_⟩
    refine s_retD (ed_of (v := .bl (dPrime d0)) (ev_is (ev_andV (a := dInt d0) (b := dPrime d0) (ev_bl (ed_call (eda_cons (ed_var (i := 0) rfl a) eda_nil) ⟨d0, rfl, rfl⟩)) fun hb => ?_) (by cases d0 <;> rfl)) (at_bl.mpr rfl)) e k
    cases d0 with
    | int i =>
      rw [at_int] at a
      subst a
      refine ev_is (ev_op (ev_var (i := 0) rfl) ev_c (rv_isT (pr G) rfl rfl)) ?_
      show V.bl (inV (.int i) (primes.map V.int)) = V.bl (primes.contains i)
      rw [inV_int]
    | _ => cases hb
/-! ### is_term -/
def dTerm : D ω → Bool
  | .lst [.int _, .int _] => true
  | .tup [.int _, .int _] => true
  | _ => false
def rIsTerm : List (D ω) → D ω → Prop := fun ds r => ∃ d, ds = [d] ∧ r = .bl (dTerm d)
theorem dTerm_of {d : D ω} (h : dTerm d = true) : ∃ i j, d = .lst [.int i, .int j] ∨ d = .tup [.int i, .int j] := by
  unfold dTerm at h
  split at h
  · exact ⟨_, _, Or.inl rfl⟩
  · exact ⟨_, _, Or.inr rfl⟩
  · cases h
theorem dItem_of {d : D ω} (hs : dSeq d = true) (hl : dLen d = 2) : ∃ a b, dItem d 0 = some a ∧ dItem d 1 = some b ∧ (dInt a && dInt b) = dTerm d := by
  cases d with
  | lst l =>
    match l, hl with
    | [a, b], _ => exact ⟨a, b, rfl, rfl, by cases a <;> cases b <;> rfl⟩
  | tup l =>
    match l, hl with
    | [a, b], _ => exact ⟨a, b, rfl, rfl, by cases a <;> cases b <;> rfl⟩
  | _ => cases hs
theorem dTerm_no {d : D ω} (h : dSeq d = true → dLen d ≠ 2) : dTerm d = false := by
  cases q : dTerm d with
  | false => rfl
  | true =>
    obtain ⟨i, j, rfl | rfl⟩ := dTerm_of q
    · exact absurd rfl (h rfl)
    · exact absurd rfl (h rfl)
abbrev is_term_S : Stmt := topS 12
abbrev is_term_N : List Str := ["thing"]
theorem is_term_sc : FnScope is_term_N ["thing"] (defScope is_term_S) := ⟨rfl, rfl, rfl, by decide +kernel, rfl, by decide +kernel, by decide +kernel⟩
theorem ok_is_term {f : Addr} {fd : FuncData} (F : Fun K "is_term" "is_term" is_term_S f fd) (B : Bi mg) (h_is_int : DefOk P w K mg base 1 "is_int" ["thing"] (SpD K O rIsInt)) (h_is_list : DefOk P w K mg base 1 "is_list" ["thing"] (SpD K O rIsList)) :
    FnOk P w K mg base CX0 2 f fd ["thing"] (SpD K O rIsTerm) := by
  refine F.ok is_term_sc (fun vs H Q E h => ?_) (fun cdv A outer s H vs Q E hr h => ?_)
  · obtain ⟨G, ds, d, e, as, ⟨d0, rfl, rfl⟩, k⟩ := h
    exact as.len
  · obtain ⟨G, ds, d, e, as, ⟨d0, rfl, rfl⟩, k⟩ := h
    obtain ⟨v, r, rfl, a, n⟩ := atL_cons.mp as
    obtain rfl := atL_nil.mp n
    refine ⟨_, (pss_one (ps_ret (pe_and (pe_callD h_is_list (hr.mono (by first | decide | exact Nat.le_refl _)) (pa_cons (pv 0) pa_nil)) (pe_and (pe_cmpR op_eq (pe_callB (call_lenK K) (by rfl) B.len (by decide +kernel) (pa_cons (pv 0) pa_nil)) pe_int (nomark _)) (pe_and (pe_callD h_is_int (hr.mono (by first | decide | exact Nat.le_refl _)) (pa_cons (pe_ixK K (pv 0) pe_int (fun _ _ => rfl)) pa_nil)) (pe_one (pe_callD h_is_int (hr.mono (by first | decide | exact Nat.le_refl _)) (pa_cons (pe_ixK K (pv 0) pe_int (fun _ _ => rfl)) pa_nil)))))))), ?_⟩
    refine s_retD (ed_of (v := .bl (dTerm d0)) ?_ (at_bl.mpr rfl)) e k
    have hv : EvD K O (tVar 0) [some v] G d0 := ed_var rfl a
    by_cases hs : dSeq d0 = true ∧ dLen d0 = 2
    · obtain ⟨x, y, hx, hy, hxy⟩ := dItem_of hs.1 hs.2
      refine ev_is (ev_andV (a := true) (b := dTerm d0) (ev_is (ev_bl (ed_call (eda_cons hv eda_nil) ⟨d0, rfl, rfl⟩)) (by rw [hs.1])) fun _ => ?_) rfl
      refine ev_is (ev_andV (a := true) (b := dTerm d0) (ev_is (ev_op (len_d hv hs.1) ev_c (rv_eq rfl)) (by rw [hs.2]; rfl)) fun _ => ?_) rfl
      refine ev_is (ev_andV (a := dInt x) (b := dInt y) (ev_bl (ed_call (eda_cons (ed_item hv (i := 0) ev_c hx) eda_nil) ⟨x, rfl, rfl⟩)) fun _ => ?_) (by rw [hxy])
      exact ev_bl (ed_call (eda_cons (ed_item hv (i := 1) ev_c hy) eda_nil) ⟨y, rfl, rfl⟩)
    · have hn : dTerm d0 = false := dTerm_no fun h1 h2 => hs ⟨h1, h2⟩
      rw [hn]
      refine ev_is (ev_andV (a := dSeq d0) (b := false) (ev_bl (ed_call (eda_cons hv eda_nil) ⟨d0, rfl, rfl⟩)) fun h1 => ?_) (by cases dSeq d0 <;> rfl)
      refine ev_is (ev_andV (a := false) (b := false) (ev_is (ev_op (len_d hv h1) ev_c (rv_eq rfl)) ?_) fun z => nomatch z) rfl
      have z : ¬ (V.int (dLen d0 : Nat) = V.int 2) := fun q => hs ⟨h1, by injection q with q; omega⟩
      show V.bl (decide (V.int (dLen d0 : Nat) = V.int 2)) = V.bl false
      rw [decide_eq_false z]
/-! ### first_bad_term -/
def badL : List (D ω) → Option Nat
  | [] => none
  | d :: l => if dTerm d then (badL l).map (· + 1) else some 0
def dBad : D ω → D ω
  | .lst l => match badL l with | none => .non | some i => .int (i : Nat)
  | .tup l => match badL l with | none => .non | some i => .int (i : Nat)
  | _ => .int 0
def rBad : List (D ω) → D ω → Prop := fun ds r => ∃ d, ds = [d] ∧ r = dBad d
theorem badL_at : ∀ {l : List (D ω)} {i : Nat} {d : D ω}, l[i]? = some d → (∀ j, j < i → ∀ c, l[j]? = some c → dTerm c = true) → dTerm d = false → badL l = some i
  | [], i, d, h, _, _ => by simp at h
  | c :: l, 0, d, h, _, hb => by
    have e : c = d := Option.some.inj h
    subst e
    unfold badL
    rw [hb]
    rfl
  | c :: l, i + 1, d, h, hp, hb => by
    unfold badL
    rw [hp 0 (Nat.succ_pos _) c rfl, if_pos rfl, badL_at (i := i) (by simpa using h) (fun j hj c' hc => hp (j + 1) (by omega) c' (by simpa using hc)) hb]
    rfl
theorem badL_none : ∀ {l : List (D ω)}, (∀ c, c ∈ l → dTerm c = true) → badL l = none
  | [], _ => rfl
  | c :: l, h => by
    unfold badL
    rw [h c (List.mem_cons_self ..), if_pos rfl, badL_none fun c' hc => h c' (List.mem_cons_of_mem _ hc)]
    rfl
abbrev first_bad_term_S : Stmt := topS 13
abbrev first_bad_term_N : List Str := ["terms", "index", "thing"]
theorem first_bad_term_sc : FnScope first_bad_term_N ["terms"] (defScope first_bad_term_S) := ⟨rfl, rfl, rfl, by decide +kernel, rfl, by decide +kernel, by decide +kernel⟩
theorem ok_first_bad_term {f : Addr} {fd : FuncData} (F : Fun K "first_bad_term" "first_bad_term" first_bad_term_S f fd) (B : Bi mg) (h_is_term : DefOk P w K mg base 2 "is_term" ["thing"] (SpD K O rIsTerm)) (h_is_list : DefOk P w K mg base 1 "is_list" ["thing"] (SpD K O rIsList)) :
    FnOk P w K mg base CX0 3 f fd ["terms"] (SpD K O rBad) := by
  refine F.ok first_bad_term_sc (fun vs H Q E h => ?_) (fun cdv A outer s H vs Q E hr h => ?_)
  · obtain ⟨G, ds, d, e, as, ⟨d0, rfl, rfl⟩, k⟩ := h
    exact as.len
  · obtain ⟨G, ds, d, e, as, ⟨d0, rfl, rfl⟩, k⟩ := h
    obtain ⟨v, r, rfl, a, n⟩ := atL_cons.mp as
    obtain rfl := atL_nil.mp n
    refine ⟨_, (pss_cons (ps_if (pt_not (pt_val (pe_callD h_is_list (hr.mono (by first | decide | exact Nat.le_refl _)) (pa_cons (pv 0) pa_nil)))) (pss_one (ps_ret pe_int)) pss_nil)
    (pss_cons (ps_for PassesOwn.never rfl (pi_or (pi_enum (by rfl) B.enumerate (pa_cons (pv 0) pa_nil)) (pi_enumT (by rfl) B.enumerate (pa_cons (pv 0) pa_nil))) (pg_tupK (k := 2) K rfl (pgs_cons (pg_name (i := 1) first_bad_term_sc.nd rfl (Or.inl rfl)) (pgs_cons (pg_name (i := 2) first_bad_term_sc.nd rfl (Or.inl rfl)) pgs_nil))) (pss_one (ps_if (pt_not (pt_val (pe_callD h_is_term (hr.mono (by first | decide | exact Nat.le_refl _)) (pa_cons (pv 2) pa_nil)))) (pss_one (ps_ret (pv 1))) pss_nil)))
    (pss_one (ps_ret pe_non)))), ?_⟩
    have hv : EvD K O (tVar 0) [some v, none, none] G d0 := ed_var rfl a
    refine q_ifG (b := !dSeq d0) (et_not (et_ofD (ed_call (eda_cons hv eda_nil) ⟨d0, rfl, rfl⟩))) e (fun hb H2 l => ?_) (fun hb H2 l => ?_)
    · refine s_retD (ed_of (v := .int 0) ev_c ?_) l.e (k.mono l)
      cases d0 <;> first | exact at_int.mpr rfl | cases hb
    · have hs : dSeq d0 = true := by cases q : dSeq d0 <;> first | rfl | (rw [q] at hb; cases hb)
      obtain ⟨items, hi, src⟩ : ∃ items : List (D ω), (dBad d0 = match badL items with | none => .non | some i => .int (i : Nat)) ∧ Src K O (fun σ H R => iEnum K (tCons (tVar 0) tNil) σ H R ∨ iEnumT K (tCons (tVar 0) tNil) σ H R) [some v, none, none] G (idxD items) := by
        cases d0 with
        | lst l => exact ⟨l, rfl, src_or1 (src_enum (eda_cons hv eda_nil))⟩
        | tup l => exact ⟨l, rfl, src_or2 (src_enumT (eda_cons hv eda_nil))⟩
        | _ => cases hs
      refine q_forS src l.e (fun i σ' G' H' => Le G H G' H' ∧ (∃ x y, σ' = [some v, x, y]) ∧ ∀ j, j < i → ∀ c, items[j]? = some c → dTerm c = true) (fun G0 H0 l0 => ⟨l.trans l0, ⟨_, _, rfl⟩, fun j hj => absurd hj (Nat.not_lt_zero _)⟩) ?_ ?_
      · intro G0 i d x σ' Gi Hi Gi' Hi' e0 hd e1 e2 p l' ad N hN
        obtain ⟨p1, ⟨x0, y0, rfl⟩, p3⟩ := p
        have hil : i < items.length := by
          have := (List.getElem?_eq_some_iff.mp hd).1
          rw [idxD_len] at this
          exact this
        have hc : items[i]? = some items[i] := List.getElem?_eq_getElem hil
        rw [idxD_get hc] at hd
        obtain rfl := (Option.some.inj hd).symm
        refine tg_pair ad l'.e fun x1 x2 a1 a2 => ?_
        obtain rfl := at_int.mp a1
        have hx2 : EvD K O (tVar 2) [some v, some (.int (i : Nat)), some x2] Gi' items[i] := ed_var rfl a2
        refine s_ifG (b := !dTerm items[i]) (et_not (et_ofD (ed_call (eda_cons hx2 eda_nil) ⟨_, rfl, rfl⟩))) l'.e (fun hb H3 l3 => ?_) (fun hb H3 l3 => ?_)
        · have hb' : dTerm items[i] = false := by cases q : dTerm items[i] <;> first | rfl | (rw [q] at hb; cases hb)
          refine s_retD (d := dBad d0) (ed_of (v := .int (i : Nat)) (ev_var rfl) ?_) l3.e (k.mono (p1.trans (l'.trans l3)))
          rw [hi, badL_at hc p3 hb']
          exact at_int.mpr rfl
        · have hb' : dTerm items[i] = true := by cases q : dTerm items[i] <;> first | rfl | (rw [q] at hb; cases hb)
          refine hN _ Gi' H3 (Ex.refl _) l3.e ⟨p1.trans (l'.trans l3), ⟨_, _, rfl⟩, fun j hj c hcj => ?_⟩
          by_cases q : j < i
          · exact p3 j q c hcj
          · have : j = i := by omega
            subst this
            rw [hc] at hcj
            cases hcj
            exact hb'
      · intro σ' G' H' e1 e2 p
        obtain ⟨p1, ⟨x0, y0, rfl⟩, p3⟩ := p
        refine s_retD (d := dBad d0) (ed_of (v := .non) ev_c ?_) e2 (k.mono p1)
        rw [hi, badL_none fun c hc => by
          obtain ⟨j, hj, rfl⟩ := List.mem_iff_getElem.mp hc
          exact p3 j (by rw [idxD_len]; exact hj) _ (List.getElem?_eq_getElem hj)]
        exact at_non.mpr rfl
/-! ### collected -/
def rColl : List (D ω) → D ω → Prop := fun ds r => ∃ p d rows, ds = [.int p, d] ∧ 0 < p ∧ RowsD d rows ∧ rows.length ≤ 30000 ∧ r = .lst ((coll p rows).map pairD)
abbrev collected_S : Stmt := topS 31
abbrev collected_N : List Str := ["prime", "pairs", "sums", "offsets", "offset", "coefficient"]
theorem collected_sc : FnScope collected_N ["prime", "pairs"] (defScope collected_S) := ⟨rfl, rfl, rfl, by decide +kernel, rfl, by decide +kernel, by decide +kernel⟩
theorem ok_collected {f : Addr} {fd : FuncData} (F : Fun K "collected" "collected" collected_S f fd) (B : Bi mg) : FnOk P w K mg base CX0 1 f fd ["prime", "pairs"] (SpD K O rColl) := by
  refine F.ok collected_sc (fun vs H Q E h => ?_) (fun cdv A outer s H vs Q E hr h => ?_)
  · obtain ⟨G, ds, d, e, as, ⟨p, d0, rows, rfl, _⟩, k⟩ := h
    exact as.len
  · obtain ⟨G, ds, d, e, as, ⟨p, d0, rows, rfl, hp, ⟨l, hl, hrows⟩, hz, rfl⟩, k⟩ := h
    obtain ⟨v0, r, rfl, a0, n⟩ := atL_cons.mp as
    obtain rfl := at_int.mp a0
    obtain ⟨v, r, rfl, a, n⟩ := atL_cons.mp n
    obtain rfl := atL_nil.mp n
    have hu := hu_of hr
    refine ⟨_, (pss_cons (ps_set (i := 2) collected_sc.nd rfl (Or.inr rfl) pe_dnewK)
    (pss_cons (ps_for PassesOwn.never rfl (pi_or (pi_list (pv 1)) (pi_tup (pv 1))) (pg_or (pg_tupK (k := 2) K rfl (pgs_cons (pg_name (i := 4) collected_sc.nd rfl (Or.inl rfl)) (pgs_cons (pg_name (i := 5) collected_sc.nd rfl (Or.inl rfl)) pgs_nil))) (pg_unl rfl (pgs_cons (pg_name (i := 4) collected_sc.nd rfl (Or.inl rfl)) (pgs_cons (pg_name (i := 5) collected_sc.nd rfl (Or.inl rfl)) pgs_nil)))) (pss_one (ps_asg (pe_op op_modN (pe_op op_add (pe_dget2 (by exact hu) (pv 2) (pv 4) pe_int ⟨rfl, rfl, rfl, rfl⟩) (pv 5)) (pv 0)) (pg_sub (pv 2) (pv 4) (set_dict (by exact hu))))))
    (pss_cons (ps_set (i := 3) collected_sc.nd rfl (Or.inl rfl) (pe_callB cr_sortedI (by rfl) B.sorted (by decide +kernel) (pa_cons (pe_lock (pe_lc (own := [("offset", 4)]) rfl collected_sc.nd (pi_keys (pv 2)) (blkOk_by (N := collected_N) (sc := defScope collected_S) (by decide +kernel)) (fun _ _ _ _ _ => (pg_name (i := 4) collected_sc.nd rfl (Or.inl rfl))) (fun _ _ _ _ _ => pts_nil) (fun _ _ _ _ _ => by exact (pe_callTy call_int1 (by rfl) B.int (by decide +kernel) (pa_cons (pv 4) pa_nil))))) pa_nil)))
    (pss_one (ps_ret (pe_lc (own := [("offset", 4)]) rfl collected_sc.nd (pi_list (pv 3)) (blkOk_by (N := collected_N) (sc := defScope collected_S) (by decide +kernel)) (fun _ _ _ _ _ => (pg_name (i := 4) collected_sc.nd rfl (Or.inl rfl))) (fun _ _ _ _ _ => by exact pts_one (pt_truK K (pe_dget (by exact hu) (pv 2) (pv 4) (fun _ _ => rfl)) (by intro _; rfl))) (fun _ _ _ _ _ => by exact (pe_tup (pa_cons (pv 4) (pa_cons (pe_dget (by exact hu) (pv 2) (pv 4) (fun _ _ => rfl)) pa_nil)))))))))), ?_⟩
    refine q_newD fun q hq => ?_
    have l1 : Le G H G (upd H q (.dK [])) := Le.newM e hq
    have src : Src K O (fun σ H R => iList K (tVar 1) σ H R ∨ iTup K (tVar 1) σ H R) [some (.int p), some v, some (.ref q), none, none, none] G l := by
      rcases hl with rfl | rfl
      · exact src_or1 (src_list (ed_var rfl a))
      · exact src_or2 (src_tup (ed_var rfl a))
    refine q_forS src l1.e (fun i σ' G' H' => Le G H G' H' ∧ (∃ x y, σ' = [some (.int p), some v, some (.ref q), none, x, y]) ∧ H' q = some (.dK (kvI (sums p (rows.take i)))) ∧ G' q = none)
      (fun G0 H0 l0 => ⟨l1.trans l0, ⟨_, _, rfl⟩, l0.h q _ upd_same, l0.gnone (none_of_ex e hq) (by rw [upd_same]; exact fun z => nomatch z)⟩) ?_ ?_
    · intro G0 i d x σ' Gi Hi Gi' Hi' e0 hd e1 e2 pv l' ad N hN
      obtain ⟨p1, ⟨x0, y0, rfl⟩, p3, p4⟩ := pv
      obtain ⟨⟨o, c⟩, hq2, hrow⟩ := hrows.get hd
      have h3 : Hi' q = some (.dK (kvI (sums p (rows.take i)))) := l'.h q _ p3
      have g3 : Gi' q = none := l'.gnone p4 (by rw [p3]; exact fun z => nomatch z)
      have body : ∀ (De : Ends) (hn : De.nx = N), tAsg (tOp (rI (fun _ j => j ≠ 0) fun i j => V.int (i.fmod j)) (tOp (rI0 fun i j => V.int (i + j)) (tDGet2 (tVar 2) (tVar 4) (tC (.int 0))) (tVar 5)) (tVar 0)) (gSub (tVar 2) (tVar 4) rSetD) De [some (.int p), some v, some (.ref q), none, some (.int o), some (.int c)] Hi' := by
        intro De hn
        refine s_setD h3 (c := ((getI (sums p (rows.take i)) o).getD 0 + c).fmod p) (o := o) (ev_op (ev_op (ev_dget2 (ev_var rfl) h3 (ev_var rfl) ev_c) (ev_var rfl) rv_I0) (ev_var rfl) (rv_I (by omega))) (ev_var rfl) (ev_var rfl) ?_ fun H4 e4 => ?_
        · have h5 := sums_len (p := p) (rows := rows.take i) (m := [])
          have h6 : (rows.take i).length ≤ rows.length := by rw [List.length_take]; omega
          show (sums p (rows.take i)).length < 100000
          unfold sums
          simp only [List.length_nil] at h5
          omega
        · rw [hn]
          refine hN _ Gi' _ (Ex.refl _) (Le.mut (p1.trans (l'.trans (Le.heap l'.e e4))) hq g3).e ⟨Le.mut (p1.trans (l'.trans (Le.heap l'.e e4))) hq g3, ⟨_, _, rfl⟩, ?_, g3⟩
          rw [sums_more hq2]
          exact upd_same
      rcases hrow with rfl | rfl
      · refine Or.inr (tg_pairL ad l'.e fun x1 x2 a1 a2 => ?_)
        obtain rfl := at_int.mp a1
        obtain rfl := at_int.mp a2
        exact body _ rfl
      · refine Or.inl (tg_pair ad l'.e fun x1 x2 a1 a2 => ?_)
        obtain rfl := at_int.mp a1
        obtain rfl := at_int.mp a2
        exact body _ rfl
    · intro σ' G' H' e1 e2 pv
      obtain ⟨p1, ⟨x0, y0, rfl⟩, p3, p4⟩ := pv
      rw [hrows.len, List.take_length] at p3
      have lf := Le.fix e p1 hq p3
      have hml : (sums p rows).length ≤ 30000 := by
        have h5 := sums_len (p := p) (rows := rows) (m := [])
        simp only [List.length_nil] at h5
        show (rows.foldl (step p) []).length ≤ 30000
        omega
      have hm : (upd G' q (.dK (kvI (sums p rows)))) q = some (.dK (kvI (sums p rows))) := upd_same
      have ho : EvD K O (tLockE (tLc (iKeys (tVar 2)) (gName 4) tYes (tCB (fun xs H Q => (∃ i, xs = [V.int i] ∧ Q (.int i) H) ∨ ∃ k, xs = [V.bl k] ∧ Q (.int (if k then 1 else 0)) H) (tCons (tVar 4) tNil)) [4])) [some (.int p), some v, some (.ref q), none, x0, y0] (upd G' q (.dK (kvI (sums p rows)))) (.lst (((sums p rows).map (·.1)).map D.int)) := by
        refine ed_lock hm True.intro ⟨_, rfl⟩ ?_ fun od => ?_
        · show noObjL _ = true
          exact noObj_ints
        · have h7 := ed_lc (K := K) (O := O) (te := tCB (fun xs H Q => (∃ i, xs = [V.int i] ∧ Q (.int i) H) ∨ ∃ k, xs = [V.bl k] ∧ Q (.int (if k then 1 else 0)) H) (tCons (tVar 4) tNil)) (tt := tYes) (vs := [4]) (g := gName 4) (fun _ => true) (fun d => d) (src_keys (O := O) (td := tVar 2) (σ := [some (.int p), some v, some (.ref q), none, x0, y0]) (ev_var rfl) (upd_same (a := q) (o := .frz od (.dK (kvI (sums p rows)))) (H := upd G' q (.dK (kvI (sums p rows)))))) (by rw [List.length_map]; exact Nat.le_trans hml (by omega)) ?_
          · have e8 : (((sums p rows).map fun q => (D.int q.1 : D ω)).filter fun _ => true).map (fun d => d) = ((sums p rows).map (·.1)).map D.int := by
              rw [List.filter_eq_self.mpr (fun _ _ => rfl), List.map_id', List.map_map]
              rfl
            rw [e8] at h7
            exact h7
          · intro i d x Gi Hi hd eg eh ad Q' hQ
            obtain ⟨w, rfl⟩ : ∃ w, d = D.int w := by
              have hi : i < (sums p rows).length := by
                have := (List.getElem?_eq_some_iff.mp hd).1
                rw [List.length_map] at this
                exact this
              rw [List.getElem?_map, List.getElem?_eq_getElem hi] at hd
              exact ⟨_, (Option.some.inj hd).symm⟩
            obtain rfl := at_int.mp ad
            exact hQ _ Hi (Ex.refl _) rfl et_yes fun _ => ed_of (ev_int1 (ev_var rfl)) (at_int.mpr rfl)
      refine q_asgD (ed_sorted ho) lf.e fun vo G5 H5 l5 ao => ?_
      have hm5 : G5 q = some (.dK (kvI (sums p rows))) := l5.g q _ hm
      refine s_retD ?_ l5.e (k.mono (lf.trans l5))
      have h8 := ed_lc (K := K) (O := O) (te := tTup (tCons (tVar 4) (tCons (tDGet (tVar 2) (tVar 4)) tNil))) (tt := tTruK K (tDGet (tVar 2) (tVar 4))) (vs := [4]) (g := gName 4) (fun d => match d with | .int o => coef p rows o != 0 | _ => false) (fun d => match d with | .int o => pairD (o, coef p rows o) | _ => d)
        (src_list (tl := tVar 3) (σ := [some (.int p), some v, some (.ref q), some vo, x0, y0]) (ed_var rfl ao)) (by rw [List.length_map, srt_perm.length_eq, List.length_map]; exact Nat.le_trans hml (by omega)) ?_
      · have e8 : ∀ l : List Int, ((l.map (D.int (ω := ω))).filter fun d => match d with | .int o => coef p rows o != 0 | _ => false).map (fun d => match d with | .int o => pairD (o, coef p rows o) | _ => d) = ((l.filter fun o => coef p rows o != 0).map fun o => (o, coef p rows o)).map pairD := by
          intro l
          induction l with
          | nil => rfl
          | cons o r ih =>
            rw [List.map_cons, List.filter_cons, List.filter_cons]
            by_cases ho : (coef p rows o != 0) = true
            · simp only [ho, if_true, List.map_cons]
              rw [ih]
            · simp only [ho, if_false]
              exact ih
        rw [e8] at h8
        exact h8
      · intro i d x Gi Hi hd eg eh ad Q' hQ
        obtain ⟨o, ho', rfl⟩ : ∃ o, o ∈ srt ((sums p rows).map (·.1)) ∧ d = D.int o := by
          have hi : i < (srt ((sums p rows).map (·.1))).length := by
            have := (List.getElem?_eq_some_iff.mp hd).1
            rw [List.length_map] at this
            exact this
          rw [List.getElem?_map, List.getElem?_eq_getElem hi] at hd
          exact ⟨_, List.getElem_mem hi, (Option.some.inj hd).symm⟩
        obtain rfl := at_int.mp ad
        have hmem : o ∈ (sums p rows).map (·.1) := srt_perm.mem_iff.mp ho'
        obtain ⟨c, hc⟩ := Option.isSome_iff_exists.mp (getI_some.mpr hmem)
        have hco : coef p rows o = c := by unfold coef; rw [hc]; rfl
        have hg := eg q _ hm5
        refine hQ _ Hi (Ex.refl _) rfl ?_ fun _ => ?_
        · show EvT _ _ _ (coef p rows o != 0)
          rw [hco]
          exact et_truI (ev_dget (ev_var rfl) hg (ev_var rfl) hc)
        · show EvD _ _ _ _ _ (pairD (o, coef p rows o))
          rw [hco]
          exact ed_tup (eda_cons (ed_of (ev_var rfl) (at_int.mpr rfl)) (eda_cons (ed_of (ev_dget (ev_var rfl) hg (ev_var rfl) hc) (at_int.mpr rfl)) eda_nil)) (by show 2 ≤ 100000; decide)
end
end SR
set_option maxRecDepth 100000
set_option maxHeartbeats 4000000
namespace SR
open PySem PySem.Spec PyProof.Rows L2 Evl
theorem funD_ok {P : Program} {w : World} {K : PySem.W.Frag} {mg : Str → Option Value} {base : Heap} {x qual : Str} {st : Stmt} {dvs : List V} {kws : List (Str × V)} {f : Addr} {fd : FuncData} {N ps : List Str} {k : Nat} {sp : Sp}
    (F : FunD K x qual (defArgs st) (defBody st) (defScope st) dvs kws f fd) (S : FnScope N ps (defScope st)) (len : ∀ vs H Q E, sp vs H Q E → vs.length = ps.length)
    (hbody : ∀ (cdv : Value) (A : Around) (outer : List Env) (s : Shared) (H : Hp) (vs : List V) (Q : VK) (E : XK), Room k (A.deeper (envOfC qual (defScope st) s.heap.objs.size f cdv)) → sp vs H Q E →
      ∃ t, PSs (cxOf CX0 P w K mg base N qual (defScope st) f cdv A outer s H E).nox (defBody st) t ∧ t { nx := fun _ H' => Q .non H', rt := Q } (start N vs) H) : FnOk P w K mg base CX0 (k + 1) f fd ps sp :=
  FunD.ok F S len fun cdv A outer s H vs Q E hr h => by
    obtain ⟨t, h1, h2⟩ := hbody cdv A outer s H vs Q E hr h
    exact ⟨t, h1.nox, h2⟩
/-! ### Filter.__init__, good arguments -/
def spInit (K : PySem.W.Frag) (C : Addr) : Sp := fun vs H Q _ => ∃ (G H1 : Hp) (x dx : Addr) (p : Int) (v : V) (d : D FilS) (rows : List (Int × Int)), vs = [.ref x, .int p, v] ∧ Ex G H1 ∧ H1 x = none ∧ H1 dx = none ∧ dx ≠ x ∧ H = upd (upd H1 dx (.own x)) x (.ins C dx []) ∧
  At K (FilO K C) G d v ∧ RowsD d rows ∧ rows.length ≤ 30000 ∧ primes.contains p = true ∧ ∀ G2 H2, Le G H1 G2 H2 → FilAt K C G2 x ⟨p, coll p rows⟩ → Q .non H2
theorem rows_bad {ω : Type} {d : D ω} {rows : List (Int × Int)} (h : RowsD d rows) : dBad d = .non := by
  obtain ⟨l, hl, hr⟩ := h
  have hb : badL l = none := badL_none fun c hc => by
    obtain ⟨j, hj, rfl⟩ := List.mem_iff_getElem.mp hc
    obtain ⟨q, _, h1⟩ := hr.get (List.getElem?_eq_getElem hj)
    rcases h1 with h1 | h1 <;> rw [h1] <;> rfl
  rcases hl with rfl | rfl
  · show (match badL l with | none => D.non | some i => D.int (i : Nat)) = D.non
    rw [hb]
  · show (match badL l with | none => D.non | some i => D.int (i : Nat)) = D.non
    rw [hb]
theorem prime_pos {p : Int} (h : primes.contains p = true) : 0 < p := by
  have h1 : p ∈ primes := List.contains_iff_mem.mp h
  unfold primes at h1
  simp at h1
  omega
theorem putF_len {f : Str} {v : V} : ∀ {fs : List (Str × V)}, (putF f v fs).length ≤ fs.length + 1
  | [] => Nat.le_refl _
  | (g, x) :: r => by
    show (if g = f then (g, v) :: r else (g, x) :: putF f v r).length ≤ _
    split
    · simp
    · have := putF_len (f := f) (v := v) (fs := r)
      simp only [List.length_cons]
      omega
theorem flds_eq {p : Int} {tp kd : Addr} : putF "coefficients" (.ref kd) (putF "pairs" (.ref tp) (putF "prime" (.int p) [])) = flds p tp kd := by
  have h1 : ¬ (("prime" : Str) = "pairs") := by decide +kernel
  have h2 : ¬ (("prime" : Str) = "coefficients") := by decide +kernel
  have h3 : ¬ (("pairs" : Str) = "coefficients") := by decide +kernel
  unfold flds
  simp [putF, h1, h2, h3]
theorem ts_kv {K : PySem.W.Frag} {H : Hp} : ∀ {ts : List Addr} {ps : List (Int × Int)}, TsAt K H ts ps → Paired (fun p (kv : Key × V) => SqT K H p [kV kv.1, kv.2]) ts (kvI ps)
  | _, _, .nil => .nil
  | _, _, .cons h t => .cons h (ts_kv t)
section
variable {P : Program} {w : World} {K : PySem.W.Frag} {mg : Str → Option Value} {base : Heap} {C : Addr} {Ty : FilS → Value}
abbrev Filter___init___S : Stmt := inClass (topS 49) 0
abbrev Filter___init___N : List Str := ["self", "prime", "terms", "index"]
theorem Filter___init___sc : FnScope Filter___init___N ["self", "prime", "terms"] (defScope Filter___init___S) := ⟨rfl, rfl, rfl, by decide +kernel, rfl, by decide +kernel, by decide +kernel⟩
theorem ok_init {f : Addr} {fd : FuncData} {dvs : List V} {kws : List (Str × V)} (F : FunD K "__init__" "Filter.__init__" (defArgs Filter___init___S) (defBody Filter___init___S) (defScope Filter___init___S) dvs kws f fd) (B : Bi mg) (c : FilC K C)
    (h_is_prime : DefOk P w K mg base 2 "is_prime" ["thing"] (SpD K (FilO K C) rIsPrime)) (h_first_bad_term : DefOk P w K mg base 3 "first_bad_term" ["terms"] (SpD K (FilO K C) rBad)) (h_collected : DefOk P w K mg base 1 "collected" ["prime", "pairs"] (SpD K (FilO K C) rColl)) :
    FnOk P w K mg base CX0 4 f fd ["self", "prime", "terms"] (spInit K C) := by
  refine funD_ok F Filter___init___sc (fun vs H Q E h => ?_) (fun cdv A outer s H vs Q E hr h => ?_)
  · obtain ⟨G, H1, x, dx, p, v, d, rows, rfl, _⟩ := h
    rfl
  · obtain ⟨G, H1, x, dx, p, v, d, rows, rfl, e, hx, hdx, hne, rfl, a, hrows, hz, hp, k⟩ := h
    refine ⟨_, (pss_cons (ps_if (pt_not (pt_val (pe_callD h_is_prime (hr.mono (by first | decide | exact Nat.le_refl _)) (pa_cons (pv 1) pa_nil)))) (pss_one ps_never) pss_nil)
    (pss_cons (ps_set (i := 3) Filter___init___sc.nd rfl (Or.inl rfl) (pe_callD h_first_bad_term (hr.mono (by first | decide | exact Nat.le_refl _)) (pa_cons (pv 2) pa_nil)))
    (pss_cons (ps_if (pt_cmpR op_notN (pv 3) pe_non (nomark _)) (pss_one ps_never) pss_nil)
    (pss_cons (ps_fld (pv 0) (pv 1) rfl)
    (pss_cons (ps_fld (pv 0) (pe_callTy call_tupleF (by rfl) B.tuple (by decide +kernel) (pa_cons (pe_callD h_collected (hr.mono (by first | decide | exact Nat.le_refl _)) (pa_cons (pv 1) (pa_cons (pv 2) pa_nil))) pa_nil)) rfl)
    (pss_one (ps_fld (pv 0) (pe_callTy (call_dictT rfl) (by rfl) B.dict (by decide +kernel) (pa_cons (pe_fldK K (pv 0)) pa_nil)) rfl))))))), ?_⟩
    have l0 : Le G H1 G (upd H1 dx (.own x)) := Le.newM e hdx
    have l1 : Le G H1 G (upd (upd H1 dx (.own x)) x (.ins C dx [])) := l0.trans (Le.newM l0.e (by rw [upd_ne (Ne.symm hne)]; exact hx))
    have gx : G x = none := none_of_ex e hx
    have hv1 : ∀ y, EvD K (FilO K C) (tVar 1) [some (.ref x), some (.int p), some v, y] G (.int p) := fun y => ed_var rfl (at_int.mpr rfl)
    have hv2 : ∀ y, EvD K (FilO K C) (tVar 2) [some (.ref x), some (.int p), some v, y] G d := fun y => ed_var rfl a
    refine q_skip (et_is (et_not (et_ofD (ed_call (eda_cons (hv1 _) eda_nil) ⟨_, rfl, rfl⟩))) (by show (!primes.contains p) = false; rw [hp]; rfl)) l1.e fun H2 l2 => ?_
    refine q_asgV (v := .non) (ev_non (ed_call (eda_cons (hv2 _) eda_nil) ⟨d, rfl, (rows_bad hrows).symm⟩)) l2.e fun H3 l3 => ?_
    refine q_skip (et_is (et_test (b := false) (ev_op (z := .bl (!decide (V.non = V.non))) (ev_var (i := 3) rfl) ev_c fun H4 e4 Q q => ⟨rfl, q H4 (Ex.refl H4)⟩)) rfl) l3.e fun H4 l4 => ?_
    have l14 := ((l1.trans l2).trans l3).trans l4
    have hx4 : H4 x = some (.ins C dx []) := l4.h x _ (l3.h x _ (l2.h x _ upd_same))
    refine ⟨_, rfl, _, rfl, x, C, dx, [], rfl, hx4, c.cl, c.n1, (by decide), ?_⟩
    have l5 := l14.mut (o := .ins C dx (putF "prime" (.int p) [])) hx gx
    refine ed_call (K := K) (O := FilO K C) (R := rColl) (ds := [.int p, d]) (d := .lst ((coll p rows).map pairD)) (eda_cons (hv1 _) (eda_cons (hv2 _) eda_nil)) ⟨p, d, rows, rfl, prime_pos hp, hrows, hz, rfl⟩ _ l5.e _ fun vl G6 H6 l6 al => ?_
    obtain ⟨la, vs, rfl, hs, as⟩ := at_lst.mp al
    obtain ⟨ts, rfl, hts⟩ := pairs_atL as
    refine ⟨la, _, rfl, sq_of (l6.e _ _ hs), fun tp o htp ho => ?_⟩
    have l7 := Le.new l6.e (o := .frz o (.tup (ts.map V.ref))) htp
    have hx6 : H6 x = some (.ins C dx (putF "prime" (.int p) [])) := l6.h x _ upd_same
    have gx6 : G6 x = none := l6.gnone gx (by rw [upd_same]; exact fun z => nomatch z)
    have hx7 : (upd H6 tp (.frz o (.tup (ts.map V.ref)))) x = some (.ins C dx (putF "prime" (.int p) [])) := l7.h x _ hx6
    have gx7 : (upd G6 tp (.frz o (.tup (ts.map V.ref)))) x = none := l7.gnone gx6 (by rw [hx6]; exact fun z => nomatch z)
    refine ⟨_, rfl, x, C, dx, _, rfl, hx7, c.cl, c.n2, (Nat.lt_of_le_of_lt putF_len (by decide)), ?_⟩
    have l8 := ((l5.trans l6).trans l7).mut (o := .ins C dx (putF "pairs" (.ref tp) (putF "prime" (.int p) []))) hx gx7
    have hl2 : (putF "pairs" (.ref tp) (putF "prime" (.int p) [])).lookup ("pairs" : Str) = some (V.ref tp) := by rw [lookup_putF, if_pos rfl]
    refine ⟨_, rfl, x, C, dx, _, _, rfl, upd_same, c.cl, c.n2, hl2, tp, o, ts, kvI (coll p rows), rfl, ho, ?_, ?_, fun kd hkd => ?_⟩
    · rw [upd_ne (by intro z; subst z; rw [hx6] at htp; cases htp), upd_same]
    · exact ts_kv ((hts.mono l7.g).mono l8.e)
    have hmk : mergeK [] (kvI (coll p rows)) = kvI (coll p rows) := by
      have h9 := mergeK_kvI (a := []) (b := coll p rows) (by rw [List.nil_append]; exact coll_nd)
      rw [List.nil_append] at h9
      exact h9
    rw [hmk]
    have l9 := Le.new l8.e (o := .dK (kvI (coll p rows))) hkd
    have kx : kd ≠ x := by intro z; subst z; rw [upd_same] at hkd; cases hkd
    have gx9 : (upd (upd G6 tp (.frz o (.tup (ts.map V.ref)))) kd (.dK (kvI (coll p rows)))) x = none := by rw [upd_ne (Ne.symm kx)]; exact gx7
    refine ⟨_, rfl, x, C, dx, _, rfl, (by rw [upd_ne (Ne.symm kx)]; exact upd_same), c.cl, c.n3, (Nat.lt_of_le_of_lt putF_len (Nat.lt_of_le_of_lt (Nat.succ_le_succ putF_len) (by show 1 + 1 < 1000; decide))), ?_⟩
    have l10 := (l8.trans l9).mut (o := .ins C dx (putF "coefficients" (.ref kd) (putF "pairs" (.ref tp) (putF "prime" (.int p) [])))) hx gx9
    have l11 := Le.fix e l10 hx upd_same
    refine k _ _ l11 ⟨dx, tp, o, ts, kd, ?_, ho, ?_, ?_, ?_⟩
    · rw [upd_same, flds_eq]
    · have n1 : tp ≠ x := by intro z; subst z; rw [hx6] at htp; cases htp
      have n2 : tp ≠ kd := by
        intro z
        subst z
        rw [upd_ne n1, upd_same] at hkd
        cases hkd
      rw [upd_ne n1, upd_ne n2, upd_same]
    · exact ((hts.mono l7.g).mono l9.g).mono (Ex.new gx9)
    · rw [upd_ne kx, upd_same]
end
end SR
set_option maxRecDepth 100000
set_option maxHeartbeats 4000000
namespace SR
open PySem PySem.Spec PyProof.Rows L2 Evl
/-- the kinds of builtin things beside a Filter -/
def kinds : List String := ["NoneType", "bool", "int", "str", "list", "tuple", "dict"]
structure FilT (K : PySem.W.Frag) (C : Addr) : Prop where
  no : ∀ n, n ∈ kinds → PySem.W.kitOne K (.type n) (.ref C) = some false
  int : PySem.W.kitOne K (.ref C) (.type "int") = some false
  bool : PySem.W.kitOne K (.ref C) (.type "bool") = some false
  list : PySem.W.kitOne K (.ref C) (.type "list") = some false
  tuple : PySem.W.kitOne K (.ref C) (.type "tuple") = some false
  ca : PySem.W.findIn K (.ref C) "__class__" = some (some (.builtin "object.__class__"))
  cn : PySem.W.specialIn K (.builtin "object.__class__") "__get__" = some (some (.builtin "getset_descriptor.__get__"))
  ct : PySem.W.takesIn K (.builtin "object.__class__") = some true
  cm : PySem.W.mroIn K C (.type "object") = some true
section
variable {P : Program} {w : World} {K : PySem.W.Frag} {mg : Str → Option Value} {base : Heap} {C : Addr}
theorem ot_fil (c : FilC K C) (t : FilT K C) : OT K (FilO K C) (fun _ => .ref C) where
  ty := fun H a w ⟨dx, tp, o, ts, kd, h1, _⟩ => .base (.ins h1 c.cl t.ca t.cn t.ct t.cm)
  int := fun _ => t.int
  bool := fun _ => t.bool
  list := fun _ => t.list
  tuple := fun _ => t.tuple
def dFil : D FilS → Bool | .obj _ => true | _ => false
theorem kit_own {C : Addr} (d : D FilS) (t : FilT K C) : PySem.W.kitOne K (tyD (fun _ => .ref C) d) (.ref C) = some (dFil d) := by
  cases d with
  | obj w =>
    show (if (Value.ref C == Value.ref C) = true then some true else PySem.W.kitCls K (.ref C) (.ref C)) = some true
    rw [if_pos (by simp)]
  | _ => exact t.no _ (by unfold kinds; simp [tyD])
theorem isi_own {C_Filter : Addr} {te : TE} {G : Hp} {σ : L2.St} {d : D FilS} (c : FilC K C_Filter) (t : FilT K C_Filter) (h : EvD K (FilO K C_Filter) te σ G d) : Ev (tCB (rIsi K) (tCons te (tCons (tC (.ref C_Filter)) tNil))) σ G (.bl (dFil d)) := fun H1 e Q q =>
  h H1 e _ fun v G2 H2 l a => ⟨v, .ref C_Filter, _, _, _, rfl, .own _, (ty_of (ot_fil c t).ty (a.mono l.e)), kit_own d t, q H2 l.h⟩
/-! ### terms, low, high, span, bool, ==, [] -/
def rTerms : List (D FilS) → D FilS → Prop := fun ds r => ∃ w, ds = [.obj w] ∧ r = .lst (w.ps.map pairD)
abbrev Filter_terms_S : Stmt := inClass (topS 49) 2
abbrev Filter_terms_N : List Str := ["self"]
theorem Filter_terms_sc : FnScope Filter_terms_N ["self"] (defScope Filter_terms_S) := ⟨rfl, rfl, rfl, by decide +kernel, rfl, by decide +kernel, by decide +kernel⟩
theorem ok_terms {f : Addr} {fd : FuncData} (F : Fun K "terms" "Filter.terms" Filter_terms_S f fd) (B : Bi mg) (c : FilC K C) : FnOk P w K mg base CX0 1 f fd ["self"] (SpD K (FilO K C) rTerms) := by
  refine F.ok Filter_terms_sc (fun vs H Q E h => ?_) (fun cdv A outer s H vs Q E hr h => ?_)
  · obtain ⟨G, ds, d, e, as, ⟨w0, rfl, rfl⟩, k⟩ := h
    exact as.len
  · obtain ⟨G, ds, d, e, as, ⟨w0, rfl, rfl⟩, k⟩ := h
    obtain ⟨v, r, rfl, a, n⟩ := atL_cons.mp as
    obtain rfl := atL_nil.mp n
    refine ⟨_, (pss_one (ps_ret (pe_callTy call_list_of (by rfl) B.list (by decide +kernel) (pa_cons (pe_fldK K (pv 0)) pa_nil)))), ?_⟩
    exact s_retD (ed_listT (ed_pairs c (ed_var rfl a))) e k
def rBoolF : List (D FilS) → D FilS → Prop := fun ds r => ∃ w, ds = [.obj w] ∧ r = .bl (!w.ps.isEmpty)
abbrev Filter___bool___S : Stmt := inClass (topS 49) 8
abbrev Filter___bool___N : List Str := ["self"]
theorem Filter___bool___sc : FnScope Filter___bool___N ["self"] (defScope Filter___bool___S) := ⟨rfl, rfl, rfl, by decide +kernel, rfl, by decide +kernel, by decide +kernel⟩
theorem ok_bool {f : Addr} {fd : FuncData} (F : Fun K "__bool__" "Filter.__bool__" Filter___bool___S f fd) (B : Bi mg) (c : FilC K C) : FnOk P w K mg base CX0 1 f fd ["self"] (SpD K (FilO K C) rBoolF) := by
  refine F.ok Filter___bool___sc (fun vs H Q E h => ?_) (fun cdv A outer s H vs Q E hr h => ?_)
  · obtain ⟨G, ds, d, e, as, ⟨w0, rfl, rfl⟩, k⟩ := h
    exact as.len
  · obtain ⟨G, ds, d, e, as, ⟨w0, rfl, rfl⟩, k⟩ := h
    obtain ⟨v, r, rfl, a, n⟩ := atL_cons.mp as
    obtain rfl := atL_nil.mp n
    refine ⟨_, (pss_one (ps_ret (pe_callTy (call_boolT K) (by rfl) B.bool (by decide +kernel) (pa_cons (pe_fldK K (pv 0)) pa_nil)))), ?_⟩
    have h1 := ev_boolT (ed_pairs c (ed_var (i := 0) (σ := [some v]) rfl a))
    have e1 : (w0.ps.map (pairD (ω := FilS))).isEmpty = w0.ps.isEmpty := by cases w0.ps <;> rfl
    rw [e1] at h1
    exact s_retD (ed_of h1 (at_bl.mpr rfl)) e k
def rGet : List (D FilS) → D FilS → Prop := fun ds r => ∃ w o, ds = [.obj w, .int o] ∧ r = .int ((getI w.ps o).getD 0)
abbrev Filter___getitem___S : Stmt := inClass (topS 49) 10
abbrev Filter___getitem___N : List Str := ["self", "at"]
theorem Filter___getitem___sc : FnScope Filter___getitem___N ["self", "at"] (defScope Filter___getitem___S) := ⟨rfl, rfl, rfl, by decide +kernel, rfl, by decide +kernel, by decide +kernel⟩
theorem ok_getitem {f : Addr} {fd : FuncData} (F : Fun K "__getitem__" "Filter.__getitem__" Filter___getitem___S f fd) (B : Bi mg) (c : FilC K C) : FnOk P w K mg base CX0 1 f fd ["self", "at"] (SpD K (FilO K C) rGet) := by
  refine F.ok Filter___getitem___sc (fun vs H Q E h => ?_) (fun cdv A outer s H vs Q E hr h => ?_)
  · obtain ⟨G, ds, d, e, as, ⟨w0, o, rfl, rfl⟩, k⟩ := h
    exact as.len
  · obtain ⟨G, ds, d, e, as, ⟨w0, o, rfl, rfl⟩, k⟩ := h
    obtain ⟨v, r, rfl, a, n⟩ := atL_cons.mp as
    obtain ⟨v2, r, rfl, a2, n⟩ := atL_cons.mp n
    obtain rfl := atL_nil.mp n
    obtain rfl := at_int.mp a2
    have hu := hu_of hr
    refine ⟨_, (pss_one (ps_ret (pe_dget2 (by exact hu) (pe_fldK K (pv 0)) (pv 1) pe_int ⟨rfl, rfl, rfl, rfl⟩))), ?_⟩
    exact s_retD (ed_of (ev_dget2D (ed_coefs c (ed_var (i := 0) rfl a)) (ev_var (i := 1) rfl) ev_c) (at_int.mpr rfl)) e k
/-- the first and the last place -/
def lowO (ps : List (Int × Int)) : Option Int := ps.head?.map (·.1)
def highO (ps : List (Int × Int)) : Option Int := ps.getLast?.map (·.1)
def optD : Option Int → D FilS | none => .non | some i => .int i
def rLow : List (D FilS) → D FilS → Prop := fun ds r => ∃ w, ds = [.obj w] ∧ r = optD (lowO w.ps)
def rHigh : List (D FilS) → D FilS → Prop := fun ds r => ∃ w, ds = [.obj w] ∧ r = optD (highO w.ps)
def rSpan : List (D FilS) → D FilS → Prop := fun ds r => ∃ w, ds = [.obj w] ∧ r = optD ((lowO w.ps).bind fun a => (highO w.ps).map fun b => b - a)
theorem ed_first {te : TE} {σ : L2.St} {G : Hp} {q : Int × Int} {r : List (Int × Int)} {O : OI FilS} (h : EvD K O te σ G (.tup ((q :: r).map pairD))) : Ev (tOp (fun x y H Q => rIxL K x y H Q ∨ rIxT K x y H Q) (tOp (rIxT K) te (tC (.int 0))) (tC (.int 0))) σ G (.int q.1) :=
  ev_int (ed_item (i := 0) (ed_itemT (i := 0) (c := pairD q) h ev_c rfl) ev_c rfl)
theorem ed_final {te : TE} {σ : L2.St} {G : Hp} {q : Int × Int} {r : List (Int × Int)} {O : OI FilS} (h : EvD K O te σ G (.tup ((r ++ [q]).map pairD))) : Ev (tOp (fun x y H Q => rIxL K x y H Q ∨ rIxT K x y H Q) (tOp (rIxT K) te (tUn (rU fun i => .int (-i)) (tC (.int 1)))) (tC (.int 0))) σ G (.int q.1) :=
  ev_int (ed_item (i := 0) (ed_lastT (c := pairD q) h ev_neg1 (by simp)) ev_c rfl)
abbrev Filter_low_S : Stmt := inClass (topS 49) 3
abbrev Filter_low_N : List Str := ["self"]
theorem Filter_low_sc : FnScope Filter_low_N ["self"] (defScope Filter_low_S) := ⟨rfl, rfl, rfl, by decide +kernel, rfl, by decide +kernel, by decide +kernel⟩
theorem ok_low {f : Addr} {fd : FuncData} (F : Fun K "low" "Filter.low" Filter_low_S f fd) (B : Bi mg) (c : FilC K C) : FnOk P w K mg base CX0 1 f fd ["self"] (SpD K (FilO K C) rLow) := by
  refine F.ok Filter_low_sc (fun vs H Q E h => ?_) (fun cdv A outer s H vs Q E hr h => ?_)
  · obtain ⟨G, ds, d, e, as, ⟨w0, rfl, rfl⟩, k⟩ := h
    exact as.len
  · obtain ⟨G, ds, d, e, as, ⟨w0, rfl, rfl⟩, k⟩ := h
    obtain ⟨v, r, rfl, a, n⟩ := atL_cons.mp as
    obtain rfl := atL_nil.mp n
    refine ⟨_, (pss_one (ps_ret (pe_ifExp (pt_truK K (pe_fldK K (pv 0)) (by intro _; rfl)) (pe_ixK K (pe_ixTK K (pe_fldK K (pv 0)) pe_int (fun _ _ => rfl)) pe_int (fun _ _ => rfl)) pe_non))), ?_⟩
    have hp := ed_pairs c (ed_var (i := 0) (σ := [some v]) rfl a)
    refine s_retD (d := optD (lowO w0.ps)) ?_ e k
    obtain ⟨p, ps⟩ := w0
    cases ps with
    | nil => exact ed_of (ev_if (et_truT hp) (fun z => nomatch z) fun _ => ev_c) (at_non.mpr rfl)
    | cons q r => exact ed_of (ev_if (et_truT hp) (fun _ => ed_first hp) (fun z => nomatch z)) (at_int.mpr rfl)
abbrev Filter_high_S : Stmt := inClass (topS 49) 4
abbrev Filter_high_N : List Str := ["self"]
theorem Filter_high_sc : FnScope Filter_high_N ["self"] (defScope Filter_high_S) := ⟨rfl, rfl, rfl, by decide +kernel, rfl, by decide +kernel, by decide +kernel⟩
theorem ok_high {f : Addr} {fd : FuncData} (F : Fun K "high" "Filter.high" Filter_high_S f fd) (B : Bi mg) (c : FilC K C) : FnOk P w K mg base CX0 1 f fd ["self"] (SpD K (FilO K C) rHigh) := by
  refine F.ok Filter_high_sc (fun vs H Q E h => ?_) (fun cdv A outer s H vs Q E hr h => ?_)
  · obtain ⟨G, ds, d, e, as, ⟨w0, rfl, rfl⟩, k⟩ := h
    exact as.len
  · obtain ⟨G, ds, d, e, as, ⟨w0, rfl, rfl⟩, k⟩ := h
    obtain ⟨v, r, rfl, a, n⟩ := atL_cons.mp as
    obtain rfl := atL_nil.mp n
    refine ⟨_, (pss_one (ps_ret (pe_ifExp (pt_truK K (pe_fldK K (pv 0)) (by intro _; rfl)) (pe_ixK K (pe_ixTK K (pe_fldK K (pv 0)) (pe_un un_neg pe_int) (fun _ _ => rfl)) pe_int (fun _ _ => rfl)) pe_non))), ?_⟩
    have hp := ed_pairs c (ed_var (i := 0) (σ := [some v]) rfl a)
    refine s_retD (d := optD (highO w0.ps)) ?_ e k
    obtain ⟨p, ps⟩ := w0
    rcases List.eq_nil_or_concat ps with rfl | ⟨r, q, rfl⟩
    · exact ed_of (ev_if (et_truT hp) (fun z => nomatch z) fun _ => ev_c) (at_non.mpr rfl)
    · rw [List.concat_eq_append] at hp ⊢
      have e1 : (!((r ++ [q]).map (pairD (ω := FilS))).isEmpty) = true := by cases r <;> rfl
      have e2 : highO (r ++ [q]) = some q.1 := by simp [highO]
      show EvD _ _ _ _ _ (optD (highO (r ++ [q])))
      rw [e2]
      exact ed_of (ev_if (et_is (et_truT hp) e1) (fun _ => ed_final hp) (fun z => nomatch z)) (at_int.mpr rfl)
abbrev Filter_span_S : Stmt := inClass (topS 49) 5
abbrev Filter_span_N : List Str := ["self"]
theorem Filter_span_sc : FnScope Filter_span_N ["self"] (defScope Filter_span_S) := ⟨rfl, rfl, rfl, by decide +kernel, rfl, by decide +kernel, by decide +kernel⟩
theorem ok_span {f : Addr} {fd : FuncData} (F : Fun K "span" "Filter.span" Filter_span_S f fd) (B : Bi mg) (c : FilC K C) : FnOk P w K mg base CX0 1 f fd ["self"] (SpD K (FilO K C) rSpan) := by
  refine F.ok Filter_span_sc (fun vs H Q E h => ?_) (fun cdv A outer s H vs Q E hr h => ?_)
  · obtain ⟨G, ds, d, e, as, ⟨w0, rfl, rfl⟩, k⟩ := h
    exact as.len
  · obtain ⟨G, ds, d, e, as, ⟨w0, rfl, rfl⟩, k⟩ := h
    obtain ⟨v, r, rfl, a, n⟩ := atL_cons.mp as
    obtain rfl := atL_nil.mp n
    refine ⟨_, (pss_one (ps_ret (pe_ifExp (pt_truK K (pe_fldK K (pv 0)) (by intro _; rfl)) (pe_op op_sub (pe_ixK K (pe_ixTK K (pe_fldK K (pv 0)) (pe_un un_neg pe_int) (fun _ _ => rfl)) pe_int (fun _ _ => rfl)) (pe_ixK K (pe_ixTK K (pe_fldK K (pv 0)) pe_int (fun _ _ => rfl)) pe_int (fun _ _ => rfl))) pe_non))), ?_⟩
    have hp := ed_pairs c (ed_var (i := 0) (σ := [some v]) rfl a)
    refine s_retD (d := optD ((lowO w0.ps).bind fun a => (highO w0.ps).map fun b => b - a)) ?_ e k
    obtain ⟨p, ps⟩ := w0
    rcases List.eq_nil_or_concat ps with rfl | ⟨r, q, rfl⟩
    · exact ed_of (ev_if (et_truT hp) (fun z => nomatch z) fun _ => ev_c) (at_non.mpr rfl)
    · rw [List.concat_eq_append] at hp ⊢
      obtain ⟨q0, r0, e0⟩ : ∃ q0 r0, r ++ [q] = q0 :: r0 := by cases r <;> exact ⟨_, _, rfl⟩
      have e1 : (!((r ++ [q]).map (pairD (ω := FilS))).isEmpty) = true := by cases r <;> rfl
      have e2 : highO (r ++ [q]) = some q.1 := by simp [highO]
      have e3 : lowO (r ++ [q]) = some q0.1 := by rw [e0]; rfl
      show EvD _ _ _ _ _ (optD ((lowO (r ++ [q])).bind fun a => (highO (r ++ [q])).map fun b => b - a))
      rw [e2, e3]
      exact ed_of (ev_if (et_is (et_truT hp) e1) (fun _ => ev_op (ed_final hp) (ed_first (q := q0) (r := r0) (by rw [← e0]; exact hp)) rv_I0) (fun z => nomatch z)) (at_int.mpr rfl)
/-! ### == -/
def eqF (w : FilS) : D FilS → Bool | .obj u => decide (w.p = u.p) && decide (w.ps = u.ps) | _ => false
def rEqF : List (D FilS) → D FilS → Prop := fun ds r => ∃ w d, ds = [.obj w, d] ∧ r = .bl (eqF w d)
abbrev Filter___eq___S : Stmt := inClass (topS 49) 9
abbrev Filter___eq___N : List Str := ["self", "other"]
theorem Filter___eq___sc : FnScope Filter___eq___N ["self", "other"] (defScope Filter___eq___S) := ⟨rfl, rfl, rfl, by decide +kernel, rfl, by decide +kernel, by decide +kernel⟩
theorem ok_eq {f C_Filter : Addr} {fd : FuncData} (F : Fun K "__eq__" "Filter.__eq__" Filter___eq___S f fd) (B : Bi mg) (c : FilC K C_Filter) (t : FilT K C_Filter) (g_Filter : mg "Filter" = some (.ref C_Filter)) : FnOk P w K mg base CX0 1 f fd ["self", "other"] (SpD K (FilO K C_Filter) rEqF) := by
  refine F.ok Filter___eq___sc (fun vs H Q E h => ?_) (fun cdv A outer s H vs Q E hr h => ?_)
  · obtain ⟨G, ds, d, e, as, ⟨w0, o, rfl, rfl⟩, k⟩ := h
    exact as.len
  · obtain ⟨G, ds, d, e, as, ⟨w0, d1, rfl, rfl⟩, k⟩ := h
    obtain ⟨v, r, rfl, a, n⟩ := atL_cons.mp as
    obtain ⟨v2, r, rfl, a2, n⟩ := atL_cons.mp n
    obtain rfl := atL_nil.mp n
    refine ⟨_, (pss_one (ps_ret (pe_and (pe_callB (call_isiK' K) (by rfl) B.isinstance (by decide +kernel) (pa_cons (pv 1) (pa_cons (pe_glob (v := .ref C_Filter) rfl g_Filter rfl) pa_nil))) (pe_and (pe_cmpR op_eq (pe_fldK K (pv 0)) (pe_fldK K (pv 1)) (nomark _)) (pe_one (pe_cmpR (op_eqD hr.units) (pe_fldK K (pv 0)) (pe_fldK K (pv 1)) (nomark _))))))), ?_⟩
    have hs := ed_var (i := 0) (σ := [some v, some v2]) rfl a
    have ho := ed_var (i := 1) (σ := [some v, some v2]) rfl a2
    refine s_retD (ed_of (v := .bl (eqF w0 d1)) (ev_is (ev_andV (a := dFil d1) (b := eqF w0 d1) (isi_own c t ho) fun hb => ?_) (by cases d1 <;> rfl)) (at_bl.mpr rfl)) e k
    cases d1 with
    | obj u =>
      refine ev_is (ev_andV (a := decide (w0.p = u.p)) (b := decide (w0.ps = u.ps)) (ev_is (ev_op (ev_prime c hs) (ev_prime c ho) (rv_eq rfl)) ?_) fun _ => ?_) rfl
      · by_cases h : w0.p = u.p <;> simp [h]
      · exact ev_eqD (ed_pairs c hs) (ed_pairs c ho) noObj_pairs noObj_pairs shaped_tup shaped_tup eqv_pairs
    | _ => cases hb
end
end SR
set_option maxRecDepth 100000
set_option maxHeartbeats 4000000
namespace SR
open PySem PySem.Spec PyProof.Rows L2 Evl
section
variable {P : Program} {w : World} {K : PySem.W.Frag} {mg : Str → Option Value} {base : Heap} {ω : Type} {O : OI ω}
theorem toPL_ints {l : List Int} : PyData.canLayAll0 (toPL (ω := ω) (l.map D.int)) = true ∧ PyData.depthAll (toPL (ω := ω) (l.map D.int)) = 0 := by
  induction l with
  | nil => exact ⟨rfl, rfl⟩
  | cons n r ih =>
    refine ⟨?_, ?_⟩
    · show (PyData.canLay0 (.int n) && PyData.canLayAll0 (toPL (r.map D.int))) = true
      rw [ih.1]
      rfl
    · show max (PyData.depth (.int n)) (PyData.depthAll (toPL (r.map D.int))) = 0
      rw [ih.2]
      rfl
/-- xs != [] for a list of ints -/
theorem ev_neNil {ta : TE} {σ : L2.St} {H : Hp} {q : Addr} {cells : List Int} (h : Ev ta σ H (.ref q)) (hq : H q = some (.lst (cells.map V.int))) : Ev (tOp (rNeD K) ta (tLst tNil)) σ H (.bl (!cells.isEmpty)) := fun H1 e Q k =>
  h H1 e _ fun H2 e2 => ⟨by show 0 ≤ sizeLine; exact Nat.zero_le _, fun p hp => by
    have hq2 : H2 q = some (.lst (cells.map V.int)) := e2 q _ (e q _ hq)
    have hq3 : (upd H2 p (.lst [])) q = some (.lst (cells.map V.int)) := (Ex.new hp) q _ hq2
    have ht := toPL_ints (ω := Unit) (l := cells)
    refine ⟨.list (toPL (ω := Unit) (cells.map D.int)), .list [], .lst (sq_of hq3) ?_, .lst (sq_of upd_same) .nil, ?_, rfl, ?_⟩
    · exact dpl_of (O := ⟨fun _ _ _ => True, fun _ h => h⟩) (H := upd H2 p (.lst [])) noObj_ints (AtL.ints)
    · show (PyData.canLayAll0 (toPL (cells.map D.int)) && decide (PyData.depthAll (toPL (ω := Unit) (cells.map D.int)) + 1 ≤ 64)) = true
      rw [ht.1, ht.2]
      rfl
    · have e3 : (!PyData.eqv (.list (toPL (ω := Unit) (cells.map D.int))) (.list [])) = !cells.isEmpty := by cases cells <;> rfl
      rw [e3]
      exact k _ (e2.trans (Ex.new hp))⟩
/-! ### _law_draw -/
def pDraw : List (D ω) → Prop := fun ds => ∃ many, ds = [.int many] ∧ 0 < many ∧ many < 1073741824
def rDraw : List (D ω) → D ω → Prop := fun ds d => ∃ many x, ds = [.int many] ∧ d = .int x ∧ 0 ≤ x ∧ x < many
abbrev _law_draw_S : Stmt := topS 52
abbrev _law_draw_N : List Str := ["_law_spring_here", "_law_many", "_law_mixed", "_law_cell", "_law_digit"]
theorem _law_draw_sc : FnScope _law_draw_N ["_law_spring_here", "_law_many"] (defScope _law_draw_S) := ⟨rfl, rfl, rfl, by decide +kernel, rfl, by decide +kernel, by decide +kernel⟩
theorem ok_draw {f : Addr} {fd : FuncData} (F : Fun K "_law_draw" "_law_draw" _law_draw_S f fd) (B : Bi mg) : FnOk P w K mg base CX0 1 f fd ["_law_spring_here", "_law_many"] (SpX K O 1 pDraw rDraw) := by
  refine F.ok _law_draw_sc (fun vs H Q E h => ?_) (fun cdv A outer s0 H vs Q E hr h => ?_)
  · obtain ⟨G, s, q, n, ds, ws, rfl, e, gs, gq, spr, hn, as, ⟨many, rfl, h0, h1⟩, k⟩ := h
    show (V.ref s :: ws).length = 2
    rw [List.length_cons, as.len]
    rfl
  · obtain ⟨G, s, q, n, ds, ws, rfl, e, gs, gq, spr, hn, as, ⟨many, rfl, h0, h1⟩, k⟩ := h
    obtain ⟨v, r0, rfl, a, nn⟩ := atL_cons.mp as
    obtain rfl := atL_nil.mp nn
    obtain rfl := at_int.mp a
    have hu := hu_of hr
    have hsq := spr.ne
    obtain ⟨cells, r, m, sd, hs, hq, hc, hm0, hmn, hsd0, hsd1⟩ := spr.ex
    refine ⟨_, (pss_cons (ps_asg (pe_op op_add (pe_ixLK K (pv 0) pe_int (fun _ _ => rfl)) pe_int) (pg_sub (pv 0) pe_int set_list))
    (pss_cut (ps_if (PW.pt (pw_and (pt_cmpR op_eq (pe_ixLK K (pv 0) pe_int (fun _ _ => rfl)) pe_int (nomark _)) (pw_and1 (pt_cmpR (op_neD hr.units) (pe_ixLK K (pv 0) pe_int (fun _ _ => rfl)) (pe_lst pa_nil) (nomark _))))) (pss_cons (ps_set (i := 3) _law_draw_sc.nd rfl (Or.inl rfl) (pe_bm PySem.F.plainAttrs_list PySem.F.slot_list_pop PySem.F.type_list_pop mt_popAt (pe_ixLK K (pv 0) pe_int (fun _ _ => rfl)) (pa_cons pe_int pa_nil)))
    (pss_cons (ps_asg (pe_op op_modN (pe_callTy call_int1 (by rfl) B.int (by decide +kernel) (pa_cons (pe_op op_add (pe_op op_add (pe_op op_mul (pe_ixLK K (pv 0) pe_int (fun _ _ => rfl)) pe_int) (pv 3)) pe_int) pa_nil)) pe_int) (pg_sub (pv 0) pe_int set_list))
    (pss_one (ps_if (pt_cmpR op_ge (pv 3) (pe_op op_pow pe_int pe_int) (nomark _)) (pss_one (ps_asg (pv 3) (pg_sub (pv 0) pe_int set_list))) pss_nil)))) pss_nil)
    (pss_cons (ps_if (pt_cmpR op_gt (pe_ixLK K (pv 0) pe_int (fun _ _ => rfl)) pe_int (nomark _)) (pss_cons (ps_set (i := 4) _law_draw_sc.nd rfl (Or.inl rfl) (pe_op op_modN (pe_callTy call_int1 (by rfl) B.int (by decide +kernel) (pa_cons (pe_ixLK K (pv 0) pe_int (fun _ _ => rfl)) pa_nil)) (pv 1)))
    (pss_cons (ps_asg (pe_op op_fdivN (pe_ixLK K (pv 0) pe_int (fun _ _ => rfl)) (pv 1)) (pg_sub (pv 0) pe_int set_list))
    (pss_one (ps_ret (pv 4))))) pss_nil)
    (pss_cons (ps_set (i := 2) _law_draw_sc.nd rfl (Or.inl rfl) (pe_op op_modN (pe_callTy call_int1 (by rfl) B.int (by decide +kernel) (pa_cons (pe_op op_pow (pe_op op_add (pe_op op_add (pe_ixLK K (pv 0) pe_int (fun _ _ => rfl)) (pe_op op_mul pe_int (pe_ixLK K (pv 0) pe_int (fun _ _ => rfl)))) pe_int) pe_int) pa_nil)) pe_int))
    (pss_cons (ps_set (i := 2) _law_draw_sc.nd rfl (Or.inl rfl) (pe_op op_add (pe_op op_add (pe_op op_mul (pv 2) pe_int) (pe_op op_mul (pe_op op_mul pe_int (pe_ixLK K (pv 0) pe_int (fun _ _ => rfl))) (pe_ixLK K (pv 0) pe_int (fun _ _ => rfl)))) pe_int))
    (pss_one (ps_ret (pe_op op_modN (pe_op op_modN (pe_callTy call_int1 (by rfl) B.int (by decide +kernel) (pa_cons (pe_op op_pow (pv 2) pe_int) pa_nil)) pe_int) (pv 1))))))))), ?_⟩
    refine q_setL (j := 2) (v := .int (m + 1)) hs (ev_op (ev_op (ev_var (i := 0) rfl) ev_c (rv_ixL (sq_of hs) rfl)) ev_c rv_I0) (ev_var (i := 0) rfl) ev_c (by show 2 < 4; decide) fun H1 e1 => ?_
    have l1 : LeX s q G H G (upd H1 s (.lst [.ref q, .int r, .int (m + 1), .int sd])) := (Le.heap e e1).x.mutS gs
    have hs1 : (upd H1 s (.lst [.ref q, .int r, .int (m + 1), .int sd])) s = some (.lst [.ref q, .int r, .int (m + 1), .int sd]) := upd_same
    have hq1 : (upd H1 s (.lst [.ref q, .int r, .int (m + 1), .int sd])) q = some (.lst (cells.map V.int)) := by rw [upd_ne (Ne.symm hsq)]; exact e1 q _ hq
    generalize hH2 : upd H1 s (.lst [.ref q, .int r, .int (m + 1), .int sd]) = H2 at l1 hs1 hq1
    have hH2' : (upd H1 s (.lst (([V.ref q, .int r, .int m, .int sd]).set 2 (.int (m + 1))))) = H2 := hH2
    rw [hH2']
    refine q_cut (M := fun σ' H' => (∃ x, σ' = [some (.ref s), some (.int many), none, x, none]) ∧ LeX s q G H G H' ∧ ∃ (cells' : List Int) (r' sd' : Int), H' s = some (.lst [.ref q, .int r', .int (m + 1), .int sd']) ∧ H' q = some (.lst (cells'.map V.int)) ∧ cells'.length ≤ 63 ∧ 0 ≤ sd' ∧ sd' < 2147483647) ?_ ?_
    · have t1 : Ev (tOp (rIxL K) (tVar 0) (tC (.int 1))) [some (.ref s), some (.int many), none, none, none] H2 (.int r) := ev_op (ev_var rfl) ev_c (rv_ixL (sq_of hs1) rfl)
      have t0 : Ev (tOp (rIxL K) (tVar 0) (tC (.int 0))) [some (.ref s), some (.int many), none, none, none] H2 (.ref q) := ev_op (ev_var rfl) ev_c (rv_ixL (sq_of hs1) rfl)
      refine s_ifG (b := decide (V.int r = V.int 0) && !cells.isEmpty) (et_and (et_test (ev_op t1 ev_c (rv_eq rfl))) fun _ => et_test (ev_neNil t0 hq1)) (Ex.refl H2) (fun hb H3 l3 => ?_) (fun hb H3 l3 => ?_)
      · have hs3 := l3.h s _ hs1
        have hq3 := l3.h q _ hq1
        obtain ⟨c0, cs, rfl⟩ : ∃ c0 cs, cells = c0 :: cs := by
          cases cells with
          | nil => simp at hb
          | cons c cs => exact ⟨c, cs, rfl⟩
        have t0' : Ev (tOp (rIxL K) (tVar 0) (tC (.int 0))) [some (.ref s), some (.int many), none, none, none] H3 (.ref q) := ev_op (ev_var rfl) ev_c (rv_ixL (sq_of hs3) rfl)
        refine t0' H3 (Ex.refl H3) _ fun H4 e4 => ⟨Or.inl ⟨rfl, _, sq_of (e4 q _ hq3)⟩, ⟨q, _, 0, 0, .int c0, rfl, rfl, e4 q _ hq3, by decide, by decide, ?_, rfl, ?_⟩⟩
        · simp [seqIndex?]
        · have l4 : LeX s q G H G (upd H4 q (.lst ((c0 :: cs).map V.int |>.eraseIdx 0))) := ((l1.trans (Le.heap l1.e (l3.h.trans e4)).x).mutQ gq)
          have hs4 : (upd H4 q (.lst ((c0 :: cs).map V.int |>.eraseIdx 0))) s = some (.lst [.ref q, .int r, .int (m + 1), .int sd]) := by rw [upd_ne hsq]; exact e4 s _ hs3
          have hq4 : (upd H4 q (.lst ((c0 :: cs).map V.int |>.eraseIdx 0))) q = some (.lst (cs.map V.int)) := upd_same
          generalize hH5 : upd H4 q (.lst ((c0 :: cs).map V.int |>.eraseIdx 0)) = H5 at l4 hs4 hq4
          show tSeq _ _ _ _ H5
          have sdb : 0 ≤ (sd * 4099 + c0 + 13).fmod 2147483647 ∧ (sd * 4099 + c0 + 13).fmod 2147483647 < 2147483647 := ⟨Int.fmod_nonneg_of_pos _ (by decide), Int.fmod_lt_of_pos _ (by decide)⟩
          refine q_setL (j := 3) (v := .int ((sd * 4099 + c0 + 13).fmod 2147483647)) hs4 (ev_op (ev_int1 (ev_op (ev_op (ev_op (ev_op (ev_var (i := 0) rfl) ev_c (rv_ixL (sq_of hs4) rfl)) ev_c (rv_I (Or.inl (by omega)))) (ev_var (i := 3) rfl) rv_I0) ev_c rv_I0)) ev_c (rv_I (by decide))) (ev_var (i := 0) rfl) ev_c (by show 3 < 4; decide) fun H6 e6 => ?_
          have l6 : LeX s q G H G (upd H6 s (.lst [.ref q, .int r, .int (m + 1), .int ((sd * 4099 + c0 + 13).fmod 2147483647)])) := (l4.trans (Le.heap l4.e e6).x).mutS gs
          have hs6 : (upd H6 s (.lst [.ref q, .int r, .int (m + 1), .int ((sd * 4099 + c0 + 13).fmod 2147483647)])) s = some (.lst [.ref q, .int r, .int (m + 1), .int ((sd * 4099 + c0 + 13).fmod 2147483647)]) := upd_same
          have hq6 : (upd H6 s (.lst [.ref q, .int r, .int (m + 1), .int ((sd * 4099 + c0 + 13).fmod 2147483647)])) q = some (.lst (cs.map V.int)) := by rw [upd_ne (Ne.symm hsq)]; exact e6 q _ hq4
          show tIfS _ _ _ _ _ (upd H6 s (.lst [.ref q, .int r, .int (m + 1), .int ((sd * 4099 + c0 + 13).fmod 2147483647)]))
          generalize hH7 : upd H6 s (.lst [.ref q, .int r, .int (m + 1), .int ((sd * 4099 + c0 + 13).fmod 2147483647)]) = H7 at l6 hs6 hq6
          refine s_ifG (b := decide ((10 : Int) ^ (18 : Int).toNat ≤ c0)) (et_test (ev_op (ev_var (i := 3) rfl) (ev_op ev_c ev_c (rv_I ⟨by decide, by decide, by decide⟩)) rv_I0)) (Ex.refl H7) (fun hb H8 l8 => ?_) (fun hb H8 l8 => ?_)
          · have hs8 := l8.h s _ hs6
            have hq8 := l8.h q _ hq6
            refine s_setL (j := 1) (v := .int c0) hs8 (ev_var (i := 3) rfl) (ev_var (i := 0) rfl) ev_c (by show 1 < 4; decide) fun H9 e9 => ?_
            refine ⟨⟨_, rfl⟩, (l6.trans (Le.heap l6.e (l8.h.trans e9)).x).mutS gs, cs, c0, _, upd_same, ?_, by simp at hc; omega, sdb.1, sdb.2⟩
            rw [upd_ne (Ne.symm hsq)]
            exact e9 q _ hq8
          · exact ⟨⟨_, rfl⟩, l6.trans (Le.heap l6.e l8.h).x, cs, r, _, l8.h s _ hs6, l8.h q _ hq6, by simp at hc; omega, sdb.1, sdb.2⟩
      · exact ⟨⟨_, rfl⟩, l1.trans (Le.heap l1.e l3.h).x, cells, r, sd, l3.h s _ hs1, l3.h q _ hq1, hc, hsd0, hsd1⟩
    · rintro σ' H3 ⟨⟨x, rfl⟩, l3, cells', r', sd', hs3, hq3, hc3, hsd3, hsd3'⟩
      have t1 : Ev (tOp (rIxL K) (tVar 0) (tC (.int 1))) [some (.ref s), some (.int many), none, x, none] H3 (.int r') := ev_op (ev_var rfl) ev_c (rv_ixL (sq_of hs3) rfl)
      refine q_ifG (b := decide ((0 : Int) < r')) (et_test (ev_op t1 ev_c rv_I0)) (Ex.refl H3) (fun hb H4 l4 => ?_) (fun hb H4 l4 => ?_)
      · have hs4 := l4.h s _ hs3
        have hq4 := l4.h q _ hq3
        refine q_asgV (v := .int (r'.fmod many)) (ev_op (ev_int1 (ev_op (ev_var (i := 0) rfl) ev_c (rv_ixL (sq_of hs4) rfl))) (ev_var (i := 1) rfl) (rv_I (by omega))) (Ex.refl H4) fun H5 l5 => ?_
        have hs5 := l5.h s _ hs4
        have hq5 := l5.h q _ hq4
        refine q_setL (j := 1) (v := .int (r'.fdiv many)) hs5 (ev_op (ev_op (ev_var (i := 0) rfl) ev_c (rv_ixL (sq_of hs5) rfl)) (ev_var (i := 1) rfl) (rv_I ⟨by omega, by omega⟩)) (ev_var (i := 0) rfl) ev_c (by show 1 < 4; decide) fun H6 e6 => ?_
        refine s_ret (v := .int (r'.fmod many)) (ev_var (i := 4) rfl) fun H7 e7 => ?_
        have l7 := ((l3.trans (Le.heap l3.e ((l4.h.trans l5.h).trans e6)).x).mutS gs (o := .lst [.ref q, .int (r'.fdiv many), .int (m + 1), .int sd']))
        refine k (.int (r'.fmod many)) _ G H7 ⟨many, _, rfl, rfl, Int.fmod_nonneg_of_pos _ h0, Int.fmod_lt_of_pos _ h0⟩ (l7.trans (Le.heap l7.e e7).x) ⟨cells', r'.fdiv many, m + 1, sd', e7 s _ upd_same, ?_, hc3, by omega, by omega, hsd3, hsd3'⟩ (at_int.mpr rfl)
        refine e7 q _ ?_
        rw [upd_ne (Ne.symm hsq)]
        exact e6 q _ hq5
      · have hs4 := l4.h s _ hs3
        have hq4 := l4.h q _ hq3
        have a1 : 0 ≤ m + 1 := by omega
        have a2 : m + 1 ≤ 1000001 := by omega
        have b1 : 40503 * (m + 1) ≤ 40503 * 1000001 := by omega
        have b2 : (40503 * (m + 1)) * (m + 1) ≤ (40503 * 1000001) * 1000001 := Int.mul_le_mul b1 a2 a1 (by decide)
        have b3 : 0 ≤ (40503 * (m + 1)) * (m + 1) := Int.mul_nonneg (by omega) a1
        have M0 : 0 ≤ ((sd' + 7919 * (m + 1) + 104729) ^ (5 : Int).toNat).fmod 2147483629 := Int.fmod_nonneg_of_pos _ (by decide)
        have M1 : ((sd' + 7919 * (m + 1) + 104729) ^ (5 : Int).toNat).fmod 2147483629 < 2147483629 := Int.fmod_lt_of_pos _ (by decide)
        refine q_asgV (v := .int (((sd' + 7919 * (m + 1) + 104729) ^ (5 : Int).toNat).fmod 2147483629)) (ev_op (ev_int1 (ev_op (ev_op (ev_op (ev_op (ev_var (i := 0) rfl) ev_c (rv_ixL (sq_of hs4) rfl)) (ev_op ev_c (ev_op (ev_var (i := 0) rfl) ev_c (rv_ixL (sq_of hs4) rfl)) (rv_I (Or.inl (by decide)))) rv_I0) ev_c rv_I0) ev_c (rv_I ⟨by decide, by decide, by omega⟩))) ev_c (rv_I (by decide))) (Ex.refl H4) fun H5 l5 => ?_
        generalize ((sd' + 7919 * (m + 1) + 104729) ^ (5 : Int).toNat).fmod 2147483629 = M at M0 M1
        have hs5 := l5.h s _ hs4
        have hq5 := l5.h q _ hq4
        refine q_asgV (v := .int (M * 48271 + (40503 * (m + 1)) * (m + 1) + 29)) (ev_op (ev_op (ev_op (ev_var (i := 2) rfl) ev_c (rv_I (Or.inl (by omega)))) (ev_op (ev_op ev_c (ev_op (ev_var (i := 0) rfl) ev_c (rv_ixL (sq_of hs5) rfl)) (rv_I (Or.inl (by decide)))) (ev_op (ev_var (i := 0) rfl) ev_c (rv_ixL (sq_of hs5) rfl)) (rv_I (Or.inl (by omega)))) rv_I0) ev_c rv_I0) (Ex.refl H5) fun H6 l6 => ?_
        generalize hZ : (40503 * (m + 1)) * (m + 1) = Z at b2 b3
        refine s_ret (v := .int (((M * 48271 + Z + 29) ^ (3 : Int).toNat).fmod 1000000007 |>.fmod many)) (ev_op (ev_op (ev_int1 (ev_op (ev_var (i := 2) rfl) ev_c (rv_I ⟨by decide, by decide, by omega⟩))) ev_c (rv_I (by decide))) (ev_var (i := 1) rfl) (rv_I (by omega))) fun H7 e7 => ?_
        have hh := ((l4.h.trans l5.h).trans l6.h).trans e7
        exact k (.int _) _ G H7 ⟨many, _, rfl, rfl, Int.fmod_nonneg_of_pos _ h0, Int.fmod_lt_of_pos _ h0⟩ (l3.trans (Le.heap l3.e hh).x) ⟨cells', r', m + 1, sd', hh s _ hs3, hh q _ hq3, hc3, by omega, by omega, hsd3, hsd3'⟩ (at_int.mpr rfl)
end
end SR
set_option maxRecDepth 100000
set_option maxHeartbeats 4000000
namespace SR
open PySem PySem.Spec PyProof.Rows L2 Evl
section
variable {P : Program} {w : World} {K : PySem.W.Frag} {mg : Str → Option Value} {base : Heap} {ω : Type} {O : OI ω} {Ty : ω → Value}
/-- a call of a helper over the source -/
theorem x_call {G H : Hp} {s q : Addr} {n add i : Nat} {Pre : List (D ω) → Prop} {R : List (D ω) → D ω → Prop} {ta : TA} {σ : L2.St} {ds : List (D ω)} {E : XK} {Q : VK} (e : Ex G H) (gs : G s = none) (gq : G q = none) (spr : Spr H s q n) (hn : n + add ≤ 1000000) (hv : σ[i]? = some (some (.ref s)))
    (ha : EvDA K O ta σ G ds) (pre : Pre ds) (k : ∀ d v G2 H2, R ds d → LeX s q G H G2 H2 → Spr H2 s q (n + add) → At K O G2 d v → Q v H2) : tCall (SpX K O add Pre R) [] E (tCons (tVar i) ta) σ H Q :=
  ⟨.ref s, hv, ha H e _ fun vs G2 H2 l as => ⟨G2, s, q, n, ds, vs, by simp, l.e, l.gnone gs spr.sne, l.gnone gq spr.qne, spr.keep l.h (Nat.le_refl _), hn, as, pre, fun d v G3 H3 r l3 sp3 a => k d v G3 H3 r (l.x.trans l3) sp3 a⟩⟩
/-! ### _law_spring -/
def spSpring (K : PySem.W.Frag) : Sp := fun vs H Q _ => ∃ (a : Addr) (ns : List Int), vs = [.ref a] ∧ SqL K H a (ns.map V.int) ∧ ns.length ≤ 63 ∧ ∀ s q H', H s = none → H q = none → Ex H H' → Spr H' s q 0 → Q (.ref s) H'
abbrev _law_spring_S : Stmt := topS 51
abbrev _law_spring_N : List Str := ["_law_script"]
theorem _law_spring_sc : FnScope _law_spring_N ["_law_script"] (defScope _law_spring_S) := ⟨rfl, rfl, rfl, by decide +kernel, rfl, by decide +kernel, by decide +kernel⟩
theorem ok_spring {f : Addr} {fd : FuncData} (F : Fun K "_law_spring" "_law_spring" _law_spring_S f fd) (B : Bi mg) : FnOk P w K mg base CX0 1 f fd ["_law_script"] (spSpring K) := by
  refine F.ok _law_spring_sc (fun vs H Q E h => ?_) (fun cdv A outer s0 H vs Q E hr h => ?_)
  · obtain ⟨a, ns, rfl, _⟩ := h
    rfl
  · obtain ⟨a, ns, rfl, hs, hl, k⟩ := h
    refine ⟨_, (pss_one (ps_ret (pe_lst (pa_cons (pe_callTy call_list_of (by rfl) B.list (by decide +kernel) (pa_cons (pv 0) pa_nil)) (pa_cons pe_int (pa_cons pe_int (pa_cons pe_int pa_nil))))))), ?_⟩
    refine ⟨_, rfl, a, _, rfl, Or.inl hs, fun q hq => ⟨by show 4 ≤ sizeLine; decide, fun s hs' => ?_⟩⟩
    have hsq : s ≠ q := by intro z; subst z; rw [upd_same] at hs'; cases hs'
    have h0 : H s = none := by rw [upd_ne hsq] at hs'; exact hs'
    refine k s q _ h0 hq ((Ex.new hq).trans (Ex.new hs')) ⟨ns, 0, 0, 7, upd_same, ?_, hl, by decide, by decide, by decide, by decide⟩
    rw [upd_ne (Ne.symm hsq), upd_same]
/-! ### _law_pick -/
def pPick : List (D ω) → Prop := fun ds => ∃ l, ds = [.lst l] ∧ 0 < l.length ∧ l.length ≤ 1000
def rPick : List (D ω) → D ω → Prop := fun ds d => ∃ l, ds = [.lst l] ∧ d ∈ l
abbrev _law_pick_S : Stmt := topS 53
abbrev _law_pick_N : List Str := ["_law_spring_here", "_law_things"]
theorem _law_pick_sc : FnScope _law_pick_N ["_law_spring_here", "_law_things"] (defScope _law_pick_S) := ⟨rfl, rfl, rfl, by decide +kernel, rfl, by decide +kernel, by decide +kernel⟩
theorem ok_pick {f : Addr} {fd : FuncData} (F : Fun K "_law_pick" "_law_pick" _law_pick_S f fd) (B : Bi mg) (h__law_draw : DefOk P w K mg base 1 "_law_draw" ["_law_spring_here", "_law_many"] (SpX K O 1 pDraw rDraw)) : FnOk P w K mg base CX0 2 f fd ["_law_spring_here", "_law_things"] (SpX K O 1 pPick rPick) := by
  refine F.ok _law_pick_sc (fun vs H Q E h => ?_) (fun cdv A outer s0 H vs Q E hr h => ?_)
  · obtain ⟨G, s, q, n, ds, ws, rfl, e, gs, gq, spr, hn, as, ⟨l, rfl, h0, h1⟩, k⟩ := h
    show (V.ref s :: ws).length = 2
    rw [List.length_cons, as.len]
    rfl
  · obtain ⟨G, s, q, n, ds, ws, rfl, e, gs, gq, spr, hn, as, ⟨l, rfl, h0, h1⟩, k⟩ := h
    obtain ⟨v, r0, rfl, a, nn⟩ := atL_cons.mp as
    obtain rfl := atL_nil.mp nn
    refine ⟨_, (pss_one (ps_ret (pe_ixLK K (pv 1) (pe_callD h__law_draw (hr.mono (by first | decide | exact Nat.le_refl _)) (pa_cons (pv 0) (pa_cons (pe_callB (call_lenK K) (by rfl) B.len (by decide +kernel) (pa_cons (pv 1) pa_nil)) pa_nil))) (fun _ _ => rfl)))), ?_⟩
    have hv : EvD K O (tVar 1) [some (.ref s), some v] G (.lst l) := ed_var rfl a
    refine ⟨v, rfl, x_call (i := 0) e gs gq spr hn rfl (eda_cons (ed_of (len_d hv rfl) (at_int.mpr rfl)) eda_nil) ⟨_, rfl, by show (0 : Int) < (l.length : Int); omega, by show (l.length : Int) < 1073741824; omega⟩ fun d v2 G2 H2 hR l2 sp2 a2 => ?_⟩
    obtain ⟨many, x, hm, rfl, hx0, hx1⟩ := hR
    obtain rfl := at_int.mp a2
    have hm' : (l.length : Int) = many := by
      have h2 := (List.cons.inj hm).1
      injection h2
    obtain ⟨p, vs', rfl, hsl, asl⟩ := at_lst.mp a
    have hxn : x.toNat < l.length := by omega
    obtain ⟨u, hu1, hu2⟩ := asl.get' (List.getElem?_eq_getElem hxn)
    refine ⟨p, vs', x, u, rfl, rfl, sq_of ((l2.g.trans l2.e) _ _ hsl), ?_, k _ u G2 H2 ⟨l, rfl, List.getElem_mem hxn⟩ l2 sp2 (hu2.mono l2.g)⟩
    have h3 := atI_nat hu1
    rwa [show ((x.toNat : Nat) : Int) = x by omega] at h3
/-! ### _law_prime, _law_other -/
def pPrime : List (D ω) → Prop := fun ds => ds = []
def rPrime : List (D ω) → D ω → Prop := fun ds d => ∃ p, d = .int p ∧ primes.contains p = true
abbrev _law_prime_S : Stmt := topS 61
abbrev _law_prime_N : List Str := ["_law_spring_here"]
theorem _law_prime_sc : FnScope _law_prime_N ["_law_spring_here"] (defScope _law_prime_S) := ⟨rfl, rfl, rfl, by decide +kernel, rfl, by decide +kernel, by decide +kernel⟩
theorem ok_prime {f : Addr} {fd : FuncData} (F : Fun K "_law_prime" "_law_prime" _law_prime_S f fd) (B : Bi mg) (h__law_pick : DefOk P w K mg base 2 "_law_pick" ["_law_spring_here", "_law_things"] (SpX K O 1 pPick rPick)) : FnOk P w K mg base CX0 3 f fd ["_law_spring_here"] (SpX K O 1 pPrime rPrime) := by
  refine F.ok _law_prime_sc (fun vs H Q E h => ?_) (fun cdv A outer s0 H vs Q E hr h => ?_)
  · obtain ⟨G, s, q, n, ds, ws, rfl, e, gs, gq, spr, hn, as, rfl, k⟩ := h
    rw [atL_nil.mp as]
    rfl
  · obtain ⟨G, s, q, n, ds, ws, rfl, e, gs, gq, spr, hn, as, rfl, k⟩ := h
    obtain rfl := atL_nil.mp as
    refine ⟨_, (pss_one (ps_ret (pe_callD h__law_pick (hr.mono (by first | decide | exact Nat.le_refl _)) (pa_cons (pv 0) (pa_cons (pe_lst (pa_cons pe_int (pa_cons pe_int (pa_cons pe_int (pa_cons pe_int pa_nil))))) pa_nil))))), ?_⟩
    refine x_call (i := 0) e gs gq spr hn rfl (eda_cons (ed_lst (ds := [.int 2, .int 3, .int 5, .int 7]) (eda_cons (ed_of ev_c (at_int.mpr rfl)) (eda_cons (ed_of ev_c (at_int.mpr rfl)) (eda_cons (ed_of ev_c (at_int.mpr rfl)) (eda_cons (ed_of ev_c (at_int.mpr rfl)) eda_nil)))) (by show 4 ≤ 100000; decide)) eda_nil) ⟨_, rfl, by show 0 < 4; decide, by show 4 ≤ 1000; decide⟩ fun d v2 G2 H2 hR l2 sp2 a2 => ?_
    obtain ⟨l, hl, hd⟩ := hR
    obtain rfl := (D.lst.inj (List.cons.inj hl).1)
    refine k d v2 G2 H2 ?_ l2 sp2 a2
    simp at hd
    rcases hd with rfl | rfl | rfl | rfl
    · exact ⟨2, rfl, by decide⟩
    · exact ⟨3, rfl, by decide⟩
    · exact ⟨5, rfl, by decide⟩
    · exact ⟨7, rfl, by decide⟩
end
end SR
set_option maxRecDepth 100000
set_option maxHeartbeats 4000000
namespace SR
open PySem PySem.Spec PyProof.Rows L2 Evl
section
variable {P : Program} {w : World} {K : PySem.W.Frag} {mg : Str → Option Value} {base : Heap} {ω : Type} {O : OI ω} {Ty : ω → Value}
/-- where a helper over the source stands: what it knows, what the source holds -/
structure At2 (s q : Addr) (G H : Hp) (n : Nat) : Prop where
  e : Ex G H
  gs : G s = none
  gq : G q = none
  spr : Spr H s q n
theorem At2.go {s q : Addr} {G H G2 H2 : Hp} {n k : Nat} (a : At2 s q G H n) (l : LeX s q G H G2 H2) (sp : Spr H2 s q k) : At2 s q G2 H2 k := ⟨l.e, l.gnone a.gs a.spr.sne, l.gnone a.gq a.spr.qne, sp⟩
theorem At2.le {s q : Addr} {G H G2 H2 : Hp} {n : Nat} (a : At2 s q G H n) (l : Le G H G2 H2) : At2 s q G2 H2 n := a.go l.x (a.spr.keep l.h (Nat.le_refl _))
abbrev cDraw (K : PySem.W.Frag) (O : OI ω) (E : XK) (ta : TA) : TE := tCall (SpX K O 1 pDraw rDraw) [] E (tCons (tVar 0) ta)
theorem x_draw {G H : Hp} {s q : Addr} {n : Nat} {ta : TA} {σ : L2.St} {many : Int} {E : XK} {Q : VK} (a : At2 s q G H n) (hn : n + 1 ≤ 1000000) (hv : σ[0]? = some (some (.ref s))) (ha : EvDA K O ta σ G [.int many]) (h0 : 0 < many) (h1 : many < 1073741824)
    (k : ∀ x G2 H2, 0 ≤ x → x < many → LeX s q G H G2 H2 → At2 s q G2 H2 (n + 1) → Q (.int x) H2) : cDraw K O E ta σ H Q :=
  x_call a.e a.gs a.gq a.spr hn hv ha ⟨many, rfl, h0, h1⟩ fun d v G2 H2 ⟨m', x, hm, hd, hx0, hx1⟩ l sp av => by
    subst hd
    obtain rfl := at_int.mp av
    have hm' : many = m' := D.int.inj (List.cons.inj hm).1
    exact k x G2 H2 hx0 (by omega) l (a.go l sp)
theorem eda_int {i : Int} {te : TE} {σ : L2.St} {G : Hp} (h : Ev te σ G (.int i)) : EvDA K O (tCons te tNil) σ G [.int i] := eda_cons (ed_of h (at_int.mpr rfl)) eda_nil
/-- x = draw(many) - c -/
theorem q_drawSub {G H : Hp} {s q : Addr} {n j : Nat} {ta : TA} {σ : L2.St} {many c : Int} {E : XK} {De : Ends} {tz : TS} (a : At2 s q G H n) (hn : n + 1 ≤ 1000000) (hv : σ[0]? = some (some (.ref s))) (ha : EvDA K O ta σ G [.int many]) (h0 : 0 < many) (h1 : many < 1073741824)
    (k : ∀ x G2 H2, LeX s q G H G2 H2 → At2 s q G2 H2 (n + 1) → tz De (σ.set j (some (.int x))) H2) : tSeq (tAsg (tOp (rI0 fun i j => V.int (i - j)) (cDraw K O E ta) (tC (.int c))) (gName j)) tz De σ H :=
  x_draw a hn hv ha h0 h1 fun x G2 H2 hx0 hx1 l a2 => ⟨x, c, rfl, rfl, k (x - c) G2 H2 l a2⟩
/-- if draw(many) == 0: t -/
theorem if_draw {G H : Hp} {s q : Addr} {n : Nat} {ta : TA} {σ : L2.St} {many c : Int} {E : XK} {De : Ends} {tu tw : TS} (a : At2 s q G H n) (hn : n + 1 ≤ 1000000) (hv : σ[0]? = some (some (.ref s))) (ha : EvDA K O ta σ G [.int many]) (h0 : 0 < many) (h1 : many < 1073741824)
    (k1 : ∀ G2 H2, LeX s q G H G2 H2 → At2 s q G2 H2 (n + 1) → tu De σ H2) (k2 : ∀ G2 H2, LeX s q G H G2 H2 → At2 s q G2 H2 (n + 1) → tw De σ H2) : tIfS (tTest (tOp rEq (cDraw K O E ta) (tC (.int c)))) tu tw De σ H :=
  x_draw a hn hv ha h0 h1 fun x G2 H2 hx0 hx1 l a2 => ⟨rfl, _, rfl, by
    by_cases h : V.int x = V.int c
    · rw [decide_eq_true h]
      show (if true = true then tu De σ H2 else tw De σ H2)
      rw [if_pos rfl]
      exact k1 G2 H2 l a2
    · rw [decide_eq_false h]
      show (if false = true then tu De σ H2 else tw De σ H2)
      rw [if_neg Bool.false_ne_true]
      exact k2 G2 H2 l a2⟩
/-- x = pick([ints]) -/
theorem s_pickI {G H : Hp} {s q : Addr} {n j : Nat} {ta : TA} {σ : L2.St} {ns : List Int} {E : XK} {De : Ends} (a : At2 s q G H n) (hn : n + 1 ≤ 1000000) (hv : σ[0]? = some (some (.ref s))) (ha : EvDA K O ta σ G [.lst (ns.map D.int)]) (h0 : 0 < ns.length) (h1 : ns.length ≤ 1000)
    (k : ∀ x G2 H2, x ∈ ns → LeX s q G H G2 H2 → At2 s q G2 H2 (n + 1) → De.nx (σ.set j (some (.int x))) H2) : tAsg (tCall (SpX K O 1 pPick rPick) [] E (tCons (tVar 0) ta)) (gName j) De σ H :=
  x_call a.e a.gs a.gq a.spr hn hv ha ⟨_, rfl, by rw [List.length_map]; exact h0, by rw [List.length_map]; exact h1⟩ fun d v G2 H2 ⟨l', hl, hd⟩ l sp av => by
    obtain rfl := D.lst.inj (List.cons.inj hl).1
    obtain ⟨x, hx, rfl⟩ := List.mem_map.mp hd
    obtain rfl := at_int.mp av
    exact k x G2 H2 hx l (a.go l sp)
end
end SR
set_option maxRecDepth 100000
set_option maxHeartbeats 4000000
namespace SR
open PySem PySem.Spec PyProof.Rows L2 Evl
section
variable {P : Program} {w : World} {K : PySem.W.Frag} {mg : Str → Option Value} {base : Heap} {ω : Type} {O : OI ω} {Ty : ω → Value}
/-! ### _law_held -/
theorem step_pos {p : Int} (hp : 0 < p) {m : List (Int × Int)} {q : Int × Int} (h : ∀ o c, getI m o = some c → 0 ≤ c ∧ c < p) : ∀ o c, getI (step p m q) o = some c → 0 ≤ c ∧ c < p := by
  intro o c
  unfold step
  rw [getI_put]
  by_cases ho : o = q.1
  · rw [if_pos ho]
    intro e
    obtain rfl := Option.some.inj e
    exact ⟨Int.fmod_nonneg_of_pos _ hp, Int.fmod_lt_of_pos _ hp⟩
  · rw [if_neg ho]
    exact h o c
theorem sums_pos {p : Int} (hp : 0 < p) : ∀ {rows m : List (Int × Int)}, (∀ o c, getI m o = some c → 0 ≤ c ∧ c < p) → ∀ o c, getI (rows.foldl (step p) m) o = some c → 0 ≤ c ∧ c < p
  | [], m, h => h
  | q :: r, m, h => sums_pos hp (rows := r) (m := step p m q) (step_pos hp h)
theorem coef_pos {p : Int} (hp : 0 < p) {rows : List (Int × Int)} {o : Int} : 0 ≤ coef p rows o ∧ coef p rows o < p := by
  unfold coef
  cases h : getI (sums p rows) o with
  | none => exact ⟨Int.le_refl 0, hp⟩
  | some c => exact sums_pos hp (rows := rows) (m := []) (fun o c e => by cases e) o c h
def rHeld : List (D ω) → D ω → Prop := fun ds r => ∃ (p : Int) (rows : List (Int × Int)), ds = [.int p, .lst (rows.map pairD)] ∧ 0 < p ∧ rows.length ≤ 30000 ∧ r = .dic (coll p rows)
abbrev _law_held_S : Stmt := topS 55
abbrev _law_held_N : List Str := ["_law_prime_here", "_law_terms", "_law_sums", "_law_found", "_law_offset", "_law_coefficient", "_law_k"]
theorem _law_held_sc : FnScope _law_held_N ["_law_prime_here", "_law_terms"] (defScope _law_held_S) := ⟨rfl, rfl, rfl, by decide +kernel, rfl, by decide +kernel, by decide +kernel⟩
theorem ok_held {f : Addr} {fd : FuncData} (F : Fun K "_law_held" "_law_held" _law_held_S f fd) (B : Bi mg) : FnOk P w K mg base CX0 1 f fd ["_law_prime_here", "_law_terms"] (SpD K O rHeld) := by
  refine F.ok _law_held_sc (fun vs H Q E h => ?_) (fun cdv A outer s0 H vs Q E hr h => ?_)
  · obtain ⟨G, ds, d, e, as, ⟨p, rows, rfl, _⟩, k⟩ := h
    exact as.len
  · obtain ⟨G, ds, d, e, as, ⟨p, rows, rfl, hp, hz, rfl⟩, k⟩ := h
    obtain ⟨v0, r, rfl, a0, n⟩ := atL_cons.mp as
    obtain rfl := at_int.mp a0
    obtain ⟨v, r, rfl, a, n⟩ := atL_cons.mp n
    obtain rfl := atL_nil.mp n
    have hu := hu_of hr
    refine ⟨_, (pss_cons (ps_par (i := 2) (j := 3) (by rfl) _law_held_sc.nd rfl rfl (by decide) rfl rfl (pa_cons pe_dnewK (pa_cons pe_dnewK pa_nil)) (by rfl))
    (pss_cons (ps_for PassesOwn.never rfl (pi_list (pv 1)) (pg_tupK (k := 2) K rfl (pgs_cons (pg_name (i := 4) _law_held_sc.nd rfl (Or.inl rfl)) (pgs_cons (pg_name (i := 5) _law_held_sc.nd rfl (Or.inl rfl)) pgs_nil))) (pss_one (ps_asg (pe_op op_modN (pe_callTy call_int1 (by rfl) B.int (by decide +kernel) (pa_cons (pe_op op_add (pe_dget2 (by exact hu) (pv 2) (pv 4) pe_int ⟨rfl, rfl, rfl, rfl⟩) (pv 5)) pa_nil)) (pv 0)) (pg_sub (pv 2) (pv 4) (set_dict (by exact hu))))))
    (pss_cons (ps_for PassesOwn.never rfl (pi_list (pe_callB cr_sortedI (by rfl) B.sorted (by decide +kernel) (pa_cons (pe_lock (pe_lc (own := [("_law_k", 6)]) rfl _law_held_sc.nd (pi_keys (pv 2)) (blkOk_by (N := _law_held_N) (sc := defScope _law_held_S) (by decide +kernel)) (fun _ _ _ _ _ => (pg_name (i := 6) _law_held_sc.nd rfl (Or.inl rfl))) (fun _ _ _ _ _ => pts_nil) (fun _ _ _ _ _ => by exact (pe_callTy call_int1 (by rfl) B.int (by decide +kernel) (pa_cons (pv 6) pa_nil))))) pa_nil))) (pg_name (i := 4) _law_held_sc.nd rfl (Or.inl rfl)) (pss_one (ps_if (pt_cmpR op_gt (pe_dget (by exact hu) (pv 2) (pv 4) (fun _ _ => rfl)) pe_int (nomark _)) (pss_one (ps_asg (pe_dget (by exact hu) (pv 2) (pv 4) (fun _ _ => rfl)) (pg_sub (pv 3) (pv 4) (set_dict (by exact hu))))) pss_nil)))
    (pss_one (ps_ret (pv 3)))))), ?_⟩
    refine fun q hq => fun q2 hq2 => ⟨_, _, rfl, ?_⟩
    have hqq : q2 ≠ q := by intro z; subst z; rw [upd_same] at hq2; cases hq2
    have hq2' : H q2 = none := by rw [upd_ne hqq] at hq2; exact hq2
    have l1 : Le G H G (upd (upd H q (.dK [])) q2 (.dK [])) := (Le.newM e hq).mut hq2' (none_of_ex e hq2')
    have e1 := l1.e
    have h1q : (upd (upd H q (.dK [])) q2 (.dK [])) q = some (.dK []) := by rw [upd_ne (Ne.symm hqq), upd_same]
    have h1q2 : (upd (upd H q (.dK [])) q2 (.dK [])) q2 = some (.dK []) := upd_same
    generalize hH1 : upd (upd H q (.dK [])) q2 (.dK []) = H1 at l1 e1 h1q h1q2
    have src : Src K O (iList K (tVar 1)) [some (.int p), some v, some (.ref q), some (.ref q2), none, none, none] G (rows.map pairD) := src_list (ed_var rfl a)
    show tSeq _ _ _ _ H1
    refine q_forS src e1 (fun i σ' G' H' => Le G H G' H' ∧ (∃ x y, σ' = [some (.int p), some v, some (.ref q), some (.ref q2), x, y, none]) ∧ H' q = some (.dK (kvI (sums p (rows.take i)))) ∧ H' q2 = some (.dK []) ∧ G' q = none ∧ G' q2 = none)
      (fun G0 H0 l0 => ⟨l1.trans l0, ⟨_, _, rfl⟩, l0.h q _ h1q, l0.h q2 _ h1q2, l0.gnone (none_of_ex e hq) (by rw [h1q]; exact fun z => nomatch z), l0.gnone (none_of_ex e hq2') (by rw [h1q2]; exact fun z => nomatch z)⟩) ?_ ?_
    · intro G0 i d x σ' Gi Hi Gi' Hi' e0 hd e1 e2 pv l' ad N hN
      obtain ⟨p1, ⟨x0, y0, rfl⟩, p3, p4, p5, p6⟩ := pv
      have hil : i < rows.length := by
        have := (List.getElem?_eq_some_iff.mp hd).1
        rw [List.length_map] at this
        exact this
      obtain ⟨⟨o, c⟩, hq2r⟩ : ∃ x, rows[i]? = some x := ⟨_, List.getElem?_eq_getElem hil⟩
      rw [List.getElem?_map, hq2r] at hd
      obtain rfl := (Option.some.inj hd).symm
      have h3 : Hi' q = some (.dK (kvI (sums p (rows.take i)))) := l'.h q _ p3
      have h4 : Hi' q2 = some (.dK []) := l'.h q2 _ p4
      have g3 : Gi' q = none := l'.gnone p5 (by rw [p3]; exact fun z => nomatch z)
      have g4 : Gi' q2 = none := l'.gnone p6 (by rw [p4]; exact fun z => nomatch z)
      refine tg_pair ad l'.e fun x1 x2 a1 a2 => ?_
      obtain rfl := at_int.mp a1
      obtain rfl := at_int.mp a2
      refine s_setD h3 (c := ((getI (sums p (rows.take i)) o).getD 0 + c).fmod p) (o := o) (ev_op (ev_int1 (ev_op (ev_dget2 (ev_var (i := 2) rfl) h3 (ev_var (i := 4) rfl) ev_c) (ev_var (i := 5) rfl) rv_I0)) (ev_var (i := 0) rfl) (rv_I (by omega))) (ev_var (i := 2) rfl) (ev_var (i := 4) rfl) ?_ fun H4 e4 => ?_
      · have h5 := sums_len (p := p) (rows := rows.take i) (m := [])
        have h6 : (rows.take i).length ≤ rows.length := by rw [List.length_take]; omega
        show (sums p (rows.take i)).length < 100000
        unfold sums
        simp only [List.length_nil] at h5
        omega
      · have lm := Le.mut (o := .dK (kvI (putI (sums p (rows.take i)) o (((getI (sums p (rows.take i)) o).getD 0 + c).fmod p)))) (p1.trans (l'.trans (Le.heap l'.e e4))) hq g3
        refine hN _ Gi' _ (Ex.refl _) lm.e ⟨lm, ⟨_, _, rfl⟩, ?_, ?_, g3, g4⟩
        · rw [sums_more hq2r]
          exact upd_same
        · rw [upd_ne hqq]
          exact e4 q2 _ h4
    · intro σ' G' H' e1 e2 pv
      obtain ⟨p1, ⟨x0, y0, rfl⟩, p3, p4, p5, p6⟩ := pv
      rw [List.length_map, List.take_length] at p3
      have hml : (sums p rows).length ≤ 30000 := by
        have h5 := sums_len (p := p) (rows := rows) (m := [])
        simp only [List.length_nil] at h5
        show (rows.foldl (step p) []).length ≤ 30000
        omega
      have lf := Le.fix e p1 hq p3
      have hm : (upd G' q (.dK (kvI (sums p rows)))) q = some (.dK (kvI (sums p rows))) := upd_same
      have gf2 : (upd G' q (.dK (kvI (sums p rows)))) q2 = none := by rw [upd_ne hqq]; exact p6
      generalize hGf : upd G' q (.dK (kvI (sums p rows))) = Gf at lf hm gf2
      have ho : EvD K O (tLockE (tLc (iKeys (tVar 2)) (gName 6) tYes (tCB (fun xs H Q => (∃ i, xs = [V.int i] ∧ Q (.int i) H) ∨ ∃ k, xs = [V.bl k] ∧ Q (.int (if k then 1 else 0)) H) (tCons (tVar 6) tNil)) [6])) [some (.int p), some v, some (.ref q), some (.ref q2), x0, y0, none] Gf (.lst (((sums p rows).map (·.1)).map D.int)) := by
        refine ed_lock hm True.intro ⟨_, rfl⟩ (by show noObjL _ = true; exact noObj_ints) fun od => ?_
        have h7 := ed_lc (K := K) (O := O) (te := tCB (fun xs H Q => (∃ i, xs = [V.int i] ∧ Q (.int i) H) ∨ ∃ k, xs = [V.bl k] ∧ Q (.int (if k then 1 else 0)) H) (tCons (tVar 6) tNil)) (tt := tYes) (vs := [6]) (g := gName 6) (fun _ => true) (fun d => d) (src_keys (O := O) (td := tVar 2) (σ := [some (.int p), some v, some (.ref q), some (.ref q2), x0, y0, none]) (ev_var rfl) (upd_same (a := q) (o := .frz od (.dK (kvI (sums p rows)))) (H := Gf))) (by rw [List.length_map]; exact Nat.le_trans hml (by omega)) ?_
        · have e8 : (((sums p rows).map fun q => (D.int q.1 : D ω)).filter fun _ => true).map (fun d => d) = ((sums p rows).map (·.1)).map D.int := by
            rw [List.filter_eq_self.mpr (fun _ _ => rfl), List.map_id', List.map_map]
            rfl
          rw [e8] at h7
          exact h7
        · intro i d x Gi Hi hd eg eh ad Q' hQ
          obtain ⟨w, rfl⟩ : ∃ w, d = D.int w := by
            have hi : i < (sums p rows).length := by
              have := (List.getElem?_eq_some_iff.mp hd).1
              rw [List.length_map] at this
              exact this
            rw [List.getElem?_map, List.getElem?_eq_getElem hi] at hd
            exact ⟨_, (Option.some.inj hd).symm⟩
          obtain rfl := at_int.mp ad
          exact hQ _ Hi (Ex.refl _) rfl et_yes fun _ => ed_of (ev_int1 (ev_var rfl)) (at_int.mpr rfl)
      have hsnd : (srt ((sums p rows).map (·.1))).Nodup := srt_perm.nodup_iff.mpr (sums_nd (rows := rows) (m := []) List.nodup_nil)
      refine q_forS (src_list (ed_sorted ho)) lf.e (fun i σ' G2 H2 => Le G H G2 H2 ∧ (∃ x y, σ' = [some (.int p), some v, some (.ref q), some (.ref q2), x, y, none]) ∧ G2 q = some (.dK (kvI (sums p rows))) ∧ H2 q2 = some (.dK (kvI ((((srt ((sums p rows).map (·.1))).take i).filter fun o => coef p rows o != 0).map fun o => (o, coef p rows o)))) ∧ G2 q2 = none)
        (fun G0 H0 l0 => ⟨lf.trans l0, ⟨_, _, rfl⟩, l0.g q _ hm, l0.h q2 _ p4, l0.gnone gf2 (by rw [p4]; exact fun z => nomatch z)⟩) ?_ ?_
      · intro G0 i d x σ' Gi Hi Gi' Hi' e0 hd e1 e2 pv l' ad N hN
        obtain ⟨p1, ⟨x0, y0, rfl⟩, p3, p4, p5⟩ := pv
        have hil : i < (srt ((sums p rows).map (·.1))).length := by
          have := (List.getElem?_eq_some_iff.mp hd).1
          rw [List.length_map] at this
          exact this
        obtain ⟨o, hoi⟩ : ∃ o, (srt ((sums p rows).map (·.1)))[i]? = some o := ⟨_, List.getElem?_eq_getElem hil⟩
        rw [List.getElem?_map, hoi] at hd
        obtain rfl := (Option.some.inj hd).symm
        obtain rfl := at_int.mp ad
        have hmem : o ∈ (sums p rows).map (·.1) := srt_perm.mem_iff.mp (List.mem_of_getElem? hoi)
        obtain ⟨c, hc⟩ := Option.isSome_iff_exists.mp (getI_some.mpr hmem)
        have hco : coef p rows o = c := by unfold coef; rw [hc]; rfl
        have hcp := coef_pos hp (rows := rows) (o := o)
        rw [hco] at hcp
        have hg := l'.g q _ p3
        have hH2 := l'.h q2 _ p4
        have hG2 : Gi' q2 = none := l'.gnone p5 (by rw [p4]; exact fun z => nomatch z)
        have tk := take_snoc hoi
        have hg' : Ev (tDGet (tVar 2) (tVar 4)) [some (.int p), some v, some (.ref q), some (.ref q2), some (.int o), y0, none] Gi' (.int c) := ev_dget (ev_var rfl) hg (ev_var rfl) hc
        refine s_ifG (b := decide ((0 : Int) < c)) (et_test (ev_op hg' ev_c rv_I0)) l'.e (fun hb H3 l3 => ?_) (fun hb H3 l3 => ?_)
        · have hc0 : (coef p rows o != 0) = true := by
            rw [hco]
            have := of_decide_eq_true hb
            simp
            omega
          refine s_setD (l3.h q2 _ hH2) (c := c) (o := o) (hg'.mono l3.e) (ev_var (i := 3) rfl) (ev_var (i := 4) rfl) ?_ fun H4 e4 => ?_
          · rw [List.length_map]
            refine Nat.lt_of_le_of_lt (List.length_filter_le ..) ?_
            rw [List.length_take, srt_perm.length_eq, List.length_map]
            omega
          · have lm := Le.mut (o := .dK (kvI (putI ((((srt ((sums p rows).map (·.1))).take i).filter fun o => coef p rows o != 0).map fun o => (o, coef p rows o)) o c))) (p1.trans (l'.trans (l3.trans (Le.heap l3.e e4)))) hq2' hG2
            refine hN _ Gi' _ (Ex.refl _) lm.e ⟨lm, ⟨_, _, rfl⟩, hg, ?_, hG2⟩
            rw [upd_same, putI_new, tk, List.filter_append, List.filter_cons, if_pos hc0, List.filter_nil, List.map_append]
            · show some (HO.dK (kvI (_ ++ [(o, c)]))) = some (HO.dK (kvI (_ ++ [(o, coef p rows o)])))
              rw [hco]
            · rw [nd_map_fst]
              intro hz
              have hz2 := (List.mem_filter.mp hz).1
              have hnd := hsnd
              rw [← List.take_append_drop (i + 1) (srt ((sums p rows).map (·.1))), tk] at hnd
              have h1 := (List.nodup_append.mp hnd).1
              exact (List.nodup_append.mp h1).2.2 o hz2 o (List.mem_singleton.mpr rfl) rfl
        · have hc0 : (coef p rows o != 0) = false := by
            rw [hco]
            have := of_decide_eq_false hb
            simp
            omega
          refine hN _ Gi' H3 (Ex.refl _) l3.e ⟨p1.trans (l'.trans l3), ⟨_, _, rfl⟩, hg, ?_, hG2⟩
          rw [tk, List.filter_append, List.filter_cons, if_neg (by rw [hc0]; decide), List.filter_nil, List.append_nil]
          exact l3.h q2 _ hH2
      · intro σ' G2 H2 e1 e2 pv
        obtain ⟨p1, ⟨x0, y0, rfl⟩, p3, p4, p5⟩ := pv
        rw [List.length_map, List.take_length] at p4
        refine s_ret (v := .ref q2) (ev_var (i := 3) rfl) fun H3 e3 => ?_
        have lx := Le.fix e (p1.trans (Le.heap p1.e e3)) hq2' (e3 q2 _ p4)
        exact k (.ref q2) _ H3 lx (at_dic.mpr ⟨q2, rfl, upd_same⟩)
end
end SR
set_option maxRecDepth 100000
set_option maxHeartbeats 4000000
namespace SR
open PySem PySem.Spec PyProof.Rows L2 Evl
section
variable {P : Program} {w : World} {K : PySem.W.Frag} {mg : Str → Option Value} {base : Heap} {ω : Type} {O : OI ω} {Ty : ω → Value}
/-! ### _law_pairs -/
def rPairs : List (D ω) → D ω → Prop := fun ds r => ∃ (m : List (Int × Int)), ds = [.dic m] ∧ (m.map (·.1)).Nodup ∧ m.length ≤ 30000 ∧ r = .lst (m.map pairD)
theorem getI_mem {m : List (Int × Int)} (h : (m.map (·.1)).Nodup) {q : Int × Int} (hq : q ∈ m) : getI m q.1 = some q.2 := by
  induction m with
  | nil => cases hq
  | cons a r ih =>
    rw [List.map_cons, List.nodup_cons] at h
    unfold getI
    rw [List.find?_cons]
    by_cases e : a.1 = q.1
    · rw [decide_eq_true e]
      rcases List.mem_cons.mp hq with rfl | hr
      · rfl
      · exact absurd (e ▸ List.mem_map_of_mem hr) h.1
    · rw [decide_eq_false e]
      rcases List.mem_cons.mp hq with rfl | hr
      · exact absurd rfl e
      · exact ih h.2 hr
abbrev _law_pairs_S : Stmt := topS 56
abbrev _law_pairs_N : List Str := ["_law_held_here", "_law_offset"]
theorem _law_pairs_sc : FnScope _law_pairs_N ["_law_held_here"] (defScope _law_pairs_S) := ⟨rfl, rfl, rfl, by decide +kernel, rfl, by decide +kernel, by decide +kernel⟩
theorem ok_pairs {f : Addr} {fd : FuncData} (F : Fun K "_law_pairs" "_law_pairs" _law_pairs_S f fd) (B : Bi mg) : FnOk P w K mg base CX0 1 f fd ["_law_held_here"] (SpD K O rPairs) := by
  refine F.ok _law_pairs_sc (fun vs H Q E h => ?_) (fun cdv A outer s0 H vs Q E hr h => ?_)
  · obtain ⟨G, ds, d, e, as, ⟨m, rfl, _⟩, k⟩ := h
    exact as.len
  · obtain ⟨G, ds, d, e, as, ⟨m, rfl, hnd, hz, rfl⟩, k⟩ := h
    obtain ⟨v, r, rfl, a, n⟩ := atL_cons.mp as
    obtain rfl := atL_nil.mp n
    obtain ⟨q, rfl, hq⟩ := at_dic.mp a
    have hu := hu_of hr
    refine ⟨_, (pss_one (ps_ret (pe_lock (pe_lc (own := [("_law_offset", 1)]) rfl _law_pairs_sc.nd (pi_keys (pv 0)) (blkOk_by (N := _law_pairs_N) (sc := defScope _law_pairs_S) (by decide +kernel)) (fun _ _ _ _ _ => (pg_name (i := 1) _law_pairs_sc.nd rfl (Or.inl rfl))) (fun _ _ _ _ _ => pts_nil) (fun _ _ _ _ _ => by exact (pe_tup (pa_cons (pv 1) (pa_cons (pe_dget (by exact hu) (pv 0) (pv 1) (fun _ _ => rfl)) pa_nil)))))))), ?_⟩
    refine s_retD ?_ e k
    refine ed_lock hq True.intro ⟨_, rfl⟩ (by show noObjL _ = true; exact noObj_pairs) fun od => ?_
    have h7 := ed_lc (K := K) (O := O) (te := tTup (tCons (tVar 1) (tCons (tDGet (tVar 0) (tVar 1)) tNil))) (tt := tYes) (vs := [1]) (g := gName 1) (fun _ => true) (fun d => match d with | .int o => pairD (o, (getI m o).getD 0) | _ => d) (src_keys (O := O) (td := tVar 0) (σ := [some (.ref q), none]) (ev_var rfl) (upd_same (a := q) (o := .frz od (.dK (kvI m))) (H := G))) (by rw [List.length_map]; omega) ?_
    · have e8 : ((m.map fun q => (D.int q.1 : D ω)).filter fun _ => true).map (fun d => match d with | .int o => pairD (o, (getI m o).getD 0) | _ => d) = m.map pairD := by
        rw [List.filter_eq_self.mpr (fun _ _ => rfl), List.map_map]
        refine List.map_congr_left fun x hx => ?_
        show pairD (x.1, (getI m x.1).getD 0) = pairD x
        rw [getI_mem hnd hx]
        rfl
      rw [e8] at h7
      exact h7
    · intro i d x Gi Hi hd eg eh ad Q' hQ
      obtain ⟨y, hy, rfl⟩ : ∃ y, y ∈ m ∧ d = D.int y.1 := by
        have hi : i < m.length := by
          have := (List.getElem?_eq_some_iff.mp hd).1
          rw [List.length_map] at this
          exact this
        rw [List.getElem?_map, List.getElem?_eq_getElem hi] at hd
        exact ⟨_, List.getElem_mem hi, (Option.some.inj hd).symm⟩
      obtain rfl := at_int.mp ad
      have hg := eg q _ upd_same
      have hc := getI_mem hnd hy
      refine hQ _ Hi (Ex.refl _) rfl et_yes fun _ => ?_
      show EvD K O _ _ _ (pairD (y.1, (getI m y.1).getD 0))
      rw [hc]
      exact ed_tup (eda_cons (ed_of (ev_var rfl) (at_int.mpr rfl)) (eda_cons (ed_of (ev_dgetF (ev_var rfl) hg (ev_var rfl) hc) (at_int.mpr rfl)) eda_nil)) (by show 2 ≤ 100000; decide)
/-! ### _law_same: of the same data, True -/
def rSame (n : Nat) : List (D ω) → D ω → Prop := fun ds r => ∃ d, ds = [d, d] ∧ dep d < n ∧ noObj d = true ∧ r = .bl true
def lenOk : D ω → Prop | .lst l => l.length ≤ 30000 | .tup l => l.length ≤ 30000 | _ => True
mutual
def allOk : D ω → Bool
  | .lst l => decide (l.length ≤ 30000) && allOkL l
  | .tup l => decide (l.length ≤ 30000) && allOkL l
  | _ => true
def allOkL : List (D ω) → Bool
  | [] => true
  | d :: l => allOk d && allOkL l
end
theorem allOkL_mem : ∀ {l : List (D ω)} {d : D ω}, allOkL l = true → d ∈ l → allOk d = true
  | c :: l, d, n, h => by
    simp only [allOkL, Bool.and_eq_true] at n
    rcases List.mem_cons.mp h with rfl | h
    · exact n.1
    · exact allOkL_mem n.2 h
def rSm (n : Nat) : List (D ω) → D ω → Prop := fun ds r => ∃ d, ds = [d, d] ∧ dep d < n ∧ noObj d = true ∧ allOk d = true ∧ r = .bl true
theorem zip_self_get {l : List (D ω)} {i : Nat} {d : D ω} (h : (zipD l l)[i]? = some d) : ∃ c, c ∈ l ∧ d = .tup [c, c] := by
  simp [zipD, List.zip, List.getElem?_zipWith] at h
  cases e : l[i]? with
  | none => rw [e] at h; simp at h
  | some c =>
    rw [e] at h
    simp at h
    exact ⟨c, List.mem_of_getElem? e, h.symm⟩
abbrev _law_same_S : Stmt := topS 54
abbrev _law_same_N : List Str := ["_law_found", "_law_due", "_law_x", "_law_y"]
theorem _law_same_sc : FnScope _law_same_N ["_law_found", "_law_due"] (defScope _law_same_S) := ⟨rfl, rfl, rfl, by decide +kernel, rfl, by decide +kernel, by decide +kernel⟩
theorem ok_same {f : Addr} {fd : FuncData} (F : Fun K "_law_same" "_law_same" _law_same_S f fd) (B : Bi mg) (OK : OT K O Ty) (hm : mg "_law_same" = some (.ref f)) (hb : Binds K fd ["_law_found", "_law_due"] []) : ∀ n, FnOk P w K mg base CX0 n f fd ["_law_found", "_law_due"] (SpD K O (rSm n))
  | 0 => ⟨fun vs H Q E h => (by obtain ⟨G, ds, d, e, as, ⟨d0, _, h1, _⟩, k⟩ := h; exact absurd h1 (Nat.not_lt_zero _)), fun A outer s H args us vs Q E hr he hb hv h => (by obtain ⟨G, ds, d, e, as, ⟨d0, _, h1, _⟩, k⟩ := h; exact absurd h1 (Nat.not_lt_zero _))⟩
  | n + 1 => by
    have h__law_same : DefOk P w K mg base n "_law_same" ["_law_found", "_law_due"] (SpD K O (rSm n)) := defOk F hm (ok_same F B OK hm hb n) hb
    refine F.ok _law_same_sc (fun vs H Q E h => ?_) (fun cdv A outer s0 H vs Q E hr h => ?_)
    · obtain ⟨G, ds, d, e, as, ⟨d0, rfl, _⟩, k⟩ := h
      exact as.len
    · obtain ⟨G, ds, d, e, as, ⟨d0, rfl, hdep, hno, hok, rfl⟩, k⟩ := h
      obtain ⟨v, r, rfl, a, nn⟩ := atL_cons.mp as
      obtain ⟨v2, r, rfl, a2, nn⟩ := atL_cons.mp nn
      obtain rfl := atL_nil.mp nn
      refine ⟨_, (pss_cons (ps_if (pt_val (pe_callB (call_isiTK K) (by rfl) B.isinstance (by decide +kernel) (pa_cons (pv 1) (pa_cons (pe_tup (pa_cons (pe_bltn (v := .ty "list") (by rfl) B.list (by decide +kernel) rfl) (pa_cons (pe_bltn (v := .ty "tuple") (by rfl) B.tuple (by decide +kernel) rfl) pa_nil))) pa_nil)))) (pss_cons (ps_if (PW.pt (pw_or (pt_cmpR op_ne (pe_callB (call_isiK' K) (by rfl) B.isinstance (by decide +kernel) (pa_cons (pv 0) (pa_cons (pe_bltn (v := .ty "list") (by rfl) B.list (by decide +kernel) rfl) pa_nil))) (pe_callB (call_isiK' K) (by rfl) B.isinstance (by decide +kernel) (pa_cons (pv 1) (pa_cons (pe_bltn (v := .ty "list") (by rfl) B.list (by decide +kernel) rfl) pa_nil))) (nomark _)) (pw_or1 (pt_cmpR op_ne (pe_callB (call_isiK' K) (by rfl) B.isinstance (by decide +kernel) (pa_cons (pv 0) (pa_cons (pe_bltn (v := .ty "tuple") (by rfl) B.tuple (by decide +kernel) rfl) pa_nil))) (pe_callB (call_isiK' K) (by rfl) B.isinstance (by decide +kernel) (pa_cons (pv 1) (pa_cons (pe_bltn (v := .ty "tuple") (by rfl) B.tuple (by decide +kernel) rfl) pa_nil))) (nomark _))))) (pss_one (ps_ret pe_bl)) pss_nil)
    (pss_one (ps_ret (pe_and (pe_cmpR op_eq (pe_callB (call_lenK K) (by rfl) B.len (by decide +kernel) (pa_cons (pv 0) pa_nil)) (pe_callB (call_lenK K) (by rfl) B.len (by decide +kernel) (pa_cons (pv 1) pa_nil)) (nomark _)) (pe_one (pe_callB (cr_allK K rfl) (by rfl) B.all (by decide +kernel) (pa_cons (pe_lc (own := [("_law_x", 2), ("_law_y", 3)]) rfl _law_same_sc.nd (RZ.pi_zipA (by rfl) B.zip (pa_cons (pv 0) (pa_cons (pv 1) pa_nil))) (blkOk_by (N := _law_same_N) (sc := defScope _law_same_S) (by decide +kernel)) (fun _ _ _ _ _ => (pg_tupK (k := 2) K rfl (pgs_cons (pg_name (i := 2) _law_same_sc.nd rfl (Or.inl rfl)) (pgs_cons (pg_name (i := 3) _law_same_sc.nd rfl (Or.inl rfl)) pgs_nil)))) (fun _ _ _ _ _ => pts_nil) (fun _ _ _ _ _ => by exact (pe_callD h__law_same (hr.mono (by first | decide | exact Nat.le_refl _)) (pa_cons (pv 2) (pa_cons (pv 3) pa_nil))))) pa_nil))))))) pss_nil)
    (pss_cons (ps_if (pt_val (pe_callB (call_isiK' K) (by rfl) B.isinstance (by decide +kernel) (pa_cons (pv 1) (pa_cons (pe_bltn (v := .ty "int") (by rfl) B.int (by decide +kernel) rfl) pa_nil)))) (pss_one (ps_ret (pe_and (pe_callB (call_isiK' K) (by rfl) B.isinstance (by decide +kernel) (pa_cons (pv 0) (pa_cons (pe_bltn (v := .ty "int") (by rfl) B.int (by decide +kernel) rfl) pa_nil))) (pe_and (pe_cmpR op_eq (pe_callB (call_isiK' K) (by rfl) B.isinstance (by decide +kernel) (pa_cons (pv 0) (pa_cons (pe_bltn (v := .ty "bool") (by rfl) B.bool (by decide +kernel) rfl) pa_nil))) (pe_callB (call_isiK' K) (by rfl) B.isinstance (by decide +kernel) (pa_cons (pv 1) (pa_cons (pe_bltn (v := .ty "bool") (by rfl) B.bool (by decide +kernel) rfl) pa_nil))) (nomark _)) (pe_one (pe_cmpR op_eq (pv 0) (pv 1) (nomark _))))))) pss_nil)
    (pss_one (ps_ret (pe_and (pe_cmpR op_isBl (pe_callB (call_isiTK K) (by rfl) B.isinstance (by decide +kernel) (pa_cons (pv 0) (pa_cons (pe_tup (pa_cons (pe_bltn (v := .ty "int") (by rfl) B.int (by decide +kernel) rfl) (pa_cons (pe_bltn (v := .ty "list") (by rfl) B.list (by decide +kernel) rfl) (pa_cons (pe_bltn (v := .ty "tuple") (by rfl) B.tuple (by decide +kernel) rfl) pa_nil)))) pa_nil))) pe_bl (nomark _)) (pe_one (pe_cmpR op_eq (pv 0) (pv 1) (nomark _)))))))), ?_⟩
      have h0 : EvD K O (tVar 0) [some v, some v2, none, none] G d0 := ed_var rfl a
      have h1 : EvD K O (tVar 1) [some v, some v2, none, none] G d0 := ed_var rfl a2
      refine q_whenG (b := dSeq d0) (et_test (isi_seq OK h1)) e (fun hs H2 l2 => ?_) (fun hs H2 l2 => ?_)
      · -- lists, tuples
        refine q_skip (et_is (et_or (et_test (ev_op (isi_list OK h0) (isi_list OK h1) (rv_ne rfl))) fun _ => et_test (ev_op (isi_tuple OK h0) (isi_tuple OK h1) (rv_ne rfl))) (by simp)) l2.e fun H3 l3 => ?_
        refine s_retD (ed_of (v := .bl true) ?_ (at_bl.mpr rfl)) l3.e (k.mono (l2.trans l3))
        refine ev_is (ev_andV (a := true) (b := true) (ev_is (ev_op (len_d h0 hs) (len_d h1 hs) (rv_eq rfl)) (by simp)) fun _ => ?_) rfl
        obtain ⟨l, src, hln, hmem⟩ : ∃ l : List (D ω), Src K O (RZ.iZipA K (tCons (tVar 0) (tCons (tVar 1) tNil))) [some v, some v2, none, none] G (zipD l l) ∧ l.length ≤ 30000 ∧ ∀ c, c ∈ l → dep c < n ∧ noObj c = true ∧ allOk c = true := by
          cases d0 with
          | lst l =>
            simp only [allOk, Bool.and_eq_true] at hok
            refine ⟨l, src_zipL (eda_cons h0 (eda_cons h1 eda_nil)), of_decide_eq_true hok.1, fun c hc => ⟨?_, noObjL_mem (by simpa only [noObj] using hno) hc, allOkL_mem hok.2 hc⟩⟩
            have h3 := depL_le hc
            have h4 : depL l + 1 < n + 1 := hdep
            omega
          | tup l =>
            simp only [allOk, Bool.and_eq_true] at hok
            refine ⟨l, src_zipT (eda_cons h0 (eda_cons h1 eda_nil)), of_decide_eq_true hok.1, fun c hc => ⟨?_, noObjL_mem (by simpa only [noObj] using hno) hc, allOkL_mem hok.2 hc⟩⟩
            have h3 := depL_le hc
            have h4 : depL l + 1 < n + 1 := hdep
            omega
          | _ => cases hs
        have hz : (zipD l l).length ≤ 40000 := by simp [zipD]; omega
        have h7 := ed_lc (K := K) (O := O) (te := tCall (SpD K O (rSm n)) [] E0 (tCons (tVar 2) (tCons (tVar 3) tNil))) (tt := tYes) (vs := [2, 3]) (g := gTup K 2 (gCons (gName 2) (gCons (gName 3) gNil))) (fun _ => true) (fun _ => D.bl true) src hz ?_
        · have e8 : ((zipD l l).filter fun _ => true).map (fun _ => (D.bl true : D ω)) = ((zipD l l).map fun _ => true).map D.bl := by
            rw [List.filter_eq_self.mpr (fun _ _ => rfl), List.map_map]
            rfl
          rw [e8] at h7
          refine ev_is (ev_allD h7) ?_
          congr 1
          rw [List.all_map]
          simp
        · intro i d x Gi Hi hd eg eh ad Q' hQ
          obtain ⟨c, hc, rfl⟩ := zip_self_get hd
          obtain ⟨hc1, hc2, hc3⟩ := hmem c hc
          refine tg_pair ad eh fun x1 x2 a1 a2 => ?_
          exact hQ _ Hi (Ex.refl _) rfl et_yes fun _ => ed_call (eda_cons (ed_var rfl a1) (eda_cons (ed_var rfl a2) eda_nil)) ⟨c, rfl, hc1, hc2, hc3, rfl⟩
      · refine q_whenG (b := dIntB d0) (et_test (isi_int OK h1)) l2.e (fun hi H3 l3 => ?_) (fun hi H3 l3 => ?_)
        · refine s_retD (ed_of (v := .bl true) ?_ (at_bl.mpr rfl)) l3.e (k.mono (l2.trans l3))
          refine ev_is (ev_andV (a := true) (b := true) (ev_is (isi_int OK h0) (by rw [hi])) fun _ => ?_) rfl
          refine ev_is (ev_andV (a := true) (b := true) (ev_is (ev_op (isi_bool OK h0) (isi_bool OK h1) (rv_eq rfl)) (by simp)) fun _ => ?_) rfl
          cases d0 with
          | int i =>
            obtain rfl := at_int.mp a
            obtain rfl := at_int.mp a2
            exact ev_is (ev_op (ev_var (i := 0) rfl) (ev_var (i := 1) rfl) (rv_eq rfl)) (by simp)
          | bl b =>
            obtain rfl := at_bl.mp a
            obtain rfl := at_bl.mp a2
            exact ev_is (ev_op (ev_var (i := 0) rfl) (ev_var (i := 1) rfl) (rv_eq rfl)) (by simp)
          | _ => cases hi
        · refine s_retD (K := K) (O := O) (ed_of (v := .bl true) ?_ (at_bl.mpr rfl)) l3.e (k.mono (l2.trans l3))
          refine ev_is (ev_andV (a := true) (b := true) (ev_is (ev_op (isi_ils OK h0) ev_c (fun H1 _ Q q => ⟨_, _, rfl, rfl, q H1 (Ex.refl H1)⟩ : RV rIsB (.bl (dIntB d0 || dSeq d0)) (.bl false) G (.bl (decide ((dIntB d0 || dSeq d0) = false))))) (by rw [hs, hi]; rfl)) fun _ => ?_) rfl
          cases d0 with
          | non =>
            obtain rfl := at_non.mp a
            obtain rfl := at_non.mp a2
            exact ev_is (ev_op (ev_var (i := 0) rfl) (ev_var (i := 1) rfl) (rv_eq rfl)) (by simp)
          | str x =>
            obtain rfl := at_str.mp a
            obtain rfl := at_str.mp a2
            exact ev_is (ev_op (ev_var (i := 0) rfl) (ev_var (i := 1) rfl) (rv_eq rfl)) (by simp)
          | dic m => simp only [noObj] at hno; cases hno
          | obj u => simp only [noObj] at hno; cases hno
          | int i => cases hi
          | bl b => cases hi
          | lst l => cases hs
          | tup l => cases hs
end
end SR
set_option maxRecDepth 100000
set_option maxHeartbeats 4000000
namespace SR
open PySem PySem.Spec PyProof.Rows L2 Evl
theorem depL_pairs {ω : Type} : ∀ {m : List (Int × Int)}, depL (ω := ω) (m.map pairD) ≤ 1
  | [] => Nat.zero_le _
  | q :: r => by
    have ih := depL_pairs (ω := ω) (m := r)
    show max (dep (pairD q : D ω)) (depL (r.map pairD)) ≤ 1
    have h1 : dep (pairD q : D ω) = 1 := rfl
    rw [h1]
    omega
theorem allOk_pairs {ω : Type} : ∀ {m : List (Int × Int)}, allOkL (ω := ω) (m.map pairD) = true
  | [] => rfl
  | q :: r => by
    show (allOk (pairD q : D ω) && allOkL (r.map pairD)) = true
    rw [allOk_pairs]
    rfl
def dueD (m : List (Int × Int)) : List (D FilS) := [optD (lowO m), optD (highO m), optD ((lowO m).bind fun a => (highO m).map fun b => b - a)]
theorem optD_ok (o : Option Int) : noObj (optD o) = true ∧ allOk (optD o) = true ∧ dep (optD o) = 0 := by cases o <;> exact ⟨rfl, rfl, rfl⟩
end SR
set_option maxRecDepth 100000
set_option maxHeartbeats 4000000
namespace SR
open PySem PySem.Spec PyProof.Rows L2 Evl
section
variable {P : Program} {w : World} {K : PySem.W.Frag} {mg : Str → Option Value} {base : Heap} {ω : Type} {O : OI ω} {Ty : ω → Value}
/-- draw(e), e an int by the heap as it stands -/
theorem x_drawH {G H : Hp} {s q : Addr} {n : Nat} {te : TE} {σ : L2.St} {many : Int} {E : XK} {Q : VK} (a : At2 s q G H n) (hn : n + 1 ≤ 1000000) (hv : σ[0]? = some (some (.ref s))) (ha : Ev te σ H (.int many)) (h0 : 0 < many) (h1 : many < 1073741824)
    (k : ∀ x G2 H2, 0 ≤ x → x < many → LeX s q G H G2 H2 → At2 s q G2 H2 (n + 1) → Q (.int x) H2) : cDraw K O E (tCons te tNil) σ H Q :=
  ⟨.ref s, hv, ha H (Ex.refl H) _ fun H2 e2 => by
    have l := Le.heap a.e e2
    have a2 := a.le l
    refine ⟨G, s, q, n, [.int many], [.int many], rfl, a2.e, a2.gs, a2.gq, a2.spr, hn, AtL.one (at_int.mpr rfl), ⟨many, rfl, h0, h1⟩, fun d v G3 H3 ⟨m', x, hm, hd, hx0, hx1⟩ l3 sp3 av => ?_⟩
    subst hd
    obtain rfl := at_int.mp av
    have hm' : many = m' := D.int.inj (List.cons.inj hm).1
    exact k x G3 H3 hx0 (by omega) (l.x.trans l3) (a2.go l3 sp3)⟩
def pTold : List (D ω) → Prop := fun ds => ∃ (p : Int) (rows : List (Int × Int)), ds = [.int p, .lst (rows.map pairD)] ∧ primes.contains p = true ∧ rows.length ≤ 16
def rTold : List (D ω) → D ω → Prop := fun ds d => ∃ (p : Int) (rows rows' : List (Int × Int)), ds = [.int p, .lst (rows.map pairD)] ∧ d = .lst (rows'.map pairD) ∧ rows'.length ≤ 100 ∧ coll p rows' = coll p rows
theorem prime_lt {p : Int} (h : primes.contains p = true) : 1 < p ∧ p < 8 := by
  have h1 : p ∈ primes := List.contains_iff_mem.mp h
  unfold primes at h1
  simp at h1
  omega
theorem split_tot {a : List (Int × Int)} {i : Nat} {x : Int × Int} {o : Int} : totl (a.take i ++ [x] ++ a.drop i) o = totl a o + totl [x] o := by
  have h : totl a o = totl (a.take i) o + totl (a.drop i) o := by rw [← totl_append, List.take_append_drop]
  rw [totl_append, totl_append, h]
  omega
end
end SR
set_option maxRecDepth 100000
set_option maxHeartbeats 4000000
namespace SR
open PySem PySem.Spec PyProof.Rows L2 Evl
section
variable (P : Program) (w : World) (K : PySem.W.Frag) (mg : Str → Option Value) (base : Heap)
structure CMethOk (C : Addr) (k : Nat) (m : Str) (ps : List Str) (sp : Sp) : Prop where
  ex : ∃ mc p g fd, ClX.CRead K C mc ∧ ClX.CMet K C mc m p g ∧ Binds K fd ps [] ∧ FnOk P w K mg base CX0 k g fd ps sp
end
section
variable {X : Cx} {k : Nat} {C : Addr} {ps : List Str} {sp : Sp} {o e : Expr} {es : List Expr} {m : Str} {pos apos : Pos} {ta : TE} {t : TA} {pl : Sem Bool}
theorem pe_cmethD (h : CMethOk X.prog X.w X.K X.mg X.base C k m ps sp) (hr : Room k X.A) (he : PE X o ta) (ha : PA X (e :: es) t)
    (hst : starEach (e :: es) X.env = (false, eval e X.env) :: starEach es X.env := by rfl) (hpl : (backTo pos (starEach es X.env)).any (·.1) = false := by rfl)
    (ht : eval (.Call (.Attribute o m apos) (e :: es) [] pos) X.env = (do
      let ov ← eval o X.env
      standAt apos.atName
      let (f, first) ← holding [ov] (getMethod ov m pl)
      callWith pos f first (backTo pos (starEach (e :: es) X.env)) (backToKw pos (keywordEach [] X.env))) := by rfl) :
    PE X (.Call (.Attribute o m apos) (e :: es) [] pos) (ClX.tCMeth C (fun vs H Q E => sp (vs ++ []) H Q E) E0 ta t) := by
  obtain ⟨mc, p, g, fd, r, c, hb, F⟩ := h.ex
  exact ClX.pe_cmeth he r c (F.raw hb .nil) hr pass0 ha hst hpl ht
end
section
variable {P : Program} {w : World} {K : PySem.W.Frag} {mg : Str → Option Value} {base : Heap} {C : Addr} {G H : Hp} {te : TE} {σ : L2.St} {t : TA} {E : XK}
/-- Filter(p, rows) -/
theorem ed_make {p : Int} {d : D FilS} {rows : List (Int × Int)} (h : EvDA K (FilO K C) t σ G [.int p, d]) (hp : primes.contains p = true) (hr : RowsD d rows) (hz : rows.length ≤ 30000) : EvD K (FilO K C) (tMake C (spInit K C) [] E t) σ G (.obj ⟨p, coll p rows⟩) := fun H1 e Q k =>
  h H1 e _ fun vs G2 H2 l as => by
    obtain ⟨v1, r, rfl, a1, n⟩ := atL_cons.mp as
    obtain ⟨v2, r, rfl, a2, n⟩ := atL_cons.mp n
    obtain rfl := atL_nil.mp n
    obtain rfl := at_int.mp a1
    intro x dx hx hdx hne
    exact ⟨G2, H2, x, dx, p, v2, d, rows, rfl, l.e, hx, hdx, hne, rfl, a2, hr, hz, hp, fun G3 H3 l3 fa => ⟨rfl, k (.ref x) G3 H3 (l.trans l3) (at_obj.mpr ⟨x, rfl, fa⟩)⟩⟩
/-- Filter(p): the default -/
theorem ed_make1 {p : Int} {a0 : Addr} (h : EvDA K (FilO K C) t σ G [.int p]) (hp : primes.contains p = true) (h0 : ∀ H, SqT K H a0 []) : EvD K (FilO K C) (tMake C (spInit K C) [.ref a0] E t) σ G (.obj ⟨p, coll p []⟩) := fun H1 e Q k =>
  h H1 e _ fun vs G2 H2 l as => by
    obtain ⟨v1, r, rfl, a1, n⟩ := atL_cons.mp as
    obtain rfl := atL_nil.mp n
    obtain rfl := at_int.mp a1
    intro x dx hx hdx hne
    exact ⟨G2, H2, x, dx, p, .ref a0, .tup [], [], rfl, l.e, hx, hdx, hne, rfl, at_tup.mpr ⟨a0, [], rfl, h0 _, atL_nil.mpr rfl⟩, ⟨[], Or.inr rfl, .nil⟩, Nat.zero_le _, hp, fun G3 H3 l3 fa => ⟨rfl, k (.ref x) G3 H3 (l.trans l3) (at_obj.mpr ⟨x, rfl, fa⟩)⟩⟩
theorem rowsD_pairs {rows : List (Int × Int)} : RowsD (D.lst (ω := FilS) (rows.map pairD)) rows := ⟨_, Or.inl rfl, RowsL.pairs⟩
theorem rowsD_tup {rows : List (Int × Int)} : RowsD (D.tup (ω := FilS) (rows.map pairD)) rows := ⟨_, Or.inr rfl, RowsL.pairs⟩
/-! ### terms: a new list -/
def spTermsN (K : PySem.W.Frag) (C : Addr) : Sp := fun vs H Q _ => ∃ G w v, vs = [v] ∧ Ex G H ∧ At K (FilO K C) G (.obj w) v ∧ ∀ l G2 H2, H l = none → Le G H G2 H2 → At K (FilO K C) G2 (.lst (w.ps.map pairD)) (.ref l) → Q (.ref l) H2
theorem ok_termsN {f : Addr} {fd : FuncData} (F : Fun K "terms" "Filter.terms" Filter_terms_S f fd) (B : Bi mg) (c : FilC K C) : FnOk P w K mg base CX0 1 f fd ["self"] (spTermsN K C) := by
  refine F.ok Filter_terms_sc (fun vs H Q E h => ?_) (fun cdv A outer s H vs Q E hr h => ?_)
  · obtain ⟨G, w0, v, rfl, _⟩ := h
    rfl
  · obtain ⟨G, w0, v, rfl, e, a, k⟩ := h
    refine ⟨_, (pss_one (ps_ret (pe_callTy call_list_of (by rfl) B.list (by decide +kernel) (pa_cons (pe_fldK K (pv 0)) pa_nil)))), ?_⟩
    refine ed_pairs c (ed_var (i := 0) (σ := [some v]) rfl a) H e _ fun vt G2 H2 l at' => ?_
    obtain ⟨p, vs, rfl, hs, as⟩ := at_tup.mp at'
    exact ⟨p, vs, rfl, Or.inr (ex_t l.e hs), fun q hq => k q (upd G2 q (.lst vs)) _ (l.back hq) (l.trans (Le.new l.e hq)) (at_lst.mpr ⟨q, vs, rfl, upd_same, as.mono (Ex.new (none_of_ex l.e hq))⟩)⟩
/-- the weaker promise -/
theorem terms_weak {vs : List V} {H : Hp} {Q : VK} {E : XK} (h : SpD K (FilO K C) rTerms vs H Q E) : spTermsN K C vs H Q E := by
  obtain ⟨G, ds, d, e, as, ⟨w, rfl, rfl⟩, k⟩ := h
  obtain ⟨v, r, rfl, a, n⟩ := atL_cons.mp as
  obtain rfl := atL_nil.mp n
  exact ⟨G, w, v, rfl, e, a, fun l G2 H2 _ lw al => k _ G2 H2 lw al⟩
/-- tuple(a list) -/
theorem ed_tupleF {ω : Type} {O : OI ω} {ta : TE} {l : List (D ω)} (h : EvD K O ta σ G (.lst l)) : EvD K O (tCB (fun xs H Q => ∃ p ys, xs = [V.ref p] ∧ SqL K H p ys ∧ ∀ l o, H l = none → o.dict = none → Q (.ref l) (upd H l (.frz o (.tup ys)))) (tCons ta tNil)) σ G (.tup l) := fun H1 e Q k =>
  h H1 e _ fun v G2 H2 le a => by
    obtain ⟨p, vs, rfl, hs, as⟩ := at_lst.mp a
    exact ⟨p, vs, rfl, sq_of (le.e _ _ hs), fun q o hq _ => k _ (upd G2 q (.frz o (.tup vs))) _ (le.trans (Le.new le.e hq)) (at_tup.mpr ⟨q, vs, rfl, Or.inl (Or.inr ⟨o, upd_same⟩), as.mono (Ex.new (none_of_ex le.e hq))⟩)⟩
theorem ed_newD {ω : Type} {O : OI ω} : EvD K O tDNewK σ G (.dic []) := fun H1 e Q k p hp => k _ (upd G p (.dK [])) _ (Le.new e hp) (at_dic.mpr ⟨p, rfl, upd_same⟩)
end
end SR
set_option maxRecDepth 100000
set_option maxHeartbeats 4000000
namespace SR
open PySem PySem.Spec PyProof.Rows L2 Evl
section
variable {ω : Type} {K : PySem.W.Frag} {O : OI ω} {G H : Hp} {te : TE} {σ : L2.St}
/-- a comprehension: its list is new -/
theorem x_lc {wi : TI} {g : TG} {tt : TT} {vs : List Nat} {ds : List (D ω)} (f : D ω → Bool) (m : D ω → D ω) (hs : Src K O wi σ G ds) (hz : ds.length ≤ 40000)
    (body : ∀ (i : Nat) (d : D ω) (x : V) (Gi Hi : Hp), ds[i]? = some d → Ex G Gi → Ex Gi Hi → At K O Gi d x → ∀ Q : L2.St → Hp → Prop,
      (∀ σ2 H2, Ex Hi H2 → wipe σ2 vs = wipe σ vs → EvT tt σ2 Gi (f d) → (f d = true → EvD K O te σ2 Gi (m d)) → Q σ2 H2) → g x (wipe σ vs) Hi Q) :
    ∀ (H1 : Hp), Ex G H1 → ∀ Q : VK, (∀ (Dl : Addr) (G2 H2 : Hp), H1 Dl = none → Le G H1 G2 H2 → At K O G2 (.lst ((ds.filter f).map m)) (.ref Dl) → Q (.ref Dl) H2) → tLc wi g tt te vs σ H1 Q := fun H1 e Q k => by
  refine hs H1 e _ fun J Gd Y G0 H0 l0 w hG yl => ?_
  intro Dl hD
  refine lc_it w (fun i H => ∃ Gi us, Le G0 H0 Gi H ∧ H Dl = some (.lst us) ∧ Gi Dl = none ∧ AtL K O Gi (((ds.take i).filter f).map m) us)
    ⟨G0, [], Le.newM l0.e hD, upd_same, none_of_ex l0.e hD, by simp; exact atL_nil.mpr rfl⟩ (fun i H _ p => ?_) (fun i x Hi Hi' hi p y => ?_) fun H p => ?_
  · obtain ⟨Gi, us, l, _⟩ := p
    exact hG H (l.g.trans l.e)
  · obtain ⟨Gi, us, l, hu, gn, as⟩ := p
    obtain ⟨d, Gi', hd, l', ad⟩ := yl i Gi Hi x Hi' l.g l.e hi y
    have tk := take_snoc hd
    have gn' : Gi' Dl = none := l'.gnone gn (by rw [hu]; exact fun z => nomatch z)
    have hu' : Hi' Dl = some (.lst us) := l'.h Dl _ hu
    have lt : Le G0 H0 Gi' Hi' := l.trans l'
    refine body i d x Gi' Hi' hd (l0.g.trans lt.g) l'.e ad _ fun σ2 H2 e2 hw ht he => ⟨hw, ?_⟩
    refine ht H2 (l'.e.trans e2) _ fun H3 e3 => ?_
    have e23 := e2.trans e3
    have lt3 : Le G0 H0 Gi' H3 := lt.trans (Le.heap l'.e e23)
    cases hf : f d with
    | false =>
      rw [if_neg Bool.false_ne_true]
      refine ⟨Gi', us, lt3, e23 Dl _ hu', gn', ?_⟩
      rw [tk, List.filter_append, List.filter_cons, if_neg (by rw [hf]; decide), List.filter_nil, List.append_nil]
      exact as.mono l'.g
    | true =>
      rw [if_pos rfl]
      refine he hf H3 (l'.e.trans e23) _ fun u G4 H4 l4 a4 => ?_
      have hu4 : H4 Dl = some (.lst us) := l4.h Dl _ (e23 Dl _ hu')
      have gn4 : G4 Dl = none := l4.gnone gn' (by rw [e23 Dl _ hu']; exact fun z => nomatch z)
      have ul : us.length ≤ i := by
        have := as.len
        have h2 := List.length_filter_le f (ds.take i)
        simp at this h2
        omega
      refine ⟨us, hu4, sz_lt (by omega), G4, us ++ [u], (lt3.trans l4).mut hD gn4, upd_same, gn4, ?_⟩
      rw [tk, List.filter_append, List.filter_cons, if_pos hf, List.filter_nil, List.map_append]
      exact (as.mono (l'.g.trans l4.g)).app (AtL.one a4)
  · obtain ⟨Gi, us, l, hu, gn, as⟩ := p
    rw [List.take_length] at as
    exact k Dl (upd Gi Dl (.lst us)) H (fresh_back l0.h hD) (l0.trans (Le.fix l0.e l hD hu)) (at_lst.mpr ⟨Dl, us, rfl, upd_same, as.mono (Ex.new gn)⟩)
end
/-! ### a world without its lists -/
def nol (G : Hp) : Hp := fun a => match G a with
  | some (.lst _) => none
  | x => x
section
variable {K : PySem.W.Frag} {C : Addr} {G G1 H : Hp} {a : Addr} {vs : List V} {v : V} {w : FilS} {o : HO}
theorem nol_ex : Ex (nol G) G := fun a o h => by
  unfold nol at h
  cases q : G a with
  | none => rw [q] at h; cases h
  | some u => rw [q] at h; cases u <;> first | (cases h; done) | exact h
theorem nol_lst (h : G a = some (.lst vs)) : nol G a = none := by unfold nol; rw [h]
theorem nol_none (h : G a = none) : nol G a = none := by unfold nol; rw [h]
theorem nol_keep (h : G a = some o) (n : ∀ vs, o ≠ .lst vs) : nol G a = some o := by
  unfold nol
  rw [h]
  cases o <;> first | rfl | exact absurd rfl (n _)
theorem nol_t (h : SqT K G a vs) : SqT K (nol G) a vs := by
  rcases h with (h | ⟨o, h⟩) | h
  · exact Or.inl (Or.inl (nol_keep h fun _ z => nomatch z))
  · exact Or.inl (Or.inr ⟨o, nol_keep h fun _ z => nomatch z⟩)
  · exact Or.inr h
theorem fil_nol (h : At K (FilO K C) G (.obj w) v) : At K (FilO K C) (nol G) (.obj w) v := by
  obtain ⟨x, rfl, dx, tp, o, ts, kd, g1, g2, g3, g4, g5⟩ := at_obj.mp h
  exact at_obj.mpr ⟨x, rfl, dx, tp, o, ts, kd, nol_keep g1 (fun _ z => nomatch z), g2, nol_keep g3 (fun _ z => nomatch z), Paired.mapP g4 (fun _ _ q => nol_t q), nol_keep g5 (fun _ z => nomatch z)⟩
theorem dic_nol {ω : Type} {O : OI ω} {m : List (Int × Int)} (h : At K O G (.dic m) v) : At K O (nol G) (.dic m) v := by
  obtain ⟨x, rfl, g⟩ := at_dic.mp h
  exact at_dic.mpr ⟨x, rfl, nol_keep g fun _ z => nomatch z⟩
/-- what stays known: all of G1; of G what is no list -/
def keepG (G1 G : Hp) : Hp := hun G1 (nol G)
theorem keepG_ex (h1 : Ex G1 G) (h : Ex G H) : Ex (keepG G1 G) H := hun_ex (h1.trans h) (nol_ex.trans h)
theorem keepG_l : Ex G1 (keepG G1 G) := hun_l
theorem keepG_r (h1 : Ex G1 G) : Ex (nol G) (keepG G1 G) := hun_r h1 nol_ex
theorem keepG_lst (h1 : G1 a = none) (h : G a = some (.lst vs)) : keepG G1 G a = none := by
  unfold keepG hun
  rw [h1]
  exact nol_lst h
theorem keepG_none (h1 : G1 a = none) (h : G a = none) : keepG G1 G a = none := by
  unfold keepG hun
  rw [h1]
  exact nol_none h
theorem ex_mut (e : Ex G H) (h : G a = none) : Ex G (upd H a o) := fun x u q => by
  rw [upd_ne (ne_of_none q h)]
  exact e x u q
/-- .. and the source stays -/
theorem At2.mut {s q : Addr} {n : Nat} (A : At2 s q G H n) (h : G a = none) (hs : a ≠ s) (hq : a ≠ q) : At2 s q G (upd H a o) n := by
  refine ⟨ex_mut A.e h, A.gs, A.gq, ?_⟩
  obtain ⟨cells, r, m, sd, h1, h2, h3⟩ := A.spr.ex
  exact ⟨cells, r, m, sd, by rw [upd_ne (Ne.symm hs)]; exact h1, by rw [upd_ne (Ne.symm hq)]; exact h2, h3⟩
theorem At2.ex {s q : Addr} {n k : Nat} {H2 : Hp} (A : At2 s q G H n) (e : Ex H H2) (hn : n ≤ k) : At2 s q G H2 k := ⟨A.e.trans e, A.gs, A.gq, A.spr.keep (fun x o h => e x o h) hn⟩
/-- a new object, not known -/
theorem At2.fresh {s q : Addr} {n : Nat} (A : At2 s q G H n) (h : H a = none) : At2 s q G (upd H a o) n := A.ex (Ex.new h) (Nat.le_refl _)
theorem At2.nes {s q : Addr} {n : Nat} (A : At2 s q G H n) (h : H a = none) : a ≠ s ∧ a ≠ q := ⟨fun z => A.spr.sne (z ▸ h), fun z => A.spr.qne (z ▸ h)⟩
theorem At2.keepG {s q : Addr} {n : Nat} (A : At2 s q G H n) (h1 : Ex G1 G) : At2 s q (keepG G1 G) H n :=
  ⟨keepG_ex h1 A.e, keepG_none (none_of_ex h1 A.gs) A.gs, keepG_none (none_of_ex h1 A.gq) A.gq, A.spr⟩
end
/-! ### rows as new lists -/
def lstD {ω : Type} (q : Int × Int) : D ω := .lst [.int q.1, .int q.2]
/-- a list of two ints, not in G0 -/
def LkO (G0 : Hp) : OI (Int × Int) where
  at_ := fun H a q => H a = some (.lst [.int q.1, .int q.2]) ∧ G0 a = none
  mono := fun e h => ⟨e _ _ h.1, h.2⟩
theorem lk_at {K : PySem.W.Frag} {ω : Type} {O : OI ω} {G0 G : Hp} : ∀ {l : List (Int × Int)} {vs : List V}, AtL K (LkO G0) G (l.map D.obj) vs → AtL K O G (l.map lstD) vs
  | [], vs, h => atL_nil.mpr (atL_nil.mp h)
  | q :: r, vs, h => by
    obtain ⟨v, u, rfl, a, n⟩ := atL_cons.mp h
    obtain ⟨x, rfl, hx, _⟩ := at_obj.mp a
    exact atL_cons.mpr ⟨_, _, rfl, at_lst.mpr ⟨x, _, rfl, hx, AtL.ints (ns := [q.1, q.2])⟩, lk_at n⟩
theorem at_pairs_to {K : PySem.W.Frag} {ω ω' : Type} {O : OI ω} {O' : OI ω'} {G : Hp} {l : List (Int × Int)} {v : V} (h : At K O G (.lst (l.map pairD)) v) : At K O' G (.lst (l.map pairD)) v := by
  obtain ⟨p, vs, rfl, hs, as⟩ := at_lst.mp h
  obtain ⟨ts, rfl, ht⟩ := pairs_atL as
  exact at_lst.mpr ⟨p, _, rfl, hs, atL_pairs ht⟩
theorem rows_lsts {ω : Type} : ∀ {r : List (Int × Int)}, RowsL (ω := ω) (r.map lstD) r
  | [] => .nil
  | q :: r => .cons (Or.inl rfl) rows_lsts
theorem pairs_inj {ω : Type} : ∀ {a b : List (Int × Int)}, a.map (pairD (ω := ω)) = b.map pairD → a = b
  | [], [], _ => rfl
  | [], _ :: _, h => nomatch h
  | _ :: _, [], h => nomatch h
  | (x, y) :: a, (u, v) :: b, h => by
    obtain ⟨h1, h2⟩ := List.cons.inj h
    have h3 := D.tup.inj h1
    obtain ⟨h4, h5⟩ := List.cons.inj h3
    obtain rfl := D.int.inj h4
    obtain rfl := D.int.inj (List.cons.inj h5).1
    rw [pairs_inj h2]
theorem noObj_lsts {ω : Type} : ∀ {r : List (Int × Int)}, noObjL (ω := ω) (r.map lstD) = true
  | [] => rfl
  | q :: r => by
    show (noObj (lstD q : D ω) && noObjL (r.map lstD)) = true
    rw [noObj_lsts]
    rfl
theorem allOk_lsts {ω : Type} : ∀ {r : List (Int × Int)}, allOkL (ω := ω) (r.map lstD) = true
  | [] => rfl
  | q :: r => by
    show (allOk (lstD q : D ω) && allOkL (r.map lstD)) = true
    rw [allOk_lsts]
    rfl
theorem depL_lsts {ω : Type} : ∀ {m : List (Int × Int)}, depL (ω := ω) (m.map lstD) ≤ 1
  | [] => Nat.zero_le _
  | q :: r => by
    have ih := depL_lsts (ω := ω) (m := r)
    show max (dep (lstD q : D ω)) (depL (r.map lstD)) ≤ 1
    have h1 : dep (lstD q : D ω) = 1 := rfl
    rw [h1]
    omega
theorem lay_lsts {ω : Type} : ∀ {ps : List (Int × Int)}, PyData.canLayAll0 (toPL (ω := ω) (ps.map lstD)) = true ∧ PyData.depthAll (toPL (ω := ω) (ps.map lstD)) ≤ 1
  | [] => ⟨rfl, Nat.zero_le _⟩
  | q :: r => by
    have ih := lay_lsts (ω := ω) (ps := r)
    refine ⟨?_, ?_⟩
    · show (PyData.canLay0 (toP (lstD q : D ω)) && PyData.canLayAll0 (toPL (r.map lstD))) = true
      rw [ih.1]
      rfl
    · show max (PyData.depth (toP (lstD q : D ω))) (PyData.depthAll (toPL (r.map lstD))) ≤ 1
      have h1 : PyData.depth (toP (lstD q : D ω)) = 1 := rfl
      rw [h1]
      have := ih.2
      omega
theorem shaped_lsts {ω : Type} {ps : List (Int × Int)} : SeqAt.shaped (toP (D.lst (ω := ω) (ps.map lstD))) = true := by
  have h := lay_lsts (ω := ω) (ps := ps)
  show (PyData.canLayAll0 (toPL (ps.map lstD)) && decide (PyData.depthAll (toPL (ω := ω) (ps.map lstD)) + 1 ≤ 64)) = true
  rw [h.1, decide_eq_true (by have := h.2; omega)]
  rfl
def mkObj : D (Int × Int) → D (Int × Int)
  | .tup [.int a, .int b] => .obj (a, b)
  | d => d
def mkLst {ω : Type} : D ω → D ω
  | .tup l => .lst l
  | d => d
theorem filter_yes {ω : Type} {l : List (D ω)} : (l.filter fun _ => true) = l := List.filter_eq_self.mpr fun _ _ => rfl
theorem map_obj {l : List (Int × Int)} : (((l.map (pairD (ω := Int × Int))).filter fun _ => true).map mkObj) = l.map D.obj := by
  rw [filter_yes, List.map_map]
  rfl
theorem map_lst {ω : Type} {l : List (Int × Int)} : (((l.map (pairD (ω := ω))).filter fun _ => true).map mkLst) = l.map lstD := by
  rw [filter_yes, List.map_map]
  rfl
section
variable {K : PySem.W.Frag} {C : Addr} {G G1 H : Hp} {te ta tb : TE} {σ : L2.St} {w : FilS} {d : D FilS} {b : Bool}
/-- f.terms() -/
theorem x_terms (h : EvD K (FilO K C) te σ G (.obj w)) : ∀ (H1 : Hp), Ex G H1 → ∀ Q : VK, (∀ (l : Addr) (G2 H2 : Hp), H1 l = none → Le G H1 G2 H2 → At K (FilO K C) G2 (.lst (w.ps.map pairD)) (.ref l) → Q (.ref l) H2) → tMeth C "terms" (spTermsN K C) [] E0 te tNil σ H1 Q := fun H1 e Q k =>
  h H1 e _ fun v G2 H2 l a => by
    obtain ⟨x, rfl, dx, tp, o, ts, kd, g1, g2, g3, g4, g5⟩ := at_obj.mp a
    exact ⟨x, dx, _, rfl, l.e _ _ g1, lkN (by decide +kernel) (by decide +kernel) (by decide +kernel), G2, w, .ref x, rfl, l.e, a, fun u G3 H3 hu l3 al => k u G3 H3 (l.back hu) (l.trans l3) al⟩
theorem ed_termsN (h : EvD K (FilO K C) te σ G (.obj w)) : EvD K (FilO K C) (tMeth C "terms" (spTermsN K C) [] E0 te tNil) σ G (.lst (w.ps.map pairD)) := fun H1 e Q k => x_terms h H1 e Q fun l G2 H2 _ le al => k _ G2 H2 le al
theorem et_eqF (c : FilC K C) (t : FilT K C) (hn : ∀ d : D FilS, PySem.W.notFirst K C (tyD (fun _ => .ref C) d) = true) (h : EvD K (FilO K C) ta σ G (.obj w)) (h2 : EvD K (FilO K C) tb σ G d) (hb : eqF w d = b) : EvT (tTest (tOp (rEqOwn K C (SpD K (FilO K C) rEqF) E0) ta tb)) σ G b := by
  subst hb
  exact et_test (ev_eqF (T := fun _ => .ref C) (ot_fil c t).ty hn h h2 ⟨w, d, rfl, rfl⟩)
theorem et_neF (c : FilC K C) (t : FilT K C) (hn : ∀ d : D FilS, PySem.W.notFirst K C (tyD (fun _ => .ref C) d) = true) (h : EvD K (FilO K C) ta σ G (.obj w)) (h2 : EvD K (FilO K C) tb σ G d) (hb : eqF w d = b) : EvT (tTest (tOp (rNeOwn K C (SpD K (FilO K C) rEqF) E0) ta tb)) σ G (!b) := by
  subst hb
  exact et_test (ev_neF (T := fun _ => .ref C) (ot_fil c t).ty hn h h2 ⟨w, d, rfl, rfl⟩)
theorem eqF_self : eqF w (.obj w) = true := by simp [eqF]
theorem eqF_ps {p q : Int} {a b : List (Int × Int)} (h : a ≠ b) : eqF ⟨p, a⟩ (.obj ⟨q, b⟩) = false := by simp [eqF, h]
theorem eqF_p {p q : Int} {a b : List (Int × Int)} (h : p ≠ q) : eqF ⟨p, a⟩ (.obj ⟨q, b⟩) = false := by simp [eqF, h]
end
end SR
set_option maxRecDepth 100000
set_option maxHeartbeats 4000000
namespace SR
open PySem PySem.Spec PyProof.Rows L2 Evl
section
variable {P : Program} {w : World} {K : PySem.W.Frag} {mg : Str → Option Value} {base : Heap} {C : Addr}
/-! ### check_primes, nothing raised -/
def rCheck : List (D FilS) → D FilS → Prop := fun ds r => ∃ w u, ds = [.obj w, .obj u] ∧ w.p = u.p ∧ r = .non
abbrev check_primes_S : Stmt := topS 42
abbrev check_primes_N : List Str := ["f", "g"]
theorem check_primes_sc : FnScope check_primes_N ["f", "g"] (defScope check_primes_S) := ⟨rfl, rfl, rfl, by decide +kernel, rfl, by decide +kernel, by decide +kernel⟩
theorem ok_check {f : Addr} {fd : FuncData} (F : Fun K "check_primes" "check_primes" check_primes_S f fd) (c : FilC K C) : FnOk P w K mg base CX0 1 f fd ["f", "g"] (SpD K (FilO K C) rCheck) := by
  refine F.ok check_primes_sc (fun vs H Q E h => ?_) (fun cdv A outer s H vs Q E hr h => ?_)
  · obtain ⟨G, ds, d, e, as, ⟨w0, u, rfl, _, rfl⟩, k⟩ := h
    exact as.len
  · obtain ⟨G, ds, d, e, as, ⟨w0, u, rfl, hp, rfl⟩, k⟩ := h
    obtain ⟨v, r, rfl, a, n⟩ := atL_cons.mp as
    obtain ⟨v2, r, rfl, a2, n⟩ := atL_cons.mp n
    obtain rfl := atL_nil.mp n
    refine ⟨_, (pss_one (ps_if (pt_cmpR op_ne (pe_fldK K (pv 0)) (pe_fldK K (pv 1)) (nomark _)) (pss_one ps_never) pss_nil)), ?_⟩
    exact s_ifG (b := false) (et_is (et_test (ev_op (ev_prime c (ed_var (i := 0) rfl a)) (ev_prime c (ed_var (i := 1) rfl a2)) (rv_ne rfl))) (by rw [hp]; simp)) e (fun z => nomatch z) fun _ H2 l => k _ G H2 l (at_non.mpr rfl)
/-- coefficients of a filter -/
def Small (a : PL) : Prop := ∀ q ∈ a, 0 ≤ q.2 ∧ q.2 < 8
theorem small_coll {p : Int} (hp : primes.contains p = true) {a : PL} : Small (coll p a) := fun q hq => by
  obtain ⟨o, ho, rfl⟩ := List.mem_map.mp hq
  have h1 := coef_pos (p := p) (prime_pos hp) (rows := a) (o := o)
  have h2 := prime_lt hp
  show 0 ≤ coef p a o ∧ coef p a o < 8
  omega
/-! ### product -/
def mulD : D FilS → D FilS → D FilS
  | .tup [.int a, .int b], .tup [.int c, .int d] => pairD (a + c, b * d)
  | d, _ => d
theorem prod_map {a b : PL} : ((a.map pairD).flatMap fun d => (b.map pairD).map (mulD d)) = (prodL a b).map (pairD (ω := FilS)) := by
  induction a with
  | nil => rfl
  | cons q a ih =>
    rw [List.map_cons, List.flatMap_cons, ih, prodL_cons, List.map_append, List.map_map]
    show _ = (b.map fun r => (q.1 + r.1, q.2 * r.2)).map pairD ++ _
    rw [List.map_map]
    rfl
end
end SR
set_option maxRecDepth 100000
set_option maxHeartbeats 4000000
namespace SR
open PySem PySem.Spec PyProof.Rows L2 Evl
section
variable {P : Program} {w : World} {K : PySem.W.Frag} {mg : Str → Option Value} {base : Heap} {C : Addr}
/-! ### f * g -/
/-! ### f ** n -/
theorem coll_one {p : Int} (hp : primes.contains p = true) : coll p [(0, 1)] = [(0, 1)] := by
  have h' : p = 2 ∨ p = 3 ∨ p = 5 ∨ p = 7 := by
    have := List.contains_iff_mem.mp hp
    simpa [primes] using this
  rcases h' with rfl | rfl | rfl | rfl <;> simp [coll, sums, step, putI, getI, srt, coef]
theorem primes_or {p : Int} (hp : primes.contains p = true) : p = 2 ∨ p = 3 ∨ p = 5 ∨ p = 7 := by
  have := List.contains_iff_mem.mp hp
  simpa [primes] using this
end
end SR
set_option maxRecDepth 100000
set_option maxHeartbeats 4000000
namespace SR
open PySem PySem.Spec PyProof.Rows L2 Evl
section
variable {P : Program} {w : World} {K : PySem.W.Frag} {mg : Str → Option Value} {base : Heap} {C : Addr}
theorem q_augI {G H : Hp} {i : Nat} {te : TE} {σ : L2.St} {De : Ends} {tz : TS} {Cc : Int → Int → Prop} {g : Int → Int → V} {x y : Int} (hv : σ[i]? = some (some (.int x))) (h : Ev te σ G (.int y)) (e : Ex G H) (hc : Cc x y) (k : ∀ H2, Le G H G H2 → tz De (σ.set i (some (g x y))) H2) : tSeq (tAug i te (rI Cc g)) tz De σ H :=
  ⟨_, hv, h H e _ fun H2 e2 => ⟨x, y, rfl, rfl, hc, k H2 (Le.heap e e2)⟩⟩
def strD (p : Int) : D FilS → D FilS
  | .tup [.int a, .int b] => pairD (p * a, b)
  | d => d
theorem str_map {p : Int} {a : PL} : (((a.map (pairD (ω := FilS))).filter fun _ => true).map (strD p)) = (str p a).map pairD := by
  rw [filter_yes, List.map_map]
  unfold str
  rw [List.map_map]
  rfl
theorem small_pow {p : Int} (hp : primes.contains p = true) {a : PL} : ∀ n, Small (powL p a n)
  | 0 => fun q hq => by rw [List.mem_singleton.mp hq]; exact ⟨by decide, by decide⟩
  | n + 1 => small_coll hp
end
end SR
set_option maxRecDepth 100000
set_option maxHeartbeats 4000000
namespace SR
open PySem PySem.Spec PyProof.Rows L2 Evl
/-- unlocked again -/
theorem le_unlock {G H G2 H2 : Hp} {a : Addr} {u : HO} {od : Obj} (hm : G a = some u) (e : Ex G H) (l : Le (upd G a (.frz od u)) (upd H a (.frz od u)) G2 H2) : Le G H (upd G2 a u) (upd H2 a u) := by
  refine ⟨fun x y q => ?_, fun x y q => ?_, fun x y q => ?_, fun x hg hh => ?_, fun x ps q => ?_⟩
  · by_cases z : x = a
    · subst z; rw [upd_same, ← q]; exact (e x _ hm).symm
    · rw [upd_ne z]; exact l.h x y (by rw [upd_ne z]; exact q)
  · by_cases z : x = a
    · subst z; rw [upd_same, ← q]; exact hm.symm
    · rw [upd_ne z]; exact l.g x y (by rw [upd_ne z]; exact q)
  · by_cases z : x = a
    · subst z; rw [upd_same] at q ⊢; exact q
    · rw [upd_ne z] at q ⊢; exact l.e x y q
  · by_cases z : x = a
    · subst z; rw [hm] at hg; cases hg
    · rw [upd_ne z]; exact l.f x (by rw [upd_ne z]; exact hg) (by rw [upd_ne z]; exact hh)
  · by_cases z : x = a
    · subst z; rw [upd_same] at q; rw [← q]; exact hm
    · rw [upd_ne z] at q
      have := l.t x ps q
      rwa [upd_ne z] at this
theorem ex_upd {G H : Hp} {a : Addr} {o : HO} (e : Ex G H) : Ex (upd G a o) (upd H a o) := fun x y q => by
  by_cases z : x = a
  · subst z; rw [upd_same] at q ⊢; exact q
  · rw [upd_ne z] at q ⊢; exact e x y q
theorem upd_comm {H : Hp} {a b : Addr} {x y : HO} (n : a ≠ b) : upd (upd H a x) b y = upd (upd H b y) a x := by
  funext z
  by_cases h1 : z = b
  · subst h1; rw [upd_same, upd_ne (Ne.symm n), upd_same]
  · rw [upd_ne h1]
    by_cases h2 : z = a
    · subst h2; rw [upd_same, upd_same]
    · rw [upd_ne h2, upd_ne h2, upd_ne h1]
section
variable {P : Program} {w : World} {K : PySem.W.Frag} {mg : Str → Option Value} {base : Heap} {C : Addr} {ω : Type} {O : OI ω}
/-! ### _law_times -/
def rTimes : List (D ω) → D ω → Prop := fun ds r => ∃ (p : Int) (m1 m2 : PL), ds = [.int p, .dic m1, .dic m2] ∧ 0 < p ∧ (m1.map (·.1)).Nodup ∧ (m2.map (·.1)).Nodup ∧ Small m1 ∧ m1.length * m2.length ≤ 30000 ∧ r = .dic (coll p (prodL m1 m2))
abbrev _law_times_S : Stmt := topS 57
abbrev _law_times_N : List Str := ["_law_prime_here", "_law_one", "_law_two", "_law_terms", "_law_offset", "_law_other"]
theorem _law_times_sc : FnScope _law_times_N ["_law_prime_here", "_law_one", "_law_two"] (defScope _law_times_S) := ⟨rfl, rfl, rfl, by decide +kernel, rfl, by decide +kernel, by decide +kernel⟩
theorem comp_times {G : Hp} {d1 d2 : Addr} {od1 od2 : Obj} {m1 m2 : PL} {o c : Int} {x0 x3 x5 : Option V} (h1 : G d1 = some (.frz od1 (.dK (kvI m1)))) (h2 : G d2 = some (.frz od2 (.dK (kvI m2)))) (hc : getI m1 o = some c) (hs : 0 ≤ c ∧ c < 8) (hnd : (m2.map (·.1)).Nodup) (hz : m2.length ≤ 30000) :
    EvD K O (tLc (iKeys (tVar 2)) (gName 5) tYes (tTup (tCons (tOp (rI0 fun i j => V.int (i + j)) (tVar 4) (tVar 5)) (tCons (tOp (rI CMul fun i j => V.int (i * j)) (tDGet (tVar 1) (tVar 4)) (tDGet (tVar 2) (tVar 5))) tNil))) [5]) [x0, some (.ref d1), some (.ref d2), x3, some (.int o), x5] G (.lst ((shf (o, c) m2).map pairD)) := by
  have h7 := ed_lc (K := K) (O := O) (te := tTup (tCons (tOp (rI0 fun i j => V.int (i + j)) (tVar 4) (tVar 5)) (tCons (tOp (rI CMul fun i j => V.int (i * j)) (tDGet (tVar 1) (tVar 4)) (tDGet (tVar 2) (tVar 5))) tNil))) (tt := tYes) (vs := [5]) (g := gName 5) (fun _ => true)
    (fun d => match d with | .int z => pairD (o + z, c * (getI m2 z).getD 0) | _ => d) (src_keys (O := O) (td := tVar 2) (σ := [x0, some (.ref d1), some (.ref d2), x3, some (.int o), x5]) (ev_var rfl) h2) (by rw [List.length_map]; omega) ?_
  · have e8 : ((m2.map fun q => (D.int q.1 : D ω)).filter fun _ => true).map (fun d => match d with | .int z => pairD (o + z, c * (getI m2 z).getD 0) | _ => d) = (shf (o, c) m2).map pairD := by
      unfold shf
      rw [List.filter_eq_self.mpr (fun _ _ => rfl), List.map_map, List.map_map]
      refine List.map_congr_left fun x hx => ?_
      show pairD (o + x.1, c * (getI m2 x.1).getD 0) = pairD (o + x.1, c * x.2)
      rw [getI_mem hnd hx]
      rfl
    rw [e8] at h7
    exact h7
  · intro i d x Gi Hi hd eg eh ad Q' hQ
    obtain ⟨y, hy, rfl⟩ : ∃ y, y ∈ m2 ∧ d = D.int y.1 := by
      have hi : i < m2.length := by
        have := (List.getElem?_eq_some_iff.mp hd).1
        rw [List.length_map] at this
        exact this
      rw [List.getElem?_map, List.getElem?_eq_getElem hi] at hd
      exact ⟨_, List.getElem_mem hi, (Option.some.inj hd).symm⟩
    obtain rfl := at_int.mp ad
    refine hQ _ Hi (Ex.refl _) rfl et_yes fun _ => ed_tup (eda_cons (ed_of (ev_op (ev_var (i := 4) rfl) (ev_var (i := 5) rfl) rv_I0) (at_int.mpr rfl)) (eda_cons (ed_of (v := .int (c * (getI m2 y.1).getD 0)) (ev_op (ev_dgetF (ev_var (i := 1) rfl) (eg d1 _ h1) (ev_var (i := 4) rfl) hc) (ev_dgetF (ev_var (i := 2) rfl) (eg d2 _ h2) (ev_var (i := 5) rfl) (c := (getI m2 y.1).getD 0) (by rw [getI_mem hnd hy]; rfl)) (rv_I (Or.inl (by omega)))) (at_int.mpr rfl)) eda_nil)) (by show 2 ≤ 100000; decide)
theorem run_times {G H : Hp} {Q : VK} {nx : L2.St → Hp → Prop} {tc : TE} {d1 d2 : Addr} {p : Int} {m1 m2 : PL} (hp : 0 < p) (hn1 : (m1.map (·.1)).Nodup) (hsm : Small m1) (hz : m1.length * m2.length ≤ 30000) (hd1 : G d1 = some (.dK (kvI m1))) (hd2 : G d2 = some (.dK (kvI m2))) (e : Ex G H) (k : RetG K O (.dic (coll p (prodL m1 m2))) G H Q)
    (hcomp : ∀ (od : Obj) (G' : Hp) (o c : Int) (x3 x5 : Option V), G' d1 = some (.frz od (.dK (kvI m1))) → (d1 ≠ d2 → G' d2 = some (.dK (kvI m2))) → getI m1 o = some c → (0 ≤ c ∧ c < 8) → m2.length ≤ 30000 → EvD K O tc [some (.int p), some (.ref d1), some (.ref d2), x3, some (.int o), x5] G' (.lst ((shf (o, c) m2).map pairD))) :
    tSeq (tAsg (tLst tNil) (gName 3)) (tSeq (tLock (tFor (iKeys (tVar 1)) (gName 4) (tDrop (tBM K "list" rExtend (tVar 3) (tCons tc tNil))))) (tRet (tCall (SpD K O rHeld) [] E0 (tCons (tVar 0) (tCons (tVar 3) tNil))))) { nx := nx, rt := Q } [some (.int p), some (.ref d1), some (.ref d2), none, none, none] H := by
  refine ⟨by show 0 ≤ sizeLine; exact Nat.zero_le _, fun fa hfa => ?_⟩
  have nfd : fa ≠ d1 := fun z => by rw [z, e d1 _ hd1] at hfa; cases hfa
  refine ⟨d1, .dK (kvI m1), by rw [upd_ne (Ne.symm nfd)]; exact e d1 _ hd1, True.intro, fun od => ?_⟩
  rw [upd_comm nfd]
  have eL : Ex (upd G d1 (.frz od (.dK (kvI m1)))) (upd H d1 (.frz od (.dK (kvI m1)))) := ex_upd e
  have hGL1 : (upd G d1 (.frz od (.dK (kvI m1)))) d1 = some (.frz od (.dK (kvI m1))) := upd_same
  have hGL2 : d1 ≠ d2 → (upd G d1 (.frz od (.dK (kvI m1)))) d2 = some (.dK (kvI m2)) := fun n => by rw [upd_ne (Ne.symm n)]; exact hd2
  have hfL : (upd H d1 (.frz od (.dK (kvI m1)))) fa = none := by rw [upd_ne nfd]; exact hfa
  have hun : ∀ G2 H2, Le (upd G d1 (.frz od (.dK (kvI m1)))) (upd H d1 (.frz od (.dK (kvI m1)))) G2 H2 → Le G H (upd G2 d1 (.dK (kvI m1))) (upd H2 d1 (.dK (kvI m1))) := fun G2 H2 l => le_unlock hd1 e l
  generalize upd G d1 (.frz od (.dK (kvI m1))) = GL at eL hGL1 hGL2 hun
  generalize upd H d1 (.frz od (.dK (kvI m1))) = HL at eL hfL hun
  have hL1 : (upd HL fa (.lst [])) d1 = some (.frz od (.dK (kvI m1))) := by rw [upd_ne (Ne.symm nfd)]; exact eL d1 _ hGL1
  refine ⟨.ref d1, rfl, d1, od, rfl, Or.inl ⟨kvI m1, hL1, ?_⟩⟩
  have hkl : (kvI m1).length = m1.length := List.length_map _
  refine for_it walk_keys (fun i σ' H' => ∃ x4 x5 G' us, σ' = [some (.int p), some (.ref d1), some (.ref d2), some (.ref fa), x4, x5] ∧ Le GL HL G' H' ∧ H' fa = some (.lst us) ∧ G' fa = none ∧ AtL K O G' ((prodL (m1.take i) m2).map pairD) us)
    ⟨none, none, GL, [], rfl, Le.newM eL hfL, upd_same, none_of_ex eL hfL, atL_nil.mpr rfl⟩ (fun i σ' H' _ p' => ?_) (fun i x σ' Hi Hi' hi p' y => ?_) fun σ' H' p' => ?_
  · obtain ⟨x4, x5, G', us, rfl, l, _⟩ := p'
    exact l.e d1 _ (l.g d1 _ hGL1)
  · obtain ⟨x4, x5, G', us, rfl, l, hu, gn, as⟩ := p'
    obtain ⟨rfl, kk, vv, hkv, rfl⟩ := y
    have hi' : i < m1.length := by omega
    obtain ⟨⟨o, c⟩, hoc⟩ : ∃ q, m1[i]? = some q := ⟨_, List.getElem?_eq_getElem hi'⟩
    have e3 : (kvI m1)[i]? = some (Sum.inl o, V.int c) := by unfold kvI; rw [List.getElem?_map, hoc]; rfl
    rw [e3] at hkv
    obtain ⟨rfl, rfl⟩ := Prod.mk.inj (Option.some.inj hkv)
    have hm := List.mem_of_getElem? hoc
    refine ⟨.ref fa, rfl, Or.inl ⟨rfl, us, sq_of hu⟩, ?_⟩
    have hm2 : m2.length ≤ 30000 := by
      have : 1 * m2.length ≤ m1.length * m2.length := Nat.mul_le_mul_right _ (by omega)
      omega
    refine hcomp od G' o c _ _ (l.g d1 _ hGL1) (fun n => l.g d2 _ (hGL2 n)) (getI_mem hn1 hm) (hsm _ hm) hm2 Hi' l.e _ fun vL G2 H2 l2 aL => ?_
    obtain ⟨b, zs, rfl, hb, az⟩ := at_lst.mp aL
    have hu2 := l2.h fa _ hu
    have gn2 := l2.gnone gn (by rw [hu]; exact fun z => nomatch z)
    have hus : us.length = i * m2.length := by
      rw [as.len, List.length_map, len_prod, List.length_take]
      congr 1
      omega
    have hzs : zs.length = m2.length := by
      rw [az.len, List.length_map]
      exact List.length_map _
    have hsz : us.length + zs.length ≤ 30000 := by
      have h1 : (i + 1) * m2.length ≤ m1.length * m2.length := Nat.mul_le_mul_right _ (by omega)
      rw [Nat.succ_mul] at h1
      omega
    refine ⟨fa, b, us, zs, rfl, rfl, hu2, l2.e b _ hb, sz_of (by omega), ?_⟩
    refine ⟨_, _, G2, us ++ zs, rfl, (l.trans l2).mut hfL gn2, upd_same, gn2, ?_⟩
    have tk := take_snoc hoc
    rw [tk, prodL_app, List.map_append]
    refine (as.mono l2.g).app ?_
    show AtL K O G2 ((shf (o, c) m2 ++ []).map pairD) zs
    rw [List.append_nil]
    exact az
  · obtain ⟨x4, x5, G', us, rfl, l, hu, gn, as⟩ := p'
    rw [hkl, List.take_length] at as
    have l3 := Le.fix eL l hfL hu
    have nfd' : d1 ≠ fa := Ne.symm nfd
    have hG3 : (upd G' fa (.lst us)) d1 = some (.frz od (.dK (kvI m1))) := by rw [upd_ne nfd']; exact l.g d1 _ hGL1
    have hat : At K O (upd G' fa (.lst us)) (.lst ((prodL m1 m2).map pairD)) (.ref fa) := at_lst.mpr ⟨fa, us, rfl, upd_same, as.mono (Ex.new gn)⟩
    refine ⟨l.e d1 _ (l.g d1 _ hGL1), ?_⟩
    have l4 := hun _ _ l3
    have hat2 := at_swap (B := upd (upd G' fa (.lst us)) d1 (.dK (kvI m1))) (fun x z => by rw [upd_ne z]) hG3 (by show noObjL _ = true; exact noObj_pairs) hat
    exact s_retD (ed_call (d := .dic (coll p (prodL m1 m2))) (eda_cons (ed_of (ev_var (i := 0) rfl) (at_int.mpr rfl)) (eda_cons (ed_var (i := 3) rfl hat2) eda_nil)) ⟨p, prodL m1 m2, rfl, hp, by rw [len_prod]; exact hz, rfl⟩) l4.e (k.mono l4)
theorem ok_times {f : Addr} {fd : FuncData} (F : Fun K "_law_times" "_law_times" _law_times_S f fd) (B : Bi mg) (h__law_held : DefOk P w K mg base 1 "_law_held" ["_law_prime_here", "_law_terms"] (SpD K O rHeld)) : FnOk P w K mg base CX0 2 f fd ["_law_prime_here", "_law_one", "_law_two"] (SpD K O rTimes) := by
  refine F.ok _law_times_sc (fun vs H Q E h => ?_) (fun cdv A outer s0 H vs Q E hr h => ?_)
  · obtain ⟨G, ds, d, e, as, ⟨p, m1, m2, rfl, _⟩, k⟩ := h
    exact as.len
  · obtain ⟨G, ds, d, e, as, ⟨p, m1, m2, rfl, hp, hn1, hn2, hsm, hz, rfl⟩, k⟩ := h
    obtain ⟨v, r, rfl, a, nn⟩ := atL_cons.mp as
    obtain rfl := at_int.mp a
    obtain ⟨v1, r, rfl, a1, nn⟩ := atL_cons.mp nn
    obtain ⟨v2, r, rfl, a2, nn⟩ := atL_cons.mp nn
    obtain rfl := atL_nil.mp nn
    obtain ⟨d1, rfl, hd1⟩ := at_dic.mp a1
    obtain ⟨d2, rfl, hd2⟩ := at_dic.mp a2
    have hu := hu_of hr
    by_cases hal : d1 = d2
    · subst hal
      refine ⟨_, (pss_cons (ps_set (i := 3) _law_times_sc.nd rfl (Or.inl rfl) (pe_lst pa_nil))
    (pss_cons (ps_lock (ps_for PassesOwn.never rfl (pi_keys (pv 1)) (pg_name (i := 4) _law_times_sc.nd rfl (Or.inr rfl)) (pss_one (ps_expr (pe_bm PySem.F.plainAttrs_list PySem.F.slot_list_extend PySem.F.type_list_extend mt_extend (pv 3) (pa_cons (pe_lc (own := [("_law_other", 5)]) rfl _law_times_sc.nd (pi_keys (pv 2)) (blkOk_by (N := _law_times_N) (sc := defScope _law_times_S) (by decide +kernel)) (fun _ _ _ _ _ => (pg_name (i := 5) _law_times_sc.nd rfl (Or.inl rfl))) (fun _ _ _ _ _ => pts_nil) (fun _ _ _ _ _ => by exact (pe_tup (pa_cons (pe_op op_add (pv 4) (pv 5)) (pa_cons (pe_op op_mul (pe_dget (by exact hu) (pv 1) (pv 4) (fun _ _ => rfl)) (pe_dget (by exact hu) (pv 2) (pv 5) (fun _ _ => rfl))) pa_nil))))) pa_nil))))))
    (pss_one (ps_ret (pe_callD h__law_held (hr.mono (by first | decide | exact Nat.le_refl _)) (pa_cons (pv 0) (pa_cons (pv 3) pa_nil))))))), ?_⟩
      exact run_times hp hn1 hsm hz hd1 hd2 e k fun od G' o c x3 x5 h1 h2 hc hs hm => comp_times h1 (by
        have e1 := Option.some.inj (hd1.symm.trans hd2)
        injection e1 with e1
        rw [← e1]
        exact h1) hc hs hn2 hm
    · refine ⟨_, (pss_cons (ps_set (i := 3) _law_times_sc.nd rfl (Or.inl rfl) (pe_lst pa_nil))
    (pss_cons (ps_lock (ps_for PassesOwn.never rfl (pi_keys (pv 1)) (pg_name (i := 4) _law_times_sc.nd rfl (Or.inr rfl)) (pss_one (ps_expr (pe_bm PySem.F.plainAttrs_list PySem.F.slot_list_extend PySem.F.type_list_extend mt_extend (pv 3) (pa_cons (pe_lock (pe_lc (own := [("_law_other", 5)]) rfl _law_times_sc.nd (pi_keys (pv 2)) (blkOk_by (N := _law_times_N) (sc := defScope _law_times_S) (by decide +kernel)) (fun _ _ _ _ _ => (pg_name (i := 5) _law_times_sc.nd rfl (Or.inl rfl))) (fun _ _ _ _ _ => pts_nil) (fun _ _ _ _ _ => by exact (pe_tup (pa_cons (pe_op op_add (pv 4) (pv 5)) (pa_cons (pe_op op_mul (pe_dget (by exact hu) (pv 1) (pv 4) (fun _ _ => rfl)) (pe_dget (by exact hu) (pv 2) (pv 5) (fun _ _ => rfl))) pa_nil)))))) pa_nil))))))
    (pss_one (ps_ret (pe_callD h__law_held (hr.mono (by first | decide | exact Nat.le_refl _)) (pa_cons (pv 0) (pa_cons (pv 3) pa_nil))))))), ?_⟩
      refine run_times hp hn1 hsm hz hd1 hd2 e k fun od G' o c x3 x5 h1 h2 hc hs hm => ?_
      exact ed_lock (h2 hal) True.intro ⟨_, rfl⟩ (by show noObjL _ = true; exact noObj_pairs) fun od2 => comp_times (od1 := od) (od2 := od2) (by rw [upd_ne hal]; exact h1) upd_same hc hs hn2 hm
end
end SR
set_option maxRecDepth 100000
set_option maxHeartbeats 4000000
namespace SR
open PySem PySem.Spec PyProof.Rows L2 Evl
section
variable {P : Program} {w : World} {K : PySem.W.Frag} {mg : Str → Option Value} {base : Heap} {ω : Type} {O : OI ω} {Ty : ω → Value}
/-! ### _law_drawn -/
def pDrawn : List (D ω) → Prop := fun ds => ∃ p most reach, ds = [.int p, .int most, .int reach] ∧ primes.contains p = true ∧ 0 ≤ most ∧ most ≤ 8 ∧ 0 ≤ reach ∧ reach ≤ 100
def rDrawn : List (D ω) → D ω → Prop := fun ds d => ∃ (p most reach : Int) (rows : PL), ds = [.int p, .int most, .int reach] ∧ d = .dic (coll p rows) ∧ (rows.length : Int) ≤ most ∧ Bnd reach rows
abbrev _law_drawn_S : Stmt := topS 58
abbrev _law_drawn_N : List Str := ["_law_spring_here", "_law_prime_here", "_law_most", "_law_reach", "_law_terms", "_law_k", "_law_offset"]
theorem _law_drawn_sc : FnScope _law_drawn_N ["_law_spring_here", "_law_prime_here", "_law_most", "_law_reach"] (defScope _law_drawn_S) := ⟨rfl, rfl, rfl, by decide +kernel, rfl, by decide +kernel, by decide +kernel⟩
theorem ok_drawn {f : Addr} {fd : FuncData} (F : Fun K "_law_drawn" "_law_drawn" _law_drawn_S f fd) (B : Bi mg) (h__law_draw : DefOk P w K mg base 1 "_law_draw" ["_law_spring_here", "_law_many"] (SpX K O 1 pDraw rDraw)) (h__law_held : DefOk P w K mg base 1 "_law_held" ["_law_prime_here", "_law_terms"] (SpD K O rHeld)) :
    FnOk P w K mg base CX0 2 f fd ["_law_spring_here", "_law_prime_here", "_law_most", "_law_reach"] (SpX K O 20 pDrawn rDrawn) := by
  refine F.ok _law_drawn_sc (fun vs H Q E h => ?_) (fun cdv A outer s0 H vs Q E hr h => ?_)
  · obtain ⟨G, s, q, n, ds, ws, rfl, e, gs, gq, spr, hn, as, ⟨p, m, re, rfl, _⟩, k⟩ := h
    show (V.ref s :: ws).length = 4
    rw [List.length_cons, as.len]
    rfl
  · obtain ⟨G, s, q, n, ds, ws, rfl, e, gs, gq, spr, hn, as, ⟨p, most, reach, rfl, hp, hm0, hm8, hr0, hr9⟩, k⟩ := h
    obtain ⟨v1, r1, rfl, a1, n1⟩ := atL_cons.mp as
    obtain rfl := at_int.mp a1
    obtain ⟨v2, r2, rfl, a2, n2⟩ := atL_cons.mp n1
    obtain rfl := at_int.mp a2
    obtain ⟨v3, r3, rfl, a3, n3⟩ := atL_cons.mp n2
    obtain rfl := at_int.mp a3
    obtain rfl := atL_nil.mp n3
    have A0 : At2 s q G H n := ⟨e, gs, gq, spr⟩
    have hp2 := prime_lt hp
    refine ⟨_, (pss_cons (ps_set (i := 4) _law_drawn_sc.nd rfl (Or.inl rfl) (pe_lst pa_nil))
    (pss_cons (ps_for PassesOwn.never rfl (pi_range1 (by rfl) B.range (pa_cons (pe_callD h__law_draw (hr.mono (by first | decide | exact Nat.le_refl _)) (pa_cons (pv 0) (pa_cons (pe_op op_add (pv 2) pe_int) pa_nil))) pa_nil)) (pg_name (i := 5) _law_drawn_sc.nd rfl (Or.inl rfl)) (pss_cons (ps_set (i := 6) _law_drawn_sc.nd rfl (Or.inl rfl) (pe_op op_sub (pe_callD h__law_draw (hr.mono (by first | decide | exact Nat.le_refl _)) (pa_cons (pv 0) (pa_cons (pe_op op_add (pe_op op_mul pe_int (pv 3)) pe_int) pa_nil))) (pv 3)))
    (pss_one (ps_expr (pe_bm PySem.F.plainAttrs_list PySem.F.slot_list_append PySem.F.type_list_append mt_append (pv 4) (pa_cons (pe_tup (pa_cons (pv 6) (pa_cons (pe_callD h__law_draw (hr.mono (by first | decide | exact Nat.le_refl _)) (pa_cons (pv 0) (pa_cons (pv 1) pa_nil))) pa_nil))) pa_nil))))))
    (pss_one (ps_ret (pe_callD h__law_held (hr.mono (by first | decide | exact Nat.le_refl _)) (pa_cons (pv 1) (pa_cons (pv 4) pa_nil))))))), ?_⟩
    refine ⟨by show 0 ≤ sizeLine; exact Nat.zero_le _, fun fa hfa => ?_⟩
    have A1 : At2 s q G (upd H fa (.lst [])) n := A0.le (Le.newM e hfa)
    have lf : LeX s q G H G (upd H fa (.lst [])) := (Le.newM e hfa).x
    have gfa : G fa = none := none_of_ex e hfa
    have fs : fa ≠ s := by intro z; subst z; exact spr.sne hfa
    have fq : fa ≠ q := by intro z; subst z; exact spr.qne hfa
    refine x_draw A1 (by omega) rfl (eda_int (ev_op (ev_var (i := 2) rfl) ev_c rv_I0)) (by omega) (by omega) fun x G2 H2 hx0 hx1 l2 A2 => ⟨x, rfl, by omega, by omega, ?_⟩
    have hf2 : H2 fa = some (.lst []) := l2.h fa _ fs fq upd_same
    have gf2 : G2 fa = none := l2.gnone gfa (by rw [upd_same]; exact fun z => nomatch z)
    refine for_range (lo := 0) (n := x.toNat) (fun i σ' H' => ∃ (Gi : Hp) (rows : PL) (us : List V) (x5 x6 : Option V), σ' = [some (.ref s), some (.int p), some (.int most), some (.int reach), some (.ref fa), x5, x6] ∧ LeX s q G H Gi H' ∧ At2 s q Gi H' (n + 1 + 2 * i) ∧ H' fa = some (.lst us) ∧ Gi fa = none ∧ AtL K O Gi (rows.map pairD) us ∧ rows.length = i ∧ Bnd reach rows)
      ⟨G2, [], [], none, none, rfl, lf.trans l2, A2, hf2, gf2, atL_nil.mpr rfl, rfl, fun _ z => (nomatch z)⟩ ?_ ?_
    · rintro i σ' H3 hi ⟨Gi, rows, us, x5, x6, rfl, l3, A3, hu, gf, au, hrl, hbd⟩
      show tSeq _ _ _ _ H3
      refine x_draw A3 (by omega) rfl (many := 2 * reach + 1) (eda_int (ev_op (ev_op ev_c (ev_var (i := 3) rfl) (rv_I (Or.inl (by decide)))) ev_c rv_I0)) (by omega) (by omega) fun o G4 H4 ho0 ho1 l4 A4 => ?_
      have hu4 := l4.h fa _ fs fq hu
      have gf4 := l4.gnone gf (by rw [hu]; exact fun z => nomatch z)
      refine ⟨.int reach, rfl, o, reach, rfl, rfl, ?_⟩
      refine ⟨_, rfl, Or.inl ⟨rfl, us, sq_of hu4⟩, ⟨_, rfl, ?_⟩⟩
      refine x_draw A4 (by omega) rfl (eda_int (ev_var (i := 1) rfl)) (by omega) (by omega) fun c G5 H5 hc0 hc1 l5 A5 => ?_
      have hu5 := l5.h fa _ fs fq hu4
      have gf5 := l5.gnone gf4 (by rw [hu4]; exact fun z => nomatch z)
      refine ⟨by show 2 ≤ sizeLine; exact sz_of (by decide), fun t1 ht1 => ?_⟩
      have l6 : Le G5 H5 (upd G5 t1 (.tup [.int (o - reach), .int c])) (upd H5 t1 (.tup [.int (o - reach), .int c])) := Le.new A5.e ht1
      have A6 := A5.le l6
      have hu6 := l6.h fa _ hu5
      have gf6 := l6.gnone gf5 (by rw [hu5]; exact fun z => nomatch z)
      have at1 : At K O (upd G5 t1 (.tup [.int (o - reach), .int c])) (pairD (o - reach, c)) (.ref t1) := at_tup.mpr ⟨t1, _, rfl, st_of upd_same, atL_cons.mpr ⟨_, _, rfl, at_int.mpr rfl, AtL.one (at_int.mpr rfl)⟩⟩
      have ul : us.length = i := by rw [au.len, List.length_map, hrl]
      refine ⟨fa, us, .ref t1, rfl, rfl, hu6, sz_lt (by omega), ?_⟩
      have lx := (((l3.trans l4).trans l5).trans l6.x).mut (o := .lst (us ++ [.ref t1])) hfa gf6
      refine ⟨_, rows ++ [(o - reach, c)], us ++ [.ref t1], _, _, rfl, lx, ?_, upd_same, gf6, ?_, by simp [hrl], hbd.app fun q hq => by rw [List.mem_singleton.mp hq]; show -reach ≤ o - reach ∧ o - reach ≤ reach; omega⟩
      · have A7 := A6.mut (o := .lst (us ++ [.ref t1])) gf6 fs fq
        exact ⟨A7.e, A7.gs, A7.gq, A7.spr.keep (fun _ _ z => z) (by omega)⟩
      · rw [List.map_append]
        exact (au.mono ((l4.g.trans l5.g).trans l6.g)).app (AtL.one at1)
    · rintro σ' H3 ⟨Gi, rows, us, x5, x6, rfl, l3, A3, hu, gf, au, hrl, hbd⟩
      have lx := LeX.fix e l3 hfa hu
      have hat : At K O (upd Gi fa (.lst us)) (.lst (rows.map pairD)) (.ref fa) := at_lst.mpr ⟨fa, us, rfl, upd_same, au.mono (Ex.new gf)⟩
      refine ed_call (d := .dic (coll p rows)) (eda_cons (ed_of (ev_var (i := 1) rfl) (at_int.mpr rfl)) (eda_cons (ed_var (i := 4) rfl hat) eda_nil)) ⟨p, rows, rfl, by omega, by omega, rfl⟩ H3 lx.e _ fun v4 G4 H4 l4 a4 => ?_
      exact k _ v4 G4 H4 ⟨p, most, reach, rows, rfl, rfl, by omega, hbd⟩ (lx.trans l4.x) (A3.spr.keep (fun a o z => l4.h a o z) (by omega)) a4
end
end SR
set_option maxRecDepth 100000
set_option maxHeartbeats 4000000
namespace SR
open PySem PySem.Spec PyProof.Rows L2 Evl
section
variable {P : Program} {w : World} {K : PySem.W.Frag} {mg : Str → Option Value} {base : Heap} {C : Addr}
/-! ### _law_made -/
def rMade : List (D FilS) → D FilS → Prop := fun ds r => ∃ (p : Int) (m : PL), ds = [.int p, .dic m] ∧ primes.contains p = true ∧ (m.map (·.1)).Nodup ∧ m.length ≤ 20000 ∧ coll p m = m ∧ r = .obj ⟨p, m⟩
abbrev _law_made_S : Stmt := topS 59
abbrev _law_made_N : List Str := ["_law_prime_here", "_law_held_here"]
theorem _law_made_sc : FnScope _law_made_N ["_law_prime_here", "_law_held_here"] (defScope _law_made_S) := ⟨rfl, rfl, rfl, by decide +kernel, rfl, by decide +kernel, by decide +kernel⟩
theorem ok_made {f C_Filter : Addr} {fd : FuncData} (F : Fun K "_law_made" "_law_made" _law_made_S f fd) (h_Filter : MakeOk P w K mg base C_Filter 4 "Filter" ["self", "prime", "terms"] [] (spInit K C_Filter)) (h__law_pairs : DefOk P w K mg base 1 "_law_pairs" ["_law_held_here"] (SpD K (FilO K C_Filter) rPairs)) :
    FnOk P w K mg base CX0 6 f fd ["_law_prime_here", "_law_held_here"] (SpD K (FilO K C_Filter) rMade) := by
  refine F.ok _law_made_sc (fun vs H Q E h => ?_) (fun cdv A outer s0 H vs Q E hr h => ?_)
  · obtain ⟨G, ds, d, e, as, ⟨p, m, rfl, _⟩, k⟩ := h
    exact as.len
  · obtain ⟨G, ds, d, e, as, ⟨p, m, rfl, hp, hnd, hz, hm, rfl⟩, k⟩ := h
    obtain ⟨v1, r1, rfl, a1, n1⟩ := atL_cons.mp as
    obtain ⟨v2, r2, rfl, a2, n2⟩ := atL_cons.mp n1
    obtain rfl := atL_nil.mp n2
    obtain rfl := at_int.mp a1
    refine ⟨_, (pss_one (ps_ret (pe_makeD h_Filter (hr.mono (by first | decide | exact Nat.le_refl _)) (pa_cons (pv 0) (pa_cons (pe_callD h__law_pairs (hr.mono (by first | decide | exact Nat.le_refl _)) (pa_cons (pv 1) pa_nil)) pa_nil))))), ?_⟩
    refine s_retD ?_ e k
    have h2 := ed_make (K := K) (C := C_Filter) (E := E0) (p := p) (rows := m) (d := .lst (m.map pairD)) (eda_cons (ed_of (ev_var (i := 0) (σ := [some (.int p), some v2]) rfl) (at_int.mpr rfl)) (eda_cons (ed_call (R := rPairs) (E := E0) (d := .lst (m.map pairD)) (eda_cons (ed_var (i := 1) rfl a2) eda_nil) ⟨m, rfl, hnd, by omega, rfl⟩) eda_nil)) hp rowsD_pairs (by omega)
    rw [hm] at h2
    exact h2
/-! ### _law_is -/
def rIs : List (D FilS) → D FilS → Prop := fun ds r => ∃ (p : Int) (m : PL), ds = [.obj ⟨p, m⟩, .int p, .dic m] ∧ (m.map (·.1)).Nodup ∧ m.length ≤ 20000 ∧ r = .bl true
abbrev _law_is_S : Stmt := topS 60
abbrev _law_is_N : List Str := ["_law_f", "_law_prime_here", "_law_held_here"]
theorem _law_is_sc : FnScope _law_is_N ["_law_f", "_law_prime_here", "_law_held_here"] (defScope _law_is_S) := ⟨rfl, rfl, rfl, by decide +kernel, rfl, by decide +kernel, by decide +kernel⟩
theorem ok_is {f C_Filter : Addr} {fd : FuncData} (F : Fun K "_law_is" "_law_is" _law_is_S f fd) (B : Bi mg) (c : FilC K C_Filter) (t : FilT K C_Filter) (g_Filter : mg "Filter" = some (.ref C_Filter)) (h__law_same : DefOk P w K mg base 4 "_law_same" ["_law_found", "_law_due"] (SpD K (FilO K C_Filter) (rSm 4))) (h__law_pairs : DefOk P w K mg base 1 "_law_pairs" ["_law_held_here"] (SpD K (FilO K C_Filter) rPairs))
    (h_m_terms : MethOk P w K mg base C_Filter 1 "terms" ["self"] (SpD K (FilO K C_Filter) rTerms)) : FnOk P w K mg base CX0 5 f fd ["_law_f", "_law_prime_here", "_law_held_here"] (SpD K (FilO K C_Filter) rIs) := by
  have cl := c.cl
  refine F.ok _law_is_sc (fun vs H Q E h => ?_) (fun cdv A outer s0 H vs Q E hr h => ?_)
  · obtain ⟨G, ds, d, e, as, ⟨p, m, rfl, _⟩, k⟩ := h
    exact as.len
  · obtain ⟨G, ds, d, e, as, ⟨p, m, rfl, hnd, hz, rfl⟩, k⟩ := h
    obtain ⟨v1, r1, rfl, a1, n1⟩ := atL_cons.mp as
    obtain ⟨v2, r2, rfl, a2, n2⟩ := atL_cons.mp n1
    obtain ⟨v3, r3, rfl, a3, n3⟩ := atL_cons.mp n2
    obtain rfl := atL_nil.mp n3
    obtain rfl := at_int.mp a2
    refine ⟨_, (pss_one (ps_ret (pe_and (pe_callB (call_isiK' K) (by rfl) B.isinstance (by decide +kernel) (pa_cons (pv 0) (pa_cons (pe_glob (v := .ref C_Filter) rfl g_Filter rfl) pa_nil))) (pe_one (pe_callD h__law_same (hr.mono (by first | decide | exact Nat.le_refl _)) (pa_cons (pe_lst (pa_cons (pe_fldK K (pv 0)) (pa_cons (pe_methD0 cl h_m_terms (hr.mono (by first | decide | exact Nat.le_refl _)) (pv 0)) pa_nil))) (pa_cons (pe_lst (pa_cons (pv 1) (pa_cons (pe_callD h__law_pairs (hr.mono (by first | decide | exact Nat.le_refl _)) (pa_cons (pv 2) pa_nil)) pa_nil))) pa_nil))))))), ?_⟩
    have hf : EvD K (FilO K C_Filter) (tVar 0) [some v1, some (.int p), some v3] G (.obj ⟨p, m⟩) := ed_var rfl a1
    refine s_retD (ed_of (v := .bl true) (ev_is (ev_andV (a := true) (b := true) (isi_own c t hf) fun _ => ?_) rfl) (at_bl.mpr rfl)) e k
    refine ev_bl (ed_call (d := .bl true) (eda_cons (d := .lst [.int p, .lst (m.map pairD)]) (ed_lst (eda_cons (ed_of (ev_prime c hf) (at_int.mpr rfl)) (eda_cons (ed_meth hf eda_nil ⟨⟨p, m⟩, rfl, rfl⟩) eda_nil)) (by show 2 ≤ 100000; decide))
      (eda_cons (d := .lst [.int p, .lst (m.map pairD)]) (ed_lst (eda_cons (ed_of (ev_var (i := 1) rfl) (at_int.mpr rfl)) (eda_cons (ed_call (d := .lst (m.map pairD)) (eda_cons (ed_var (i := 2) rfl a3) eda_nil) ⟨m, rfl, hnd, by omega, rfl⟩) eda_nil)) (by show 2 ≤ 100000; decide)) eda_nil)) ⟨.lst [.int p, .lst (m.map pairD)], rfl, ?_, ?_, ?_, rfl⟩)
    · show max 0 (max (depL (m.map pairD) + 1) 0) + 1 < 4
      have := depL_pairs (ω := FilS) (m := m)
      omega
    · show (noObjL (m.map pairD) && true) = true
      rw [noObj_pairs]
      rfl
    · show (decide (2 ≤ 30000) && (true && ((decide ((m.map (pairD (ω := FilS))).length ≤ 30000) && allOkL (m.map pairD)) && true))) = true
      rw [allOk_pairs, decide_eq_true (show (m.map (pairD (ω := FilS))).length ≤ 30000 by rw [List.length_map]; omega)]
      rfl
end
end SR
namespace SR
/-! ### numbers in lanes of b bits -/
def lanes (b : Nat) : List Nat → Nat
  | [] => 0
  | x :: xs => x + 2 ^ b * lanes b xs
theorem lanes_lt {b : Nat} : ∀ {xs : List Nat}, (∀ x ∈ xs, x < 2 ^ b) → lanes b xs < 2 ^ (b * xs.length)
  | [], _ => by simp [lanes]
  | x :: xs, h => by
    have h1 := h x (List.mem_cons_self ..)
    have h2 := lanes_lt (b := b) (xs := xs) fun y hy => h y (List.mem_cons_of_mem _ hy)
    show x + 2 ^ b * lanes b xs < 2 ^ (b * (xs.length + 1))
    rw [Nat.mul_add, Nat.mul_one, Nat.pow_add, Nat.mul_comm (2 ^ (b * xs.length))]
    have : 2 ^ b * (lanes b xs + 1) ≤ 2 ^ b * 2 ^ (b * xs.length) := Nat.mul_le_mul_left _ h2
    rw [Nat.mul_add, Nat.mul_one] at this
    omega
theorem lanes_app {b : Nat} : ∀ {xs ys : List Nat}, lanes b (xs ++ ys) = lanes b xs + 2 ^ (b * xs.length) * lanes b ys
  | [], ys => by simp [lanes]
  | x :: xs, ys => by
    show x + 2 ^ b * lanes b (xs ++ ys) = x + 2 ^ b * lanes b xs + 2 ^ (b * (xs.length + 1)) * lanes b ys
    rw [lanes_app, Nat.mul_add, Nat.mul_add, Nat.mul_one, Nat.pow_add, Nat.mul_comm (2 ^ (b * xs.length)) (2 ^ b), Nat.mul_assoc, Nat.add_assoc]
theorem lanes_scale {b m : Nat} : ∀ {xs : List Nat}, lanes b (xs.map (· * m)) = lanes b xs * m
  | [] => by simp [lanes]
  | x :: xs => by
    show x * m + 2 ^ b * lanes b (xs.map (· * m)) = (x + 2 ^ b * lanes b xs) * m
    rw [lanes_scale, Nat.add_mul, Nat.mul_assoc]
theorem lanes_zeros {b : Nat} : ∀ {n : Nat}, lanes b (List.replicate n 0) = 0
  | 0 => rfl
  | n + 1 => by
    show 0 + 2 ^ b * lanes b (List.replicate n 0) = 0
    rw [lanes_zeros]; rfl
theorem lanes_pad {b n : Nat} {xs : List Nat} : lanes b (xs ++ List.replicate n 0) = lanes b xs := by rw [lanes_app, lanes_zeros, Nat.mul_zero, Nat.add_zero]
/-! ### & by a mask of the low bits of each lane -/
theorem and_split {b a1 a2 m1 m2 : Nat} (ha : a1 < 2 ^ b) (hm : m1 < 2 ^ b) : (a1 + 2 ^ b * a2) &&& (m1 + 2 ^ b * m2) = (a1 &&& m1) + 2 ^ b * (a2 &&& m2) := by
  have h1 : ((a1 + 2 ^ b * a2) &&& (m1 + 2 ^ b * m2)) % 2 ^ b = a1 &&& m1 := by
    rw [Nat.and_mod_two_pow, Nat.add_mul_mod_self_left, Nat.add_mul_mod_self_left, Nat.mod_eq_of_lt ha, Nat.mod_eq_of_lt hm]
  have h2 : ((a1 + 2 ^ b * a2) &&& (m1 + 2 ^ b * m2)) / 2 ^ b = a2 &&& m2 := by
    rw [Nat.and_div_two_pow, Nat.add_mul_div_left _ _ (Nat.two_pow_pos b), Nat.add_mul_div_left _ _ (Nat.two_pow_pos b), Nat.div_eq_of_lt ha, Nat.div_eq_of_lt hm, Nat.zero_add, Nat.zero_add]
  rw [← h1, ← h2]
  exact (Nat.mod_add_div _ _).symm
/-- the lanes shifted down by c bits, masked to b - c bits each -/
theorem lanes_shr {b c : Nat} (hc : c ≤ b) : ∀ {ys : List Nat} {n : Nat}, (∀ y ∈ ys, y < 2 ^ b) → ys.length ≤ n → (lanes b ys / 2 ^ c) &&& lanes b (List.replicate n (2 ^ (b - c) - 1)) = lanes b (ys.map (· / 2 ^ c))
  | [], n, _, _ => by simp [lanes]
  | y :: ys, 0, _, h => by simp at h
  | y :: ys, n + 1, h, hl => by
    have hy := h y (List.mem_cons_self ..)
    have ih := lanes_shr hc (ys := ys) (n := n) (fun z hz => h z (List.mem_cons_of_mem _ hz)) (by simpa using hl)
    have hb : 2 ^ b = 2 ^ c * 2 ^ (b - c) := by rw [← Nat.pow_add]; congr 1; omega
    have hcp := Nat.two_pow_pos c
    have hq : y / 2 ^ c < 2 ^ (b - c) := by rw [Nat.div_lt_iff_lt_mul hcp, Nat.mul_comm, ← hb]; exact hy
    have hle : 2 ^ (b - c) ≤ 2 ^ b := Nat.pow_le_pow_right (by decide) (by omega)
    have e1 : (y + 2 ^ b * lanes b ys) / 2 ^ c = y / 2 ^ c + 2 ^ (b - c) * lanes b ys := by
      rw [hb, Nat.mul_assoc, Nat.add_mul_div_left _ _ hcp]
    have e2 : 2 ^ (b - c) * lanes b ys = 2 ^ (b - c) * (lanes b ys % 2 ^ c) + 2 ^ b * (lanes b ys / 2 ^ c) := by
      conv => lhs; rw [← Nat.mod_add_div (lanes b ys) (2 ^ c)]
      rw [Nat.mul_add, ← Nat.mul_assoc, Nat.mul_comm (2 ^ (b - c)) (2 ^ c), ← hb]
    show ((y + 2 ^ b * lanes b ys) / 2 ^ c) &&& (2 ^ (b - c) - 1 + 2 ^ b * lanes b (List.replicate n (2 ^ (b - c) - 1))) = y / 2 ^ c + 2 ^ b * lanes b (ys.map (· / 2 ^ c))
    rw [e1, e2, ← Nat.add_assoc]
    have hlow : y / 2 ^ c + 2 ^ (b - c) * (lanes b ys % 2 ^ c) < 2 ^ b := by
      have hm : lanes b ys % 2 ^ c + 1 ≤ 2 ^ c := Nat.mod_lt _ hcp
      have : 2 ^ (b - c) * (lanes b ys % 2 ^ c + 1) ≤ 2 ^ (b - c) * 2 ^ c := Nat.mul_le_mul_left _ hm
      rw [Nat.mul_add, Nat.mul_one, Nat.mul_comm (2 ^ (b - c)) (2 ^ c), ← hb] at this
      omega
    rw [and_split hlow (by have := Nat.two_pow_pos (b - c); omega), ih]
    congr 1
    rw [Nat.and_two_pow_sub_one_eq_mod, Nat.add_mul_mod_self_left, Nat.mod_eq_of_lt hq]
/-! ### lowered: each lane mod p -/
/-- x / p by one multiplication -/
theorem quot_mul {p k x : Nat} (hp : 0 < p) (hx : x * (p - 2 ^ k % p) < 2 ^ k) : x * (2 ^ k / p + 1) / 2 ^ k = x / p := by
  have h1 := Nat.div_add_mod (2 ^ k) p
  have h2 := Nat.mod_lt (2 ^ k) hp
  generalize hm : 2 ^ k / p + 1 = m at *
  have hpm : p * m = 2 ^ k + (p - 2 ^ k % p) := by
    rw [← hm, Nat.mul_add, Nat.mul_one]; omega
  have hq := Nat.div_add_mod x p
  have hr := Nat.mod_lt x hp
  generalize x / p = q at *
  generalize x % p = r at *
  have hK := Nat.two_pow_pos k
  generalize 2 ^ k = K at *
  generalize he : p - K % p = e at *
  have he1 : 0 < e := by omega
  have he2 : e ≤ p := by omega
  apply Nat.div_eq_of_lt_le
  · -- q K ≤ x m
    rw [← hq, Nat.add_mul, Nat.mul_comm p q, Nat.mul_assoc, hpm, Nat.mul_add]
    omega
  · -- x m < (q+1) K : multiply by p
    have : p * (x * m) < p * ((q + 1) * K) := by
      have ex : p * (x * m) = x * K + x * e := by rw [Nat.mul_left_comm, hpm, Nat.mul_add]
      rw [ex]
      have h4 : x * K + K ≤ p * ((q + 1) * K) := by
        have : x + 1 ≤ p * (q + 1) := by rw [Nat.mul_add, Nat.mul_one]; omega
        calc x * K + K = (x + 1) * K := by rw [Nat.add_mul, Nat.one_mul]
          _ ≤ p * (q + 1) * K := Nat.mul_le_mul_right _ this
          _ = p * ((q + 1) * K) := Nat.mul_assoc ..
      omega
    exact Nat.lt_of_mul_lt_mul_left this
theorem lanes_sub {b p : Nat} : ∀ {xs : List Nat}, lanes b xs = lanes b (xs.map (· % p)) + lanes b (xs.map (· / p)) * p
  | [] => by simp [lanes]
  | x :: xs => by
    have ih := lanes_sub (b := b) (p := p) (xs := xs)
    show x + 2 ^ b * lanes b xs = x % p + 2 ^ b * lanes b (xs.map (· % p)) + (x / p + 2 ^ b * lanes b (xs.map (· / p))) * p
    have h := Nat.mod_add_div x p
    rw [Nat.add_mul, Nat.mul_assoc, Nat.mul_comm (x / p) p]
    conv => lhs; rw [ih]
    rw [Nat.mul_add]
    omega
/-- what lowered calculates -/
theorem lowered_lanes {b c p n : Nat} {xs : List Nat} (hp : 0 < p) (hc : c ≤ b) (h : ∀ x ∈ xs, x * (p - 2 ^ c % p) < 2 ^ c ∧ x * (2 ^ c / p + 1) < 2 ^ b) (hl : xs.length ≤ n) :
    lanes b xs - ((lanes b xs * (2 ^ c / p + 1) / 2 ^ c) &&& lanes b (List.replicate n (2 ^ (b - c) - 1))) * p = lanes b (xs.map (· % p)) := by
  rw [← lanes_scale, lanes_shr hc (fun y hy => by
    obtain ⟨x, hx, rfl⟩ := List.mem_map.mp hy
    exact (h x hx).2) (by rw [List.length_map]; exact hl), List.map_map]
  have e : xs.map ((· / 2 ^ c) ∘ (· * (2 ^ c / p + 1))) = xs.map (· / p) := List.map_congr_left fun x hx => quot_mul hp (h x hx).1
  rw [e]
  have := lanes_sub (b := b) (p := p) (xs := xs)
  omega
/-- the mask -/
theorem ones_lanes {b : Nat} (hb : 0 < b) : ∀ {n : Nat}, (2 ^ (b * n) - 1) / (2 ^ b - 1) = lanes b (List.replicate n 1) := by
  intro n
  have h2 : 2 ≤ 2 ^ b := by
    calc 2 = 2 ^ 1 := rfl
      _ ≤ 2 ^ b := Nat.pow_le_pow_right (by decide) hb
  have key : ∀ n, lanes b (List.replicate n 1) * (2 ^ b - 1) + 1 = 2 ^ (b * n) := by
    intro n
    induction n with
    | zero => simp [lanes]
    | succ n ih =>
      show (1 + 2 ^ b * lanes b (List.replicate n 1)) * (2 ^ b - 1) + 1 = 2 ^ (b * (n + 1))
      rw [Nat.mul_add b n 1, Nat.mul_one, Nat.pow_add, ← ih, Nat.add_mul, Nat.one_mul, Nat.mul_assoc, Nat.mul_comm _ (2 ^ b), Nat.mul_add, Nat.mul_one]
      omega
  apply Nat.div_eq_of_lt_le
  · have := key n; omega
  · have := key n
    rw [Nat.add_mul]
    omega
theorem mask_lanes {b m : Nat} : ∀ {n : Nat}, lanes b (List.replicate n 1) * m = lanes b (List.replicate n m) := by
  intro n
  rw [← lanes_scale, List.map_replicate, Nat.one_mul]
/-! ### products -/
def addL : List Nat → List Nat → List Nat
  | [], ys => ys
  | xs, [] => xs
  | x :: xs, y :: ys => (x + y) :: addL xs ys
def conv : List Nat → List Nat → List Nat
  | [], _ => []
  | x :: xs, ys => addL (ys.map (· * x)) (0 :: conv xs ys)
theorem lanes_add {b : Nat} : ∀ {xs ys : List Nat}, lanes b (addL xs ys) = lanes b xs + lanes b ys
  | [], ys => by simp [addL, lanes]
  | x :: xs, [] => by simp [addL, lanes]
  | x :: xs, y :: ys => by
    show x + y + 2 ^ b * lanes b (addL xs ys) = x + 2 ^ b * lanes b xs + (y + 2 ^ b * lanes b ys)
    rw [lanes_add, Nat.mul_add]
    omega
theorem lanes_conv {b : Nat} {ys : List Nat} : ∀ {xs : List Nat}, lanes b (conv xs ys) = lanes b xs * lanes b ys
  | [] => by simp [conv, lanes]
  | x :: xs => by
    show lanes b (addL (ys.map (· * x)) (0 :: conv xs ys)) = (x + 2 ^ b * lanes b xs) * lanes b ys
    rw [lanes_add, lanes_scale]
    show _ + (0 + 2 ^ b * lanes b (conv xs ys)) = _
    rw [lanes_conv, Nat.add_mul, Nat.mul_comm x, Nat.zero_add, Nat.mul_assoc]
theorem addL_len : ∀ {xs ys : List Nat}, (addL xs ys).length = max xs.length ys.length
  | [], ys => by simp [addL]
  | x :: xs, [] => by simp [addL]
  | x :: xs, y :: ys => by simp only [addL, List.length_cons, addL_len]; omega
theorem conv_len {ys : List Nat} (hy : ys ≠ []) : ∀ {xs : List Nat}, xs ≠ [] → (conv xs ys).length = xs.length + ys.length - 1
  | [x], _ => by
    have := List.length_pos_iff.mpr hy
    simp only [conv, addL_len, List.length_map, List.length_cons, List.length_nil]
    omega
  | x :: x' :: xs, _ => by
    have := List.length_pos_iff.mpr hy
    have ih := conv_len (ys := ys) hy (xs := x' :: xs) (by simp)
    show (addL (ys.map (· * x)) (0 :: conv (x' :: xs) ys)).length = _
    rw [addL_len, List.length_map, List.length_cons, ih]
    simp only [List.length_cons]
    omega
theorem addL_le {B1 B2 : Nat} : ∀ {xs ys : List Nat}, (∀ x ∈ xs, x ≤ B1) → (∀ y ∈ ys, y ≤ B2) → ∀ z ∈ addL xs ys, z ≤ B1 + B2
  | [], ys, _, h2, z, hz => Nat.le_trans (h2 z (by simpa [addL] using hz)) (Nat.le_add_left ..)
  | x :: xs, [], h1, _, z, hz => Nat.le_trans (h1 z (by simpa [addL] using hz)) (Nat.le_add_right ..)
  | x :: xs, y :: ys, h1, h2, z, hz => by
    rcases List.mem_cons.mp (show z ∈ (x + y) :: addL xs ys from hz) with rfl | hz
    · exact Nat.add_le_add (h1 _ (List.mem_cons_self ..)) (h2 _ (List.mem_cons_self ..))
    · exact addL_le (fun a ha => h1 a (List.mem_cons_of_mem _ ha)) (fun a ha => h2 a (List.mem_cons_of_mem _ ha)) z hz
theorem conv_le {A B : Nat} {ys : List Nat} (hy : ∀ y ∈ ys, y ≤ B) : ∀ {xs : List Nat}, (∀ x ∈ xs, x ≤ A) → ∀ z ∈ conv xs ys, z ≤ xs.length * (B * A)
  | [], _, z, hz => nomatch hz
  | x :: xs, hx, z, hz => by
    have h := addL_le (B1 := B * A) (B2 := xs.length * (B * A)) (fun a ha => by
      obtain ⟨y, hy', rfl⟩ := List.mem_map.mp ha
      exact Nat.mul_le_mul (hy y hy') (hx x (List.mem_cons_self ..))) (fun a ha => by
      rcases List.mem_cons.mp ha with rfl | ha
      · exact Nat.zero_le _
      · exact conv_le hy (fun c hc => hx c (List.mem_cons_of_mem _ hc)) a ha) z hz
    rw [List.length_cons, Nat.add_mul, Nat.one_mul, Nat.add_comm]
    exact h
/-! ### reading -/
theorem lanes_get {b : Nat} : ∀ {xs : List Nat} {k : Nat} {x : Nat}, (∀ y ∈ xs, y < 2 ^ b) → xs[k]? = some x → lanes b xs / 2 ^ (b * k) % 2 ^ b = x
  | y :: ys, 0, x, h, hx => by
    obtain rfl : y = x := by simpa using hx
    show (y + 2 ^ b * lanes b ys) / 2 ^ (b * 0) % 2 ^ b = y
    rw [Nat.mul_zero, Nat.pow_zero, Nat.div_one, Nat.add_mul_mod_self_left, Nat.mod_eq_of_lt (h y (List.mem_cons_self ..))]
  | y :: ys, k + 1, x, h, hx => by
    show (y + 2 ^ b * lanes b ys) / 2 ^ (b * (k + 1)) % 2 ^ b = x
    rw [Nat.mul_add, Nat.mul_one, Nat.add_comm (b * k), Nat.pow_add, ← Nat.div_div_eq_div_mul, Nat.add_mul_div_left _ _ (Nat.two_pow_pos b), Nat.div_eq_of_lt (h y (List.mem_cons_self ..)), Nat.zero_add]
    exact lanes_get (fun z hz => h z (List.mem_cons_of_mem _ hz)) hx
  | [], k, x, _, hx => by simp at hx
end SR
set_option maxRecDepth 100000
namespace SR
/-! ### digits as places and coefficients -/
def enP (o : Int) : List Nat → PL
  | [] => []
  | x :: xs => (o, (x : Int)) :: enP (o + 1) xs
theorem totl_enP_mod {p : Nat} : ∀ {xs : List Nat} {o c : Int}, ∃ z, totl (enP o (xs.map (· % p))) c = totl (enP o xs) c + p * z
  | [], o, c => ⟨0, by simp [enP]⟩
  | x :: xs, o, c => by
    obtain ⟨z, hz⟩ := totl_enP_mod (p := p) (xs := xs) (o := o + 1) (c := c)
    have hx : ((x % p : Nat) : Int) = (x : Int) - p * ((x / p : Nat) : Int) := by
      have := Nat.mod_add_div x p
      have h2 : ((x % p + p * (x / p) : Nat) : Int) = (x : Int) := by rw [this]
      rw [Int.natCast_add, Int.natCast_mul] at h2
      omega
    show ∃ z, totl ((o, ((x % p : Nat) : Int)) :: enP (o + 1) (xs.map (· % p))) c = totl ((o, (x : Int)) :: enP (o + 1) xs) c + p * z
    rw [totl_cons, totl_cons, hz]
    by_cases h : o = c
    · refine ⟨z - ((x / p : Nat) : Int), ?_⟩
      simp only [h, if_true]
      rw [hx, Int.mul_sub]
      omega
    · refine ⟨z, ?_⟩
      simp only [h, if_false]
      omega
theorem totl_enP_add : ∀ {xs ys : List Nat} {o c : Int}, totl (enP o (addL xs ys)) c = totl (enP o xs) c + totl (enP o ys) c
  | [], ys, o, c => by
    show totl (enP o ys) c = totl [] c + _
    simp [totl]
  | x :: xs, [], o, c => by
    show totl (enP o (x :: xs)) c = _ + totl [] c
    simp [totl]
  | x :: xs, y :: ys, o, c => by
    show totl ((o, ((x + y : Nat) : Int)) :: enP (o + 1) (addL xs ys)) c = totl ((o, (x : Int)) :: enP (o + 1) xs) c + totl ((o, (y : Int)) :: enP (o + 1) ys) c
    rw [totl_cons, totl_cons, totl_cons, totl_enP_add, Int.natCast_add]
    by_cases h : o = c
    · simp only [h, if_true]; omega
    · simp only [h, if_false]; omega
theorem totl_enP_shift {d : Int} : ∀ {xs : List Nat} {o c : Int}, totl (enP (o + d) xs) c = totl (enP o xs) (c - d)
  | [], o, c => rfl
  | x :: xs, o, c => by
    show totl ((o + d, (x : Int)) :: enP (o + d + 1) xs) c = totl ((o, (x : Int)) :: enP (o + 1) xs) (c - d)
    rw [totl_cons, totl_cons, show o + d + 1 = o + 1 + d by omega, totl_enP_shift]
    by_cases h : o + d = c
    · rw [if_pos h, if_pos (show o = c - d by omega)]
    · rw [if_neg h, if_neg (show ¬ o = c - d by omega)]
theorem totl_enP_scale {m : Nat} : ∀ {xs : List Nat} {o c : Int}, totl (enP o (xs.map (· * m))) c = (m : Int) * totl (enP o xs) c
  | [], o, c => by simp [enP, totl]
  | x :: xs, o, c => by
    show totl ((o, ((x * m : Nat) : Int)) :: enP (o + 1) (xs.map (· * m))) c = (m : Int) * totl ((o, (x : Int)) :: enP (o + 1) xs) c
    rw [totl_cons, totl_cons, totl_enP_scale, Int.mul_add, Int.natCast_mul]
    by_cases h : o = c
    · simp only [h, if_true]
      rw [Int.mul_comm]
    · simp only [h, if_false]
      omega
theorem totl_enP_conv {ys : List Nat} {o2 : Int} : ∀ {xs : List Nat} {o1 c : Int}, totl (enP (o1 + o2) (conv xs ys)) c = totl (prodL (enP o1 xs) (enP o2 ys)) c
  | [], o1, c => rfl
  | x :: xs, o1, c => by
    show totl (enP (o1 + o2) (addL (ys.map (· * x)) (0 :: conv xs ys))) c = totl (prodL ((o1, (x : Int)) :: enP (o1 + 1) xs) (enP o2 ys)) c
    rw [totl_enP_add, totl_enP_scale, totl_prod_cons]
    show _ + totl ((o1 + o2, ((0 : Nat) : Int)) :: enP (o1 + o2 + 1) (conv xs ys)) c = _
    rw [totl_cons, show o1 + o2 + 1 = (o1 + 1) + o2 by omega, totl_enP_conv, show o1 + o2 = o2 + o1 by omega, totl_enP_shift]
    simp
/-- the coefficients at the places from low on -/
def plc (f : Int → Nat) (low : Int) (n : Nat) : List Nat := (List.range n).map fun (i : Nat) => f (low + (i : Int))
theorem totl_plc {f : Int → Nat} : ∀ {n : Nat} {low c : Int}, totl (enP low (plc f low n)) c = if low ≤ c ∧ c < low + n then (f c : Int) else 0
  | 0, low, c => by
    show totl (enP low []) c = _
    rw [if_neg (by omega)]
    rfl
  | n + 1, low, c => by
    have e : plc f low (n + 1) = f low :: plc f (low + 1) n := by
      unfold plc
      rw [List.range_succ_eq_map, List.map_cons, List.map_map]
      congr 1
      · show f (low + ((0 : Nat) : Int)) = f low
        congr 1
        omega
      · refine List.map_congr_left fun i _ => ?_
        show f (low + ((i + 1 : Nat) : Int)) = f (low + 1 + (i : Int))
        congr 1
        omega
    rw [e]
    show totl ((low, (f low : Int)) :: enP (low + 1) (plc f (low + 1) n)) c = _
    rw [totl_cons, totl_plc]
    by_cases h : low = c
    · subst h
      rw [if_pos rfl, if_neg (by omega), if_pos (by omega)]
      omega
    · rw [if_neg h]
      by_cases h2 : low + 1 ≤ c ∧ c < low + 1 + n
      · rw [if_pos h2, if_pos (by omega)]; omega
      · rw [if_neg h2, if_neg (by omega)]; omega
end SR
set_option maxRecDepth 100000
namespace SR
/-! ### dense products -/
def lowI (a : PL) : Int := (a.head?.map (·.1)).getD 0
def highI (a : PL) : Int := (a.getLast?.map (·.1)).getD 0
def spanI (a : PL) : Int := highI a - lowI a
def denseB (a b : PL) : Bool := !a.isEmpty && (!b.isEmpty && decide (spanI a + spanI b < 4 * (a.length : Int) * (b.length : Int)))
theorem nrm_nd {p : Int} {a : PL} (h : Nrm p a) : (a.map (·.1)).Nodup := by
  have : coll p a = a := h
  rw [← this]
  exact coll_nd
theorem nrm_keys {p : Int} {a : PL} (h : Nrm p a) : (a.map (·.1)).Pairwise (· ≤ ·) := by
  have e : coll p a = a := h
  rw [← e]
  unfold coll
  rw [nd_map_fst]
  exact List.Pairwise.filter _ srt_pair
theorem nrm_coef {p : Int} (hp : 0 < p) {a : PL} (h : Nrm p a) (o : Int) : 0 ≤ (getI a o).getD 0 ∧ (getI a o).getD 0 < p := by
  have e : coll p a = a := h
  have h1 : (getI a o).getD 0 = coef p a o := by
    conv => lhs; rw [← e]
    exact getI_coll
  rw [h1, coef_is hp]
  exact ⟨Int.emod_nonneg _ (by omega), Int.emod_lt_of_pos _ hp⟩
theorem nrm_small {p : Int} (hp : 0 < p) (hp8 : p < 8) {a : PL} (h : Nrm p a) : ∀ q ∈ a, 0 ≤ q.2 ∧ q.2 < 8 := by
  have e : coll p a = a := h
  rw [← e]
  intro q hq
  obtain ⟨o, ho, rfl⟩ := List.mem_map.mp hq
  show 0 ≤ coef p a o ∧ coef p a o < 8
  rw [coef_is hp]
  have h1 := Int.emod_nonneg (totl a o) (show p ≠ 0 by omega)
  have h2 := Int.emod_lt_of_pos (totl a o) hp
  omega
theorem nrm_bnds {p : Int} {a : PL} (h : Nrm p a) : ∀ q ∈ a, lowI a ≤ q.1 ∧ q.1 ≤ highI a := by
  intro q hq
  have hs := nrm_keys h
  constructor
  · cases a with
    | nil => cases hq
    | cons x r =>
      show x.1 ≤ q.1
      rcases List.mem_cons.mp hq with rfl | hq
      · omega
      · rw [List.map_cons, List.pairwise_cons] at hs
        exact hs.1 _ (List.mem_map_of_mem hq)
  · rcases List.eq_nil_or_concat a with rfl | ⟨r, x, rfl⟩
    · cases hq
    · rw [List.concat_eq_append] at *
      have : highI (r ++ [x]) = x.1 := by simp [highI]
      rw [this]
      rcases List.mem_append.mp hq with hq | hq
      · rw [List.map_append, List.pairwise_append] at hs
        exact hs.2.2 _ (List.mem_map_of_mem hq) _ (by simp)
      · rw [List.mem_singleton.mp hq]
        omega
theorem low_mem {a : PL} (h : a ≠ []) : ∃ q ∈ a, q.1 = lowI a := by
  cases a with
  | nil => exact absurd rfl h
  | cons x r => exact ⟨x, List.mem_cons_self .., rfl⟩
theorem high_mem {a : PL} (h : a ≠ []) : ∃ q ∈ a, q.1 = highI a := by
  rcases List.eq_nil_or_concat a with rfl | ⟨r, x, rfl⟩
  · exact absurd rfl h
  · rw [List.concat_eq_append]
    exact ⟨x, by simp, by simp [highI]⟩
theorem span_nn {p : Int} {a : PL} (h : Nrm p a) : 0 ≤ spanI a := by
  cases ha : a with
  | nil => decide
  | cons x r =>
    rw [← ha]
    obtain ⟨q, hq, e⟩ := high_mem (a := a) (by rw [ha]; simp)
    have := nrm_bnds h q hq
    unfold spanI
    omega
theorem span_bnd {B : Int} {a : PL} (h : Bnd B a) (hB : 0 ≤ B) : spanI a ≤ 2 * B := by
  cases ha : a with
  | nil => show (0 : Int) - 0 ≤ 2 * B; omega
  | cons x r =>
    rw [← ha]
    obtain ⟨q, hq, e⟩ := high_mem (a := a) (by rw [ha]; simp)
    obtain ⟨q', hq', e'⟩ := low_mem (a := a) (by rw [ha]; simp)
    have h1 := h q hq
    have h2 := h q' hq'
    unfold spanI
    omega
theorem totl_notin {c : Int} : ∀ {a : PL}, (∀ q ∈ a, q.1 ≠ c) → totl a c = 0
  | [], _ => rfl
  | q :: a, h => by
    rw [totl_cons, if_neg (h q (List.mem_cons_self ..)), totl_notin fun r hr => h r (List.mem_cons_of_mem _ hr)]
    rfl
/-- all coefficients, from the least place to the greatest one -/
def plcs (a : PL) : List Nat := plc (fun o => ((getI a o).getD 0).toNat) (lowI a) (spanI a + 1).toNat
theorem plcs_len {p : Int} {a : PL} (h : Nrm p a) : ((plcs a).length : Int) = spanI a + 1 := by
  have := span_nn h
  unfold plcs plc
  rw [List.length_map, List.length_range]
  omega
theorem plcs_lt {p : Int} (hp : 0 < p) {a : PL} (h : Nrm p a) : ∀ x ∈ plcs a, (x : Int) < p := by
  intro x hx
  obtain ⟨i, _, rfl⟩ := List.mem_map.mp hx
  have := nrm_coef hp h (lowI a + (i : Int))
  show ((((getI a (lowI a + (i : Int))).getD 0).toNat : Nat) : Int) < p
  omega
theorem eqv_plcs {p : Int} (hp : 0 < p) {a : PL} (h : Nrm p a) : Eqv p (enP (lowI a) (plcs a)) a := .of fun c => by
  unfold plcs
  rw [totl_plc]
  have hs := span_nn h
  by_cases q : lowI a ≤ c ∧ c < lowI a + ((spanI a + 1).toNat : Int)
  · rw [if_pos q, totl_nd (nrm_nd h)]
    have := nrm_coef hp h c
    omega
  · rw [if_neg q, totl_notin]
    intro r hr e
    have := nrm_bnds h r hr
    unfold spanI at *
    omega
/-- the product by places -/
theorem coll_dense {p : Int} {P : Nat} (hp : 0 < p) (hP : (P : Int) = p) {a b : PL} (ha : Nrm p a) (hb : Nrm p b) : coll p (enP (lowI a + lowI b) ((conv (plcs a) (plcs b)).map (· % P))) = coll p (prodL a b) :=
  coll_tot hp fun c => by
    obtain ⟨z, hz⟩ := totl_enP_mod (p := P) (xs := conv (plcs a) (plcs b)) (o := lowI a + lowI b) (c := c)
    obtain ⟨y, hy⟩ := Eqv.prod (eqv_plcs hp ha) (eqv_plcs hp hb) c
    refine ⟨y + z, ?_⟩
    rw [hz, totl_enP_conv, hy, hP, Int.mul_add]
    omega
theorem enP_len : ∀ {xs : List Nat} {o : Int}, (enP o xs).length = xs.length
  | [], _ => rfl
  | x :: xs, o => by
    show (enP (o + 1) xs).length + 1 = xs.length + 1
    rw [enP_len]
theorem enP_get : ∀ {xs : List Nat} {o : Int} {i : Nat} {x : Nat}, xs[i]? = some x → (enP o xs)[i]? = some (o + (i : Int), (x : Int))
  | [], o, i, x, h => by simp at h
  | y :: xs, o, 0, x, h => by
    have : y = x := Option.some.inj h
    subst this
    show some (o, (y : Int)) = _
    simp
  | y :: xs, o, i + 1, x, h => by
    have := enP_get (o := o + 1) (show xs[i]? = some x by simpa using h)
    show (enP (o + 1) xs)[i]? = _
    rw [this]
    congr 2
    omega
/-- what product asks -/
structure Fit (p : Int) (a b : PL) : Prop where
  na : Nrm p a
  nb : Nrm p b
  len : a.length * b.length ≤ 30000
  la : a.length ≤ 30000
  lb : b.length ≤ 30000
  span : denseB a b = true → spanI a ≤ 78 ∧ spanI b ≤ 78
theorem bnd_str {p B : Int} (hp : 0 ≤ p) {a : PL} (h : Bnd B a) : Bnd (p * B) (str p a) := fun q hq => by
  obtain ⟨r, hr, rfl⟩ := List.mem_map.mp hq
  have h1 := h r hr
  have h2 : p * r.1 ≤ p * B := Int.mul_le_mul_of_nonneg_left h1.2 hp
  have h3 : p * (-B) ≤ p * r.1 := Int.mul_le_mul_of_nonneg_left h1.1 hp
  rw [Int.mul_neg] at h3
  exact ⟨h3, h2⟩
theorem bnd_strK {P : Nat} {B : Int} {a : PL} (h : Bnd B a) : ∀ k : Nat, Bnd (((P ^ k : Nat) : Int) * B) (strK P a k)
  | 0 => by
    rw [Nat.pow_zero]
    show Bnd ((1 : Int) * B) a
    rw [Int.one_mul]
    exact h
  | k + 1 => by
    have := bnd_str (p := (P : Int)) (by omega) (bnd_strK (P := P) h k)
    show Bnd _ (coll (P : Int) (str (P : Int) (strK (P : Int) a k)))
    rw [Nat.pow_succ, Nat.mul_comm (P ^ k), Int.natCast_mul, Int.mul_assoc]
    exact Bnd.coll this
theorem nrm_pow {p : Int} (hp : 0 < p) (h1 : coll p [(0, 1)] = [(0, 1)]) {a : PL} : ∀ n, Nrm p (powL p a n)
  | 0 => h1
  | n + 1 => nrm_coll hp
theorem nrm_strK {p : Int} (hp : 0 < p) {a : PL} (h : Nrm p a) : ∀ k, Nrm p (strK p a k)
  | 0 => h
  | k + 1 => nrm_coll hp
end SR
set_option maxRecDepth 100000
set_option maxHeartbeats 4000000
/-! range(a, b), a and b of any size -/
namespace SR
open PySem PySem.Spec PyProof.Rows L2 Evl
theorem turn_long {P : Program} {w : World} {K : PySem.W.Frag} {tg : Expr} (it : Addr) (lo : Int) (n : Nat) : Turn P w K tg (Itr lo n) [it] it (fun i h => IsLongIter h it (lo + (i : Nat) * 1) ((n : Int) - (i : Nat)) 1) where
  mem := by simp
  obj := fun i h st b hb => by
    have e : b = it := by simpa using hb
    subst e
    exact ⟨_, st, fun v z => by
      have z' : Data.fields _ = Data.cell v := z
      cases z'⟩
  keep := fun i h h' st k => k it (by simp) _ st
  item := by
    intro X hP hw hK hc i pins s σ H E I hf st hg
    subst hP hw hK
    obtain ⟨f0, f1, f2, f3, f4, f5⟩ := hf it (by simp)
    have W := Walks.longrange (prog := X.prog) (w := X.w) (I.ok.hd hc) it lo 1 n
    refine W.item i s _ _ hg st fun v h' tk hv st' kk => ?_
    obtain ⟨t, rfl⟩ := hv
    have I1 : Inv X pins σ H { s with heap := h', toks := tk } := I.turned (fun b o hb e => kk b o (by simpa using hb) e) f0 f1 f3 f4 f5
    refine ⟨_, rfl, go_of (s := { s with heap := h', toks := tk }) (n := "longrange_iterator") st' rfl rfl (by decide) ⟨.int (lo + i), H, I1, ⟨t, ?_⟩, ⟨rfl, rfl⟩, st', fun b hb => (hf b hb).1⟩⟩
    rw [Int.mul_one]
  done := by
    intro X hP hw hK hc i pins s σ H E I hf st hg
    subst hP hw hK
    obtain ⟨f0, f1, f2, f3, f4, f5⟩ := hf it (by simp)
    exact wpAny_pyNext_long_end (I.ok.hd hc) st (by have : n ≤ i := hg; omega) fun h' eb => ⟨rfl, I.turned (t' := s.toks) (fun b o hb e => eb b o hb e) f0 f1 f3 f4 f5⟩
  self := fun A i s Q E st h => wpAny_pyIter_longiter st h
def iRng2W (ta : TA) : TI := fun σ H R => ta σ H fun vs H1 => ∃ i j : Int, vs = [.int i, .int j] ∧ R (Itr i (j - i).toNat) H1
theorem pi_range2W {X : Cx} {tg : Expr} {a b : Expr} {ta : TA} {p pos : Pos} (hg : Gl X "range") (hm : X.mg "range" = none) (ha : PA X [a, b] ta) (hs : starEach [a, b] X.env = [(false, eval a X.env), (false, eval b X.env)] := by rfl) (hs2 : starEach [b] X.env = [(false, eval b X.env)] := by rfl) :
    PI X tg (.Call (.Name "range" p) [a, b] [] pos) (iRng2W ta) := by
  refine ⟨fun pins s σ H R I h => ?_⟩
  refine Call_ (ld_blt I hg hm boot_range (PyProof.Rows.callWith_type1 (thn (ha.run pos pins s σ H _ I h) fun us s1 ⟨vs, H1, I1, r1, q1⟩ => ?_) (by rw [hs, hs2]) (by rw [hs2]; rfl)))
  obtain ⟨i, j, e, q⟩ := q1
  subst e
  cases r1 with
  | cons r rr =>
    cases rr with
    | cons r' rr =>
      cases rr
      obtain ⟨t, rfl⟩ := r
      obtain ⟨t', rfl⟩ := r'
      refine call_range_2 ?_
      have e1 : i + ((0 : Nat) : Int) * 1 = i := by simp
      have e2 : (((j - i).toNat : Nat) : Int) - ((0 : Nat) : Int) = Builtin.Range.rangeSize i j 1 := by rw [PyProof.Rows.rangeSize_nat]; simp
      cases hsm : Builtin.Range.small i j 1 with
      | true =>
        refine wpAny_pyIter_range (IsRange.new ..) hsm ?_
        refine pi_one ?_ _ (turn_range _ i (j - i).toNat) ?_ q
        · exact I1.kept (fun b o e => Heap.get?_push_of_some _ e)
        · show IsRangeIter _ _ (i + ((0 : Nat) : Int) * 1) ((((j - i).toNat : Nat) : Int) - ((0 : Nat) : Int)) 1
          rw [e1, e2]
          exact Heap.get?_push_size _ rfl
      | false =>
        refine wpAny_pyIter_longrange (IsRange.new ..) hsm ?_
        refine pi_one ?_ _ (turn_long _ i (j - i).toNat) ?_ q
        · exact I1.kept (fun b o e => Heap.get?_push_of_some _ e)
        · show IsLongIter _ _ (i + ((0 : Nat) : Int) * 1) ((((j - i).toNat : Nat) : Int) - ((0 : Nat) : Int)) 1
          rw [e1, e2]
          exact Heap.get?_push_size _ rfl
section
variable {ω : Type} {K : PySem.W.Frag} {O : OI ω} {G : Hp} {σ : L2.St}
theorem src_r2W {ta : TA} {lo n : Int} (h : EvA ta σ G [.int lo, .int n]) : Src K O (iRng2W ta) σ G (rngD (ω := ω) lo (n - lo).toNat) := fun H1 e R k =>
  h H1 e _ fun H2 e2 => ⟨lo, n, rfl, k _ _ _ G H2 (Le.heap e e2) (by rw [show (rngD (ω := ω) lo (n - lo).toNat).length = (n - lo).toNat by simp [rngD]]; exact walk_range) (fun _ _ => trivial) fun i Gi Hi x Hi' eg eh hi y => by
    obtain ⟨rfl, rfl⟩ := y
    exact ⟨_, Gi, rngD_get (by simpa [rngD] using hi), Le.refl eh, at_int.mpr rfl⟩⟩
end
end SR
set_option maxRecDepth 100000
set_option maxHeartbeats 4000000
namespace SR
open PySem PySem.Spec PyProof.Rows PySem.W
def hexS (n : Nat) : Str := ⟨((Nat.toDigits 16 n).map Char.toNat).toArray⟩
section
open Builtin Builtin.Str Builtin.Int Builtin.Float
variable {prog : Program} {w : World} {A : Around} {E : Value → Shared → Prop} {s : Shared}
theorem ret_text2 {M : Model} {X T : PySem.Str} {Q : Fin → Shared → Prop} (e : X = T) (hL : T.length ≤ sizeLine) (h : ∀ t k, Q (.done (.ret (.str T t))) { s with toks := k }) : wpAny M A (retStr X) Q E s := KXf.ret_text e (e ▸ hL) h
abbrev xF : FormatSpec := { align := 62, type := some 120 }
theorem parse_x : parseFormatSpec [120] "int" 62 = .ok xF := by rfl
theorem formatField_hex {a : Nat} {t : Tok} {Q : Value → Shared → Prop}
    (hz : (hexS a).length ≤ sizeLine) (h : ∀ t k, Q (.str (hexS a) t) { s with toks := k }) : wpAny (model prog w) A (formatField (.int (a : Int) t) ⟨#[120]⟩) Q E s := by
  have hsz : (⟨#[120]⟩ : PySem.Str).length ≤ sizeLine := by decide
  show wpAny _ _ (holding [.int a t] (pyFormat (.int a t) ⟨#[120]⟩)) Q E s
  refine wpAny_holding ?_
  unfold pyFormat
  refine wpAny_bind (wpAny_mkStr ?_ hsz)
  refine wpAny_bind (m := callSpecial? (.int a t) (PySem.Str.ofString "__format__") [.str ⟨#[120]⟩ s.toks]) (wpAny_callSpecial?_slot (name := PySem.Str.ofString "__format__") (typeIs_int _ a t) slot_int_format ?_)
  refine wpAny_call (codeAny_call_builtin slot_int_format.plain entry_int_format (slot_int_format.check _ _ _ _ _ _ _ _ (typeIs_int _ a t) (args_int_format _ _) ?_))
  unfold Builtin.«int.__format__»
  have hne : ((⟨#[120]⟩ : PySem.Str).length == 0) = false := by decide
  have hasc : (((⟨#[120]⟩ : PySem.Str).cps.toList.drop 1).any (· ≥ 128) || ((⟨#[120]⟩ : PySem.Str).cps.getD 0 0 ≥ 128 && !([60, 62, 61, 94] : List Nat).contains ((⟨#[120]⟩ : PySem.Str).cps.getD 1 0))) = false := by decide
  simp only [selfAndOne, noKeywords, Int.intOfSelf, asInt?, asStr?, List.isEmpty_nil, if_true, pure_bind, bind_pure, bind_assoc, hne, hasc, Bool.false_eq_true, if_false,
    show (Value.str ⟨#[120]⟩ s.toks == Value.none) = false from rfl]
  refine wpAny_bind (wpAny_typeNameOf (T := "str") (typeIs_str _ _ _) (by decide) fun _ => ?_)
  first | refine wpAny_bind (wpAny_typeNameOfCut_int ?_) | refine wpAny_bind (wpAny_typeNameOf_int ?_)
  rw [show parseFormatSpec (#[120] : Array Nat).toList "int" 62 = .ok xF from parse_x]
  dsimp only
  rw [if_pos (by decide)]
  conv => arg 3; whnf
  have hdec : decide ((a : Int) < 0) = false := decide_eq_false (by omega)
  have hd : (Nat.toDigits 16 a).map Char.toNat ≠ [] := by
    intro z
    have := tDigits_len_ge 16 a
    rw [List.map_eq_nil_iff] at z
    rw [z] at this
    exact absurd this (by decide)
  refine ret_text2 (T := hexS a) ?_ hz fun t k => ?_
  · rw [hdec]
    unfold hexS
    generalize hD : (Nat.toDigits 16 a).map Char.toNat = D at *
    have hD' : List.map (fun c : Char => (if ((some 120).getD (if (#[120].back? == some 0) = true then 0 else 100) == 88) = true then c.toUpper else c).toNat) (Nat.toDigits 16 ((a : Int)).natAbs) = D := hD
    rw [hD']
    cases D with
    | nil => exact absurd rfl hd
    | cons d ds =>
      conv => lhs; whnf
      simp
      try omega
  · dsimp only
    refine wpAny_bind (wpAny_isInstance (typeIs_str _ _ _) isSubtype_str_str (wpAny_pure ?_))
    exact h _ _
end
section
open L2
variable {X : Cx}
/-- f'{e:x}' -/
def tHex (te : TE) : TE := fun σ H Q => te σ H fun x H1 => ∃ n : Nat, x = .int (n : Int) ∧ (hexS n).length ≤ sizeLine ∧ Q (.str (hexS n)) H1
theorem pe_hex {e : Expr} {te : TE} {sp : PySem.Str} {j : Nat} {p1 p2 p3 p4 : Pos} (he : PE X e te) (hsp : sp = ⟨#[120]⟩) : PE X (.JoinedStr [.FormattedValue e (-1) (some (.JoinedStr [.Constant (.str sp) j p1] p2)) p3] p4) (tHex te) := by
  subst hsp
  refine pe_joined1 ⟨fun pins s σ H Q I h => ?_⟩
  refine wpAny_FormattedValue_spec (thn (he.run pins s σ H _ I h) fun v s1 hv => ?_)
  obtain ⟨x, H1, I1, r1, n, rfl, hz, q⟩ := hv
  obtain ⟨t, rfl⟩ := r1
  refine wpAny_JoinedStr_one (Calls.Constant_str ⟨_, _, rfl, ?_⟩)
  exact formatField_hex hz fun t k => ⟨.str (hexS n), H1, I1.tok _, ⟨_, rfl⟩, q⟩
/-! ### x[::k] of a text -/
def revS (z : PySem.Str) : PySem.Str := ⟨z.cps.toList.reverse.toArray⟩
/-- every k-th -/
def every (k : Nat) (l : List Nat) : List Nat := (List.range ((l.length + (k - 1)) / k)).map fun i => l.getD (k * i) 0
def evS (k : Nat) (z : PySem.Str) : PySem.Str := ⟨(every k z.cps.toList).toArray⟩
def tStepS (te ts : TE) : TE := fun σ H Q => te σ H fun x H1 => ts σ H1 fun y H2 => ∃ (z : PySem.Str) (k : Int), x = .str z ∧ y = .int k ∧ z.length ≤ sizeLine ∧ (k = -1 ∧ Q (.str (revS z)) H2 ∨ ∃ m : Nat, k = (m : Int) ∧ 2 ≤ m ∧ Q (.str (evS m z)) H2)
theorem picked_every {n k : Nat} (hk : 1 ≤ k) : Builtin.Str.strSliceIndices none none (k : Int) n = (List.range ((n + (k - 1)) / k)).map fun i => k * i := by
  unfold Builtin.Str.strSliceIndices
  have h0 : (k : Int) > 0 := by omega
  simp only [h0, if_true]
  unfold sliceRange
  simp only [h0, if_true]
  have hc : ((if (0 : Int) < (n : Int) then ((n : Int) - 0 + (k : Int) - 1) / (k : Int) else 0)).toNat = (n + (k - 1)) / k := by
    by_cases hn : n = 0
    · subst hn
      rw [if_neg (by decide), Nat.zero_add, Nat.div_eq_of_lt (by omega)]
      rfl
    · rw [if_pos (by omega)]
      have e : (n : Int) - 0 + (k : Int) - 1 = ((n + (k - 1) : Nat) : Int) := by omega
      rw [e, ← Int.natCast_ediv]
      exact Int.toNat_natCast _
  rw [hc]
  refine List.map_congr_left fun i _ => ?_
  rw [Int.zero_add, ← Int.natCast_mul]
  exact Int.toNat_natCast _
theorem made_str {pins : List (Addr × Obj)} {σ : L2.St} {H : Hp} {s : Shared} {y : PySem.Str} {Q : VK} (I : Inv X pins σ H s) (hz : y.length ≤ sizeLine) (q : Q (.str y) H) : (PySem.Made.str y).post (EP X pins σ Q) s := by
  exact ⟨hz, .str y, H, I.tok _, ⟨_, rfl⟩, q⟩
theorem revS_len {z : PySem.Str} : (revS z).length = z.length := by
  show (z.cps.toList.reverse.toArray).size = z.cps.size
  simp
theorem every_le {k : Nat} {l : List Nat} (hk : 2 ≤ k) : (every k l).length ≤ l.length := by
  unfold every
  rw [List.length_map, List.length_range]
  have h := Nat.div_mul_le_self (l.length + (k - 1)) k
  generalize (l.length + (k - 1)) / k = q at *
  have : q * k = q + q * (k - 1) := by
    obtain ⟨m, rfl⟩ : ∃ m, k = m + 1 := ⟨k - 1, by omega⟩
    rw [Nat.mul_succ, Nat.add_sub_cancel, Nat.add_comm]
  by_cases hq : q = 0
  · omega
  · have : (k - 1) ≤ q * (k - 1) := Nat.le_mul_of_pos_left _ (Nat.pos_of_ne_zero hq)
    omega
theorem evS_len {k : Nat} {z : PySem.Str} (hk : 2 ≤ k) : (evS k z).length ≤ z.length := by
  have := every_le (l := z.cps.toList) hk
  show ((every k z.cps.toList).toArray).size ≤ z.cps.size
  simpa using this
theorem fm_get (c : Array Nat) : ∀ l : List Nat, (∀ i ∈ l, i < c.size) → l.filterMap (c[·]?) = l.map (c.toList.getD · 0)
  | [], _ => rfl
  | i :: r, h => by
    have hi : i < c.size := h i (List.mem_cons_self ..)
    have e : c[i]? = some (c.toList.getD i 0) := by simp [hi]
    rw [List.filterMap_cons, e, List.map_cons, fm_get c r fun j hj => h j (List.mem_cons_of_mem _ hj)]
theorem rev_get (l : List Nat) : ((List.range l.length).map fun k => l.getD (l.length - 1 - k) 0) = l.reverse := by
  apply List.ext_getElem
  · simp
  · intro i h1 h2
    have hi : i < l.length := by simpa using h2
    rw [List.getElem_map, List.getElem_range, List.getElem_reverse, List.getD_eq_getElem?_getD, List.getElem?_eq_getElem (by omega)]
    rfl
theorem rev_made {z : PySem.Str} {t u : Tok} : (sliceMade z t none none (some (-1, u))) = .str (revS z) := by
  unfold sliceMade slicePicked
  rw [if_neg (by
    show ¬ ((((-1 : Int) == 1) && _) = true)
    simp)]
  show Made.str ⟨((Builtin.Str.strSliceIndices none none (-1) z.length).filterMap (z.cps[·]?)).toArray⟩ = _
  rw [picked_rev, fm_get _ _ (by
    intro i hi
    obtain ⟨k, hk, rfl⟩ := List.mem_map.mp hi
    have : k < z.length := List.mem_range.mp hk
    show z.length - 1 - k < z.length
    omega), List.map_map]
  unfold revS
  rw [← rev_get]
  rfl
theorem ev_made {z : PySem.Str} {t u : Tok} {k : Nat} (hk : 2 ≤ k) : (sliceMade z t none none (some ((k : Int), u))) = .str (evS k z) := by
  unfold sliceMade slicePicked
  rw [if_neg (by
    show ¬ ((((k : Int) == 1) && _) = true)
    have : ((k : Int) == 1) = false := by rw [beq_eq_false_iff_ne]; omega
    rw [this]
    simp)]
  show Made.str ⟨((Builtin.Str.strSliceIndices none none (k : Int) z.length).filterMap (z.cps[·]?)).toArray⟩ = _
  rw [picked_every (by omega), fm_get _ _ (by
    intro i hi
    obtain ⟨m, hm, rfl⟩ := List.mem_map.mp hi
    have hm : m < (z.length + (k - 1)) / k := List.mem_range.mp hm
    show k * m < z.length
    have := (Nat.le_div_iff_mul_le (by omega : 0 < k)).mp hm
    rw [Nat.succ_mul, Nat.mul_comm] at this
    omega), List.map_map]
  rfl
theorem pe_stepS {e es : Expr} {te ts : TE} {p3 pos : Pos} (he : PE X e te) (hs : PE X es ts) : PE X (.Subscript e (.Slice none none (some es) p3) pos) (tStepS te ts) := by
  refine ⟨fun pins s σ H Q I h => ?_⟩
  refine Subscript_ (thn (he.run pins s σ H _ I h) fun v s1 ⟨x, H1, I1, r1, q1⟩ => ?_)
  refine wpAny_Slice (thn (po_none.run pins s1 σ H1 (fun o H2 => o = none ∧ H2 = H1) I1 ⟨rfl, rfl⟩) fun vl s2 ⟨l, H2, I2, pl, el, e2⟩ => ?_)
  subst el e2
  refine thn (po_none.run pins s2 σ H2 (fun o H3 => o = none ∧ H3 = H2) I2 ⟨rfl, rfl⟩) fun vu s3 ⟨u, H3, I3, pu, eu, e3⟩ => ?_
  subst eu e3
  rw [evalPart_some]
  refine thn (hs.run pins s3 σ H3 _ I3 q1) fun vs s4 ⟨y, H4, I4, r4, z, k, ex, ey, hz, hq⟩ => ?_
  subst ex ey
  obtain ⟨tk, rfl⟩ := r4
  obtain ⟨t, rfl⟩ := r1
  cases pl
  cases pu
  have I5 : Inv X pins σ H4 { s4 with heap := s4.heap.push { cls := .type "slice", data := .fields #[.none, .none, .int k tk] } } := I4.kept (t' := s4.toks) fun b ob q => Heap.get?_push_of_some _ q
  show wpAny (model X.prog X.w) X.A (subscriptTail e (.Slice none none (some es) p3) (.str z t) (.ref s4.heap.objs.size)) (EP X pins σ Q) X.xe { s4 with heap := s4.heap.push { cls := .type "slice", data := .fields #[.none, .none, .int k tk] } }
  refine tail_any (ops := [.str z t, .ref s4.heap.objs.size]) (typeIs_str _ z t) (PySem.F.slot_str_getitem.lookup) ?_ (by with_unfolding_all rfl)
  refine wpAny_getItem_str_slice (l := none) (u := none) (st := some (k, tk)) ⟨_, Heap.get?_push_size _ rfl, rfl, rfl⟩ ?_ ?_
  · rcases hq with ⟨rfl, _⟩ | ⟨m, rfl, hm, _⟩
    · rfl
    · show ((m : Int) == 0) = false
      rw [beq_eq_false_iff_ne]
      omega
  · rcases hq with ⟨rfl, q⟩ | ⟨m, rfl, hm, q⟩
    · rw [rev_made]
      exact made_str I5 (by rw [revS_len]; exact hz) q
    · rw [ev_made hm]
      exact made_str I5 (Nat.le_trans (evS_len hm) hz) q
/-! ### '0' * k -/
theorem fold_rep {c : Nat} : ∀ {k : Nat} {a : Array Nat}, (List.replicate k (#[c] : Array Nat)).foldl (· ++ ·) a = a ++ (List.replicate k c).toArray
  | 0, a => by simp
  | k + 1, a => by
    rw [List.replicate_succ, List.foldl_cons, fold_rep, List.replicate_succ]
    apply Array.ext'
    simp
def repS (c k : Nat) : PySem.Str := ⟨(List.replicate k c).toArray⟩
theorem op_repS : OpR X (binaryOp .Mult) (fun x y H Q => ∃ c k : Nat, x = .str ⟨#[c]⟩ ∧ y = .int (k : Int) ∧ k ≤ 10000 ∧ Q (.str (repS c k)) H) := by
  intro pins s σ H x y v u Q I rx ry h
  obtain ⟨c, k, rfl, rfl, hk, q⟩ := h
  obtain ⟨t, rfl⟩ := rx
  obtain ⟨t', rfl⟩ := ry
  refine P.mul_str ?_ ?_ ?_ ?_
  · rw [decide_eq_false (by omega), decide_eq_false (by omega)]
    rfl
  · intro h1 _
    show ¬ (((1 : Nat) : Int) > (2 ^ 63 - 1) / (k : Int))
    have : (10000 : Int) ≤ (2 ^ 63 - 1) / (k : Int) := by
      refine (Int.le_ediv_iff_mul_le (by omega)).mpr ?_
      omega
    omega
  · intro _ _
    show Builtin.Str.tooLong (1 * (k : Int).toNat) = false
    unfold Builtin.Str.tooLong
    rw [sizeLine_eq, Int.toNat_natCast, Nat.one_mul]
    exact decide_eq_false (by omega)
  · by_cases h0 : (k : Int) < 1
    · rw [if_pos h0]
      have : k = 0 := by omega
      subst this
      exact ⟨by decide, .str (repS c 0), H, I.tok _, ⟨_, rfl⟩, q⟩
    · rw [if_neg h0]
      by_cases h1 : (((k : Int) == 1 || (⟨#[c]⟩ : PySem.Str).length == 0)) = true
      · rw [if_pos h1]
        have : k = 1 := by
          have : ((⟨#[c]⟩ : PySem.Str).length == 0) = false := rfl
          rw [this, Bool.or_false, beq_iff_eq] at h1
          omega
        subst this
        exact ⟨.str (repS c 1), H, I, ⟨t, rfl⟩, q⟩
      · rw [if_neg h1]
        refine made_str I ?_ ?_
        · rw [Int.toNat_natCast, fold_rep]
          show ((#[] : Array Nat) ++ (List.replicate k c).toArray).size ≤ sizeLine
          rw [sizeLine_eq]
          simp
          omega
        · rw [Int.toNat_natCast, fold_rep]
          have : (#[] : Array Nat) ++ (List.replicate k c).toArray = (List.replicate k c).toArray := by simp
          rw [this]
          exact q
end
end SR
namespace SR
/-! ### a number's hexadecimal signs, the lowest first -/
def lowHex (n : Nat) : List Nat := ((Nat.toDigits 16 n).map Char.toNat).reverse
theorem lowHex_small {n : Nat} (h : n < 16) : lowHex n = [(Nat.digitChar n).toNat] := by
  unfold lowHex
  rw [Nat.toDigits_of_lt_base h]
  rfl
theorem lowHex_big {n : Nat} (h : 16 ≤ n) : lowHex n = (Nat.digitChar (n % 16)).toNat :: lowHex (n / 16) := by
  unfold lowHex
  rw [Nat.toDigits_of_base_le (by decide) h, List.map_append, List.reverse_append]
  rfl
theorem lowHex_get : ∀ (i n : Nat), i < (lowHex n).length → (lowHex n).getD i 0 = (Nat.digitChar (n / 16 ^ i % 16)).toNat := by
  intro i
  induction i with
  | zero =>
    intro n h
    rw [Nat.pow_zero, Nat.div_one]
    by_cases hn : n < 16
    · rw [lowHex_small hn, Nat.mod_eq_of_lt hn]
      rfl
    · rw [lowHex_big (by omega)]
      rfl
  | succ i ih =>
    intro n h
    by_cases hn : n < 16
    · rw [lowHex_small hn] at h
      simp at h
    · rw [lowHex_big (by omega)] at h ⊢
      rw [List.getD_cons_succ, ih (n / 16) (by simpa using h), Nat.div_div_eq_div_mul, Nat.pow_succ, Nat.mul_comm 16]
theorem lowHex_len {n k : Nat} (hk : 0 < k) : (lowHex n).length ≤ k ↔ n < 16 ^ k := by
  unfold lowHex
  rw [List.length_reverse, List.length_map]
  exact Nat.length_toDigits_le_iff (by decide) hk
theorem digit_code {d : Nat} (h : d < 10) : (Nat.digitChar d).toNat = 48 + d := by
  have : ∀ d : Fin 10, (Nat.digitChar d).toNat = 48 + d := by decide
  exact this ⟨d, h⟩
theorem pow16 {s i : Nat} : 16 ^ (s * i) = 2 ^ (4 * s * i) := by
  rw [show (16 : Nat) = 2 ^ 4 from rfl, ← Nat.pow_mul, Nat.mul_assoc]
/-- a lane's lowest sign -/
theorem lane_sign {s i d : Nat} {ds : List Nat} (hs : 1 ≤ s) (h : ∀ x ∈ ds, x < 10) (hd : ds[i]? = some d) : lanes (4 * s) ds / 16 ^ (s * i) % 16 = d := by
  have hb : 16 ≤ 2 ^ (4 * s) := by
    calc 16 = 2 ^ 4 := rfl
      _ ≤ 2 ^ (4 * s) := Nat.pow_le_pow_right (by decide) (by omega)
  have hlt : ∀ x ∈ ds, x < 2 ^ (4 * s) := fun x hx => Nat.lt_of_lt_of_le (h x hx) (by omega)
  have h1 := lanes_get hlt hd
  rw [← pow16] at h1
  have h2 : lanes (4 * s) ds / 16 ^ (s * i) % 2 ^ (4 * s) % 16 = d % 16 := by rw [h1]
  have hdv : 16 ∣ 2 ^ (4 * s) := by
    rw [show (16 : Nat) = 2 ^ 4 from rfl]
    exact Nat.pow_dvd_pow 2 (by omega)
  rw [Nat.mod_mod_of_dvd _ hdv] at h2
  have hd10 := h d (List.mem_of_getElem? hd)
  omega
def everyN (k : Nat) (l : List Nat) : List Nat := (List.range ((l.length + (k - 1)) / k)).map fun i => l.getD (k * i) 0
/-- what unpack reads: the digits, and zeros behind -/
theorem unpack_digits {s : Nat} {ds : List Nat} (hs : 1 ≤ s) (h : ∀ x ∈ ds, x < 10) :
    let got := ((everyN s (lowHex (lanes (4 * s) ds))).take ds.length)
    got = (ds.take got.length).map (48 + ·) ∧ got.length ≤ ds.length ∧ ds = ds.take got.length ++ List.replicate (ds.length - got.length) 0 := by
  intro got
  have hb : 10 ≤ 2 ^ (4 * s) := by
    calc 10 ≤ 2 ^ 4 := by decide
      _ ≤ 2 ^ (4 * s) := Nat.pow_le_pow_right (by decide) (by omega)
  have hlt : ∀ x ∈ ds, x < 2 ^ (4 * s) := fun x hx => Nat.lt_of_lt_of_le (h x hx) hb
  have hL : got.length ≤ ds.length := by
    show ((everyN s _).take ds.length).length ≤ _
    rw [List.length_take]
    omega
  obtain ⟨R, hR⟩ : ∃ R, lowHex (lanes (4 * s) ds) = R := ⟨_, rfl⟩
  have hgot : got = (everyN s R).take ds.length := by rw [← hR]
  clear_value got
  have hget : ∀ i, i < got.length → got[i]? = some (48 + ds.getD i 0) := by
    intro i hi
    have hi1 : i < ds.length := by omega
    have hi2 : i < (R.length + (s - 1)) / s := by
      have : got.length ≤ (everyN s R).length := by
        rw [hgot, List.length_take]; omega
      unfold everyN at this
      rw [List.length_map, List.length_range] at this
      omega
    have hi3 : s * i < R.length := by
      have := (Nat.le_div_iff_mul_le (by omega : 0 < s)).mp hi2
      rw [Nat.succ_mul, Nat.mul_comm] at this
      omega
    rw [hgot, List.getElem?_take, if_pos hi1]
    unfold everyN
    rw [List.getElem?_map, List.getElem?_range hi2]
    show some (R.getD (s * i) 0) = _
    rw [← hR, lowHex_get _ _ (by rw [hR]; exact hi3)]
    have hd : ds[i]? = some (ds.getD i 0) := by
      rw [List.getD_eq_getElem?_getD, List.getElem?_eq_getElem hi1]; rfl
    rw [lane_sign hs h hd, digit_code (h _ (List.mem_of_getElem? hd))]
  refine ⟨?_, hL, ?_⟩
  · apply List.ext_getElem?
    intro i
    by_cases hi : i < got.length
    · rw [hget i hi, List.getElem?_map, List.getElem?_take, if_pos hi, List.getElem?_eq_getElem (by omega)]
      rw [List.getD_eq_getElem?_getD, List.getElem?_eq_getElem (by omega)]
      rfl
    · rw [List.getElem?_eq_none (by omega), List.getElem?_map, List.getElem?_take, if_neg hi]
      rfl
  · apply List.ext_getElem?
    intro i
    by_cases hi : i < got.length
    · rw [List.getElem?_append_left (by rw [List.length_take]; omega), List.getElem?_take, if_pos hi]
    · rw [List.getElem?_append_right (by rw [List.length_take]; omega), List.getElem?_replicate, List.length_take]
      by_cases hi2 : i < ds.length
      · rw [if_pos (by omega), List.getElem?_eq_getElem hi2]
        congr 1
        have hlen : got.length = (R.length + (s - 1)) / s := by
          have e : got.length = min ds.length ((R.length + (s - 1)) / s) := by
            rw [hgot]
            unfold everyN
            rw [List.length_take, List.length_map, List.length_range]
          omega
        have hpos : 0 < R.length := by
          rw [← hR]
          unfold lowHex
          rw [List.length_reverse, List.length_map]
          exact Nat.length_toDigits_pos
        have hRle : R.length ≤ s * i := by
          have h1 : (R.length + (s - 1)) / s ≤ i := by omega
          have h2 := Nat.lt_mul_div_succ (R.length + (s - 1)) (show 0 < s by omega)
          have h3 : s * ((R.length + (s - 1)) / s + 1) ≤ s * (i + 1) := Nat.mul_le_mul_left _ (by omega)
          rw [Nat.mul_add s i 1] at h3
          omega
        have hlt2 : lanes (4 * s) ds < 16 ^ (s * i) := (lowHex_len (by omega)).mp (by rw [hR]; exact hRle)
        have := lane_sign hs h (List.getElem?_eq_getElem hi2)
        rw [Nat.div_eq_of_lt hlt2] at this
        exact this.symm
      · rw [if_neg (by omega), List.getElem?_eq_none (by omega)]
end SR
namespace SR
open L2 PySem
/-! ### int('0' + filler.join(..), 16) -/
theorem hex_app {l2 : List Nat} : ∀ {l1 : List Nat}, Hx.hexNum (l1 ++ l2) = Hx.hexNum l1 * 16 ^ l2.length + Hx.hexNum l2 := by
  have key : ∀ (l : List Nat) (a : Nat), l.foldl (fun a c => a * 16 + Hx.hv c) a = a * 16 ^ l.length + Hx.hexNum l := by
    intro l
    induction l with
    | nil => intro a; simp [Hx.hexNum]
    | cons c l ih =>
      intro a
      unfold Hx.hexNum
      rw [List.foldl_cons, List.foldl_cons, ih, ih (0 * 16 + Hx.hv c), List.length_cons, Nat.pow_succ, Nat.add_mul, Nat.zero_mul, Nat.zero_add, Nat.mul_assoc, Nat.mul_comm 16, Nat.add_assoc]
  intro l1
  show (l1 ++ l2).foldl (fun a c => a * 16 + Hx.hv c) 0 = _
  rw [List.foldl_append, key]
  rfl
theorem hex_zeros : ∀ {k : Nat}, Hx.hexNum (List.replicate k 48) = 0
  | 0 => rfl
  | k + 1 => by
    rw [List.replicate_succ', hex_app, hex_zeros]
    decide
theorem hex_one {d : Nat} (h : d < 10) : Hx.hexNum [48 + d] = d := by
  show 0 * 16 + Hx.hv (48 + d) = d
  unfold Hx.hv
  rw [if_pos (by omega)]
  omega
/-- the signs of f.join of one-sign texts -/
def joinC (f : List Nat) : List Nat → List Nat
  | [] => []
  | [x] => [x]
  | x :: y :: r => x :: (f ++ joinC f (y :: r))
theorem joinC_len {f : List Nat} : ∀ {r : List Nat} {x : Nat}, (joinC f (x :: r)).length = 1 + (f.length + 1) * r.length
  | [], x => by simp [joinC]
  | y :: r, x => by
    show (x :: (f ++ joinC f (y :: r))).length = _
    rw [List.length_cons, List.length_append, joinC_len, List.length_cons, Nat.mul_add]
    omega
theorem joinC_num {s : Nat} (hs : 1 ≤ s) : ∀ {r : List Nat}, (∀ d ∈ r, d < 10) → Hx.hexNum (joinC (List.replicate (s - 1) 48) (r.map (48 + ·))) = lanes (4 * s) r.reverse
  | [], _ => rfl
  | [x], h => by
    show Hx.hexNum [48 + x] = lanes (4 * s) [x]
    rw [hex_one (h x (List.mem_cons_self ..))]
    simp [lanes]
  | x :: y :: r, h => by
    have ih := joinC_num hs (r := y :: r) fun d hd => h d (List.mem_cons_of_mem _ hd)
    have hx := h x (List.mem_cons_self ..)
    have e : joinC (List.replicate (s - 1) 48) ((x :: y :: r).map (48 + ·)) = [48 + x] ++ (List.replicate (s - 1) 48 ++ joinC (List.replicate (s - 1) 48) ((y :: r).map (48 + ·))) := rfl
    have hl : (joinC (List.replicate (s - 1) 48) ((y :: r).map (48 + ·))).length = 1 + s * r.length := by
      rw [List.map_cons, joinC_len, List.length_replicate, List.length_map, Nat.sub_add_cancel hs]
    rw [e, hex_app, hex_app, hex_zeros, hex_one hx, ih, List.length_append, List.length_replicate, hl, Nat.zero_mul, Nat.zero_add, List.reverse_cons (a := x), lanes_app, List.length_reverse, List.length_cons]
    have e2 : s - 1 + (1 + s * r.length) = s * (r.length + 1) := by rw [Nat.mul_add]; omega
    rw [e2, pow16]
    simp [lanes]
    rw [Nat.mul_comm, Nat.add_comm]
theorem pack_num {s : Nat} {ds : List Nat} (hs : 1 ≤ s) (h : ∀ d ∈ ds, d < 10) : Hx.hexNum (48 :: joinC (List.replicate (s - 1) 48) (ds.reverse.map (48 + ·))) = lanes (4 * s) ds := by
  have := hex_app (l1 := [48]) (l2 := joinC (List.replicate (s - 1) 48) (ds.reverse.map (48 + ·)))
  rw [show [48] ++ joinC (List.replicate (s - 1) 48) (ds.reverse.map (48 + ·)) = 48 :: joinC (List.replicate (s - 1) 48) (ds.reverse.map (48 + ·)) from rfl] at this
  rw [this, joinC_num hs fun d hd => h d (List.mem_reverse.mp hd), List.reverse_reverse, show Hx.hexNum [48] = 0 from by decide, Nat.zero_mul, Nat.zero_add]
theorem pack_hex {s : Nat} : ∀ {r : List Nat}, (∀ d ∈ r, d < 10) → ∀ c ∈ joinC (List.replicate (s - 1) 48) (r.map (48 + ·)), Hx.IsHex c
  | [], _, c, hc => nomatch hc
  | [x], h, c, hc => by
    have hx := h x (List.mem_cons_self ..)
    rw [show joinC (List.replicate (s - 1) 48) ([x].map (48 + ·)) = [48 + x] from rfl, List.mem_singleton] at hc
    subst hc
    exact Or.inl (by omega)
  | x :: y :: r, h, c, hc => by
    have hx := h x (List.mem_cons_self ..)
    have e : joinC (List.replicate (s - 1) 48) ((x :: y :: r).map (48 + ·)) = (48 + x) :: (List.replicate (s - 1) 48 ++ joinC (List.replicate (s - 1) 48) ((y :: r).map (48 + ·))) := rfl
    rw [e] at hc
    rcases List.mem_cons.mp hc with rfl | hc
    · exact Or.inl (by omega)
    · rcases List.mem_append.mp hc with hc | hc
      · rw [List.eq_of_mem_replicate hc]
        exact Or.inl (by omega)
      · exact pack_hex (r := y :: r) (fun d hd => h d (List.mem_cons_of_mem _ hd)) c hc
end SR
set_option maxRecDepth 100000
set_option maxHeartbeats 4000000
namespace SR
open PySem PySem.Spec PyProof.Rows L2 Evl
/-! ### lists of digits, texts in known data -/
def digs {ω : Type} (l : List Nat) : List (D ω) := l.map fun (d : Nat) => D.int (d : Int)
section
variable {ω : Type} {K : PySem.W.Frag} {O : OI ω} {G H : Hp} {te ta tb to : TE} {σ : L2.St}
theorem digs_len {l : List Nat} : (digs (ω := ω) l).length = l.length := List.length_map ..
theorem AtL.strs' : ∀ {ys : List Str} {vs : List V}, AtL K O G (ys.map D.str) vs → vs = ys.map V.str
  | [], vs, h => atL_nil.mp h
  | n :: r, vs, h => by
    obtain ⟨v, w, rfl, h2, h3⟩ := atL_cons.mp h
    rw [at_str.mp h2, AtL.strs' h3]
    rfl
/-- a comprehension without a test, item by item -/
theorem ed_lcI {wi : TI} {g : TG} {vs : List Nat} {ds es : List (D ω)} (hs : Src K O wi σ G ds) (hl : es.length = ds.length) (hz : ds.length ≤ 40000)
    (body : ∀ (i : Nat) (d c : D ω) (x : V) (Gi Hi : Hp), ds[i]? = some d → es[i]? = some c → Ex G Gi → Ex Gi Hi → At K O Gi d x → ∀ Q : L2.St → Hp → Prop,
      (∀ σ2 H2, Ex Hi H2 → wipe σ2 vs = wipe σ vs → EvD K O te σ2 Gi c → Q σ2 H2) → g x (wipe σ vs) Hi Q) :
    EvD K O (tLc wi g tYes te vs) σ G (.lst es) := fun H1 e Q k => by
  refine hs H1 e _ fun J Gd Y G0 H0 l0 w hG yl => ?_
  intro Dl hD
  refine lc_it w (fun i H => ∃ Gi us, Le G0 H0 Gi H ∧ H Dl = some (.lst us) ∧ Gi Dl = none ∧ AtL K O Gi (es.take i) us)
    ⟨G0, [], Le.newM l0.e hD, upd_same, none_of_ex l0.e hD, by simp; exact atL_nil.mpr rfl⟩ (fun i H _ p => ?_) (fun i x Hi Hi' hi p y => ?_) fun H p => ?_
  · obtain ⟨Gi, us, l, _⟩ := p
    exact hG H (l.g.trans l.e)
  · obtain ⟨Gi, us, l, hu, gn, as⟩ := p
    obtain ⟨d, Gi', hd, l', ad⟩ := yl i Gi Hi x Hi' l.g l.e hi y
    have hc : es[i]? = some es[i] := List.getElem?_eq_getElem (by omega)
    have tk := take_snoc hc
    have gn' : Gi' Dl = none := l'.gnone gn (by rw [hu]; exact fun z => nomatch z)
    have hu' : Hi' Dl = some (.lst us) := l'.h Dl _ hu
    have lt : Le G0 H0 Gi' Hi' := l.trans l'
    refine body i d es[i] x Gi' Hi' hd hc (l0.g.trans lt.g) l'.e ad _ fun σ2 H2 e2 hw he => ⟨hw, ?_⟩
    refine et_yes (G := Gi') H2 (l'.e.trans e2) _ fun H3 e3 => ?_
    have e23 := e2.trans e3
    have lt3 : Le G0 H0 Gi' H3 := lt.trans (Le.heap l'.e e23)
    rw [if_pos rfl]
    refine he H3 (l'.e.trans e23) _ fun u G4 H4 l4 a4 => ?_
    have hu4 : H4 Dl = some (.lst us) := l4.h Dl _ (e23 Dl _ hu')
    have gn4 : G4 Dl = none := l4.gnone gn' (by rw [e23 Dl _ hu']; exact fun z => nomatch z)
    have ul : us.length ≤ i := by
      have := as.len
      simp at this
      omega
    refine ⟨us, hu4, sz_lt (by omega), G4, us ++ [u], (lt3.trans l4).mut hD gn4, upd_same, gn4, ?_⟩
    rw [tk]
    exact (as.mono (l'.g.trans l4.g)).app (AtL.one a4)
  · obtain ⟨Gi, us, l, hu, gn, as⟩ := p
    rw [← hl, List.take_length] at as
    exact k (.ref Dl) (upd Gi Dl (.lst us)) H (l0.trans (Le.fix l0.e l hD hu)) (at_lst.mpr ⟨Dl, us, rfl, upd_same, as.mono (Ex.new gn)⟩)
theorem tg_name {i : Nat} {x : V} {Q : L2.St → Hp → Prop} (q : Q (σ.set i (some x)) H) : gName i x σ H Q := q
theorem ed_revL {ds : List (D ω)} (h : EvD K O te σ G (.lst ds)) : EvD K O (tRevL K te) σ G (.lst ds.reverse) := fun H1 e Q k =>
  h H1 e _ fun v G2 H2 l a => by
    obtain ⟨p, vs, rfl, hp, as⟩ := at_lst.mp a
    exact ⟨p, vs, rfl, sq_of (l.e _ _ hp), fun q hq => k (.ref q) (upd G2 q (.lst vs.reverse)) _ (l.trans (Le.new l.e hq)) (at_lst.mpr ⟨q, _, rfl, upd_same, (AtL.rev as).mono (Ex.new (none_of_ex l.e hq))⟩)⟩
abbrev rJoin (K : PySem.W.Frag) : V → List V → Hp → VK → Prop := fun x xs H Q => ∃ a p, ∃ ys : List Str, x = .str a ∧ xs = [.ref p] ∧ (SqL K H p (ys.map V.str) ∨ SqT K H p (ys.map V.str)) ∧
      (ys.map (·.length)).sum + ys.length * a.length ≤ 16777216 ∧ Q (.str (Txt.join a ys)) H
theorem ev_join {sep : Str} {ys : List Str} (h1 : Ev to σ G (.str sep)) (h2 : EvD K O te σ G (.lst (ys.map D.str))) (hz : (ys.map (·.length)).sum + ys.length * sep.length ≤ 16777216) : Ev (tM1 (rJoin K) to te) σ G (.str (Txt.join sep ys)) := fun H1 e Q q =>
  h1 H1 e _ fun H2 e2 => ⟨⟨_, rfl⟩, h2 H2 (e.trans e2) _ fun v G3 H3 l3 a3 => by
    obtain ⟨p, vs, rfl, hp, as⟩ := at_lst.mp a3
    rw [AtL.strs' as] at hp
    exact ⟨sep, p, ys, rfl, rfl, Or.inl (sq_of (l3.e _ _ hp)), hz, q H3 (e2.trans l3.h)⟩⟩
theorem ev_cat {a b : Str} (h1 : Ev ta σ G (.str a)) (h2 : Ev tb σ G (.str b)) (hz : a.length + b.length ≤ sizeLine) : Ev (tOp (fun x y H Q => ∃ i j, x = .str i ∧ y = .str j ∧ i.length + j.length ≤ sizeLine ∧ Q (.str (i ++ j)) H) ta tb) σ G (.str (a ++ b)) :=
  ev_op h1 h2 fun H1 _ _ q => ⟨a, b, rfl, rfl, hz, q H1 (Ex.refl H1)⟩
theorem ev_hex16 {l : List Nat} (h : Ev te σ G (.str (SX.S l))) (hne : l ≠ []) (hl : l.length ≤ 640) (hx : ∀ c ∈ l, Hx.IsHex c) : Ev (tCB rIntHex (tCons te (tCons (tC (.int 16)) tNil))) σ G (.int ((Hx.hexNum l : Nat) : Int)) :=
  ev_cb (ea_cons h (ea_cons ev_c ea_nil)) fun H1 _ _ q => ⟨l, rfl, hne, hl, hx, q H1 (Ex.refl H1)⟩
theorem ev_strI {i : Int} (h : Ev te σ G (.int i)) (hz : i.natAbs.log2 < 1920) : Ev (tCB (fun xs H Q => ∃ i, xs = [V.int i] ∧ i.natAbs.log2 < 1920 ∧ Q (.str (toString i)) H) (tCons te tNil)) σ G (.str (toString i)) :=
  ev_cb (ea_cons h ea_nil) fun H1 _ _ q => ⟨i, rfl, hz, q H1 (Ex.refl H1)⟩
theorem str_dig {d : Nat} (h : d < 10) : (Str.ofString (toString (d : Int)) : Str) = SX.S [48 + d] := by
  have : d = 0 ∨ d = 1 ∨ d = 2 ∨ d = 3 ∨ d = 4 ∨ d = 5 ∨ d = 6 ∨ d = 7 ∨ d = 8 ∨ d = 9 := by omega
  rcases this with rfl | rfl | rfl | rfl | rfl | rfl | rfl | rfl | rfl | rfl <;> decide +kernel
theorem ev_repS {c k : Nat} (h1 : Ev ta σ G (.str ⟨#[c]⟩)) (h2 : Ev tb σ G (.int (k : Int))) (hk : k ≤ 10000) : Ev (tOp (fun x y H Q => ∃ c k : Nat, x = .str ⟨#[c]⟩ ∧ y = .int (k : Int) ∧ k ≤ 10000 ∧ Q (.str (repS c k)) H) ta tb) σ G (.str (repS c k)) :=
  ev_op h1 h2 fun H1 _ _ q => ⟨c, k, rfl, rfl, hk, q H1 (Ex.refl H1)⟩
theorem joinL_one {f : List Nat} : ∀ {r : List Nat}, TL.joinL f (r.map fun x => [x]) = joinC f r
  | [] => rfl
  | [x] => rfl
  | x :: y :: r => by
    have ih := joinL_one (f := f) (r := y :: r)
    show [x] ++ (f ++ TL.joinL f ((y :: r).map fun x => [x])) = x :: (f ++ joinC f (y :: r))
    rw [ih]
    rfl
theorem join_one {f r : List Nat} : Txt.join (SX.S f) (r.map fun x => SX.S [x]) = SX.S (joinC f r) := by
  rw [TL.join_eq]
  refine TL.ext_tl ?_
  rw [TL.tl_join, List.map_map]
  show TL.joinL f (r.map fun x => [x]) = joinC f r
  exact joinL_one
/-- the signs of a text -/
def chrs {ω : Type} (l : List Nat) : List (D ω) := l.map fun c => D.str ⟨#[c]⟩
theorem src_str {tl : TE} {l : List Nat} (h : Ev tl σ G (.str (SX.S l))) : Src K O (iStr tl) σ G (chrs (ω := ω) l) := fun H1 e R k =>
  h H1 e _ fun H2 e2 => ⟨_, rfl, k _ _ _ G H2 (Le.heap e e2) (by
    have w := walk_str (z := SX.S l)
    rw [show (SX.S l).cps.size = (chrs (ω := ω) l).length by simp [chrs]] at w
    exact w) (fun _ _ => trivial) fun i Gi Hi x Hi' eg eh hi y => by
      obtain ⟨rfl, c, hc, rfl⟩ := y
      refine ⟨.str ⟨#[c]⟩, Gi, ?_, Le.refl eh, at_str.mpr rfl⟩
      unfold chrs
      rw [List.getElem?_map]
      have hc' : l[i]? = some c := by simpa using hc
      rw [hc']
      rfl⟩
end
section
variable {ω : Type} {K : PySem.W.Frag} {O : OI ω} {G H : Hp} {te ta tb to : TE} {σ : L2.St}
end
section
variable {ω : Type} {P : Program} {w : World} {K : PySem.W.Frag} {mg : Str → Option Value} {base : Heap} {O : OI ω}
/-! ### pack -/
def rPack : List (D ω) → D ω → Prop := fun ds r => ∃ (l : List Nat) (s : Nat), ds = [.lst (digs l), .int (s : Int)] ∧ 1 ≤ s ∧ s ≤ 100 ∧ (∀ d ∈ l, d < 10) ∧ s * l.length + 1 ≤ 640 ∧ r = .int ((lanes (4 * s) l : Nat) : Int)
abbrev pack_S : Stmt := topS 21
abbrev pack_N : List Str := ["digits", "signs", "filler", "digit"]
theorem pack_sc : FnScope pack_N ["digits", "signs"] (defScope pack_S) := ⟨rfl, rfl, rfl, by decide +kernel, rfl, by decide +kernel, by decide +kernel⟩
theorem ok_pack {f : Addr} {fd : FuncData} (F : Fun K "pack" "pack" pack_S f fd) (B : Bi mg) (gs : mg "str" = none) : FnOk P w K mg base CX0 1 f fd ["digits", "signs"] (SpD K O rPack) := by
  refine F.ok pack_sc (fun vs H Q E h => ?_) (fun cdv A outer s H vs Q E hr h => ?_)
  · obtain ⟨G, ds, d, e, as, ⟨l, s, rfl, _⟩, k⟩ := h
    exact as.len
  · obtain ⟨G, ds, d, e, as, ⟨l, s, rfl, h1, h2, hd, hz, rfl⟩, k⟩ := h
    obtain ⟨v, r, rfl, a, n⟩ := atL_cons.mp as
    obtain ⟨v2, r, rfl, a2, n2⟩ := atL_cons.mp n
    obtain rfl := atL_nil.mp n2
    obtain rfl := at_int.mp a2
    refine ⟨_, (pss_cons (ps_set (i := 2) pack_sc.nd rfl (Or.inl rfl) (pe_op op_repS pe_str (pe_op op_sub (pv 1) pe_int)))
    (pss_one (ps_ret (pe_callTy call_int_hex (by rfl) B.int (by decide +kernel) (pa_cons (pe_op op_add_str pe_str (pe_join (pv 2) (pe_lc (own := [("digit", 3)]) rfl pack_sc.nd (pi_list (pe_revL (pv 0))) (blkOk_by (N := pack_N) (sc := defScope pack_S) (by decide +kernel)) (fun _ _ _ _ _ => (pg_name (i := 3) pack_sc.nd rfl (Or.inl rfl))) (fun _ _ _ _ _ => pts_nil) (fun _ _ _ _ _ => by exact (pe_callTy call_str_int (by rfl) gs (by decide +kernel) (pa_cons (pv 3) pa_nil)))))) (pa_cons pe_int pa_nil)))))), ?_⟩
    have hlen : ∀ x ∈ l.reverse, x < 10 := fun x hx => hd x (List.mem_reverse.mp hx)
    refine q_asgV (v := .str (repS 48 (s - 1))) (ev_repS ev_c (ev_is (ev_op (ev_var (i := 1) rfl) ev_c rv_I0) (by show V.int ((s : Int) - 1) = V.int ((s - 1 : Nat) : Int); congr 1; omega)) (by omega)) e fun H2 l2 => ?_
    have hj : EvD K O (tLc (iList K (tRevL K (tVar 0))) (gName 3) tYes (tCB (fun xs H Q => ∃ i, xs = [V.int i] ∧ i.natAbs.log2 < 1920 ∧ Q (.str (toString i)) H) (tCons (tVar 3) tNil)) [3]) [some v, some (.int (s : Int)), some (.str (repS 48 (s - 1))), none] G (.lst ((l.reverse.map fun d => SX.S [48 + d]).map D.str)) := by
      refine ed_lcI (ds := (digs l).reverse) (src_list (ed_revL (ed_var (i := 0) rfl a))) (by simp [digs]) (by rw [List.length_reverse, digs_len]; have : 1 * l.length ≤ s * l.length := Nat.mul_le_mul_right _ h1; omega) fun i d c x Gi Hi hd' hc eg2 eh2 ad Q' hQ => ?_
      have hrev : (digs (ω := ω) l).reverse = digs l.reverse := by unfold digs; rw [List.map_reverse]
      rw [hrev] at hd'
      unfold digs at hd'
      rw [List.getElem?_map] at hd'
      rw [List.getElem?_map, List.getElem?_map] at hc
      obtain ⟨z, hz', rfl⟩ := Option.map_eq_some_iff.mp hd'
      rw [hz'] at hc
      obtain rfl := (Option.some.inj hc).symm
      obtain rfl := at_int.mp ad
      have hz10 := hlen z (List.mem_of_getElem? hz')
      refine tg_name (hQ _ Hi (Ex.refl _) rfl (ed_of (ev_is (ev_strI (ev_var (i := 3) rfl) ?_) (by rw [str_dig hz10])) (at_str.mpr rfl)))
      have : (z : Int).natAbs = z := rfl
      rw [this]
      exact Nat.lt_of_le_of_lt (Nat.log2_le_self z) (by omega)
    have hsl : 1 * l.length ≤ s * l.length := Nat.mul_le_mul_right _ h1
    have hjl : (joinC (List.replicate (s - 1) 48) (l.reverse.map (48 + ·))).length ≤ s * l.length := by
      cases hr' : l.reverse with
      | nil => simp [joinC]
      | cons x0 r0 =>
        rw [List.map_cons, joinC_len, List.length_replicate, Nat.sub_add_cancel h1, List.length_map]
        have : l.length = r0.length + 1 := by rw [← List.length_reverse, hr']; rfl
        rw [this, Nat.mul_add]
        omega
    refine s_retD (d := .int ((lanes (4 * s) l : Nat) : Int)) (ed_of (ev_is (ev_hex16 (l := 48 :: joinC (List.replicate (s - 1) 48) (l.reverse.map (48 + ·))) (ev_is (ev_cat ev_c (ev_join (ev_var (i := 2) rfl) hj ?_) ?_) ?_) (by simp) (by simp only [List.length_cons]; omega) ?_) ?_) (at_int.mpr rfl)) l2.e (k.mono l2)
    · have hsum : ∀ r : List Nat, ((r.map fun d => SX.S [48 + d]).map (·.length)).sum = r.length := fun r => by
        induction r with
        | nil => rfl
        | cons x r ih =>
          rw [List.map_cons, List.map_cons, List.sum_cons, ih, SX.S_len]
          simp
          omega
      rw [hsum, List.length_map, List.length_reverse]
      have : (repS 48 (s - 1)).length = s - 1 := by
        show ((List.replicate (s - 1) 48).toArray).size = s - 1
        simp
      rw [this]
      have h5 : l.length * (s - 1) ≤ l.length * s := Nat.mul_le_mul_left _ (by omega)
      rw [Nat.mul_comm l.length s] at h5
      omega
    · rw [show (l.reverse.map fun d => SX.S [48 + d]) = (l.reverse.map (48 + ·)).map fun x => SX.S [x] by rw [List.map_map]; rfl]
      show _ + (Txt.join (SX.S (List.replicate (s - 1) 48)) _).length ≤ _
      rw [join_one, sizeLine_eq]
      have h6 := SX.S_len (joinC (List.replicate (s - 1) 48) (l.reverse.map (48 + ·)))
      have : (Str.ofString "0").length = 1 := by decide
      show (Str.ofString "0").length + (SX.S (joinC (List.replicate (s - 1) 48) (l.reverse.map (48 + ·)))).length ≤ _
      omega
    · rw [show (l.reverse.map fun d => SX.S [48 + d]) = (l.reverse.map (48 + ·)).map fun x => SX.S [x] by rw [List.map_map]; rfl]
      show V.str (Str.ofString "0" ++ Txt.join (SX.S (List.replicate (s - 1) 48)) _) = _
      rw [join_one, show (Str.ofString "0") = SX.S [48] by decide, SX.S_cat]
      rfl
    · intro c hc
      rcases List.mem_cons.mp hc with rfl | hc
      · exact Or.inl (by omega)
      · exact pack_hex hlen c hc
    · rw [pack_num h1 hd]
end
end SR
set_option maxRecDepth 100000
set_option maxHeartbeats 4000000
namespace SR
open PySem PySem.Spec PyProof.Rows L2 Evl
section
variable {ω : Type} {K : PySem.W.Frag} {O : OI ω} {G H : Hp} {te ta tb to : TE} {σ : L2.St}
theorem ev_hexS {n : Nat} (h : Ev te σ G (.int (n : Int))) (hz : (hexS n).length ≤ sizeLine) : Ev (tHex te) σ G (.str (hexS n)) := fun H1 e Q q => h H1 e _ fun H2 e2 => ⟨n, rfl, hz, q H2 e2⟩
theorem ev_revS {z : Str} {ts : TE} (h : Ev te σ G (.str z)) (h2 : Ev ts σ G (.int (-1))) (hz : z.length ≤ sizeLine) : Ev (tStepS te ts) σ G (.str (revS z)) := fun H1 e Q q =>
  h H1 e _ fun H2 e2 => h2 H2 (e.trans e2) _ fun H3 e3 => ⟨z, -1, rfl, rfl, hz, Or.inl ⟨rfl, q H3 (e2.trans e3)⟩⟩
theorem ev_stepS {z : Str} {ts : TE} {m : Nat} (h : Ev te σ G (.str z)) (h2 : Ev ts σ G (.int (m : Int))) (hz : z.length ≤ sizeLine) (hm : 2 ≤ m) : Ev (tStepS te ts) σ G (.str (evS m z)) := fun H1 e Q q =>
  h H1 e _ fun H2 e2 => h2 H2 (e.trans e2) _ fun H3 e3 => ⟨z, m, rfl, rfl, hz, Or.inr ⟨m, rfl, hm, q H3 (e2.trans e3)⟩⟩
theorem ev_cutS {z : Str} {c : Int} (h : Ev te σ G (.str z)) (h2 : Ev ta σ G (.int c)) (hz : z.length ≤ sizeLine) : Ev (tSl rSlS te tNoPart (tPart ta)) σ G (.str (cutS z none (some c))) := fun H1 e Q q =>
  h H1 e _ fun H2 e2 => h2 H2 (e.trans e2) _ fun H3 e3 => ⟨c, rfl, z, rfl, hz, q H3 (e2.trans e3)⟩
theorem revS_hex {n : Nat} : revS (hexS n) = SX.S (lowHex n) := by
  unfold revS hexS lowHex SX.S
  simp
theorem cutS_take {l : List Nat} {c : Nat} : cutS (SX.S l) none (some (c : Int)) = SX.S (l.take c) := by
  have e0 : HT.sIx (SX.S l).length 0 none = 0 := rfl
  have e1 : HT.sIx (SX.S l).length (SX.S l).length (some (c : Int)) = min c l.length := by rw [SX.S_len, HT.sIx_nat]
  unfold cutS
  rw [e0, e1]
  show SX.S _ = SX.S _
  congr 1
  show (List.drop 0 l).take (min c l.length - 0) = l.take c
  rw [List.drop_zero, Nat.sub_zero]
  rcases Nat.le_total c l.length with q | q
  · rw [Nat.min_eq_left q]
  · rw [Nat.min_eq_right q, List.take_length, List.take_of_length_le q]
theorem evS_every {k : Nat} {l : List Nat} : evS k (SX.S l) = SX.S (everyN k l) := rfl
theorem hex_len {n k : Nat} (hk : 0 < k) (h : n < 16 ^ k) : (hexS n).length ≤ k := by
  have := (lowHex_len (n := n) hk).mpr h
  unfold lowHex at this
  rw [List.length_reverse] at this
  show (((Nat.toDigits 16 n).map Char.toNat).toArray).size ≤ k
  rw [List.size_toArray]
  exact this
theorem lanes_hex {s : Nat} {l : List Nat} (h : ∀ d ∈ l, d < 10) (hs : 1 ≤ s) : lanes (4 * s) l < 16 ^ (s * l.length + 1) := by
  have hb : 10 ≤ 2 ^ (4 * s) := by
    calc 10 ≤ 2 ^ 4 := by decide
      _ ≤ 2 ^ (4 * s) := Nat.pow_le_pow_right (by decide) (by omega)
  have h1 := lanes_lt (b := 4 * s) (xs := l) fun x hx => Nat.lt_of_lt_of_le (h x hx) hb
  have h2 : (16 : Nat) ^ (s * l.length + 1) = 2 ^ (4 * (s * l.length + 1)) := by rw [Nat.pow_mul]
  rw [h2]
  refine Nat.lt_of_lt_of_le h1 (Nat.pow_le_pow_right (by decide) ?_)
  rw [Nat.mul_assoc]
  omega
theorem sh_cast (a : Nat) : V.int ((1 : Int) * 2 ^ ((a : Nat) : Int).toNat - 1) = V.int ((2 ^ a - 1 : Nat) : Int) := by
  have h6 : 1 ≤ 2 ^ a := Nat.one_le_two_pow
  rw [Int.toNat_natCast, Int.one_mul, ← PySem.W.kbt_cast a]
  congr 1
  omega
theorem int_dig {d : Nat} (h : d < 10) : PySem.intText? ⟨#[48 + d]⟩ = some (d : Int) := by
  have : d = 0 ∨ d = 1 ∨ d = 2 ∨ d = 3 ∨ d = 4 ∨ d = 5 ∨ d = 6 ∨ d = 7 ∨ d = 8 ∨ d = 9 := by omega
  rcases this with rfl | rfl | rfl | rfl | rfl | rfl | rfl | rfl | rfl | rfl <;> decide +kernel
theorem ev_intS {a : Str} {n : Int} (h : Ev te σ G (.str a)) (hn : PySem.intText? a = some n) (hl : a.length ≤ 640) : Ev (tCB (fun xs H Q => ∃ a n, xs = [V.str a] ∧ PySem.intText? a = some n ∧ a.length ≤ 640 ∧ Q (.int n) H) (tCons te tNil)) σ G (.int n) :=
  ev_cb (ea_cons h ea_nil) fun H1 _ _ q => ⟨a, n, rfl, hn, hl, q H1 (Ex.refl H1)⟩
end
section
variable {ω : Type} {P : Program} {w : World} {K : PySem.W.Frag} {mg : Str → Option Value} {base : Heap} {O : OI ω}
/-! ### unpack -/
def rUnpack : List (D ω) → D ω → Prop := fun ds r => ∃ (l : List Nat) (s : Nat), ds = [.int ((lanes (4 * s) l : Nat) : Int), .int (s : Int), .int (l.length : Int)] ∧ 2 ≤ s ∧ s ≤ 100 ∧ (∀ d ∈ l, d < 10) ∧ l.length ≤ 30000 ∧ r = .lst (digs l)
abbrev unpack_S : Stmt := topS 22
abbrev unpack_N : List Str := ["total", "signs", "count", "text", "digits", "sign", "slot"]
theorem unpack_sc : FnScope unpack_N ["total", "signs", "count"] (defScope unpack_S) := ⟨rfl, rfl, rfl, by decide +kernel, rfl, by decide +kernel, by decide +kernel⟩
theorem ok_unpack {f : Addr} {fd : FuncData} (F : Fun K "unpack" "unpack" unpack_S f fd) (B : Bi mg) : FnOk P w K mg base CX0 1 f fd ["total", "signs", "count"] (SpD K O rUnpack) := by
  refine F.ok unpack_sc (fun vs H Q E h => ?_) (fun cdv A outer s H vs Q E hr h => ?_)
  · obtain ⟨G, ds, d, e, as, ⟨l, s, rfl, _⟩, k⟩ := h
    exact as.len
  · obtain ⟨G, ds, d, e, as, ⟨l, s, rfl, h1, h2, hd, hz, rfl⟩, k⟩ := h
    obtain ⟨v, r, rfl, a, n⟩ := atL_cons.mp as
    obtain ⟨v2, r, rfl, a2, n2⟩ := atL_cons.mp n
    obtain ⟨v3, r, rfl, a3, n3⟩ := atL_cons.mp n2
    obtain rfl := atL_nil.mp n3
    obtain rfl := at_int.mp a
    obtain rfl := at_int.mp a2
    obtain rfl := at_int.mp a3
    refine ⟨_, (pss_cons (ps_set (i := 3) unpack_sc.nd rfl (Or.inl rfl) (pe_hex (pv 0) rfl))
    (pss_cons (ps_setLc (i := 4) (own := [("sign", 5)]) rfl unpack_sc.nd rfl rfl (sw_true rfl rfl rfl (by decide +kernel)) (pi_str (pe_slice sl_str (pe_stepS (pe_stepS (pv 3) (pe_un un_neg pe_int)) (pv 1)) po_none (po_some (pv 2)))) (blkOk_by (N := unpack_N) (sc := defScope unpack_S) (by decide +kernel)) (fun _ _ _ _ _ => (pg_name (i := 5) unpack_sc.nd rfl (Or.inl rfl))) (fun _ _ _ _ _ => pts_nil) (fun _ _ _ _ _ => by exact (pe_callTy call_int_str (by rfl) B.int (by decide +kernel) (pa_cons (pv 5) pa_nil))))
    (pss_one (ps_ret (pe_op op_cat (pv 4) (pe_lc (own := [("slot", 6)]) rfl unpack_sc.nd (pi_range1 (by rfl) B.range (pa_cons (pe_op op_sub (pv 2) (pe_callB (call_lenK K) (by rfl) B.len (by decide +kernel) (pa_cons (pv 4) pa_nil))) pa_nil)) (blkOk_by (N := unpack_N) (sc := defScope unpack_S) (by decide +kernel)) (fun _ _ _ _ _ => (pg_name (i := 6) unpack_sc.nd rfl (Or.inl rfl))) (fun _ _ _ _ _ => pts_nil) (fun _ _ _ _ _ => by exact pe_int))))))), ?_⟩
    have hsl : s * l.length ≤ 100 * 30000 := Nat.mul_le_mul h2 hz
    have hX : (hexS (lanes (4 * s) l)).length ≤ s * l.length + 1 := hex_len (by omega) (lanes_hex hd (by omega))
    have hX2 : (SX.S (lowHex (lanes (4 * s) l))).length ≤ s * l.length + 1 := by rw [← revS_hex, revS_len]; exact hX
    have hX3 : (SX.S (everyN s (lowHex (lanes (4 * s) l)))).length ≤ s * l.length + 1 := by
      rw [← evS_every]
      exact Nat.le_trans (evS_len h1) hX2
    refine q_asgV (v := .str (hexS (lanes (4 * s) l))) (ev_hexS (ev_var (i := 0) rfl) (by rw [sizeLine_eq]; omega)) e fun H2 l2 => ?_
    obtain ⟨hg1, hg2, hg3⟩ := unpack_digits (s := s) (ds := l) (by omega) hd
    generalize hgot : (everyN s (lowHex (lanes (4 * s) l))).take l.length = got at hg1 hg2 hg3
    have hcomp : EvD K O (tLc (iStr (tSl rSlS (tStepS (tStepS (tVar 3) (tUn (rU fun i => .int (-i)) (tC (.int 1)))) (tVar 1)) tNoPart (tPart (tVar 2)))) (gName 5) tYes (tCB (fun xs H Q => ∃ a n, xs = [V.str a] ∧ PySem.intText? a = some n ∧ a.length ≤ 640 ∧ Q (.int n) H) (tCons (tVar 5) tNil)) [5]) [some (.int ((lanes (4 * s) l : Nat) : Int)), some (.int (s : Int)), some (.int (l.length : Int)), some (.str (hexS (lanes (4 * s) l))), none, none, none] G (.lst (digs (l.take got.length))) := by
      refine ed_lcI (ds := chrs got) (src_str (ev_is (ev_cutS (ev_stepS (ev_revS (ev_var (i := 3) rfl) (ev_is (ev_un ev_c fun H1 _ _ q => ⟨_, rfl, q H1 (Ex.refl H1)⟩) rfl) (by rw [sizeLine_eq]; omega)) (ev_var (i := 1) rfl) (by rw [revS_len, sizeLine_eq]; omega) h1) (ev_var (i := 2) rfl) ?_) ?_)) ?_ ?_ ?_
      · rw [revS_hex, evS_every, sizeLine_eq]; omega
      · rw [revS_hex, evS_every, cutS_take, hgot]
      · unfold digs chrs; rw [List.length_map, List.length_map, List.length_take]; omega
      · unfold chrs; rw [List.length_map]; omega
      · intro i d c x Gi Hi hdi hc eg2 eh2 ad Q' hQ
        unfold chrs at hdi
        unfold digs at hc
        rw [List.getElem?_map] at hdi hc
        obtain ⟨z, hz', rfl⟩ := Option.map_eq_some_iff.mp hdi
        obtain ⟨y, hy, rfl⟩ := Option.map_eq_some_iff.mp hc
        rw [hg1, List.getElem?_map, hy] at hz'
        obtain rfl := (Option.some.inj hz').symm
        obtain rfl := at_str.mp ad
        have hy10 : y < 10 := hd y (List.mem_of_mem_take (List.mem_of_getElem? hy))
        exact tg_name (hQ _ Hi (Ex.refl _) rfl (ed_of (ev_intS (ev_var (i := 5) rfl) (int_dig hy10) (by show 1 ≤ 640; decide)) (at_int.mpr rfl)))
    refine q_asgD hcomp l2.e fun vg G3 H3 l3 a3 => ?_
    refine s_retD (d := .lst (digs l)) ?_ l3.e (k.mono (l2.trans l3))
    have hzero : ∀ x6, EvD K O (tLc (iRng1 (tCons (tOp (rI0 fun i j => .int (i - j)) (tVar 2) (tCB (fun xs H Q => ∃ p ys, xs = [V.ref p] ∧ (SqL K H p ys ∨ SqT K H p ys) ∧ Q (.int ys.length) H) (tCons (tVar 4) tNil))) tNil)) (gName 6) tYes (tC (.int 0)) [6]) [some (.int ((lanes (4 * s) l : Nat) : Int)), some (.int (s : Int)), some (.int (l.length : Int)), some (.str (hexS (lanes (4 * s) l))), some vg, none, x6] G3 (.lst (digs (List.replicate (l.length - got.length) 0))) := fun x6 => by
      have hn : ((l.length : Int) - ((dLen (ω := ω) (.lst (digs (l.take got.length))) : Nat) : Int)) = ((l.length - got.length : Nat) : Int) := by
        show ((l.length : Int) - (((digs (ω := ω) (l.take got.length)).length : Nat) : Int)) = _
        rw [digs_len, List.length_take]
        omega
      refine ed_lcI (ds := rngD 0 (l.length - got.length)) (src_r1 (n := ((l.length - got.length : Nat) : Int)) (ea_cons (ev_is (ev_op (ev_var (i := 2) rfl) (len_d (ed_var (i := 4) rfl a3) rfl) rv_I0) (by rw [hn])) ea_nil) ⟨by omega, by omega⟩) ?_ ?_ ?_
      · unfold digs rngD; simp
      · unfold rngD; simp; omega
      · intro i d c x Gi Hi hdi hc eg2 eh2 ad Q' hQ
        unfold digs at hc
        rw [List.getElem?_map] at hc
        obtain ⟨y, hy, rfl⟩ := Option.map_eq_some_iff.mp hc
        have hy0 := List.eq_of_mem_replicate (List.mem_of_getElem? hy)
        subst hy0
        exact tg_name (hQ _ Hi (Ex.refl _) rfl (ed_of ev_c (at_int.mpr rfl)))
    have hcat := ed_cat (K := K) (ed_var (i := 4) rfl a3) (hzero none) (by rw [digs_len, digs_len, List.length_take, List.length_replicate]; omega)
    have e9 : digs (ω := ω) (l.take got.length) ++ digs (List.replicate (l.length - got.length) 0) = digs l := by
      unfold digs
      rw [← List.map_append, ← hg3]
    rw [e9] at hcat
    exact hcat
/-! ### slot_mask -/
def rSlotMask : List (D ω) → D ω → Prop := fun ds r => ∃ s b n : Nat, ds = [.int (s : Int), .int (b : Int), .int (n : Int)] ∧ 1 ≤ s ∧ s ≤ 100 ∧ b ≤ 4 * s ∧ 4 * s * n ≤ 1000000 ∧ r = .int ((lanes (4 * s) (List.replicate n (2 ^ (4 * s - b) - 1)) : Nat) : Int)
abbrev slot_mask_S : Stmt := topS 23
abbrev slot_mask_N : List Str := ["signs", "bits", "count", "size", "ones"]
theorem slot_mask_sc : FnScope slot_mask_N ["signs", "bits", "count"] (defScope slot_mask_S) := ⟨rfl, rfl, rfl, by decide +kernel, rfl, by decide +kernel, by decide +kernel⟩
theorem ok_slot_mask {f : Addr} {fd : FuncData} (F : Fun K "slot_mask" "slot_mask" slot_mask_S f fd) : FnOk P w K mg base CX0 1 f fd ["signs", "bits", "count"] (SpD K O rSlotMask) := by
  refine F.ok slot_mask_sc (fun vs H Q E h => ?_) (fun cdv A outer s H vs Q E hr h => ?_)
  · obtain ⟨G, ds, d, e, as, ⟨s, b, n, rfl, _⟩, k⟩ := h
    exact as.len
  · obtain ⟨G, ds, d, e, as, ⟨s, b, n, rfl, h1, h2, h3, h4, rfl⟩, k⟩ := h
    obtain ⟨v, r, rfl, a, n1⟩ := atL_cons.mp as
    obtain ⟨v2, r, rfl, a2, n2⟩ := atL_cons.mp n1
    obtain ⟨v3, r, rfl, a3, n3⟩ := atL_cons.mp n2
    obtain rfl := atL_nil.mp n3
    obtain rfl := at_int.mp a
    obtain rfl := at_int.mp a2
    obtain rfl := at_int.mp a3
    refine ⟨_, (pss_cons (ps_set (i := 3) slot_mask_sc.nd rfl (Or.inl rfl) (pe_op op_mulX pe_int (pv 0)))
    (pss_cons (ps_set (i := 4) slot_mask_sc.nd rfl (Or.inl rfl) (pe_op op_fdivW (pe_op op_sub (pe_op op_shl pe_int (pe_op op_mulX (pv 3) (pv 2))) pe_int) (pe_op op_sub (pe_op op_shl pe_int (pv 3)) pe_int)))
    (pss_one (ps_ret (pe_op op_mulX (pv 4) (pe_op op_sub (pe_op op_shl pe_int (pe_op op_sub (pv 3) (pv 1))) pe_int)))))), ?_⟩
    have hb1 : 1 ≤ 2 ^ (4 * s) := Nat.one_le_two_pow
    refine q_asgV (v := .int ((4 * s : Nat) : Int)) (ev_is (ev_op ev_c (ev_var (i := 0) rfl) (rv_I (mulx_ok (a := 3) (b := 7) (by decide) (by show ((s : Nat) : Int).natAbs < 128; omega) (by decide)))) (by simp)) e fun H2 l2 => ?_
    have hones : ∀ x4, Ev (tOp (rI CDivW fun i j => .int (i / j)) (tOp (rI0 fun i j => .int (i - j)) (tOp (rI CPow fun i j => .int (i * 2 ^ j.toNat)) (tC (.int 1)) (tOp (rI CMulX fun i j => .int (i * j)) (tVar 3) (tVar 2))) (tC (.int 1))) (tOp (rI0 fun i j => .int (i - j)) (tOp (rI CPow fun i j => .int (i * 2 ^ j.toNat)) (tC (.int 1)) (tVar 3)) (tC (.int 1))))
        [some (.int (s : Int)), some (.int (b : Int)), some (.int (n : Int)), some (.int ((4 * s : Nat) : Int)), x4] G (.int (((2 ^ (4 * s * n) - 1) / (2 ^ (4 * s) - 1) : Nat) : Int)) := fun x4 => by
      refine ev_is (ev_op (x := .int ((2 ^ (4 * s * n) - 1 : Nat) : Int)) (y := .int ((2 ^ (4 * s) - 1 : Nat) : Int)) (ev_is (ev_op (ev_op ev_c (ev_is (ev_op (ev_var (i := 3) rfl) (ev_var (i := 2) rfl) (rv_I (mulx_ok (a := 9) (b := 20) (by show ((4 * s : Nat) : Int).natAbs < 512; omega) (by show ((n : Nat) : Int).natAbs < 1048576; have : 1 * n ≤ 4 * s * n := Nat.mul_le_mul_right _ (by omega); omega) (by decide)))) (v := .int (((4 * s : Nat) : Int) * (n : Int))) (w := .int ((4 * s * n : Nat) : Int)) (by simp)) (rv_I ⟨by omega, by omega, by decide⟩)) ev_c rv_I0) (sh_cast _)) (ev_is (ev_op (ev_op ev_c (ev_var (i := 3) rfl) (rv_I ⟨by omega, by omega, by decide⟩)) ev_c rv_I0) (sh_cast _)) (rv_I (wide_div (b := 400) ?_ ?_ (by decide) (by decide)))) ?_
      · have : 2 ^ 4 ≤ 2 ^ (4 * s) := Nat.pow_le_pow_right (by decide) (by omega)
        omega
      · have : 2 ^ (4 * s) ≤ 2 ^ 400 := Nat.pow_le_pow_right (by decide) (by omega)
        show ((2 ^ (4 * s) - 1 : Nat) : Int).natAbs < 2 ^ 400
        omega
      · rw [← Int.natCast_ediv]
    refine q_asgV (hones _) l2.e fun H3 l3 => ?_
    have hL : (2 ^ (4 * s * n) - 1) / (2 ^ (4 * s) - 1) = lanes (4 * s) (List.replicate n 1) := ones_lanes (by omega)
    refine s_retD (d := .int ((lanes (4 * s) (List.replicate n (2 ^ (4 * s - b) - 1)) : Nat) : Int)) (ed_of (ev_is (ev_op (y := .int ((2 ^ (4 * s - b) - 1 : Nat) : Int)) (ev_var (i := 4) rfl) (ev_is (ev_op (ev_op ev_c (ev_is (ev_op (ev_var (i := 3) rfl) (ev_var (i := 1) rfl) rv_I0) (w := .int ((4 * s - b : Nat) : Int)) (by show V.int (((4 * s : Nat) : Int) - (b : Int)) = _; congr 1; omega)) (rv_I ⟨by omega, by omega, by decide⟩)) ev_c rv_I0) (sh_cast _)) (rv_I (mulx_ok (a := 4 * s * n) (b := 400) ?_ ?_ (by omega)))) ?_) (at_int.mpr rfl)) l3.e (k.mono (l2.trans l3))
    · have h5 : (2 ^ (4 * s * n) - 1) / (2 ^ (4 * s) - 1) ≤ 2 ^ (4 * s * n) - 1 := Nat.div_le_self _ _
      have h6 : 1 ≤ 2 ^ (4 * s * n) := Nat.one_le_two_pow
      show (((2 ^ (4 * s * n) - 1) / (2 ^ (4 * s) - 1) : Nat) : Int).natAbs < _
      rw [Int.natAbs_natCast]
      omega
    · have : 2 ^ (4 * s - b) ≤ 2 ^ 400 := Nat.pow_le_pow_right (by decide) (by omega)
      show ((2 ^ (4 * s - b) - 1 : Nat) : Int).natAbs < 2 ^ 400
      rw [Int.natAbs_natCast]
      have h6 : 1 ≤ 2 ^ (4 * s - b) := Nat.one_le_two_pow
      omega
    · show V.int (_ * _) = _
      rw [← Int.natCast_mul, hL, mask_lanes]
/-! ### lowered -/
def rLowered : List (D ω) → D ω → Prop := fun ds r => ∃ (p c b n : Nat) (xs : List Nat), ds = [.int (p : Int), .int ((lanes b xs : Nat) : Int), .int (c : Int), .int ((lanes b (List.replicate n (2 ^ (b - c) - 1)) : Nat) : Int)] ∧
  0 < p ∧ p < 100 ∧ c ≤ b ∧ b ≤ 1000 ∧ (∀ x ∈ xs, x * (p - 2 ^ c % p) < 2 ^ c ∧ x * (2 ^ c / p + 1) < 2 ^ b) ∧ xs.length ≤ n ∧ b * n ≤ 1000000 ∧ r = .int ((lanes b (xs.map (· % p)) : Nat) : Int)
abbrev lowered_S : Stmt := topS 24
abbrev lowered_N : List Str := ["prime", "total", "bits", "mask", "quotients"]
theorem lowered_sc : FnScope lowered_N ["prime", "total", "bits", "mask"] (defScope lowered_S) := ⟨rfl, rfl, rfl, by decide +kernel, rfl, by decide +kernel, by decide +kernel⟩
theorem ok_lowered {f : Addr} {fd : FuncData} (F : Fun K "lowered" "lowered" lowered_S f fd) : FnOk P w K mg base CX0 1 f fd ["prime", "total", "bits", "mask"] (SpD K O rLowered) := by
  refine F.ok lowered_sc (fun vs H Q E h => ?_) (fun cdv A outer s H vs Q E hr h => ?_)
  · obtain ⟨G, ds, d, e, as, ⟨p, c, b, n, xs, rfl, _⟩, k⟩ := h
    exact as.len
  · obtain ⟨G, ds, d, e, as, ⟨p, c, b, n, xs, rfl, hp, hp2, hc, hb, hx, hl, hz, rfl⟩, k⟩ := h
    obtain ⟨v, r, rfl, a, n1⟩ := atL_cons.mp as
    obtain ⟨v2, r, rfl, a2, n2⟩ := atL_cons.mp n1
    obtain ⟨v3, r, rfl, a3, n3⟩ := atL_cons.mp n2
    obtain ⟨v4, r, rfl, a4, n4⟩ := atL_cons.mp n3
    obtain rfl := atL_nil.mp n4
    obtain rfl := at_int.mp a
    obtain rfl := at_int.mp a2
    obtain rfl := at_int.mp a3
    obtain rfl := at_int.mp a4
    refine ⟨_, (pss_cons (ps_set (i := 4) lowered_sc.nd rfl (Or.inl rfl) (pe_op op_and (pe_op op_shr (pe_op op_mulX (pv 1) (pe_op op_add (pe_op op_fdivW (pe_op op_shl pe_int (pv 2)) (pv 0)) pe_int)) (pv 2)) (pv 3)))
    (pss_one (ps_ret (pe_op op_sub (pv 1) (pe_op op_mulX (pv 4) (pv 0)))))), ?_⟩
    have hxb : ∀ x ∈ xs, x < 2 ^ b := fun x hx' => by
      have := (hx x hx').2
      have h1 : x * 1 ≤ x * (2 ^ c / p + 1) := Nat.mul_le_mul_left _ (Nat.le_add_left 1 _)
      omega
    have hT : lanes b xs < 2 ^ (b * n) := Nat.lt_of_lt_of_le (lanes_lt hxb) (Nat.pow_le_pow_right (by decide) (Nat.mul_le_mul_left _ hl))
    have hq1 : 2 ^ c / p + 1 < 2 ^ (c + 1) + 1 := by
      have h1 : 2 ^ c / p ≤ 2 ^ c := Nat.div_le_self _ _
      have h2 : 2 ^ (c + 1) = 2 ^ c * 2 := Nat.pow_succ ..
      have h3 : 1 ≤ 2 ^ c := Nat.one_le_two_pow
      omega
    have hq2 : 2 ^ c / p + 1 < 2 ^ (c + 2) := by
      have h2 : 2 ^ (c + 2) = 2 ^ (c + 1) * 2 := Nat.pow_succ ..
      have h3 : 1 ≤ 2 ^ (c + 1) := Nat.one_le_two_pow
      omega
    have key := lowered_lanes hp hc hx hl
    generalize hM : lanes b (List.replicate n (2 ^ (b - c) - 1)) = M at key
    have hprod : lanes b xs * (2 ^ c / p + 1) < 2 ^ (b * n + (c + 2)) := by
      rw [Nat.pow_add]
      exact Nat.mul_lt_mul'' hT hq2
    have hquo : ((lanes b xs * (2 ^ c / p + 1) / 2 ^ c) &&& M) < 2 ^ (b * n + (c + 2)) := Nat.lt_of_le_of_lt (Nat.le_trans Nat.and_le_left (Nat.div_le_self _ _)) hprod
    have hle : ((lanes b xs * (2 ^ c / p + 1) / 2 ^ c) &&& M) * p ≤ lanes b xs := by
      rw [← hM, ← lanes_scale, lanes_shr hc (fun y hy => by
        obtain ⟨x, hx', rfl⟩ := List.mem_map.mp hy
        exact (hx x hx').2) (by rw [List.length_map]; exact hl), List.map_map]
      have e1 : xs.map ((· / 2 ^ c) ∘ (· * (2 ^ c / p + 1))) = xs.map (· / p) := List.map_congr_left fun x hx' => quot_mul hp (hx x hx').1
      rw [e1]
      have := lanes_sub (b := b) (p := p) (xs := xs)
      omega
    generalize hqq : ((lanes b xs * (2 ^ c / p + 1) / 2 ^ c) &&& M) = qq at key hquo hle
    have hsum : b * n + (c + 2) + 7 ≤ 134217728 := by omega
    refine q_asgV (v := .int (qq : Int)) (ev_is (ev_op (ev_op (x := .int ((lanes b xs * (2 ^ c / p + 1) : Nat) : Int)) (ev_is (ev_op (y := .int ((2 ^ c / p + 1 : Nat) : Int)) (ev_var (i := 1) rfl) (ev_is (ev_op (ev_op (ev_op ev_c (ev_var (i := 2) rfl) (rv_I ⟨by omega, by omega, by decide⟩)) (ev_var (i := 0) rfl) (rv_I (wide_div (b := 7) (by omega) (by show ((p : Nat) : Int).natAbs < 128; omega) (by decide) (by decide)))) ev_c rv_I0) ?_) (rv_I (mulx_ok (a := b * n) (b := c + 2) ?_ ?_ (by omega)))) ?_) (ev_var (i := 2) rfl) (rv_I (by omega))) (ev_var (i := 3) rfl) rv_I0) ?_) e fun H2 l2 => ?_
    · show V.int ((1 * 2 ^ ((c : Int)).toNat) / (p : Int) + 1) = _
      rw [Int.toNat_natCast, Int.one_mul, Int.natCast_add, Int.natCast_ediv, PySem.W.kbt_cast]
      rfl
    · rw [Int.natAbs_natCast]; exact hT
    · rw [Int.natAbs_natCast]; exact hq2
    · show V.int (_ * _) = _
      rw [← Int.natCast_mul]
    · show V.int (Builtin.bitAnd (((lanes b xs * (2 ^ c / p + 1) : Nat) : Int) / 2 ^ ((c : Int)).toNat) ((M : Nat) : Int)) = _
      rw [Int.toNat_natCast, ← PySem.W.kbt_cast c, ← Int.natCast_ediv, PyProof.Rows.bitAnd_pp (Int.natCast_nonneg _) (Int.natCast_nonneg _), Int.toNat_natCast, Int.toNat_natCast, hqq]
    · refine s_retD (d := .int ((lanes b (xs.map (· % p)) : Nat) : Int)) (ed_of (ev_is (ev_op (ev_var (i := 1) rfl) (ev_op (ev_var (i := 4) rfl) (ev_var (i := 0) rfl) (rv_I (mulx_ok (a := b * n + (c + 2)) (b := 7) ?_ ?_ hsum))) rv_I0) ?_) (at_int.mpr rfl)) l2.e (k.mono l2)
      · rw [Int.natAbs_natCast]; exact hquo
      · show ((p : Nat) : Int).natAbs < 128; omega
      · show V.int (((lanes b xs : Nat) : Int) - (qq : Int) * (p : Int)) = _
        rw [← Int.natCast_mul, ← key]
        congr 1
        omega
end
end SR
set_option maxRecDepth 100000
set_option maxHeartbeats 4000000
namespace SR
open PySem PySem.Spec PyProof.Rows L2 Evl
section
variable {ω : Type} {K : PySem.W.Frag} {O : OI ω} {G H : Hp} {te ta tb to tl th : TE} {t : TT} {σ : L2.St} {d : D ω}
theorem ed_if {b : Bool} (h : EvT t σ G b) (h1 : b = true → EvD K O ta σ G d) (h2 : b = false → EvD K O tb σ G d) : EvD K O (tIf t ta tb) σ G d := fun H1 e Q k => h H1 e _ fun H2 e2 => by
  cases b with
  | true => exact h1 rfl H2 (e.trans e2) Q (k.mono (Le.heap e e2))
  | false => exact h2 rfl H2 (e.trans e2) Q (k.mono (Le.heap e e2))
/-- the items from lo to hi -/
def cutN {α : Type} (l : List α) (lo hi : Nat) : List α := (l.drop (min lo l.length)).take (min hi l.length - min lo l.length)
theorem cutN_all {α : Type} {l : List α} {hi : Nat} (h : l.length ≤ hi) : cutN l 0 hi = l := by
  unfold cutN
  rw [Nat.zero_min, Nat.min_eq_right h, List.drop_zero, Nat.sub_zero, List.take_length]
theorem ed_cutL {ds : List (D ω)} {lo hi : Nat} (h : EvD K O te σ G (.lst ds)) (hl : Ev tl σ G (.int (lo : Int))) (hh : Ev th σ G (.int (hi : Int))) : EvD K O (tSl (rSlL K) te (tPart tl) (tPart th)) σ G (.lst (cutN ds lo hi)) := fun H1 e Q k =>
  h H1 e _ fun v G2 H2 l a => hl H2 (e.trans l.h) _ fun H3 e3 => ⟨_, rfl, hh H3 ((e.trans l.h).trans e3) _ fun H4 e4 => ⟨_, rfl, by
    obtain ⟨p, vs, rfl, hp, as⟩ := at_lst.mp a
    have e34 := e3.trans e4
    refine ⟨p, vs, rfl, sq_of (e34 _ _ (l.e _ _ hp)), fun q hq => ?_⟩
    have hn : vs.length = ds.length := as.len
    have hc : cutV vs (some (lo : Int)) (some (hi : Int)) = (vs.drop (min lo ds.length)).take (min hi ds.length - min lo ds.length) := by
      unfold cutV
      rw [HT.sIx_nat, HT.sIx_nat, hn]
    rw [hc]
    have l4 : Le G H1 G2 H4 := l.trans (Le.heap l.e e34)
    exact k (.ref q) (upd G2 q (.lst _)) _ (l4.trans (Le.new l4.e hq)) (at_lst.mpr ⟨q, _, rfl, upd_same, ((AtL.drop as).take).mono (Ex.new (none_of_ex l4.e hq))⟩)⟩⟩
/-- range(0, n, c) of one turn -/
theorem src_r3one {ta : TA} {n c : Int} (h : EvA ta σ G [.int 0, .int n, .int c]) (h1 : 1 ≤ n) (h2 : n ≤ c) (h3 : c < 1000000) : Src K O (iRng3 ta) σ G [.int 0] := fun H1 e R k =>
  h H1 e _ fun H2 e2 => by
    refine ⟨0, n, c, 1, rfl, ⟨by omega, by omega, ?_, ?_⟩, k _ _ _ G H2 (Le.heap e e2) walk_rangeC (fun _ _ => trivial) fun i Gi Hi x Hi' eg eh hi y => ?_⟩
    · unfold Builtin.Range.small
      have hr : Builtin.Range.rangeSize 0 n c = 1 := by
        unfold Builtin.Range.rangeSize
        rw [if_pos (by omega), if_pos (by omega), Int.ediv_eq_zero_of_lt (by omega) (by omega)]
        rfl
      rw [hr]
      simp only [Builtin.Range.rangeFitsLong, Bool.and_eq_true, Bool.or_eq_true, decide_eq_true_eq, beq_iff_eq, show c > 0 by omega, if_true]
      omega
    · unfold Builtin.Range.rangeSize
      rw [if_pos (by omega), if_pos (by omega), Int.ediv_eq_zero_of_lt (by omega) (by omega)]
      rfl
    · obtain ⟨rfl, rfl⟩ := y
      have : i = 0 := by simpa using hi
      subst this
      exact ⟨_, Gi, rfl, Le.refl eh, at_int.mpr (by simp)⟩
theorem ev_lenD {ds : List (D ω)} (h : EvD K O te σ G (.lst ds)) {n : Nat} (hn : ds.length = n) : Ev (tCB (fun xs H Q => ∃ p ys, xs = [V.ref p] ∧ (SqL K H p ys ∨ SqT K H p ys) ∧ Q (.int ys.length) H) (tCons te tNil)) σ G (.int (n : Int)) := by
  have := len_d h rfl
  rw [show dLen (D.lst ds) = n from hn] at this
  exact this
end
section
variable {ω : Type} {P : Program} {w : World} {K : PySem.W.Frag} {mg : Str → Option Value} {base : Heap} {O : OI ω}
/-! ### multiplied -/
def rMulti : List (D ω) → D ω → Prop := fun ds r => ∃ (p : Nat) (a b : List Nat), ds = [.int (p : Int), .lst (digs a), .lst (digs b)] ∧ 0 < p ∧ p < 8 ∧ (∀ x ∈ a, x < 8) ∧ (∀ x ∈ b, x < 8) ∧ a ≠ [] ∧ b ≠ [] ∧ a.length ≤ 79 ∧ b.length ≤ 79 ∧ r = .lst (digs ((conv a b).map (· % p)))
abbrev multiplied_S : Stmt := topS 27
abbrev multiplied_N : List Str := ["prime", "one", "two", "count", "mask", "longer", "shorter", "whole", "total", "at", "part"]
theorem multiplied_sc : FnScope multiplied_N ["prime", "one", "two"] (defScope multiplied_S) := ⟨rfl, rfl, rfl, by decide +kernel, rfl, by decide +kernel, by decide +kernel⟩
theorem ok_multiplied {f : Addr} {fd : FuncData} (F : Fun K "multiplied" "multiplied" multiplied_S f fd) (B : Bi mg) {t1 t2 t3 : Tok} (g_WIDE : mg "WIDE" = some (.int 8 t1)) (g_WIDE_BITS : mg "WIDE_BITS" = some (.int 19 t2)) (g_BLOCK : mg "BLOCK" = some (.int 1024 t3))
    (h_pack : DefOk P w K mg base 1 "pack" ["digits", "signs"] (SpD K O rPack)) (h_unpack : DefOk P w K mg base 1 "unpack" ["total", "signs", "count"] (SpD K O rUnpack))
    (h_slot_mask : DefOk P w K mg base 1 "slot_mask" ["signs", "bits", "count"] (SpD K O rSlotMask)) (h_lowered : DefOk P w K mg base 1 "lowered" ["prime", "total", "bits", "mask"] (SpD K O rLowered)) :
    FnOk P w K mg base CX0 2 f fd ["prime", "one", "two"] (SpD K O rMulti) := by
  refine F.ok multiplied_sc (fun vs H Q E h => ?_) (fun cdv A outer s H vs Q E hr h => ?_)
  · obtain ⟨G, ds, d, e, as, ⟨p, a, b, rfl, _⟩, k⟩ := h
    exact as.len
  · obtain ⟨G, ds, d, e, as, ⟨p, x, y, rfl, hp, hp8, hx, hy, hxn, hyn, hxl, hyl, rfl⟩, k⟩ := h
    obtain ⟨v, r, rfl, a, n1⟩ := atL_cons.mp as
    obtain ⟨v2, r, rfl, a2, n2⟩ := atL_cons.mp n1
    obtain ⟨v3, r, rfl, a3, n3⟩ := atL_cons.mp n2
    obtain rfl := atL_nil.mp n3
    obtain rfl := at_int.mp a
    refine ⟨_, (pss_cons (ps_set (i := 3) multiplied_sc.nd rfl (Or.inl rfl) (pe_op op_sub (pe_op op_add (pe_callB (call_lenK K) (by rfl) B.len (by decide +kernel) (pa_cons (pv 1) pa_nil)) (pe_callB (call_lenK K) (by rfl) B.len (by decide +kernel) (pa_cons (pv 2) pa_nil))) pe_int))
    (pss_cons (ps_set (i := 4) multiplied_sc.nd rfl (Or.inl rfl) (pe_callD h_slot_mask (hr.mono (by first | decide | exact Nat.le_refl _)) (pa_cons (pe_glob (v := .int 8) rfl g_WIDE ⟨_, rfl⟩) (pa_cons (pe_glob (v := .int 19) rfl g_WIDE_BITS ⟨_, rfl⟩) (pa_cons (pv 3) pa_nil)))))
    (pss_cons (ps_asg (pe_ifExp (pt_cmpR op_ge (pe_callB (call_lenK K) (by rfl) B.len (by decide +kernel) (pa_cons (pv 1) pa_nil)) (pe_callB (call_lenK K) (by rfl) B.len (by decide +kernel) (pa_cons (pv 2) pa_nil)) (nomark _)) (pe_tup (pa_cons (pv 1) (pa_cons (pv 2) pa_nil))) (pe_tup (pa_cons (pv 2) (pa_cons (pv 1) pa_nil)))) (pg_tupK (k := 2) K rfl (pgs_cons (pg_name (i := 5) multiplied_sc.nd rfl (Or.inl rfl)) (pgs_cons (pg_name (i := 6) multiplied_sc.nd rfl (Or.inl rfl)) pgs_nil))))
    (pss_cons (ps_set (i := 7) multiplied_sc.nd rfl (Or.inl rfl) (pe_callD h_pack (hr.mono (by first | decide | exact Nat.le_refl _)) (pa_cons (pv 5) (pa_cons (pe_glob (v := .int 8) rfl g_WIDE ⟨_, rfl⟩) pa_nil))))
    (pss_cons (ps_set (i := 8) multiplied_sc.nd rfl (Or.inl rfl) pe_int)
    (pss_cons (ps_for PassesOwn.never rfl (pi_range3 (by rfl) B.range (pa_cons pe_int (pa_cons (pe_callB (call_lenK K) (by rfl) B.len (by decide +kernel) (pa_cons (pv 6) pa_nil)) (pa_cons (pe_glob (v := .int 1024) rfl g_BLOCK ⟨_, rfl⟩) pa_nil)))) (pg_name (i := 9) multiplied_sc.nd rfl (Or.inl rfl)) (pss_cons (ps_set (i := 10) multiplied_sc.nd rfl (Or.inl rfl) (pe_callD h_lowered (hr.mono (by first | decide | exact Nat.le_refl _)) (pa_cons (pv 0) (pa_cons (pe_op op_mulX (pv 7) (pe_callD h_pack (hr.mono (by first | decide | exact Nat.le_refl _)) (pa_cons (pe_slice sl_list (pv 6) (po_some (pv 9)) (po_some (pe_op op_add (pv 9) (pe_glob (v := .int 1024) rfl g_BLOCK ⟨_, rfl⟩)))) (pa_cons (pe_glob (v := .int 8) rfl g_WIDE ⟨_, rfl⟩) pa_nil)))) (pa_cons (pe_glob (v := .int 19) rfl g_WIDE_BITS ⟨_, rfl⟩) (pa_cons (pv 4) pa_nil))))))
    (pss_one (ps_set (i := 8) multiplied_sc.nd rfl (Or.inl rfl) (pe_op op_add (pv 8) (pe_op op_shlW (pv 10) (pe_op op_mulX (pe_op op_mulX pe_int (pe_glob (v := .int 8) rfl g_WIDE ⟨_, rfl⟩)) (pv 9))))))))
    (pss_one (ps_ret (pe_callD h_unpack (hr.mono (by first | decide | exact Nat.le_refl _)) (pa_cons (pe_callD h_lowered (hr.mono (by first | decide | exact Nat.le_refl _)) (pa_cons (pv 0) (pa_cons (pv 8) (pa_cons (pe_glob (v := .int 19) rfl g_WIDE_BITS ⟨_, rfl⟩) (pa_cons (pv 4) pa_nil))))) (pa_cons (pe_glob (v := .int 8) rfl g_WIDE ⟨_, rfl⟩) (pa_cons (pv 3) pa_nil)))))))))))), ?_⟩
    have hxl1 : 1 ≤ x.length := List.length_pos_iff.mpr hxn
    have hyl1 : 1 ≤ y.length := List.length_pos_iff.mpr hyn
    obtain ⟨n, hn⟩ : ∃ n, n = x.length + y.length - 1 := ⟨_, rfl⟩
    have hcl : (conv x y).length = n := by rw [conv_len hyn hxn, hn]
    refine q_asgV (v := .int (n : Int)) (ev_is (ev_op (ev_op (ev_lenD (ed_var (i := 1) rfl a2) digs_len) (ev_lenD (ed_var (i := 2) rfl a3) digs_len) rv_I0) ev_c rv_I0) (by show V.int ((x.length : Int) + (y.length : Int) - 1) = _; congr 1; omega)) e fun H2 l2 => ?_
    refine q_asgV (v := .int ((lanes 32 (List.replicate n (2 ^ (32 - 19) - 1)) : Nat) : Int)) (ev_int (ed_call (eda_cons (ed_of ev_c (at_int.mpr rfl)) (eda_cons (ed_of ev_c (at_int.mpr rfl)) (eda_cons (ed_of (ev_var (i := 3) rfl) (at_int.mpr rfl)) eda_nil))) ⟨8, 19, n, rfl, by decide, by decide, by decide, by omega, rfl⟩)) l2.e fun H3 l3 => ?_
    have l23 := l2.trans l3
    obtain ⟨L, S, hLS, hL8, hS8, hLl, hSl, hS1, hprod⟩ : ∃ L S : List Nat, (L = x ∧ S = y ∧ y.length ≤ x.length ∨ L = y ∧ S = x ∧ x.length < y.length) ∧ (∀ d ∈ L, d < 8) ∧ (∀ d ∈ S, d < 8) ∧ L.length ≤ 79 ∧ S.length ≤ 79 ∧ 1 ≤ S.length ∧ lanes 32 L * lanes 32 S = lanes 32 (conv x y) := by
      by_cases q : y.length ≤ x.length
      · exact ⟨x, y, Or.inl ⟨rfl, rfl, q⟩, hx, hy, hxl, hyl, hyl1, lanes_conv.symm⟩
      · exact ⟨y, x, Or.inr ⟨rfl, rfl, by omega⟩, hy, hx, hyl, hxl, hxl1, by rw [lanes_conv, Nat.mul_comm]⟩
    have hpair : ∀ x5 x6 x7 x8 x9 x10, EvD K O (tIf (tTest (tOp (rI0 fun i j => .bl (decide (j ≤ i))) (tCB (fun xs H Q => ∃ p ys, xs = [V.ref p] ∧ (SqL K H p ys ∨ SqT K H p ys) ∧ Q (.int ys.length) H) (tCons (tVar 1) tNil)) (tCB (fun xs H Q => ∃ p ys, xs = [V.ref p] ∧ (SqL K H p ys ∨ SqT K H p ys) ∧ Q (.int ys.length) H) (tCons (tVar 2) tNil)))) (tTup (tCons (tVar 1) (tCons (tVar 2) tNil))) (tTup (tCons (tVar 2) (tCons (tVar 1) tNil))))
        [some (.int (p : Int)), some v2, some v3, some (.int (n : Int)), some (.int ((lanes 32 (List.replicate n (2 ^ (32 - 19) - 1)) : Nat) : Int)), x5, x6, x7, x8, x9, x10] G (.tup [.lst (digs L), .lst (digs S)]) := fun x5 x6 x7 x8 x9 x10 => by
      have hx' : EvD K O (tVar 1) [some (.int (p : Int)), some v2, some v3, some (.int (n : Int)), some (.int ((lanes 32 (List.replicate n (2 ^ (32 - 19) - 1)) : Nat) : Int)), x5, x6, x7, x8, x9, x10] G (.lst (digs x)) := ed_var rfl a2
      have hy' : EvD K O (tVar 2) [some (.int (p : Int)), some v2, some v3, some (.int (n : Int)), some (.int ((lanes 32 (List.replicate n (2 ^ (32 - 19) - 1)) : Nat) : Int)), x5, x6, x7, x8, x9, x10] G (.lst (digs y)) := ed_var rfl a3
      refine ed_if (b := decide ((y.length : Int) ≤ (x.length : Int))) (et_test (ev_op (ev_lenD hx' digs_len) (ev_lenD hy' digs_len) rv_I0)) (fun hb => ?_) (fun hb => ?_)
      · have hb := of_decide_eq_true hb
        rcases hLS with ⟨rfl, rfl, _⟩ | ⟨rfl, rfl, q⟩
        · exact ed_tup (eda_cons hx' (eda_cons hy' eda_nil)) (by show 2 ≤ 100000; decide)
        · omega
      · have hb := of_decide_eq_false hb
        rcases hLS with ⟨rfl, rfl, q⟩ | ⟨rfl, rfl, q⟩
        · omega
        · exact ed_tup (eda_cons hy' (eda_cons hx' eda_nil)) (by show 2 ≤ 100000; decide)
    refine hpair _ _ _ _ _ _ H3 l3.e _ fun vp G4 H4 l4 a4 => ?_
    refine tg_pair a4 l4.e fun vL vS aL aS => ?_
    have l24 := l23.trans l4
    refine q_asgV (v := .int ((lanes 32 L : Nat) : Int)) (ev_int (ed_call (eda_cons (ed_var (i := 5) rfl aL) (eda_cons (ed_of ev_c (at_int.mpr rfl)) eda_nil)) ⟨L, 8, rfl, by decide, by decide, fun d hd => by have := hL8 d hd; omega, by omega, rfl⟩)) l4.e fun H5 l5 => ?_
    refine q_asgV (v := .int 0) ev_c l5.e fun H6 l6 => ?_
    have l26 := (l24.trans l5).trans l6
    have l46 := l5.trans l6
    have hc8 : ∀ z ∈ conv x y, z ≤ 79 * 49 := fun z hz => by
      have h1 := conv_le (A := 7) (B := 7) (ys := y) (fun d hd => by have := hy d hd; omega) (xs := x) (fun d hd => by have := hx d hd; omega) z hz
      have h2 : x.length * (7 * 7) ≤ 79 * 49 := Nat.mul_le_mul hxl (by decide)
      omega
    have hlow : ∀ z, z ≤ 79 * 49 → z * (p - 2 ^ 19 % p) < 2 ^ 19 ∧ z * (2 ^ 19 / p + 1) < 2 ^ 32 := fun z hz => by
      have h1 : p - 2 ^ 19 % p ≤ 7 := by omega
      have h2 : 2 ^ 19 / p + 1 ≤ 524289 := Nat.succ_le_succ (Nat.div_le_self _ _)
      have h3 := Nat.mul_le_mul hz h1
      have h4 := Nat.mul_le_mul hz h2
      constructor
      · exact Nat.lt_of_le_of_lt h3 (by decide)
      · exact Nat.lt_of_le_of_lt h4 (by decide)
    obtain ⟨W, hW⟩ : ∃ W, W = (conv x y).map (· % p) := ⟨_, rfl⟩
    have hWp : ∀ d ∈ W, d < p := fun d hd => by
      rw [hW] at hd
      obtain ⟨z, _, rfl⟩ := List.mem_map.mp hd
      exact Nat.mod_lt _ hp
    have hWl : W.length = n := by rw [hW, List.length_map, hcl]
    have hWm : W.map (· % p) = W := by
      have : W.map (· % p) = W.map id := List.map_congr_left fun d hd => Nat.mod_eq_of_lt (hWp d hd)
      rw [this, List.map_id]
    have hWb : lanes 32 W < 2 ^ (32 * n) := by
      rw [← hWl]
      exact lanes_lt fun d hd => by have := hWp d hd; omega
    refine q_forS (K := K) (O := O) (src_r3one (n := (S.length : Int)) (c := 1024) (ea_cons ev_c (ea_cons (ev_lenD (ed_var (i := 6) rfl aS) digs_len) (ea_cons ev_c ea_nil))) (by omega) (by omega) (by decide)) l6.e
      (fun i σ' G' H' => Le G4 H4 G' H' ∧ ∃ x9 x10, σ' = [some (.int (p : Int)), some v2, some v3, some (.int (n : Int)), some (.int ((lanes 32 (List.replicate n (2 ^ (32 - 19) - 1)) : Nat) : Int)), some vL, some vS, some (.int ((lanes 32 L : Nat) : Int)), some (.int (((if i = 0 then 0 else lanes 32 W) : Nat) : Int)), x9, x10])
      (fun G0 H0 l0 => ⟨l46.trans l0, _, _, rfl⟩) ?_ ?_
    · intro G0 i d xx σ' Gi Hi Gi' Hi' e0 hd e1 e2 pv l' ad N hN
      obtain ⟨p1, x9, x10, rfl⟩ := pv
      have hi0 : i = 0 := by
        have := (List.getElem?_eq_some_iff.mp hd).1
        simpa using this
      subst hi0
      obtain rfl := (Option.some.inj hd).symm
      obtain rfl := at_int.mp ad
      have l4' := p1.trans l'
      have hslice : EvD K O (tSl (rSlL K) (tVar 6) (tPart (tVar 9)) (tPart (tOp (rI0 fun i j => V.int (i + j)) (tVar 9) (tC (V.int 1024))))) [some (.int (p : Int)), some v2, some v3, some (.int (n : Int)), some (.int ((lanes 32 (List.replicate n (2 ^ (32 - 19) - 1)) : Nat) : Int)), some vL, some vS, some (.int ((lanes 32 L : Nat) : Int)), some (.int (((if 0 = 0 then 0 else lanes 32 W) : Nat) : Int)), some (.int 0), x10] Gi' (.lst (digs S)) := by
        have z := ed_cutL (K := K) (O := O) (te := tVar 6) (tl := tVar 9) (th := tOp (rI0 fun i j => V.int (i + j)) (tVar 9) (tC (V.int 1024))) (σ := [some (.int (p : Int)), some v2, some v3, some (.int (n : Int)), some (.int ((lanes 32 (List.replicate n (2 ^ (32 - 19) - 1)) : Nat) : Int)), some vL, some vS, some (.int ((lanes 32 L : Nat) : Int)), some (.int (((if 0 = 0 then 0 else lanes 32 W) : Nat) : Int)), some (.int 0), x10]) (G := Gi') (ds := digs S) (lo := 0) (hi := 1024) (ed_var rfl (aS.mono l4'.g)) (ev_var rfl) (ev_op (ev_var rfl) ev_c rv_I0)
        rw [cutN_all (by rw [digs_len]; omega)] at z
        exact z
      refine q_asgV (v := .int ((lanes 32 W : Nat) : Int)) (ev_int (ed_call (d := .int ((lanes 32 W : Nat) : Int)) (eda_cons (ed_of (ev_var (i := 0) rfl) (at_int.mpr rfl)) (eda_cons (ed_of (ev_is (ev_op (y := .int ((lanes 32 S : Nat) : Int)) (ev_var (i := 7) rfl) (ev_int (ed_call (eda_cons hslice (eda_cons (ed_of ev_c (at_int.mpr rfl)) eda_nil)) ⟨S, 8, rfl, by decide, by decide, fun d hd => by have := hS8 d hd; omega, by omega, rfl⟩)) (rv_I (mulx_ok (a := 32 * 79) (b := 32 * 79) ?_ ?_ (by decide)))) (w := .int ((lanes 32 (conv x y) : Nat) : Int)) ?_) (at_int.mpr rfl)) (eda_cons (ed_of ev_c (at_int.mpr rfl)) (eda_cons (ed_of (ev_var (i := 4) rfl) (at_int.mpr rfl)) eda_nil)))) ⟨p, 19, 32, n, conv x y, rfl, hp, by omega, by decide, by decide, fun z hz => hlow z (hc8 z hz), by omega, by omega, by rw [hW]⟩)) l'.e fun H7 l7 => ?_
      · rw [Int.natAbs_natCast]
        exact Nat.lt_of_lt_of_le (lanes_lt fun d hd => by have := hL8 d hd; omega) (Nat.pow_le_pow_right (by decide) (Nat.mul_le_mul_left _ hLl))
      · rw [Int.natAbs_natCast]
        exact Nat.lt_of_lt_of_le (lanes_lt fun d hd => by have := hS8 d hd; omega) (Nat.pow_le_pow_right (by decide) (Nat.mul_le_mul_left _ hSl))
      · show V.int (((lanes 32 L : Nat) : Int) * ((lanes 32 S : Nat) : Int)) = _
        rw [← Int.natCast_mul, hprod]
      refine s_asgV (v := .int ((lanes 32 W : Nat) : Int)) (ev_is (ev_op (ev_var (i := 8) rfl) (ev_op (y := .int ((0 : Nat) : Int)) (ev_var (i := 10) rfl) (ev_is (ev_op (ev_op ev_c ev_c (rv_I (mulx_ok (a := 5) (b := 5) (by decide) (by decide) (by decide)))) (ev_var (i := 9) rfl) (rv_I (mulx_ok (a := 10) (b := 5) (by decide) (by decide) (by decide)))) rfl) (rv_I (shl_ok (n := 32 * n) ?_ (by omega)))) rv_I0) ?_) l7.e fun H8 l8 => ?_
      · rw [Int.natAbs_natCast]; exact hWb
      · show V.int (((0 : Nat) : Int) + ((lanes 32 W : Nat) : Int) * 2 ^ (((0 : Nat) : Int)).toNat) = _
        congr 1
        simp
      · exact hN _ Gi' _ (Ex.refl _) l8.e ⟨l4'.trans (l7.trans l8), _, _, rfl⟩
    · intro σ' G' H' e1 e2 pv
      obtain ⟨p1, x9, x10, rfl⟩ := pv
      refine s_retD (d := .lst (digs W)) (ed_call (eda_cons (ed_of (ev_int (ed_call (d := .int ((lanes 32 W : Nat) : Int)) (eda_cons (ed_of (ev_var (i := 0) rfl) (at_int.mpr rfl)) (eda_cons (ed_of (ev_var (i := 8) rfl) (at_int.mpr rfl)) (eda_cons (ed_of ev_c (at_int.mpr rfl)) (eda_cons (ed_of (ev_var (i := 4) rfl) (at_int.mpr rfl)) eda_nil)))) ⟨p, 19, 32, n, W, rfl, hp, by omega, by decide, by decide, fun z hz => hlow z (by have := hWp z hz; omega), by omega, by omega, by rw [hWm]⟩)) (at_int.mpr rfl)) (eda_cons (ed_of ev_c (at_int.mpr rfl)) (eda_cons (ed_of (ev_var (i := 3) rfl) (at_int.mpr rfl)) eda_nil))) ⟨W, 8, by rw [hWl]; rfl, by decide, by decide, fun d hd => by have := hWp d hd; omega, by omega, rfl⟩) e2 ?_
      rw [hW]
      exact k.mono (l24.trans p1)
end
end SR
set_option maxRecDepth 100000
set_option maxHeartbeats 4000000
namespace SR
open PySem PySem.Spec PyProof.Rows L2 Evl
section
variable {P : Program} {w : World} {K : PySem.W.Frag} {mg : Str → Option Value} {base : Heap} {C : Addr}
theorem lowO_of {a : PL} (h : a ≠ []) : lowO a = some (lowI a) := by
  cases a with
  | nil => exact absurd rfl h
  | cons x r => rfl
theorem highO_of {a : PL} (h : a ≠ []) : highO a = some (highI a) := by
  rcases List.eq_nil_or_concat a with rfl | ⟨r, x, rfl⟩
  · exact absurd rfl h
  · simp [highO, highI]
theorem spanO_of {a : PL} (h : a ≠ []) : ((lowO a).bind fun x => (highO a).map fun y => y - x) = some (spanI a) := by
  rw [lowO_of h, highO_of h]
  rfl
/-! ### places -/
def rPlaces : List (D FilS) → D FilS → Prop := fun ds r => ∃ w, ds = [.obj w] ∧ Nrm w.p w.ps ∧ 0 < w.p ∧ w.ps ≠ [] ∧ spanI w.ps ≤ 30000 ∧ r = .lst (digs (plcs w.ps))
abbrev places_S : Stmt := topS 45
abbrev places_N : List Str := ["f", "offset"]
theorem places_sc : FnScope places_N ["f"] (defScope places_S) := ⟨rfl, rfl, rfl, by decide +kernel, rfl, by decide +kernel, by decide +kernel⟩
theorem ok_places {f : Addr} {fd : FuncData} (F : Fun K "places" "places" places_S f fd) (B : Bi mg) (c : FilC K C) (cl : Cls K C)
    (h_m_low : MethOk P w K mg base C 1 "low" ["self"] (SpD K (FilO K C) rLow)) (h_m_high : MethOk P w K mg base C 1 "high" ["self"] (SpD K (FilO K C) rHigh)) (h_d_getitem : DunOk P w K mg base C 1 "__getitem__" ["self", "at"] (SpD K (FilO K C) rGet)) :
    FnOk P w K mg base CX0 3 f fd ["f"] (SpD K (FilO K C) rPlaces) := by
  refine F.ok places_sc (fun vs H Q E h => ?_) (fun cdv A outer s H vs Q E hr h => ?_)
  · obtain ⟨G, ds, d, e, as, ⟨w0, rfl, _⟩, k⟩ := h
    exact as.len
  · obtain ⟨G, ds, d, e, as, ⟨w0, rfl, hn, hp, hne, hsp, rfl⟩, k⟩ := h
    obtain ⟨v, r, rfl, a, n⟩ := atL_cons.mp as
    obtain rfl := atL_nil.mp n
    refine ⟨_, (pss_one (ps_ret (pe_lc (own := [("offset", 1)]) rfl places_sc.nd (pi_range2W (by rfl) B.range (pa_cons (pe_methD0 cl h_m_low (hr.mono (by first | decide | exact Nat.le_refl _)) (pv 0)) (pa_cons (pe_op op_add (pe_methD0 cl h_m_high (hr.mono (by first | decide | exact Nat.le_refl _)) (pv 0)) pe_int) pa_nil))) (blkOk_by (N := places_N) (sc := defScope places_S) (by decide +kernel)) (fun _ _ _ _ _ => (pg_name (i := 1) places_sc.nd rfl (Or.inl rfl))) (fun _ _ _ _ _ => pts_nil) (fun _ _ _ _ _ => by exact (pe_ixD h_d_getitem (hr.mono (by first | decide | exact Nat.le_refl _)) (pv 0) (pv 1) (fun _ _ => rfl)))))), ?_⟩
    have hf : ∀ G', Ex G G' → ∀ x1, EvD K (FilO K C) (tVar 0) [some v, x1] G' (.obj w0) := fun G' e' _ => ed_var rfl (a.mono e')
    have hl : optD (lowO w0.ps) = .int (lowI w0.ps) := by rw [lowO_of hne]; rfl
    have hh : optD (highO w0.ps) = .int (highI w0.ps) := by rw [highO_of hne]; rfl
    have hpl := plcs_len hn
    refine s_retD (d := .lst (digs (plcs w0.ps))) (ed_lcI (ds := rngD (lowI w0.ps) (highI w0.ps + 1 - lowI w0.ps).toNat) (src_r2W (ea_cons (ev_int (ed_meth (d := .int (lowI w0.ps)) (hf _ (Ex.refl _) _) eda_nil ⟨w0, rfl, hl.symm⟩)) (ea_cons (ev_op (ev_int (ed_meth (d := .int (highI w0.ps)) (hf _ (Ex.refl _) _) eda_nil ⟨w0, rfl, hh.symm⟩)) ev_c rv_I0) ea_nil))) ?_ ?_ ?_) e k
    · rw [digs_len]
      unfold rngD
      rw [List.length_map, List.length_range]
      unfold spanI at hpl
      omega
    · unfold rngD
      rw [List.length_map, List.length_range]
      unfold spanI at hsp
      omega
    · intro i d cc x Gi Hi hd hc eg eh ad Q' hQ
      have hi : i < (highI w0.ps + 1 - lowI w0.ps).toNat := by
        have := (List.getElem?_eq_some_iff.mp hd).1
        unfold rngD at this
        rw [List.length_map, List.length_range] at this
        exact this
      rw [rngD_get hi] at hd
      obtain rfl := (Option.some.inj hd).symm
      obtain rfl := at_int.mp ad
      have hcc : cc = .int ((getI w0.ps (lowI w0.ps + (i : Int))).getD 0) := by
        unfold digs plcs plc at hc
        rw [List.getElem?_map, List.getElem?_map, List.getElem?_range (by unfold spanI; omega)] at hc
        have hc := Option.some.inj hc
        rw [← hc]
        have := nrm_coef hp hn (lowI w0.ps + (i : Int))
        show D.int ((((getI w0.ps (lowI w0.ps + (i : Int))).getD 0).toNat : Nat) : Int) = _
        congr 1
        omega
      subst hcc
      exact tg_name (hQ _ Hi (Ex.refl _) rfl (ed_getF (o := lowI w0.ps + (i : Int)) (hf _ eg _) (ev_var (i := 1) rfl) ⟨w0, _, rfl, rfl⟩))
/-! ### is_dense -/
def rDense : List (D FilS) → D FilS → Prop := fun ds r => ∃ w u, ds = [.obj w, .obj u] ∧ w.ps.length ≤ 30000 ∧ u.ps.length ≤ 30000 ∧ r = .bl (denseB w.ps u.ps)
abbrev is_dense_S : Stmt := topS 46
abbrev is_dense_N : List Str := ["f", "g"]
theorem is_dense_sc : FnScope is_dense_N ["f", "g"] (defScope is_dense_S) := ⟨rfl, rfl, rfl, by decide +kernel, rfl, by decide +kernel, by decide +kernel⟩
theorem ok_is_dense {f : Addr} {fd : FuncData} (F : Fun K "is_dense" "is_dense" is_dense_S f fd) (B : Bi mg) (c : FilC K C) (cl : Cls K C)
    (h_m_span : MethOk P w K mg base C 1 "span" ["self"] (SpD K (FilO K C) rSpan)) (h_d_bool : DunOk P w K mg base C 1 "__bool__" ["self"] (SpD K (FilO K C) rBoolF)) :
    FnOk P w K mg base CX0 4 f fd ["f", "g"] (SpD K (FilO K C) rDense) := by
  refine F.ok is_dense_sc (fun vs H Q E h => ?_) (fun cdv A outer s H vs Q E hr h => ?_)
  · obtain ⟨G, ds, d, e, as, ⟨w0, u, rfl, _⟩, k⟩ := h
    exact as.len
  · obtain ⟨G, ds, d, e, as, ⟨w0, u, rfl, hl1, hl2, rfl⟩, k⟩ := h
    obtain ⟨v, r, rfl, a, n⟩ := atL_cons.mp as
    obtain ⟨v2, r, rfl, a2, n2⟩ := atL_cons.mp n
    obtain rfl := atL_nil.mp n2
    refine ⟨_, (pss_one (ps_ret (pe_and (pe_callTy (call_boolD h_d_bool (hr.mono (by first | decide | exact Nat.le_refl _))) (by rfl) B.bool (by decide +kernel) (pa_cons (pv 0) pa_nil)) (pe_and (pe_callTy (call_boolD h_d_bool (hr.mono (by first | decide | exact Nat.le_refl _))) (by rfl) B.bool (by decide +kernel) (pa_cons (pv 1) pa_nil)) (pe_one (pe_cmpR op_lt (pe_op op_add (pe_methD0 cl h_m_span (hr.mono (by first | decide | exact Nat.le_refl _)) (pv 0)) (pe_methD0 cl h_m_span (hr.mono (by first | decide | exact Nat.le_refl _)) (pv 1))) (pe_op op_mulX (pe_op op_mulX pe_int (pe_callB (call_lenK K) (by rfl) B.len (by decide +kernel) (pa_cons (pe_fldK K (pv 0)) pa_nil))) (pe_callB (call_lenK K) (by rfl) B.len (by decide +kernel) (pa_cons (pe_fldK K (pv 1)) pa_nil))) (nomark _))))))), ?_⟩
    have hf := ed_var (K := K) (O := FilO K C) (i := 0) (σ := [some v, some v2]) rfl a
    have hg := ed_var (K := K) (O := FilO K C) (i := 1) (σ := [some v, some v2]) rfl a2
    refine s_retD (d := .bl (denseB w0.ps u.ps)) (ed_of (ev_andV (a := !w0.ps.isEmpty) (b := !u.ps.isEmpty && decide (spanI w0.ps + spanI u.ps < 4 * (w0.ps.length : Int) * (u.ps.length : Int))) (ev_boolF hf ⟨w0, rfl, rfl⟩) fun h1 => ev_andV (a := !u.ps.isEmpty) (ev_boolF hg ⟨u, rfl, rfl⟩) fun h2 => ?_) (at_bl.mpr rfl)) e k
    have n1 : w0.ps ≠ [] := by intro z; rw [z] at h1; cases h1
    have n2' : u.ps ≠ [] := by intro z; rw [z] at h2; cases h2
    have s1 : optD ((lowO w0.ps).bind fun a => (highO w0.ps).map fun b => b - a) = .int (spanI w0.ps) := by rw [spanO_of n1]; rfl
    have s2 : optD ((lowO u.ps).bind fun a => (highO u.ps).map fun b => b - a) = .int (spanI u.ps) := by rw [spanO_of n2']; rfl
    have e1 : dLen (D.tup (w0.ps.map (pairD (ω := FilS)))) = w0.ps.length := List.length_map ..
    have e2 : dLen (D.tup (u.ps.map (pairD (ω := FilS)))) = u.ps.length := List.length_map ..
    have g1 := len_d (ed_pairs c hf) rfl
    have g2 := len_d (ed_pairs c hg) rfl
    rw [e1] at g1
    rw [e2] at g2
    refine ev_op (ev_op (ev_int (ed_meth (d := .int (spanI w0.ps)) hf eda_nil ⟨w0, rfl, s1.symm⟩)) (ev_int (ed_meth (d := .int (spanI u.ps)) hg eda_nil ⟨u, rfl, s2.symm⟩)) rv_I0) (ev_op (x := .int (4 * (w0.ps.length : Int))) (ev_op ev_c g1 (rv_I (mulx_ok (a := 3) (b := 15) (by decide) (by rw [Int.natAbs_natCast]; omega) (by decide)))) g2 (rv_I (mulx_ok (a := 18) (b := 15) ?_ (by rw [Int.natAbs_natCast]; omega) (by decide)))) rv_I0
    show (4 * (w0.ps.length : Int)).natAbs < 262144
    omega
/-! ### product -/
def rProd : List (D FilS) → D FilS → Prop := fun ds r => ∃ w u, ds = [.obj w, .obj u] ∧ primes.contains w.p = true ∧ w.p = u.p ∧ Fit w.p w.ps u.ps ∧ r = .obj ⟨w.p, coll w.p (prodL w.ps u.ps)⟩
abbrev product_S : Stmt := topS 47
abbrev product_N : List Str := ["f", "g", "first", "digits", "at", "digit", "low", "one", "high", "two"]
theorem product_sc : FnScope product_N ["f", "g"] (defScope product_S) := ⟨rfl, rfl, rfl, by decide +kernel, rfl, by decide +kernel, by decide +kernel⟩
theorem ok_product {f C_Filter : Addr} {fd : FuncData} (F : Fun K "product" "product" product_S f fd) (B : Bi mg) (c : FilC K C_Filter) (cl : Cls K C_Filter) (h_Filter : MakeOk P w K mg base C_Filter 4 "Filter" ["self", "prime", "terms"] [] (spInit K C_Filter))
    (h_m_low : MethOk P w K mg base C_Filter 1 "low" ["self"] (SpD K (FilO K C_Filter) rLow)) (h_is_dense : DefOk P w K mg base 4 "is_dense" ["f", "g"] (SpD K (FilO K C_Filter) rDense))
    (h_places : DefOk P w K mg base 3 "places" ["f"] (SpD K (FilO K C_Filter) rPlaces)) (h_multiplied : DefOk P w K mg base 2 "multiplied" ["prime", "one", "two"] (SpD K (FilO K C_Filter) rMulti)) :
    FnOk P w K mg base CX0 6 f fd ["f", "g"] (SpD K (FilO K C_Filter) rProd) := by
  refine F.ok product_sc (fun vs H Q E h => ?_) (fun cdv A outer s H vs Q E hr h => ?_)
  · obtain ⟨G, ds, d, e, as, ⟨w0, u, rfl, _⟩, k⟩ := h
    exact as.len
  · obtain ⟨G, ds, d, e, as, ⟨w0, u, rfl, hp, hpu, fit, rfl⟩, k⟩ := h
    obtain ⟨v, r, rfl, a, n⟩ := atL_cons.mp as
    obtain ⟨v2, r, rfl, a2, n2⟩ := atL_cons.mp n
    obtain rfl := atL_nil.mp n2
    refine ⟨_, (pss_cons (ps_if (pt_val (pe_callD h_is_dense (hr.mono (by first | decide | exact Nat.le_refl _)) (pa_cons (pv 0) (pa_cons (pv 1) pa_nil)))) (pss_cons (ps_set (i := 2) product_sc.nd rfl (Or.inr rfl) (pe_op op_add (pe_methD0 cl h_m_low (hr.mono (by first | decide | exact Nat.le_refl _)) (pv 0)) (pe_methD0 cl h_m_low (hr.mono (by first | decide | exact Nat.le_refl _)) (pv 1))))
    (pss_cons (ps_set (i := 3) product_sc.nd rfl (Or.inl rfl) (pe_callD h_multiplied (hr.mono (by first | decide | exact Nat.le_refl _)) (pa_cons (pe_fldK K (pv 0)) (pa_cons (pe_callD h_places (hr.mono (by first | decide | exact Nat.le_refl _)) (pa_cons (pv 0) pa_nil)) (pa_cons (pe_callD h_places (hr.mono (by first | decide | exact Nat.le_refl _)) (pa_cons (pv 1) pa_nil)) pa_nil)))))
    (pss_one (ps_ret (pe_makeD h_Filter (hr.mono (by first | decide | exact Nat.le_refl _)) (pa_cons (pe_fldK K (pv 0)) (pa_cons (pe_lc (own := [("at", 4), ("digit", 5)]) rfl product_sc.nd (pi_enum (by rfl) B.enumerate (pa_cons (pv 3) pa_nil)) (blkOk_by (N := product_N) (sc := defScope product_S) (by decide +kernel)) (fun _ _ _ _ _ => (pg_tupK (k := 2) K rfl (pgs_cons (pg_name (i := 4) product_sc.nd rfl (Or.inl rfl)) (pgs_cons (pg_name (i := 5) product_sc.nd rfl (Or.inl rfl)) pgs_nil)))) (fun _ _ _ _ _ => pts_nil) (fun _ _ _ _ _ => by exact (pe_tup (pa_cons (pe_op op_add (pv 2) (pv 4)) (pa_cons (pv 5) pa_nil))))) pa_nil))))))) pss_nil)
    (pss_one (ps_ret (pe_makeD h_Filter (hr.mono (by first | decide | exact Nat.le_refl _)) (pa_cons (pe_fldK K (pv 0)) (pa_cons (pe_lc2 (own := [("low", 6), ("one", 7), ("high", 8), ("two", 9)]) (vs1 := [8, 9]) rfl product_sc.nd (pi_tup (pe_fldK K (pv 0))) (blkOk_by (N := product_N) (sc := defScope product_S) (by decide +kernel)) (by decide) (fun _ _ _ _ _ => (pg_tupK (k := 2) K rfl (pgs_cons (pg_name (i := 6) product_sc.nd rfl (Or.inl rfl)) (pgs_cons (pg_name (i := 7) product_sc.nd rfl (Or.inl rfl)) pgs_nil)))) (fun _ _ _ _ _ => pts_nil) (fun _ _ _ _ _ => by exact (pi_tupK K (pe_fldK K (pv 1)))) (fun _ _ _ _ _ => (pg_tupK (k := 2) K rfl (pgs_cons (pg_name (i := 8) product_sc.nd rfl (Or.inl rfl)) (pgs_cons (pg_name (i := 9) product_sc.nd rfl (Or.inl rfl)) pgs_nil)))) (fun _ _ _ _ _ => pts_nil) (fun _ _ _ _ _ => by exact (pe_tup (pa_cons (pe_op op_add (pv 6) (pv 8)) (pa_cons (pe_op op_mul (pv 7) (pv 9)) pa_nil))))) pa_nil)))))), ?_⟩
    have hp1 := prime_lt hp
    have hz := fit.len
    have hsm : Small w0.ps := nrm_small (by omega) (by omega) fit.na
    have hf : ∀ G', Ex G G' → ∀ x2 x3 x4 x5 x6 x7 x8 x9, EvD K (FilO K C_Filter) (tVar 0) [some v, some v2, x2, x3, x4, x5, x6, x7, x8, x9] G' (.obj w0) := fun G' e' _ _ _ _ _ _ _ _ => ed_var rfl (a.mono e')
    have hg : ∀ G', Ex G G' → ∀ x2 x3 x4 x5 x6 x7 x8 x9, EvD K (FilO K C_Filter) (tVar 1) [some v, some v2, x2, x3, x4, x5, x6, x7, x8, x9] G' (.obj u) := fun G' e' _ _ _ _ _ _ _ _ => ed_var rfl (a2.mono e')
    obtain ⟨p, pa⟩ := w0
    obtain ⟨p', pb⟩ := u
    have hpu : p = p' := hpu
    subst hpu
    have fit : Fit p pa pb := fit
    have hp : primes.contains p = true := hp
    have hz : pa.length * pb.length ≤ 30000 := hz
    have hp1 : 1 < p ∧ p < 8 := hp1
    refine q_whenG (b := denseB pa pb) (et_ofD (ed_call (eda_cons (hf _ (Ex.refl _) _ _ _ _ _ _ _ _) (eda_cons (hg _ (Ex.refl _) _ _ _ _ _ _ _ _) eda_nil)) ⟨⟨p, pa⟩, ⟨p, pb⟩, rfl, fit.la, fit.lb, rfl⟩)) e (fun hb H2 l2 => ?_) (fun hb H2 l2 => ?_)
    · obtain ⟨hsa, hsb⟩ := fit.span hb
      have hna : pa ≠ [] := by intro z; rw [z] at hb; cases hb
      have hnb : pb ≠ [] := by
        intro z
        rw [z] at hb
        unfold denseB at hb
        simp at hb
      have hla : optD (lowO pa) = .int (lowI pa) := by rw [lowO_of hna]; rfl
      have hlb : optD (lowO pb) = .int (lowI pb) := by rw [lowO_of hnb]; rfl
      have hP : ((p.toNat : Nat) : Int) = p := by omega
      have l1 := plcs_len fit.na
      have l2' := plcs_len fit.nb
      have b1 := plcs_lt (by omega) fit.na
      have b2 := plcs_lt (by omega) fit.nb
      have s1 := span_nn fit.na
      have s2 := span_nn fit.nb
      refine q_asgV (v := .int (lowI pa + lowI pb)) (ev_op (ev_int (ed_meth (d := .int (lowI pa)) (hf _ (Ex.refl _) _ _ _ _ _ _ _ _) eda_nil ⟨⟨p, pa⟩, rfl, hla.symm⟩)) (ev_int (ed_meth (d := .int (lowI pb)) (hg _ (Ex.refl _) _ _ _ _ _ _ _ _) eda_nil ⟨⟨p, pb⟩, rfl, hlb.symm⟩)) rv_I0) l2.e fun H3 l3 => ?_
      obtain ⟨W, hW⟩ : ∃ W, W = (conv (plcs pa) (plcs pb)).map (· % p.toNat) := ⟨_, rfl⟩
      have hWl : W.length ≤ 157 := by
        rw [hW, List.length_map, conv_len (by intro z; rw [z] at l2'; simp at l2'; omega) (by intro z; rw [z] at l1; simp at l1; omega)]
        omega
      refine q_asgD (d := .lst (digs W)) (ed_call (eda_cons (ed_of (ev_prime c (hf _ (Ex.refl _) _ _ _ _ _ _ _ _)) (at_int.mpr rfl)) (eda_cons (ed_call (d := .lst (digs (plcs pa))) (eda_cons (hf _ (Ex.refl _) _ _ _ _ _ _ _ _) eda_nil) ⟨⟨p, pa⟩, rfl, fit.na, by show 0 < p; omega, hna, by show spanI pa ≤ 30000; omega, rfl⟩) (eda_cons (ed_call (d := .lst (digs (plcs pb))) (eda_cons (hg _ (Ex.refl _) _ _ _ _ _ _ _ _) eda_nil) ⟨⟨p, pb⟩, rfl, fit.nb, by show 0 < p; omega, hnb, by show spanI pb ≤ 30000; omega, rfl⟩) eda_nil)))
        ⟨p.toNat, plcs pa, plcs pb, by rw [hP], by omega, by omega, fun x hx => by have := b1 x hx; omega, fun x hx => by have := b2 x hx; omega, by intro z; rw [z] at l1; simp at l1; omega, by intro z; rw [z] at l2'; simp at l2'; omega, by omega, by omega, by rw [hW]⟩) l3.e fun vd G4 H4 l4 a4 => ?_
      have l24 := (l2.trans l3).trans l4
      have hrows : EvD K (FilO K C_Filter) (tLc (fun σ H R => iEnum K (tCons (tVar 3) tNil) σ H R) (gTup K 2 (gCons (gName 4) (gCons (gName 5) gNil))) tYes (tTup (tCons (tOp (rI0 fun i j => V.int (i + j)) (tVar 2) (tVar 4)) (tCons (tVar 5) tNil))) [4, 5]) [some v, some v2, some (.int (lowI pa + lowI pb)), some vd, none, none, none, none, none, none] G4 (.lst ((enP (lowI pa + lowI pb) W).map pairD)) := by
        refine ed_lcI (ds := idxD (digs W)) (src_enum (eda_cons (ed_var (i := 3) rfl a4) eda_nil)) ?_ ?_ ?_
        · rw [List.length_map, enP_len, idxD_len, digs_len]
        · rw [idxD_len, digs_len]; omega
        · intro i d cc x Gi Hi hd hc eg eh ad Q' hQ
          have hi : i < W.length := by
            have := (List.getElem?_eq_some_iff.mp hd).1
            rw [idxD_len, digs_len] at this
            exact this
          have hx : (digs (ω := FilS) W)[i]? = some (.int ((W[i] : Nat) : Int)) := by
            unfold digs
            rw [List.getElem?_map, List.getElem?_eq_getElem hi]
            rfl
          rw [idxD_get hx] at hd
          obtain rfl := (Option.some.inj hd).symm
          rw [List.getElem?_map, enP_get (List.getElem?_eq_getElem hi)] at hc
          obtain rfl := (Option.some.inj hc).symm
          refine tg_pair ad eh fun w1 w2 c1 c2 => ?_
          obtain rfl := at_int.mp c1
          obtain rfl := at_int.mp c2
          exact hQ _ Hi (Ex.refl _) rfl (ed_tup (eda_cons (ed_of (ev_op (ev_var (i := 2) rfl) (ev_var (i := 4) rfl) rv_I0) (at_int.mpr rfl)) (eda_cons (ed_of (ev_var (i := 5) rfl) (at_int.mpr rfl)) eda_nil)) (by show 2 ≤ 100000; decide))
      have hco := coll_dense (P := p.toNat) (by omega) hP fit.na fit.nb
      rw [← hW] at hco
      show tRet _ _ _ H4
      refine s_retD (d := D.obj (FilS.mk p (coll p (prodL pa pb)))) ?_ l4.e (k.mono l24)
      rw [← hco]
      exact ed_make (p := p) (rows := enP (lowI pa + lowI pb) W) (d := .lst ((enP (lowI pa + lowI pb) W).map pairD)) (eda_cons (ed_of (ev_prime c (hf _ l4.g _ _ _ _ _ _ _ _)) (at_int.mpr rfl)) (eda_cons hrows eda_nil)) hp rowsD_pairs (by rw [enP_len]; omega)
    · refine s_retD (ed_make (p := p) (rows := prodL pa pb) (d := .lst ((prodL pa pb).map pairD)) (eda_cons (ed_of (ev_prime c (hf _ (Ex.refl _) _ _ _ _ _ _ _ _)) (at_int.mpr rfl)) (eda_cons ?_ eda_nil)) hp rowsD_pairs (by rw [len_prod]; exact hz)) l2.e (k.mono l2)
      rw [← prod_map]
      refine ed_lc2 (K := K) (O := FilO K C_Filter) mulD (src_tup (ed_pairs c (hf _ (Ex.refl _) _ _ _ _ _ _ _ _))) (by rw [List.length_map, List.length_map]; exact Nat.le_trans hz (by decide)) fun i d x Gi Hi hd eg eh ad Q' hQ => ?_
      rw [List.getElem?_map] at hd
      obtain ⟨q, hq, rfl⟩ := Option.map_eq_some_iff.mp hd
      refine tg_pair ad eh fun w1 w2 b1 b2 => ?_
      obtain rfl := at_int.mp b1
      obtain rfl := at_int.mp b2
      refine hQ _ Hi (Ex.refl _) rfl (src_tup (ed_pairs c (hg _ eg _ _ _ _ _ _ _ _))) fun j d2 y Gj Hj hd2 eg2 eh2 ad2 Q2 hQ2 => ?_
      rw [List.getElem?_map] at hd2
      obtain ⟨q2, hq2, rfl⟩ := Option.map_eq_some_iff.mp hd2
      refine tg_pair ad2 eh2 fun w3 w4 b3 b4 => ?_
      obtain rfl := at_int.mp b3
      obtain rfl := at_int.mp b4
      have h8 := hsm q (List.mem_of_getElem? hq)
      exact hQ2 _ Hj (Ex.refl _) rfl (ed_tup (eda_cons (ed_of (ev_op (ev_var (i := 6) rfl) (ev_var (i := 8) rfl) rv_I0) (at_int.mpr rfl)) (eda_cons (ed_of (ev_op (ev_var (i := 7) rfl) (ev_var (i := 9) rfl) (rv_I (Or.inl (by omega)))) (at_int.mpr rfl)) eda_nil)) (by show 2 ≤ 100000; decide))
end
end SR
set_option maxRecDepth 100000
set_option maxHeartbeats 4000000
namespace SR
open PySem PySem.Spec PyProof.Rows L2 Evl
section
variable {P : Program} {w : World} {K : PySem.W.Frag} {mg : Str → Option Value} {base : Heap} {C : Addr}
/-! ### f * g -/
def rMulF : List (D FilS) → D FilS → Prop := fun ds r => ∃ w u, ds = [.obj w, .obj u] ∧ w.p = u.p ∧ primes.contains w.p = true ∧ Fit w.p w.ps u.ps ∧ r = .obj ⟨w.p, coll w.p (prodL w.ps u.ps)⟩
abbrev Filter___mul___S : Stmt := inClass (topS 49) 15
abbrev Filter___mul___N : List Str := ["self", "other"]
theorem Filter___mul___sc : FnScope Filter___mul___N ["self", "other"] (defScope Filter___mul___S) := ⟨rfl, rfl, rfl, by decide +kernel, rfl, by decide +kernel, by decide +kernel⟩
theorem ok_mul {f C_Filter : Addr} {fd : FuncData} (F : Fun K "__mul__" "Filter.__mul__" Filter___mul___S f fd) (B : Bi mg) (c : FilC K C_Filter) (t : FilT K C_Filter) (g_Filter : mg "Filter" = some (.ref C_Filter))
    (h_is_int : DefOk P w K mg base 1 "is_int" ["thing"] (SpD K (FilO K C_Filter) rIsInt)) (h_check_primes : DefOk P w K mg base 1 "check_primes" ["f", "g"] (SpD K (FilO K C_Filter) rCheck)) (h_product : DefOk P w K mg base 6 "product" ["f", "g"] (SpD K (FilO K C_Filter) rProd)) :
    FnOk P w K mg base CX0 7 f fd ["self", "other"] (SpD K (FilO K C_Filter) rMulF) := by
  refine F.ok Filter___mul___sc (fun vs H Q E h => ?_) (fun cdv A outer s H vs Q E hr h => ?_)
  · obtain ⟨G, ds, d, e, as, ⟨w0, u, rfl, _⟩, k⟩ := h
    exact as.len
  · obtain ⟨G, ds, d, e, as, ⟨w0, u, rfl, hpu, hp, fit, rfl⟩, k⟩ := h
    obtain ⟨v, r, rfl, a, n⟩ := atL_cons.mp as
    obtain ⟨v2, r, rfl, a2, n⟩ := atL_cons.mp n
    obtain rfl := atL_nil.mp n
    refine ⟨_, (pss_cons (ps_if (pt_val (pe_callD h_is_int (hr.mono (by first | decide | exact Nat.le_refl _)) (pa_cons (pv 1) pa_nil))) (pss_one ps_never) pss_nil)
    (pss_cons (ps_if (pt_not (pt_val (pe_callB (call_isiK' K) (by rfl) B.isinstance (by decide +kernel) (pa_cons (pv 1) (pa_cons (pe_glob (v := .ref C_Filter) rfl g_Filter rfl) pa_nil))))) (pss_one ps_never) pss_nil)
    (pss_cons (ps_expr (pe_callD h_check_primes (hr.mono (by first | decide | exact Nat.le_refl _)) (pa_cons (pv 0) (pa_cons (pv 1) pa_nil))))
    (pss_one (ps_ret (pe_callD h_product (hr.mono (by first | decide | exact Nat.le_refl _)) (pa_cons (pv 0) (pa_cons (pv 1) pa_nil)))))))), ?_⟩
    have hs := ed_var (i := 0) (σ := [some v, some v2]) rfl a
    have ho := ed_var (i := 1) (σ := [some v, some v2]) rfl a2
    refine q_skip (et_ofD (ed_call (d := .bl false) (eda_cons ho eda_nil) ⟨_, rfl, rfl⟩)) e fun H2 l2 => ?_
    refine q_skip (et_is (et_not (et_B (isi_own c t ho))) rfl) l2.e fun H3 l3 => ?_
    refine ed_call (d := .non) (eda_cons hs (eda_cons ho eda_nil)) ⟨w0, u, rfl, hpu, rfl⟩ H3 l3.e _ fun vn G4 H4 l4 an => ?_
    have l24 := (l2.trans l3).trans l4
    exact s_retD (ed_call (d := .obj ⟨w0.p, coll w0.p (prodL w0.ps u.ps)⟩) (eda_cons (hs.mono l4.g) (eda_cons (ho.mono l4.g) eda_nil)) ⟨w0, u, rfl, hp, hpu, fit, rfl⟩) l4.e (k.mono l24)
/-! ### f ** n -/
def rPowF : List (D FilS) → D FilS → Prop := fun ds r => ∃ (w : FilS) (n : Nat), ds = [.obj w, .int (n : Int)] ∧ n ≤ 12 ∧ primes.contains w.p = true ∧ Nrm w.p w.ps ∧ Bnd 3 w.ps ∧ w.ps.length ≤ 10 ∧ r = .obj ⟨w.p, powL w.p w.ps n⟩
abbrev Filter___pow___S : Stmt := inClass (topS 49) 17
abbrev Filter___pow___N : List Str := ["self", "other", "power", "stretched", "rest", "step", "offset", "digit"]
theorem Filter___pow___sc : FnScope Filter___pow___N ["self", "other"] (defScope Filter___pow___S) := ⟨rfl, rfl, rfl, by decide +kernel, rfl, by decide +kernel, by decide +kernel⟩
theorem ok_pow {f C_Filter : Addr} {fd : FuncData} (F : Fun K "__pow__" "Filter.__pow__" Filter___pow___S f fd) (B : Bi mg) (c : FilC K C_Filter)
    (h_Filter : MakeOk P w K mg base C_Filter 4 "Filter" ["self", "prime", "terms"] [] (spInit K C_Filter))
    (h_is_int : DefOk P w K mg base 1 "is_int" ["thing"] (SpD K (FilO K C_Filter) rIsInt)) (h_product : DefOk P w K mg base 6 "product" ["f", "g"] (SpD K (FilO K C_Filter) rProd)) :
    FnOk P w K mg base CX0 7 f fd ["self", "other"] (SpD K (FilO K C_Filter) rPowF) := by
  refine F.ok Filter___pow___sc (fun vs H Q E h => ?_) (fun cdv A outer s H vs Q E hr h => ?_)
  · obtain ⟨G, ds, d, e, as, ⟨w0, n, rfl, _⟩, k⟩ := h
    exact as.len
  · obtain ⟨G, ds, d, e, as, ⟨w0, n, rfl, hn, hp, hnm, hb, hl, rfl⟩, k⟩ := h
    obtain ⟨v, r, rfl, a, nn⟩ := atL_cons.mp as
    obtain ⟨v2, r, rfl, a2, nn⟩ := atL_cons.mp nn
    obtain rfl := atL_nil.mp nn
    obtain rfl := at_int.mp a2
    obtain ⟨p, ps⟩ := w0
    have hp : primes.contains p = true := hp
    have hp' : p = 2 ∨ p = 3 ∨ p = 5 ∨ p = 7 := primes_or hp
    have hp0 : 1 < p ∧ p < 8 := prime_lt hp
    have hb : Bnd 3 ps := hb
    have hnm : Nrm p ps := hnm
    have hl : ps.length ≤ 10 := hl
    refine ⟨_, (pss_cons (ps_if (PW.pt (pw_or (pt_not (pt_val (pe_callD h_is_int (hr.mono (by first | decide | exact Nat.le_refl _)) (pa_cons (pv 1) pa_nil)))) (pw_or1 (pt_cmpR op_lt (pv 1) pe_int (nomark _))))) (pss_one ps_never) pss_nil)
    (pss_cons (ps_set (i := 2) Filter___pow___sc.nd rfl (Or.inl rfl) (pe_makeD h_Filter (hr.mono (by first | decide | exact Nat.le_refl _)) (pa_cons (pe_fldK K (pv 0)) (pa_cons (pe_lst (pa_cons (pe_tup (pa_cons pe_int (pa_cons pe_int pa_nil))) pa_nil)) pa_nil))))
    (pss_cons (ps_set (i := 3) Filter___pow___sc.nd rfl (Or.inl rfl) (pv 0))
    (pss_cons (ps_set (i := 4) Filter___pow___sc.nd rfl (Or.inl rfl) (pv 1))
    (pss_cons (ps_while PassesOwn.never (pt_truK K (pv 4) (by intro _; rfl)) (pss_cons (ps_for PassesOwn.never rfl (pi_range1 (by rfl) B.range (pa_cons (pe_op op_modN (pv 4) (pe_fldK K (pv 0))) pa_nil)) (pg_name (i := 5) Filter___pow___sc.nd rfl (Or.inl rfl)) (pss_one (ps_set (i := 2) Filter___pow___sc.nd rfl (Or.inl rfl) (pe_callD h_product (hr.mono (by first | decide | exact Nat.le_refl _)) (pa_cons (pv 2) (pa_cons (pv 3) pa_nil))))))
    (pss_cons (ps_aug (i := 4) Filter___pow___sc.nd rfl (Or.inl rfl) (pe_fldK K (pv 0)) iop_fdiv)
    (pss_one (ps_set (i := 3) Filter___pow___sc.nd rfl (Or.inl rfl) (pe_makeD h_Filter (hr.mono (by first | decide | exact Nat.le_refl _)) (pa_cons (pe_fldK K (pv 0)) (pa_cons (pe_lc (own := [("offset", 6), ("digit", 7)]) rfl Filter___pow___sc.nd (pi_tup (pe_fldK K (pv 3))) (blkOk_by (N := Filter___pow___N) (sc := defScope Filter___pow___S) (by decide +kernel)) (fun _ _ _ _ _ => (pg_tupK (k := 2) K rfl (pgs_cons (pg_name (i := 6) Filter___pow___sc.nd rfl (Or.inl rfl)) (pgs_cons (pg_name (i := 7) Filter___pow___sc.nd rfl (Or.inl rfl)) pgs_nil)))) (fun _ _ _ _ _ => pts_nil) (fun _ _ _ _ _ => by exact (pe_tup (pa_cons (pe_op op_mul (pe_fldK K (pv 0)) (pv 6)) (pa_cons (pv 7) pa_nil))))) pa_nil))))))))
    (pss_one (ps_ret (pv 2)))))))), ?_⟩
    have hP : ((p.toNat : Nat) : Int) = p := Int.toNat_of_nonneg (by omega)
    have hP2 : 2 ≤ p.toNat := by omega
    have hs : ∀ G', Ex G G' → ∀ x2 x3 x4 x5 x6 x7, EvD K (FilO K C_Filter) (tVar 0) [some v, some (.int (n : Int)), x2, x3, x4, x5, x6, x7] G' (.obj ⟨p, ps⟩) := fun G' e' _ _ _ _ _ _ => ed_var rfl (a.mono e')
    have hpr : ∀ G', Ex G G' → ∀ x2 x3 x4 x5 x6 x7, Ev (tFld K (tVar 0) "prime") [some v, some (.int (n : Int)), x2, x3, x4, x5, x6, x7] G' (.int p) := fun G' e' _ _ _ _ _ _ => ev_prime c (hs G' e' _ _ _ _ _ _)
    refine q_skip (et_is (et_or (et_not (et_ofD (ed_call (d := .bl true) (eda_cons (ed_of (ev_var (i := 1) rfl) (at_int.mpr rfl)) eda_nil) ⟨_, rfl, rfl⟩))) fun _ => et_test (ev_op (ev_var (i := 1) rfl) ev_c rv_I0)) (b := false) (by show (!true || decide ((n : Int) < 0)) = false; rw [decide_eq_false (by omega)]; rfl)) e fun H2 l2 => ?_
    refine q_asgD (ed_make (p := p) (rows := [(0, 1)]) (d := .lst ([(0, 1)].map pairD)) (eda_cons (ed_of (hpr _ (Ex.refl _) _ _ _ _ _ _) (at_int.mpr rfl)) (eda_cons (ed_lst (eda_cons (ed_tup (eda_cons (ed_of ev_c (at_int.mpr rfl)) (eda_cons (ed_of ev_c (at_int.mpr rfl)) eda_nil)) (by show 2 ≤ 100000; decide)) eda_nil) (by show 1 ≤ 100000; decide)) eda_nil)) hp rowsD_pairs (by show 1 ≤ 30000; decide)) l2.e fun vp G3 H3 l3 a3 => ?_
    rw [coll_one hp] at a3
    refine q_asgV (v := v) (ev_var (i := 0) rfl) l3.e fun H4 l4 => ?_
    refine q_asgV (v := .int (n : Int)) (ev_var (i := 1) rfl) l4.e fun H5 l5 => ?_
    have l35 := (l2.trans l3).trans (l4.trans l5)
    show tSeq (tWhile _ _) _ _ [some v, some (.int (n : Int)), some vp, some v, some (.int (n : Int)), none, none, none] H5
    refine ⟨fun m σ' H' => ∃ (G' : Hp) (r j kk : Nat) (vp' vs' : V) (x5 x6 x7 : Option V), m = r ∧ σ' = [some v, some (.int (n : Int)), some vp', some vs', some (.int (r : Int)), x5, x6, x7] ∧ Le G H G' H' ∧ At K (FilO K C_Filter) G' (.obj ⟨p, powL p ps j⟩) vp' ∧ At K (FilO K C_Filter) G' (.obj ⟨p, strK p ps kk⟩) vs' ∧ j + r * p.toNat ^ kk = n,
      ⟨n, G3, n, 0, 0, vp, v, none, none, none, rfl, rfl, l35, a3, a.mono l35.g, by simp⟩, ?_⟩
    rintro m σ' H' ⟨G', r, j, kk, vp', vs', x5, x6, x7, hmr, rfl, lw, ap, asv, hjr⟩
    refine et_truI (K := K) (i := (r : Int)) (ev_var (i := 4) rfl) H' lw.e _ fun H6 e6 => ?_
    by_cases hr0 : r = 0
    · subst hr0
      have hjn : j = n := by rw [Nat.zero_mul] at hjr; omega
      subst hjn
      rw [if_neg (by decide)]
      exact s_retD (ed_var (i := 2) rfl ap) (lw.e.trans e6) (k.mono (lw.trans (Le.heap lw.e e6)))
    · have hrp : ((r : Int) != 0) = true := by
        rw [bne_iff_ne]
        omega
      rw [hrp, if_pos rfl]
      have l6 := lw.trans (Le.heap lw.e e6)
      refine ⟨_, fun σ2 H2 z => z, ?_⟩
      have hpk : 0 < p.toNat ^ kk := Nat.pow_pos (by omega)
      have hmod := Nat.mod_add_div r p.toNat
      have hfm : ((r : Int).fmod p).toNat = r % p.toNat := by
        rw [Int.fmod_eq_emod_of_nonneg _ (by omega), ← hP, ← Int.natCast_emod]
        rfl
      have hlt := Nat.mod_lt r (show p.toNat > 0 by omega)
      have hj12 : ∀ i, i ≤ r % p.toNat → j + i * p.toNat ^ kk ≤ n := fun i hi => by
        have h1 : i * p.toNat ^ kk ≤ r * p.toNat ^ kk := Nat.mul_le_mul_right _ (by have := Nat.mod_le r p.toNat; omega)
        omega
      have hcnt : (rngD (ω := FilS) 0 ((r : Int).fmod p).toNat).length = r % p.toNat := by rw [hfm]; simp [rngD]
      refine q_forS (K := K) (O := FilO K C_Filter) (src_r1 (n := (r : Int).fmod p) (ea_cons (ev_op (ev_var (i := 4) rfl) (hpr _ lw.g _ _ _ _ _ _) (rv_I (by omega))) ea_nil) ⟨by have := Int.fmod_nonneg_of_pos (r : Int) (show 0 < p by omega); omega, by have := Int.fmod_lt_of_pos (r : Int) (show 0 < p by omega); omega⟩) l6.e
        (fun i σ2 G2 H2 => ∃ vp2 x5, σ2 = [some v, some (.int (n : Int)), some vp2, some vs', some (.int (r : Int)), x5, x6, x7] ∧ Le G H G2 H2 ∧ Ex G' G2 ∧ At K (FilO K C_Filter) G2 (.obj ⟨p, powL p ps (j + i * p.toNat ^ kk)⟩) vp2)
        (fun G0 H0 l0 => ⟨vp', x5, rfl, l6.trans l0, l0.g, by rw [Nat.zero_mul, Nat.add_zero]; exact ap.mono l0.g⟩) ?_ ?_
      · rintro G0 i d x σ2 Gi Hi Gi' Hi' e0 hd e1 e2 ⟨vp2, y5, rfl, li, gi, api⟩ l' ad N hN
        have hi : i < r % p.toNat := by
          have := (List.getElem?_eq_some_iff.mp hd).1
          omega
        have hji := hj12 i (by omega)
        have hlen : (powL p ps (j + i * p.toNat ^ kk)).length * (strK p ps kk).length ≤ 30000 := by
          have h1 := len_pow (p := p) hb (by decide) (n := j + i * p.toNat ^ kk)
          have h2 := len_strK (p := p) (a := ps) (k := kk)
          have h3 : (powL p ps (j + i * p.toNat ^ kk)).length ≤ 73 := by omega
          have h4 : (powL p ps (j + i * p.toNat ^ kk)).length * (strK p ps kk).length ≤ 73 * 10 := Nat.mul_le_mul h3 (by omega)
          omega
        refine s_asgD (ed_call (d := .obj ⟨p, powL p ps (j + (i + 1) * p.toNat ^ kk)⟩) (eda_cons (ed_var (i := 2) rfl (api.mono l'.g)) (eda_cons (ed_var (i := 3) rfl (asv.mono (gi.trans l'.g))) eda_nil)) ⟨⟨p, powL p ps (j + i * p.toNat ^ kk)⟩, ⟨p, strK p ps kk⟩, rfl, hp, rfl, ⟨nrm_pow (by omega) (coll_one hp) _, nrm_strK (by omega) hnm _, hlen, by have := len_pow (p := p) hb (by decide) (n := j + i * p.toNat ^ kk); show (powL p ps (j + i * p.toNat ^ kk)).length ≤ 30000; omega, by have := len_strK (p := p) (a := ps) (k := kk); show (strK p ps kk).length ≤ 30000; omega, fun _ => ⟨?_, ?_⟩⟩, ?_⟩) l'.e fun v2 G2 H2 l2 a2 => ?_
        · have h1 := span_bnd (bnd_pow (p := p) hb (by decide) (j + i * p.toNat ^ kk)) (by omega)
          show spanI (powL p ps (j + i * p.toNat ^ kk)) ≤ 78
          omega
        · have h1 : Bnd (((p.toNat ^ kk : Nat) : Int) * 3) (strK p ps kk) := by
            have := bnd_strK (P := p.toNat) hb kk
            rw [hP] at this
            exact this
          have h2 := span_bnd h1 (by omega)
          have h3 := hj12 1 (by omega)
          show spanI (strK p ps kk) ≤ 78
          omega
        · rw [pow_step_p hp', Nat.succ_mul, Nat.add_assoc]
        · exact hN _ G2 H2 l2.g l2.e ⟨v2, _, rfl, (li.trans l').trans l2, (gi.trans l'.g).trans l2.g, a2⟩
      · rintro σ2 G2 H2 eg eh ⟨vp2, y5, rfl, li, gi, api⟩
        rw [hcnt] at api
        have hdiv : (r : Int) / p = ((r / p.toNat : Nat) : Int) := by rw [← hP, ← Int.natCast_ediv]; rfl
        refine q_augI (x := (r : Int)) (y := p) rfl (hpr G2 li.g _ _ _ _ _ _) li.e ⟨by omega, by omega⟩ fun H7 l7' => ?_
        have l7 := li.trans l7'
        show tAsg _ _ _ [some v, some (.int (n : Int)), some vp2, some vs', some (.int ((r : Int) / p)), y5, x6, x7] H7
        rw [hdiv]
        have asv2 := asv.mono gi
        have hlc := ed_lc (K := K) (O := FilO K C_Filter) (wi := iTup K (tFld K (tVar 3) "pairs")) (g := gTup K 2 (gCons (gName 6) (gCons (gName 7) gNil))) (tt := tYes) (te := tTup (tCons (tOp (rI CMul fun i j => V.int (i * j)) (tFld K (tVar 0) "prime") (tVar 6)) (tCons (tVar 7) tNil))) (vs := [6, 7])
          (σ := [some v, some (.int (n : Int)), some vp2, some vs', some (.int ((r / p.toNat : Nat) : Int)), y5, x6, x7]) (G := G2) (ds := (strK p ps kk).map pairD) (fun _ => true) (strD p) (src_tup (ed_pairs c (ed_var (i := 3) rfl asv2))) (by rw [List.length_map]; have := len_strK (p := p) (a := ps) (k := kk); omega)
          fun i d x Gi Hi hd eg2 eh2 ad Q' hQ => by
            rw [List.getElem?_map] at hd
            obtain ⟨y, hy, rfl⟩ := Option.map_eq_some_iff.mp hd
            refine tg_pair ad eh2 fun w1 w2 b1 b2 => ?_
            obtain rfl := at_int.mp b1
            obtain rfl := at_int.mp b2
            exact hQ _ Hi (Ex.refl _) rfl et_yes fun _ => ed_tup (eda_cons (ed_of (ev_op (hpr Gi (li.g.trans eg2) _ _ _ _ _ _) (ev_var (i := 6) rfl) (rv_I (Or.inl (by omega)))) (at_int.mpr rfl)) (eda_cons (ed_of (ev_var (i := 7) rfl) (at_int.mpr rfl)) eda_nil)) (by show 2 ≤ 100000; decide)
        rw [str_map] at hlc
        refine s_asgD (ed_make (p := p) (rows := str p (strK p ps kk)) (eda_cons (ed_of (hpr _ li.g _ _ _ _ _ _) (at_int.mpr rfl)) (eda_cons hlc eda_nil)) hp rowsD_pairs (by unfold str; rw [List.length_map]; have := len_strK (p := p) (a := ps) (k := kk); omega)) l7.e fun v8 G8 H8 l8 a8 => ?_
        refine ⟨r / p.toNat, by rw [hmr]; exact Nat.div_lt_self (by omega) (by omega), G8, r / p.toNat, j + (r % p.toNat) * p.toNat ^ kk, kk + 1, vp2, v8, y5, x6, x7, rfl, rfl, l7.trans l8, api.mono l8.g, a8, ?_⟩
        have h9 : (r / p.toNat) * p.toNat ^ (kk + 1) = (p.toNat * (r / p.toNat)) * p.toNat ^ kk := by rw [Nat.pow_succ, Nat.mul_comm (p.toNat ^ kk), ← Nat.mul_assoc, Nat.mul_comm (r / p.toNat)]
        rw [h9, Nat.add_assoc, ← Nat.add_mul, hmod]
        exact hjr
end
end SR
set_option maxRecDepth 100000
set_option maxHeartbeats 4000000
namespace SR
open PySem PySem.Spec PyProof.Rows L2 Evl
theorem le_keep {Gb Hb Gi H1 G5 H5 : Hp} {fa : Addr} {us : List V} (l : Le Gb Hb Gi H1) (hfa : Hb fa = none) (gf : Gi fa = none) (l5 : Le (upd Gi fa (.lst us)) H1 G5 H5) : Le Gb Hb (keepG Gi G5) H5 where
  h := l.h.trans l5.h
  g := l.g.trans keepG_l
  e := keepG_ex ((Ex.new gf).trans l5.g) l5.e
  f := fun a hg hh => by
    have n1 := l.f a hg hh
    by_cases z : a = fa
    · subst z; exact absurd hfa hh
    · refine keepG_none n1 (l5.f a (by rw [upd_ne z]; exact n1) fun y => ?_)
      exact hh (fresh_back l.h y)
  t := fun a ps q => hun_t l.t (fun b ps r => by
    have h1 := l5.t b ps (nol_ex _ _ r)
    by_cases z : b = fa
    · subst z; rw [upd_same] at h1; cases h1
    · rw [upd_ne z] at h1; exact l.t b ps h1) a ps q
theorem tCons_eq {ta : TE} {tr : TA} {σ : L2.St} {H : Hp} {Q : List V → Hp → Prop} : tCons ta tr σ H Q = ta σ H (fun x H1 => tr σ H1 fun xs H2 => Q (x :: xs) H2) := rfl
theorem x_lst1 {ω : Type} {K : PySem.W.Frag} {O : OI ω} {G : Hp} {te : TE} {σ : L2.St} {d : D ω} (h : EvD K O te σ G d) (H1 : Hp) (e : Ex G H1) (Q : VK) (k : ∀ v G2 H2, Le G H1 G2 H2 → At K O G2 d v → ∀ fa, H2 fa = none → Q (.ref fa) (upd H2 fa (.lst [v]))) : tLst (tCons te tNil) σ H1 Q :=
  h H1 e _ fun v G2 H2 l a => ⟨by show 1 ≤ sizeLine; exact sz_of (by decide), fun fa hfa => k v G2 H2 l a fa hfa⟩
section
variable {P : Program} {w : World} {K : PySem.W.Frag} {mg : Str → Option Value} {base : Heap} {C : Addr}
def powD (p : Int) (m : PL) (j : Nat) : D FilS := .tup [.obj ⟨p, powL p m j⟩, .int (j : Int)]
def pPowers : List (D FilS) → Prop := fun ds => ∃ p, ds = [.int p] ∧ primes.contains p = true
def rPowers : List (D FilS) → D FilS → Prop := fun ds d => d = .bl true
abbrev _law_powers_right_S : Stmt := topS 62
abbrev _law_powers_right_N : List Str := ["_law_spring_here", "_law_p", "_law_held_here", "_law_f", "_law_due", "_law_turn", "_law_found", "_law_x", "_law_k"]
theorem _law_powers_right_sc : FnScope _law_powers_right_N ["_law_spring_here", "_law_p"] (defScope _law_powers_right_S) := ⟨rfl, rfl, rfl, by decide +kernel, rfl, by decide +kernel, by decide +kernel⟩
theorem ok_powers {f C_Filter : Addr} {fd : FuncData} (F : Fun K "_law_powers_right" "_law_powers_right" _law_powers_right_S f fd) (B : Bi mg) (c : FilC K C_Filter)
    (h__law_drawn : DefOk P w K mg base 2 "_law_drawn" ["_law_spring_here", "_law_prime_here", "_law_most", "_law_reach"] (SpX K (FilO K C_Filter) 20 pDrawn rDrawn)) (h__law_made : DefOk P w K mg base 6 "_law_made" ["_law_prime_here", "_law_held_here"] (SpD K (FilO K C_Filter) rMade))
    (h__law_times : DefOk P w K mg base 2 "_law_times" ["_law_prime_here", "_law_one", "_law_two"] (SpD K (FilO K C_Filter) rTimes)) (h_d_pow : BinOk P w K mg base C_Filter 7 .Pow (SpD K (FilO K C_Filter) rPowF) ∧ IntOk K C_Filter .Pow)
    (h__law_is : DefOk P w K mg base 5 "_law_is" ["_law_f", "_law_prime_here", "_law_held_here"] (SpD K (FilO K C_Filter) rIs)) : FnOk P w K mg base CX0 8 f fd ["_law_spring_here", "_law_p"] (SpX K (FilO K C_Filter) 20 pPowers rPowers) := by
  refine F.ok _law_powers_right_sc (fun vs H Q E h => ?_) (fun cdv A outer s0 H vs Q E hr h => ?_)
  · obtain ⟨G, s, q, n, ds, ws, rfl, e, gs, gq, spr, hn, as, ⟨p, rfl, _⟩, k⟩ := h
    show (V.ref s :: ws).length = 2
    rw [List.length_cons, as.len]
    rfl
  · obtain ⟨G, s, q, n, ds, ws, rfl, e, gs, gq, spr, hn, as, ⟨p, rfl, hp⟩, k⟩ := h
    obtain ⟨v1, r1, rfl, a1, n1⟩ := atL_cons.mp as
    obtain rfl := at_int.mp a1
    obtain rfl := atL_nil.mp n1
    have A0 : At2 s q G H n := ⟨e, gs, gq, spr⟩
    have hp2 := prime_lt hp
    refine ⟨_, (pss_cons (ps_set (i := 2) _law_powers_right_sc.nd rfl (Or.inl rfl) (pe_callD h__law_drawn (hr.mono (by first | decide | exact Nat.le_refl _)) (pa_cons (pv 0) (pa_cons (pv 1) (pa_cons pe_int (pa_cons pe_int pa_nil))))))
    (pss_cons (ps_asg (pe_tup (pa_cons (pe_callD h__law_made (hr.mono (by first | decide | exact Nat.le_refl _)) (pa_cons (pv 1) (pa_cons (pv 2) pa_nil))) (pa_cons (pe_lst (pa_cons (pe_disp (pps_cons pe_int pe_int pps_nil) (by rfl) (by rfl) (fun z => by cases z) (by decide)) pa_nil)) pa_nil))) (pg_tupK (k := 2) K rfl (pgs_cons (pg_name (i := 3) _law_powers_right_sc.nd rfl (Or.inl rfl)) (pgs_cons (pg_name (i := 4) _law_powers_right_sc.nd rfl (Or.inr rfl)) pgs_nil))))
    (pss_cons (ps_for PassesOwn.never rfl (pi_range1 (by rfl) B.range (pa_cons pe_int pa_nil)) (pg_name (i := 5) _law_powers_right_sc.nd rfl (Or.inl rfl)) (pss_one (ps_expr (pe_bm PySem.F.plainAttrs_list PySem.F.slot_list_append PySem.F.type_list_append mt_append (pv 4) (pa_cons (pe_callD h__law_times (hr.mono (by first | decide | exact Nat.le_refl _)) (pa_cons (pv 1) (pa_cons (pe_ixLK K (pv 4) (pe_un un_neg pe_int) (fun _ _ => rfl)) (pa_cons (pv 2) pa_nil)))) pa_nil)))))
    (pss_cons (ps_set (i := 6) _law_powers_right_sc.nd rfl (Or.inl rfl) (pe_lst (pa_cons (pe_tup (pa_cons (pe_op (op_intD h_d_pow (hr.mono (by first | decide | exact Nat.le_refl _))) (pv 3) pe_int) (pa_cons pe_int pa_nil))) (pa_cons (pe_tup (pa_cons (pe_op (op_intD h_d_pow (hr.mono (by first | decide | exact Nat.le_refl _))) (pv 3) pe_int) (pa_cons pe_int pa_nil))) (pa_cons (pe_tup (pa_cons (pe_op (op_intD h_d_pow (hr.mono (by first | decide | exact Nat.le_refl _))) (pv 3) pe_int) (pa_cons pe_int pa_nil))) (pa_cons (pe_tup (pa_cons (pe_op (op_intD h_d_pow (hr.mono (by first | decide | exact Nat.le_refl _))) (pv 3) pe_int) (pa_cons pe_int pa_nil))) (pa_cons (pe_tup (pa_cons (pe_op (op_intD h_d_pow (hr.mono (by first | decide | exact Nat.le_refl _))) (pv 3) pe_int) (pa_cons pe_int pa_nil))) (pa_cons (pe_tup (pa_cons (pe_op (op_intD h_d_pow (hr.mono (by first | decide | exact Nat.le_refl _))) (pv 3) pe_int) (pa_cons pe_int pa_nil))) (pa_cons (pe_tup (pa_cons (pe_op (op_intD h_d_pow (hr.mono (by first | decide | exact Nat.le_refl _))) (pv 3) pe_int) (pa_cons pe_int pa_nil))) pa_nil)))))))))
    (pss_cons (ps_set (i := 6) _law_powers_right_sc.nd rfl (Or.inl rfl) (pe_op op_cat (pv 6) (pe_lst (pa_cons (pe_tup (pa_cons (pe_op (op_intD h_d_pow (hr.mono (by first | decide | exact Nat.le_refl _))) (pv 3) pe_int) (pa_cons pe_int pa_nil))) (pa_cons (pe_tup (pa_cons (pe_op (op_intD h_d_pow (hr.mono (by first | decide | exact Nat.le_refl _))) (pv 3) pe_int) (pa_cons pe_int pa_nil))) (pa_cons (pe_tup (pa_cons (pe_op (op_intD h_d_pow (hr.mono (by first | decide | exact Nat.le_refl _))) (pv 3) pe_int) (pa_cons pe_int pa_nil))) (pa_cons (pe_tup (pa_cons (pe_op (op_intD h_d_pow (hr.mono (by first | decide | exact Nat.le_refl _))) (pv 3) pe_int) (pa_cons pe_int pa_nil))) pa_nil)))))))
    (pss_one (ps_ret (pe_and (pe_callB (cr_allK K rfl) (by rfl) B.all (by decide +kernel) (pa_cons (pe_lc (own := [("_law_x", 7), ("_law_k", 8)]) rfl _law_powers_right_sc.nd (pi_list (pv 6)) (blkOk_by (N := _law_powers_right_N) (sc := defScope _law_powers_right_S) (by decide +kernel)) (fun _ _ _ _ _ => (pg_tupK (k := 2) K rfl (pgs_cons (pg_name (i := 7) _law_powers_right_sc.nd rfl (Or.inl rfl)) (pgs_cons (pg_name (i := 8) _law_powers_right_sc.nd rfl (Or.inl rfl)) pgs_nil)))) (fun _ _ _ _ _ => pts_nil) (fun _ _ _ _ _ => by exact (pe_callD h__law_is (hr.mono (by first | decide | exact Nat.le_refl _)) (pa_cons (pv 7) (pa_cons (pv 1) (pa_cons (pe_ixLK K (pv 4) (pv 8) (fun _ _ => rfl)) pa_nil)))))) pa_nil)) (pe_one (pe_callD h__law_is (hr.mono (by first | decide | exact Nat.le_refl _)) (pa_cons (pv 3) (pa_cons (pv 1) (pa_cons (pv 2) pa_nil))))))))))))), ?_⟩
    refine x_call (i := 0) A0.e A0.gs A0.gq A0.spr (by omega) rfl (eda_cons (ed_of (ev_var (i := 1) rfl) (at_int.mpr rfl)) (eda_cons (ed_of ev_c (at_int.mpr rfl)) (eda_cons (ed_of ev_c (at_int.mpr rfl)) eda_nil))) ⟨p, 3, 3, rfl, hp, by decide, by decide, by decide, by decide⟩ fun dh vh G2 H2 ⟨p', most, reach, rows, hdq, hdh, hrl, hbd⟩ l2 sp2 ah => ?_
    obtain ⟨hq1, hq2⟩ := List.cons.inj hdq
    obtain rfl : p = p' := D.int.inj hq1
    obtain ⟨hq3, hq4⟩ := List.cons.inj hq2
    obtain rfl : (3 : Int) = most := D.int.inj hq3
    obtain rfl : (3 : Int) = reach := D.int.inj (List.cons.inj hq4).1
    subst hdh
    clear hdq hq1 hq2 hq3 hq4
    have A2 := A0.go l2 sp2
    have hm0 : coll p (coll p rows) = coll p rows := coll_coll (by omega)
    have hnd : ((coll p rows).map (·.1)).Nodup := coll_nd
    have hml : (coll p rows).length ≤ 3 := by
      have := coll_len (p := p) (rows := rows)
      omega
    have hmb : Bnd 3 (coll p rows) := Bnd.coll hbd
    have hms : Small (coll p rows) := small_coll hp
    have kk : ∀ G' H', Le G2 H2 G' H' → Q (.bl true) H' := fun G' H' l => k _ _ G' H' rfl (l2.trans l.x) (sp2.keep (fun a o z => l.h a o z) (Nat.le_refl _)) (at_bl.mpr rfl)
    generalize coll p rows = m at ah hm0 hnd hml hmb hms
    have e2 := A2.e
    clear A0 A2 k sp2 l2 e gs gq spr
    show tSeq _ _ _ [some (.ref s), some (.int p), some vh, none, none, none, none, none, none] H2
    refine ed_call (d := .obj ⟨p, m⟩) (eda_cons (ed_of (ev_var (i := 1) rfl) (at_int.mpr rfl)) (eda_cons (ed_var (i := 2) rfl ah) eda_nil)) ⟨p, m, rfl, hp, hnd, by omega, hm0, rfl⟩ H2 e2 _ fun vf G3 H3 l3 af => ?_
    dsimp only
    rw [tCons_eq]
    refine x_lst1 (K := K) (O := FilO K C_Filter) (ed_disp1 (o := 0) (c := 1) ev_c ev_c) H3 l3.e _ fun vd G4 H4 l4 ad fa hfa => ?_
    refine ⟨by show 2 ≤ sizeLine; exact sz_of (by decide), fun t ht => ?_⟩
    have l34 := l3.trans l4
    have lb : Le G4 H4 G4 (upd (upd H4 fa (.lst [vd])) t (.tup [vf, .ref fa])) := (Le.newM l4.e hfa).trans (Le.newM (Le.newM l4.e hfa).e ht)
    have nft : fa ≠ t := fun z => by rw [z, upd_same] at ht; cases ht
    have hfa5 : (upd (upd H4 fa (.lst [vd])) t (.tup [vf, .ref fa])) fa = some (.lst [vd]) := by rw [upd_ne nft, upd_same]
    have ht5 : SqT K (upd (upd H4 fa (.lst [vd])) t (.tup [vf, .ref fa])) t [vf, .ref fa] := st_of upd_same
    generalize upd (upd H4 fa (.lst [vd])) t (.tup [vf, .ref fa]) = H5 at lb hfa5 ht5
    refine ⟨t, _, rfl, ht5, rfl, vf, _, rfl, .ref fa, _, rfl, rfl, ?_⟩
    show tSeq _ _ _ [some (.ref s), some (.int p), some vh, some vf, some (.ref fa), none, none, none, none] H5
    have hh4 : At K (FilO K C_Filter) G4 (.dic m) vh := ah.mono (l3.g.trans l4.g)
    have af4 := af.mono l4.g
    refine q_forS (K := K) (O := FilO K C_Filter) (G := G4) (src_r1 (O := FilO K C_Filter) (ea_cons ev_c ea_nil) ⟨by decide, by decide⟩) lb.e (fun i σ' G' H' => ∃ x5 us, σ' = [some (.ref s), some (.int p), some vh, some vf, some (.ref fa), x5, none, none, none] ∧ Le G4 H4 G' H' ∧ H' fa = some (.lst us) ∧ G' fa = none ∧ AtL K (FilO K C_Filter) G' ((List.range (i + 1)).map fun j => D.dic (powL p m j)) us)
      (fun G0 H0 l0 => ⟨none, [vd], rfl, lb.trans l0, l0.h fa _ hfa5, l0.gnone (none_of_ex l4.e hfa) (by rw [hfa5]; exact fun z => nomatch z), AtL.one (ad.mono l0.g)⟩) ?_ ?_
    · rintro G0 i d x σ' Gi Hi Gi' Hi' e0 hd e1 ei ⟨x5, us, rfl, li, hu, gf, as⟩ l' adx N hN
      have hi : i < 12 := by
        have := (List.getElem?_eq_some_iff.mp hd).1
        simpa [rngD] using this
      have l1 := li.trans l'
      have hu1 := l'.h fa _ hu
      have gf1 := l'.gnone gf (by rw [hu]; exact fun z => nomatch z)
      have as1 := as.mono l'.g
      have ul : us.length = i + 1 := by rw [as.len, List.length_map, List.length_range]
      refine ⟨_, rfl, Or.inl ⟨rfl, us, sq_of hu1⟩, ?_⟩
      have ex : Ex (upd Gi' fa (.lst us)) Hi' := fun a o z => by
        by_cases y : a = fa
        · subst y; rw [upd_same] at z; rw [hu1]; exact z
        · rw [upd_ne y] at z; exact l1.e a o z
      have hdue : At K (FilO K C_Filter) (upd Gi' fa (.lst us)) (.lst ((List.range (i + 1)).map fun j => D.dic (powL p m j))) (.ref fa) := at_lst.mpr ⟨fa, us, rfl, upd_same, as1.mono (Ex.new gf1)⟩
      have hsz : (powL p m i).length * m.length ≤ 30000 := by
        have h1 := len_pow (p := p) hmb (by decide) (n := i)
        have h2 : (powL p m i).length ≤ 73 := by omega
        have h3 : (powL p m i).length * m.length ≤ 73 * 3 := Nat.mul_le_mul h2 hml
        omega
      have hndp : ((powL p m i).map (·.1)).Nodup := by
        cases i with
        | zero => exact List.nodup_cons.mpr ⟨List.not_mem_nil, List.nodup_nil⟩
        | succ j => exact coll_nd
      refine ed_call (d := .dic (powL p m (i + 1))) (eda_cons (ed_of (ev_var (i := 1) rfl) (at_int.mpr rfl)) (eda_cons (ed_lastL (c := .dic (powL p m i)) (ed_var (i := 4) rfl hdue) ev_neg1 (by simp)) (eda_cons (ed_var (i := 2) rfl (hh4.mono (l1.g.trans (Ex.new gf1)))) eda_nil))) ⟨p, powL p m i, m, rfl, by omega, hndp, hnd, small_pow hp i, hsz, rfl⟩ Hi' ex _ fun v5 G5 H5 l5 a5 => ?_
      have lk := le_keep l1 hfa gf1 l5
      have h5fa : H5 fa = some (.lst us) := l5.h fa _ hu1
      have g5fa : keepG Gi' G5 fa = none := keepG_lst gf1 (l5.g fa _ upd_same)
      have a5' : At K (FilO K C_Filter) (keepG Gi' G5) (.dic (powL p m (i + 1))) v5 := (dic_nol a5).mono (keepG_r ((Ex.new gf1).trans l5.g))
      refine ⟨fa, us, v5, rfl, rfl, h5fa, sz_lt (by omega), ?_⟩
      have lm := lk.mut (o := .lst (us ++ [v5])) hfa g5fa
      refine hN _ (keepG Gi' G5) _ keepG_l lm.e ⟨_, us ++ [v5], rfl, lm, upd_same, g5fa, ?_⟩
      rw [List.range_succ, List.map_append]
      exact (as1.mono keepG_l).app (AtL.one a5')
    · rintro σ' Gi Hi e1 ei ⟨x5, us, rfl, li, hu, gf, as⟩
      have hlen : (rngD (ω := FilS) 0 ((12 : Int)).toNat).length = 12 := rfl
      have lf := Le.fix l4.e li hfa hu
      have hdue : At K (FilO K C_Filter) (upd Gi fa (.lst us)) (.lst ((List.range 13).map fun j => D.dic (powL p m j))) (.ref fa) := at_lst.mpr ⟨fa, us, rfl, upd_same, as.mono (Ex.new gf)⟩
      generalize upd Gi fa (.lst us) = G6 at lf hdue
      have af6 := af4.mono lf.g
      have hh6 := hh4.mono lf.g
      have dF : ∀ G', Ex G6 G' → ∀ x0 x1 x2 x4 x5 x6 x7 x8, EvD K (FilO K C_Filter) (tVar 3) [x0, x1, x2, some vf, x4, x5, x6, x7, x8] G' (.obj ⟨p, m⟩) := fun G' e' _ _ _ _ _ _ _ _ => ed_var rfl (af6.mono e')
      have one : ∀ (j : Nat), j ≤ 12 → ∀ G', Ex G6 G' → ∀ x0 x1 x2 x4 x5 x6 x7 x8, EvD K (FilO K C_Filter) (tTup (tCons (tOp (rBinInt C_Filter (SpD K (FilO K C_Filter) rPowF) E0) (tVar 3) (tC (.int (j : Nat)))) (tCons (tC (.int (j : Nat))) tNil))) [x0, x1, x2, some vf, x4, x5, x6, x7, x8] G' (.tup [.obj ⟨p, powL p m j⟩, .int (j : Nat)]) := fun j hj G' e' x0 x1 x2 x4 x5 x6 x7 x8 =>
        ed_tup (eda_cons (ed_intF (R := rPowF) (dF G' e' x0 x1 x2 x4 x5 x6 x7 x8) ev_c ⟨⟨p, m⟩, j, rfl, hj, hp, hm0, hmb, Nat.le_trans hml (by decide), rfl⟩) (eda_cons (ed_of ev_c (at_int.mpr rfl)) eda_nil)) (by show 2 ≤ 100000; decide)
      have nil : ∀ σ G', EvDA K (FilO K C_Filter) tNil σ G' [] := fun _ _ => eda_nil
      refine q_asgD (K := K) (O := FilO K C_Filter) (d := .lst ([0, 1, 2, 3, 4, 5, 7].map fun j : Nat => powD p m j)) (ed_lst (eda_cons (one 0 (by decide) _ (Ex.refl _) _ _ _ _ _ _ _ _) (eda_cons (one 1 (by decide) _ (Ex.refl _) _ _ _ _ _ _ _ _) (eda_cons (one 2 (by decide) _ (Ex.refl _) _ _ _ _ _ _ _ _) (eda_cons (one 3 (by decide) _ (Ex.refl _) _ _ _ _ _ _ _ _) (eda_cons (one 4 (by decide) _ (Ex.refl _) _ _ _ _ _ _ _ _) (eda_cons (one 5 (by decide) _ (Ex.refl _) _ _ _ _ _ _ _ _) (eda_cons (one 7 (by decide) _ (Ex.refl _) _ _ _ _ _ _ _ _) eda_nil))))))) (by show 7 ≤ 100000; decide)) lf.e fun v6 G7 H7 l7 a7 => ?_
      show tSeq _ _ _ [some (.ref s), some (.int p), some vh, some vf, some (.ref fa), x5, some v6, none, none] H7
      refine q_asgD (K := K) (O := FilO K C_Filter) (d := .lst (([0, 1, 2, 3, 4, 5, 7].map fun j : Nat => powD p m j) ++ ([8, 9, 11, 12].map fun j : Nat => powD p m j))) (ed_cat (ed_var (i := 6) rfl a7) (ed_lst (eda_cons (one 8 (by decide) _ l7.g _ _ _ _ _ _ _ _) (eda_cons (one 9 (by decide) _ l7.g _ _ _ _ _ _ _ _) (eda_cons (one 11 (by decide) _ l7.g _ _ _ _ _ _ _ _) (eda_cons (one 12 (by decide) _ l7.g _ _ _ _ _ _ _ _) eda_nil)))) (by show 4 ≤ 100000; decide)) (by show 7 + 4 ≤ 100000; decide)) l7.e fun v8 G8 H8 l8 a8 => ?_
      show tRet _ _ [some (.ref s), some (.int p), some vh, some vf, some (.ref fa), x5, some v8, none, none] H8
      rw [← List.map_append] at a8
      have l68 := (lf.trans l7).trans l8
      have hnp : ∀ j, ((powL p m j).map (·.1)).Nodup := fun j => by
        cases j with
        | zero => exact List.nodup_cons.mpr ⟨List.not_mem_nil, List.nodup_nil⟩
        | succ j => exact coll_nd
      have hlp : ∀ j, j ≤ 12 → (powL p m j).length ≤ 20000 := fun j hj => by
        have h1 := len_pow (p := p) hmb (by decide) (n := j)
        omega
      refine s_retD (K := K) (O := FilO K C_Filter) (d := .bl true) (ed_of (ev_is (ev_andV (a := true) (b := true) (ev_is (ev_allD (K := K) (O := FilO K C_Filter) (bs := ([0, 1, 2, 3, 4, 5, 7] ++ [8, 9, 11, 12]).map fun _ : Nat => true) ?_) rfl) fun _ => ?_) rfl) (at_bl.mpr rfl)) l8.e fun v9 G9 H9 l9 a9 => ?_
      · have h := ed_lc (K := K) (O := FilO K C_Filter) (wi := iList K (tVar 6)) (g := gTup K 2 (gCons (gName 7) (gCons (gName 8) gNil))) (tt := tYes) (te := tCall (SpD K (FilO K C_Filter) rIs) [] E0 (tCons (tVar 7) (tCons (tVar 1) (tCons (tOp (rIxL K) (tVar 4) (tVar 8)) tNil)))) (vs := [7, 8]) (σ := [some (.ref s), some (.int p), some vh, some vf, some (.ref fa), x5, some v8, none, none]) (G := G8)
          (fun _ => true) (fun _ => .bl true) (src_list (ed_var (i := 6) rfl a8)) (by show 11 ≤ 40000; decide) fun i d x Gi Hi hd eg eh ad' Q' hQ => by
            have hm := List.mem_of_getElem? hd
            obtain ⟨j, hj, rfl⟩ := List.mem_map.mp hm
            have hj12 : j ≤ 12 := by
              simp only [List.mem_append, List.mem_cons, List.mem_nil_iff, or_false] at hj
              omega
            refine tg_pair ad' eh fun w1 w2 b1 b2 => ?_
            obtain rfl := at_int.mp b2
            refine hQ _ Hi (Ex.refl _) rfl et_yes fun _ => ed_call (d := .bl true) (eda_cons (ed_var (i := 7) rfl b1) (eda_cons (ed_of (ev_var (i := 1) rfl) (at_int.mpr rfl)) (eda_cons (ed_itemL (i := j) (c := .dic (powL p m j)) (ed_var (i := 4) rfl (hdue.mono ((l7.g.trans l8.g).trans eg))) (ev_var (i := 8) rfl) ?_) eda_nil))) ⟨p, powL p m j, rfl, hnp j, hlp j hj12, rfl⟩
            rw [List.getElem?_map, List.getElem?_range (by omega)]
            rfl
        rw [filter_yes, List.map_map] at h
        rw [List.map_map]
        exact h
      · exact ev_bl (ed_call (d := .bl true) (eda_cons (dF _ (l7.g.trans l8.g) _ _ _ _ _ _ _ _) (eda_cons (ed_of (ev_var (i := 1) rfl) (at_int.mpr rfl)) (eda_cons (ed_var (i := 2) rfl (hh6.mono (l7.g.trans l8.g))) eda_nil))) ⟨p, m, rfl, hnd, by omega, rfl⟩)
      · obtain rfl := at_bl.mp a9
        exact kk G9 H9 ((l34.trans l68).trans l9)
end
end SR
set_option maxRecDepth 100000
set_option maxHeartbeats 4000000
namespace SR
open PySem PySem.Spec PyProof.Rows L2 Evl
section
variable {P : Program} {w : World} {K : PySem.W.Frag} {mg : Str → Option Value} {base : Heap} {C : Addr}
/-- near, but for one place far away -/
def FarB (a : PL) : Prop := ∃ o : Int, (10 ^ 29 ≤ o ∨ o ≤ -(10 ^ 29)) ∧ ∀ q ∈ a, (-12 ≤ q.1 ∧ q.1 ≤ 12) ∨ q.1 = o
theorem FarB.coll {p : Int} {a : PL} (h : FarB a) : FarB (coll p a) := by
  obtain ⟨o, ho, h⟩ := h
  refine ⟨o, ho, fun q hq => ?_⟩
  obtain ⟨r, hr, e⟩ := List.mem_map.mp (mem_coll hq)
  rw [← e]
  exact h r hr
theorem far_span {p : Int} {a : PL} (h : FarB a) (hn : Nrm p a) : spanI a ≤ 24 ∨ 10 ^ 28 ≤ spanI a := by
  obtain ⟨o, ho, h⟩ := h
  cases ha : a with
  | nil => exact Or.inl (by decide)
  | cons x r =>
    rw [← ha]
    have hs := span_nn hn
    obtain ⟨q, hq, e⟩ := high_mem (a := a) (by rw [ha]; simp)
    obtain ⟨q', hq', e'⟩ := low_mem (a := a) (by rw [ha]; simp)
    have h1 := h q hq
    have h2 := h q' hq'
    unfold spanI at *
    omega
theorem fit_far {p : Int} {a b : PL} (na : Nrm p a) (nb : Nrm p b) (ha : Bnd 12 a) (hb : FarB b) (la : a.length ≤ 5) (lb : b.length ≤ 6) : Fit p a b ∧ Fit p b a := by
  have h1 := span_bnd ha (by decide)
  have h2 := far_span hb nb
  have s1 := span_nn na
  have s2 := span_nn nb
  have hz : a.length * b.length ≤ 5 * 6 := Nat.mul_le_mul la lb
  have hz' : b.length * a.length ≤ 6 * 5 := Nat.mul_le_mul lb la
  refine ⟨⟨na, nb, by omega, by omega, by omega, fun hd => ?_⟩, ⟨nb, na, by omega, by omega, by omega, fun hd => ?_⟩⟩
  · unfold denseB at hd
    rw [Bool.and_eq_true, Bool.and_eq_true] at hd
    have hd := of_decide_eq_true hd.2.2
    have e : 4 * (a.length : Int) * (b.length : Int) = 4 * ((a.length * b.length : Nat) : Int) := by rw [Int.natCast_mul, Int.mul_assoc]
    rw [e] at hd
    omega
  · unfold denseB at hd
    rw [Bool.and_eq_true, Bool.and_eq_true] at hd
    have hd := of_decide_eq_true hd.2.2
    have e : 4 * (b.length : Int) * (a.length : Int) = 4 * ((b.length * a.length : Nat) : Int) := by rw [Int.natCast_mul, Int.mul_assoc]
    rw [e] at hd
    omega
def spLaw (K : PySem.W.Frag) : Sp := fun vs H Q _ => ∃ (a : Addr) (ns : List Int), vs = [.ref a] ∧ SqL K H a (ns.map V.int) ∧ ns.length ≤ 63 ∧ ∀ H', Q (.bl true) H'
abbrev S11 (x0 x1 x2 x3 x4 x5 x6 x7 x8 x9 x10 : Option V) : L2.St := [x0, x1, x2, x3, x4, x5, x6, x7, x8, x9, x10]
abbrev law_S : Stmt := topS 63
abbrev law_N : List Str := ["_law_script", "_law_spring_here", "_law_turn", "_law_p", "_law_one", "_law_two", "_law_offset", "_law_f", "_law_g", "_law_due", "_law_h"]
theorem law_sc : FnScope law_N ["_law_script"] (defScope law_S) := ⟨rfl, rfl, rfl, by decide +kernel, rfl, by decide +kernel, by decide +kernel⟩
theorem ok_law {C_Filter : Addr} (c : FilC K C_Filter) {f : Addr} {fd : FuncData} (F : Fun K "law" "law" law_S f fd) (B : Bi mg)
    (h__law_spring : DefOk P w K mg base 1 "_law_spring" ["_law_script"] (spSpring K))
    (h__law_prime : DefOk P w K mg base 3 "_law_prime" ["_law_spring_here"] (SpX K (FilO K C_Filter) 1 pPrime rPrime))
    (h__law_draw : DefOk P w K mg base 1 "_law_draw" ["_law_spring_here", "_law_many"] (SpX K (FilO K C_Filter) 1 pDraw rDraw))
    (h__law_pick : DefOk P w K mg base 2 "_law_pick" ["_law_spring_here", "_law_things"] (SpX K (FilO K C_Filter) 1 pPick rPick))
    (h__law_drawn : DefOk P w K mg base 2 "_law_drawn" ["_law_spring_here", "_law_prime_here", "_law_most", "_law_reach"] (SpX K (FilO K C_Filter) 20 pDrawn rDrawn))
    (h__law_held : DefOk P w K mg base 1 "_law_held" ["_law_prime_here", "_law_terms"] (SpD K (FilO K C_Filter) rHeld))
    (h__law_pairs : DefOk P w K mg base 1 "_law_pairs" ["_law_held_here"] (SpD K (FilO K C_Filter) rPairs))
    (h__law_made : DefOk P w K mg base 6 "_law_made" ["_law_prime_here", "_law_held_here"] (SpD K (FilO K C_Filter) rMade))
    (h__law_times : DefOk P w K mg base 2 "_law_times" ["_law_prime_here", "_law_one", "_law_two"] (SpD K (FilO K C_Filter) rTimes))
    (h_d_mul : BinOk P w K mg base C_Filter 7 .Mult (SpD K (FilO K C_Filter) rMulF)) (h_i_mul : InOk K C_Filter .Mult)
    (h__law_is : DefOk P w K mg base 5 "_law_is" ["_law_f", "_law_prime_here", "_law_held_here"] (SpD K (FilO K C_Filter) rIs))
    (h__law_powers_right : DefOk P w K mg base 8 "_law_powers_right" ["_law_spring_here", "_law_p"] (SpX K (FilO K C_Filter) 20 pPowers rPowers)) :
    FnOk P w K mg base CX0 9 f fd ["_law_script"] (spLaw K) := by
  refine F.ok law_sc (fun vs H Q E h => ?_) (fun cdv A outer s0 H vs Q E hr h => ?_)
  · obtain ⟨a, ns, rfl, _⟩ := h
    rfl
  · obtain ⟨a, ns, rfl, hsq, hns, k⟩ := h
    refine ⟨_, (pss_cons (ps_set (i := 1) law_sc.nd rfl (Or.inl rfl) (pe_callD h__law_spring (hr.mono (by first | decide | exact Nat.le_refl _)) (pa_cons (pv 0) pa_nil)))
    (pss_cons (ps_for PassesOwn.never rfl (pi_range1 (by rfl) B.range (pa_cons pe_int pa_nil)) (pg_name (i := 2) law_sc.nd rfl (Or.inl rfl)) (pss_cons (ps_set (i := 3) law_sc.nd rfl (Or.inl rfl) (pe_callD h__law_prime (hr.mono (by first | decide | exact Nat.le_refl _)) (pa_cons (pv 1) pa_nil)))
    (pss_cons (ps_par (i := 4) (j := 5) (by rfl) law_sc.nd rfl rfl (by decide) rfl rfl (pa_cons (pe_callD h__law_drawn (hr.mono (by first | decide | exact Nat.le_refl _)) (pa_cons (pv 1) (pa_cons (pv 3) (pa_cons pe_int (pa_cons pe_int pa_nil))))) (pa_cons (pe_callD h__law_drawn (hr.mono (by first | decide | exact Nat.le_refl _)) (pa_cons (pv 1) (pa_cons (pv 3) (pa_cons pe_int (pa_cons pe_int pa_nil))))) pa_nil)) (by rfl))
    (pss_cut (ps_if (pt_cmpR op_eq (pe_callD h__law_draw (hr.mono (by first | decide | exact Nat.le_refl _)) (pa_cons (pv 1) (pa_cons pe_int pa_nil))) pe_int (nomark _)) (pss_cons (ps_set (i := 6) law_sc.nd rfl (Or.inl rfl) (pe_callD h__law_pick (hr.mono (by first | decide | exact Nat.le_refl _)) (pa_cons (pv 1) (pa_cons (pe_lst (pa_cons (pe_op op_pow pe_int pe_int) (pa_cons (pe_op op_sub pe_int (pe_op op_pow pe_int pe_int)) (pa_cons (pe_op op_pow pe_int pe_int) pa_nil)))) pa_nil))))
    (pss_one (ps_set (i := 5) law_sc.nd rfl (Or.inl rfl) (pe_callD h__law_held (hr.mono (by first | decide | exact Nat.le_refl _)) (pa_cons (pv 3) (pa_cons (pe_op op_cat (pe_callD h__law_pairs (hr.mono (by first | decide | exact Nat.le_refl _)) (pa_cons (pv 5) pa_nil)) (pe_lst (pa_cons (pe_tup (pa_cons (pv 6) (pa_cons pe_int pa_nil))) pa_nil))) pa_nil)))))) pss_nil)
    (pss_cons (ps_par (i := 7) (j := 8) (by rfl) law_sc.nd rfl rfl (by decide) rfl rfl (pa_cons (pe_callD h__law_made (hr.mono (by first | decide | exact Nat.le_refl _)) (pa_cons (pv 3) (pa_cons (pv 4) pa_nil))) (pa_cons (pe_callD h__law_made (hr.mono (by first | decide | exact Nat.le_refl _)) (pa_cons (pv 3) (pa_cons (pv 5) pa_nil))) pa_nil)) (by rfl))
    (pss_cons (ps_set (i := 9) law_sc.nd rfl (Or.inl rfl) (pe_callD h__law_times (hr.mono (by first | decide | exact Nat.le_refl _)) (pa_cons (pv 3) (pa_cons (pv 4) (pa_cons (pv 5) pa_nil)))))
    (pss_cons (ps_if (PW.pt (pw_or (pt_not (pt_val (pe_callD h__law_is (hr.mono (by first | decide | exact Nat.le_refl _)) (pa_cons (pe_op (op_binD h_d_mul (hr.mono (by first | decide | exact Nat.le_refl _))) (pv 7) (pv 8)) (pa_cons (pv 3) (pa_cons (pv 9) pa_nil)))))) (pw_or1 (pt_not (pt_val (pe_callD h__law_is (hr.mono (by first | decide | exact Nat.le_refl _)) (pa_cons (pe_op (op_binD h_d_mul (hr.mono (by first | decide | exact Nat.le_refl _))) (pv 8) (pv 7)) (pa_cons (pv 3) (pa_cons (pv 9) pa_nil))))))))) (pss_one (ps_ret pe_bl)) pss_nil)
    (pss_cons (ps_set (i := 10) law_sc.nd rfl (Or.inl rfl) (pv 7))
    (pss_cons (ps_aug (i := 10) law_sc.nd rfl (Or.inl rfl) (pv 8) (ip_binD h_d_mul h_i_mul (hr.mono (by first | decide | exact Nat.le_refl _))))
    (pss_cons (ps_if (PW.pt (pw_or (pt_not (pt_val (pe_callD h__law_is (hr.mono (by first | decide | exact Nat.le_refl _)) (pa_cons (pv 10) (pa_cons (pv 3) (pa_cons (pv 9) pa_nil)))))) (pw_or (pt_not (pt_val (pe_callD h__law_is (hr.mono (by first | decide | exact Nat.le_refl _)) (pa_cons (pv 7) (pa_cons (pv 3) (pa_cons (pv 4) pa_nil)))))) (pw_or1 (pt_not (pt_val (pe_callD h__law_is (hr.mono (by first | decide | exact Nat.le_refl _)) (pa_cons (pv 8) (pa_cons (pv 3) (pa_cons (pv 5) pa_nil)))))))))) (pss_one (ps_ret pe_bl)) pss_nil)
    (pss_one (ps_if (pt_not (pt_val (pe_callD h__law_powers_right (hr.mono (by first | decide | exact Nat.le_refl _)) (pa_cons (pv 1) (pa_cons (pv 3) pa_nil))))) (pss_one (ps_ret pe_bl)) pss_nil))))))))))))
    (pss_one (ps_ret pe_bl)))), ?_⟩
    refine ⟨_, rfl, ⟨a, ns, rfl, hsq, hns, fun s q H1 hs0 hq0 ex1 spr0 => ?_⟩⟩
    show tSeq _ _ _ (S11 (.some (.ref a)) (.some (.ref s)) none none none none none none none none none) H1
    have A0 : At2 s q (fun _ => none) H1 0 := ⟨fun _ _ z => (nomatch z), rfl, rfl, spr0⟩
    refine q_forS (K := K) (O := FilO K C_Filter) (src_r1 (O := FilO K C_Filter) (ea_cons ev_c ea_nil) ⟨by decide, by decide⟩) A0.e (fun i σ' G' H' => ∃ x2 x3 x4 x5 x6 x7 x8 x9 x10, σ' = S11 (.some (.ref a)) (.some (.ref s)) x2 x3 x4 x5 x6 x7 x8 x9 x10 ∧ At2 s q G' H' (100 * i))
      (fun G0 H0 l0 => ⟨_, _, _, _, _, _, _, _, _, rfl, A0.le l0⟩) ?_ ?_
    · rintro G0 i d x σ' Gi Hi Gi' Hi' e0 hd e1 e2 ⟨x2, x3, x4, x5, x6, x7, x8, x9, x10, rfl, Ai⟩ l' ad N hN
      have hi5 : i < 5 := by
        have := (List.getElem?_eq_some_iff.mp hd).1
        simpa [rngD] using this
      have A1 := Ai.le l'
      clear ad hd
      refine x_call A1.e A1.gs A1.gq A1.spr (by omega) (i := 1) rfl eda_nil rfl fun dp vp G2 H2 ⟨p, hdp, hp⟩ l2 sp2 ap => ?_
      subst hdp
      obtain rfl := at_int.mp ap
      have A2 := A1.go l2 sp2
      have hp1 := prime_lt hp
      have hp0 := prime_pos hp
      show tSeq _ _ _ (S11 (.some (.ref a)) (.some (.ref s)) (.some x) (.some (.int p)) x4 x5 x6 x7 x8 x9 x10) H2
      have hdr : ∀ G' x0 x1 x2 x4 x5 x6 x7 x8 x9 x10, EvDA K (FilO K C_Filter) (tCons (tVar 3) (tCons (tC (.int 5)) (tCons (tC (.int 12)) tNil))) (S11 x0 x1 x2 (.some (.int p)) x4 x5 x6 x7 x8 x9 x10) G' [.int p, .int 5, .int 12] := fun _ _ _ _ _ _ _ _ _ _ _ => eda_cons (ed_of (ev_var (i := 3) rfl) (at_int.mpr rfl)) (eda_cons (ed_of ev_c (at_int.mpr rfl)) (eda_cons (ed_of ev_c (at_int.mpr rfl)) eda_nil))
      refine x_call A2.e A2.gs A2.gq A2.spr (by omega) (i := 1) rfl (hdr _ _ _ _ _ _ _ _ _ _ _) ⟨p, 5, 12, rfl, hp, by decide, by decide, by decide, by decide⟩ fun d1 v1 G3 H3 ⟨p', most, reach, r1, hdq, hd1, hrl1, hbd1⟩ l3 sp3 a1 => ?_
      have hpq : p = p' := D.int.inj (List.cons.inj hdq).1
      have hmq : (5 : Int) = most := D.int.inj (List.cons.inj (List.cons.inj hdq).2).1
      have hrq : (12 : Int) = reach := D.int.inj (List.cons.inj (List.cons.inj (List.cons.inj hdq).2).2).1
      subst hd1 hpq hmq hrq
      clear hdq
      have A3 := A2.go l3 sp3
      refine x_call A3.e A3.gs A3.gq A3.spr (by omega) (i := 1) rfl (hdr _ _ _ _ _ _ _ _ _ _ _) ⟨p, 5, 12, rfl, hp, by decide, by decide, by decide, by decide⟩ fun d2 v2 G4 H4 ⟨p', most, reach', r2, hdq, hd2, hrl2, hbd2⟩ l4 sp4 a2 => ?_
      have hpq : p = p' := D.int.inj (List.cons.inj hdq).1
      have hmq : (5 : Int) = most := D.int.inj (List.cons.inj (List.cons.inj hdq).2).1
      have hrq : (12 : Int) = reach' := D.int.inj (List.cons.inj (List.cons.inj (List.cons.inj hdq).2).2).1
      subst hd2 hpq hmq hrq
      clear hdq hdr
      have A4 := A3.go l4 sp4
      have e14 := (l2.g.trans l3.g).trans l4.g
      have a1' := a1.mono l4.g
      refine ⟨_, _, rfl, ?_⟩
      have hl1 : (coll p r1).length ≤ 5 := by
        have := coll_len (p := p) (rows := r1)
        omega
      have hl2 : (coll p r2).length ≤ 5 := by
        have := coll_len (p := p) (rows := r2)
        omega
      refine q_cut (M := fun σ' H' => ∃ (G' : Hp) (v2' : V) (rr : PL) (x6' : Option V), σ' = S11 (.some (.ref a)) (.some (.ref s)) (.some x) (.some (.int p)) (.some v1) (.some v2') x6' x7 x8 x9 x10 ∧ Ex G4 G' ∧ At2 s q G' H' (100 * i + 1 + 20 + 20 + 1 + 1) ∧ At K (FilO K C_Filter) G' (.dic (coll p rr)) v2' ∧ (coll p rr).length ≤ 6 ∧ FarB (coll p rr)) ?_ ?_
      · show tIfS _ _ _ _ (S11 (.some (.ref a)) (.some (.ref s)) (.some x) (.some (.int p)) (.some v1) (.some v2) x6 x7 x8 x9 x10) H4
        refine x_call A4.e A4.gs A4.gq A4.spr (by omega) (i := 1) rfl (eda_int (K := K) (O := FilO K C_Filter) ev_c) ⟨3, rfl, by decide, by decide⟩ fun dd vd G5 H5 ⟨m', z, hm', hdd, hz0, hz1⟩ l5 sp5 ad => ?_
        subst hdd
        obtain rfl := at_int.mp ad
        have A5 := A4.go l5 sp5
        refine ⟨rfl, _, rfl, ?_⟩
        by_cases hz : V.int z = V.int 0
        · rw [decide_eq_true hz]
          show (if true = true then _ else _)
          rw [if_pos rfl]
          refine x_call A5.e A5.gs A5.gq A5.spr (by omega) (i := 1) rfl (eda_cons (ed_lst (ds := [.int ((10 : Int) ^ (30 : Int).toNat), .int (0 - (10 : Int) ^ (30 : Int).toNat), .int ((10 : Int) ^ (29 : Int).toNat)])
              (eda_cons (ed_of (ev_op ev_c ev_c (rv_I ⟨by decide, by decide, by decide⟩)) (at_int.mpr rfl))
              (eda_cons (ed_of (ev_op ev_c (ev_op ev_c ev_c (rv_I ⟨by decide, by decide, by decide⟩)) rv_I0) (at_int.mpr rfl))
              (eda_cons (ed_of (ev_op ev_c ev_c (rv_I ⟨by decide, by decide, by decide⟩)) (at_int.mpr rfl)) eda_nil))) (by show 3 ≤ 100000; decide)) eda_nil) ⟨_, rfl, by show 0 < 3; decide, by show 3 ≤ 1000; decide⟩ fun do_ vo G6 H6 ⟨lq, hlq, hdo⟩ l6 sp6 ao => ?_
          obtain rfl := D.lst.inj (List.cons.inj hlq).1
          obtain ⟨o, rfl, ho⟩ : ∃ o : Int, do_ = .int o ∧ (10 ^ 29 ≤ o ∨ o ≤ -(10 ^ 29)) := by
            simp only [List.mem_cons, List.mem_nil_iff, or_false] at hdo
            rcases hdo with rfl | rfl | rfl
            · exact ⟨_, rfl, Or.inl (by decide)⟩
            · exact ⟨_, rfl, Or.inr (by decide)⟩
            · exact ⟨_, rfl, Or.inl (by decide)⟩
          obtain rfl := at_int.mp ao
          have A6 := A5.go l6 sp6
          have e46 := l5.g.trans l6.g
          refine s_asgD (K := K) (O := FilO K C_Filter) (d := .dic (coll p (coll p r2 ++ [(o, 1)]))) (ed_call (eda_cons (ed_of (ev_var (i := 3) rfl) (at_int.mpr rfl)) (eda_cons (ed_cat (ds := (coll p r2).map pairD) (es := [(o, 1)].map pairD) (ed_call (d := .lst ((coll p r2).map pairD)) (eda_cons (ed_var (i := 5) rfl (a2.mono e46)) eda_nil) ⟨coll p r2, rfl, coll_nd, by omega, rfl⟩) (ed_lst (eda_cons (ed_tup (eda_cons (ed_of (ev_var (i := 6) rfl) (at_int.mpr rfl)) (eda_cons (ed_of ev_c (at_int.mpr rfl)) eda_nil)) (by show 2 ≤ 100000; decide)) eda_nil) (by show 1 ≤ 100000; decide)) (by rw [List.length_map]; show (coll p r2).length + 1 ≤ 100000; omega)) eda_nil)) ⟨p, coll p r2 ++ [(o, 1)], by rw [List.map_append], hp0, by rw [List.length_append]; show (coll p r2).length + 1 ≤ 30000; omega, rfl⟩) A6.e fun v7 G7 H7 l7 a7 => ?_
          have A7 := A6.le l7
          refine ⟨G7, v7, coll p r2 ++ [(o, 1)], _, rfl, e46.trans l7.g, ⟨A7.e, A7.gs, A7.gq, A7.spr.keep (fun _ _ z => z) (by omega)⟩, a7, ?_, FarB.coll ⟨o, ho, fun q hq => (List.mem_append.mp hq).elim (fun hq => Or.inl (Bnd.coll hbd2 q hq)) fun hq => Or.inr (by rw [List.mem_singleton.mp hq])⟩⟩
          have := coll_len (p := p) (rows := coll p r2 ++ [(o, 1)])
          rw [List.length_append] at this
          have h1 : [(o, (1 : Int))].length = 1 := rfl
          omega
        · rw [decide_eq_false hz]
          show (if false = true then _ else _)
          rw [if_neg Bool.false_ne_true]
          exact ⟨G5, v2, r2, _, rfl, l5.g, ⟨A5.e, A5.gs, A5.gq, A5.spr.keep (fun _ _ z => z) (by omega)⟩, a2.mono l5.g, by omega, FarB.coll ⟨10 ^ 29, Or.inl (by decide), fun q hq => Or.inl (hbd2 q hq)⟩⟩
      · rintro σ' H5 ⟨G5, v2', rr, x6', rfl, e45, A5, a5, hl6, far2⟩
        have a15 := a1'.mono e45
        have hn1 : ((coll p r1).map (·.1)).Nodup := coll_nd
        have hn2 : ((coll p rr).map (·.1)).Nodup := coll_nd
        have hs1 : Small (coll p r1) := small_coll hp
        have hs2 : Small (coll p rr) := small_coll hp
        have hc1 := coll_coll hp0 (a := r1)
        have hc2 := coll_coll hp0 (a := rr)
        have e15 := e14.trans e45
        have hb1 : Bnd 12 (coll p r1) := Bnd.coll hbd1
        generalize coll p r1 = m1 at a15 hl1 hn1 hs1 hc1 hb1
        generalize coll p rr = m2 at a5 hl6 hn2 hs2 hc2 far2
        obtain ⟨fit12, fit21⟩ := fit_far hc1 hc2 hb1 far2 hl1 hl6
        have hz12 : m1.length * m2.length ≤ 5 * 6 := Nat.mul_le_mul hl1 hl6
        have hz21 : m2.length * m1.length ≤ 6 * 5 := Nat.mul_le_mul hl6 hl1
        have hcm : coll p (prodL m1 m2) = coll p (prodL m2 m1) := coll_tot hp0 fun o => ⟨0, by rw [totl_prod_comm]; omega⟩
        have hDn : ((coll p (prodL m1 m2)).map (·.1)).Nodup := coll_nd
        have hDl : (coll p (prodL m1 m2)).length ≤ 20000 := by
          have := coll_len (p := p) (rows := prodL m1 m2)
          rw [len_prod] at this
          omega
        have dP : ∀ G', ∀ x0 x1 x2 x4 x5 x6 x7 x8 x9 x10, EvD K (FilO K C_Filter) (tVar 3) (S11 x0 x1 x2 (.some (.int p)) x4 x5 x6 x7 x8 x9 x10) G' (.int p) := fun G' _ _ _ _ _ _ _ _ _ _ => ed_of (ev_var rfl) (at_int.mpr rfl)
        have d1 : ∀ G', Ex G5 G' → ∀ x0 x1 x2 x3 x5 x6 x7 x8 x9 x10, EvD K (FilO K C_Filter) (tVar 4) (S11 x0 x1 x2 x3 (.some v1) x5 x6 x7 x8 x9 x10) G' (.dic m1) := fun G' e' _ _ _ _ _ _ _ _ _ _ => ed_var rfl (a15.mono e')
        have d2 : ∀ G', Ex G5 G' → ∀ x0 x1 x2 x3 x4 x6 x7 x8 x9 x10, EvD K (FilO K C_Filter) (tVar 5) (S11 x0 x1 x2 x3 x4 (.some v2') x6 x7 x8 x9 x10) G' (.dic m2) := fun G' e' _ _ _ _ _ _ _ _ _ _ => ed_var rfl (a5.mono e')
        refine q_parD (K := K) (O := FilO K C_Filter) (d1 := .obj ⟨p, m1⟩) (d2 := .obj ⟨p, m2⟩) (eda_cons (ed_call (eda_cons (dP _ _ _ _ _ _ _ _ _ _ _) (eda_cons (d1 _ (Ex.refl _) _ _ _ _ _ _ _ _ _ _) eda_nil)) ⟨p, m1, rfl, hp, hn1, by omega, hc1, rfl⟩) (eda_cons (ed_call (eda_cons (dP _ _ _ _ _ _ _ _ _ _ _) (eda_cons (d2 _ (Ex.refl _) _ _ _ _ _ _ _ _ _ _) eda_nil)) ⟨p, m2, rfl, hp, hn2, by omega, hc2, rfl⟩) eda_nil)) A5.e fun vf vg G6 H6 l6 af ag => ?_
        have A6 := A5.le l6
        show tSeq _ _ _ (S11 (.some (.ref a)) (.some (.ref s)) (.some x) (.some (.int p)) (.some v1) (.some v2') x6' (.some vf) (.some vg) x9 x10) H6
        refine q_asgD (K := K) (O := FilO K C_Filter) (d := .dic (coll p (prodL m1 m2))) (ed_call (eda_cons (dP _ _ _ _ _ _ _ _ _ _ _) (eda_cons (d1 _ l6.g _ _ _ _ _ _ _ _ _ _) (eda_cons (d2 _ l6.g _ _ _ _ _ _ _ _ _ _) eda_nil))) ⟨p, m1, m2, rfl, hp0, hn1, hn2, hs1, by omega, rfl⟩) A6.e fun vD G7 H7 l7 aD => ?_
        have A7 := A6.le l7
        show tSeq _ _ _ (S11 (.some (.ref a)) (.some (.ref s)) (.some x) (.some (.int p)) (.some v1) (.some v2') x6' (.some vf) (.some vg) (.some vD) x10) H7
        have dF : ∀ G', Ex G6 G' → ∀ x0 x1 x2 x3 x4 x5 x6 x8 x9 x10, EvD K (FilO K C_Filter) (tVar 7) (S11 x0 x1 x2 x3 x4 x5 x6 (.some vf) x8 x9 x10) G' (.obj ⟨p, m1⟩) := fun G' e' _ _ _ _ _ _ _ _ _ _ => ed_var rfl (af.mono e')
        have dG : ∀ G', Ex G6 G' → ∀ x0 x1 x2 x3 x4 x5 x6 x7 x9 x10, EvD K (FilO K C_Filter) (tVar 8) (S11 x0 x1 x2 x3 x4 x5 x6 x7 (.some vg) x9 x10) G' (.obj ⟨p, m2⟩) := fun G' e' _ _ _ _ _ _ _ _ _ _ => ed_var rfl (ag.mono e')
        have dD : ∀ G', Ex G7 G' → ∀ x0 x1 x2 x3 x4 x5 x6 x7 x8 x10, EvD K (FilO K C_Filter) (tVar 9) (S11 x0 x1 x2 x3 x4 x5 x6 x7 x8 (.some vD) x10) G' (.dic (coll p (prodL m1 m2))) := fun G' e' _ _ _ _ _ _ _ _ _ _ => ed_var rfl (aD.mono e')
        have rM : rMulF [.obj ⟨p, m1⟩, .obj ⟨p, m2⟩] (.obj ⟨p, coll p (prodL m1 m2)⟩) := ⟨⟨p, m1⟩, ⟨p, m2⟩, rfl, rfl, hp, fit12, rfl⟩
        have rN : rMulF [.obj ⟨p, m2⟩, .obj ⟨p, m1⟩] (.obj ⟨p, coll p (prodL m1 m2)⟩) := ⟨⟨p, m2⟩, ⟨p, m1⟩, rfl, rfl, hp, fit21, by rw [hcm]⟩
        refine q_skip (et_is (et_or (et_not (et_ofD (ed_call (d := .bl true) (eda_cons (ed_binF (dF _ l7.g _ _ _ _ _ _ _ _ _ _) (dG _ l7.g _ _ _ _ _ _ _ _ _ _) rM) (eda_cons (dP _ _ _ _ _ _ _ _ _ _ _) (eda_cons (dD _ (Ex.refl _) _ _ _ _ _ _ _ _ _ _) eda_nil))) ⟨p, _, rfl, hDn, hDl, rfl⟩)))
          fun _ => et_not (et_ofD (ed_call (d := .bl true) (eda_cons (ed_binF (dG _ l7.g _ _ _ _ _ _ _ _ _ _) (dF _ l7.g _ _ _ _ _ _ _ _ _ _) rN) (eda_cons (dP _ _ _ _ _ _ _ _ _ _ _) (eda_cons (dD _ (Ex.refl _) _ _ _ _ _ _ _ _ _ _) eda_nil))) ⟨p, _, rfl, hDn, hDl, rfl⟩))) rfl) A7.e fun H8 l8 => ?_
        have A8 := A7.le l8
        refine q_asgD (dF _ l7.g _ _ _ _ _ _ _ _ _ _) A8.e fun vh G9 H9 l9 ah => ?_
        have A9 := A8.le l9
        show tSeq _ _ _ (S11 (.some (.ref a)) (.some (.ref s)) (.some x) (.some (.int p)) (.some v1) (.some v2') x6' (.some vf) (.some vg) (.some vD) (.some vh)) H9
        refine q_augF (i := 10) (R := rMulF) rfl ah (dG _ (l7.g.trans l9.g) _ _ _ _ _ _ _ _ _ _) rM A9.e fun vz G10 H10 l10 az => ?_
        have A10 := A9.le l10
        show tSeq _ _ _ (S11 (.some (.ref a)) (.some (.ref s)) (.some x) (.some (.int p)) (.some v1) (.some v2') x6' (.some vf) (.some vg) (.some vD) (.some vz)) H10
        have e710 := l9.g.trans l10.g
        have e610 := l7.g.trans e710
        have e510 := l6.g.trans e610
        refine q_skip (et_is (et_or (et_not (et_ofD (ed_call (d := .bl true) (eda_cons (ed_var (i := 10) rfl az) (eda_cons (dP _ _ _ _ _ _ _ _ _ _ _) (eda_cons (dD _ e710 _ _ _ _ _ _ _ _ _ _) eda_nil))) ⟨p, _, rfl, hDn, hDl, rfl⟩)))
          fun _ => et_or (et_not (et_ofD (ed_call (d := .bl true) (eda_cons (dF _ e610 _ _ _ _ _ _ _ _ _ _) (eda_cons (dP _ _ _ _ _ _ _ _ _ _ _) (eda_cons (d1 _ e510 _ _ _ _ _ _ _ _ _ _) eda_nil))) ⟨p, _, rfl, hn1, by omega, rfl⟩)))
          fun _ => et_not (et_ofD (ed_call (d := .bl true) (eda_cons (dG _ e610 _ _ _ _ _ _ _ _ _ _) (eda_cons (dP _ _ _ _ _ _ _ _ _ _ _) (eda_cons (d2 _ e510 _ _ _ _ _ _ _ _ _ _) eda_nil))) ⟨p, _, rfl, hn2, by omega, rfl⟩))) rfl) A10.e fun H11 l11 => ?_
        have A11 := A10.le l11
        refine x_call A11.e A11.gs A11.gq A11.spr (by omega) (i := 1) rfl (eda_cons (dP _ _ _ _ _ _ _ _ _ _ _) eda_nil) ⟨p, rfl, hp⟩ fun dq vq G12 H12 hq l12 sp12 aq => ?_
        have hq' : dq = .bl true := hq
        subst hq'
        obtain rfl := at_bl.mp aq
        have A12 := A11.go l12 sp12
        refine ⟨true, rfl, ?_⟩
        show (if (!true) = true then _ else _)
        rw [if_neg (by decide)]
        exact hN _ G12 H12 ((e15.trans e510).trans l12.g) A12.e ⟨_, _, _, _, _, _, _, _, _, rfl, A12.e, A12.gs, A12.gq, A12.spr.keep (fun _ _ z => z) (by omega)⟩
    · rintro σ' G' H' e1 e2 ⟨x2, x3, x4, x5, x6, x7, x8, x9, x10, rfl, Ai⟩
      exact k H'
end
end SR
set_option maxRecDepth 100000
set_option maxHeartbeats 4000000
namespace SR
open PySem PySem.Spec PyProof.Rows L2 Evl
/-! ### the end: what the top leaves -/
theorem kit_ref {K : PySem.W.Frag} {C : Addr} {x : String} {v : ClassData} (h1 : PySem.W.clsIn K C = some v) (h2 : PySem.W.typeIn K (.ref C) = some (.type "type")) (h3 : PySem.W.subIn K (.type x) (.ref C) = some false) : PySem.W.kitOne K (.type x) (.ref C) = some false := by
  show (if (Value.type x == Value.ref C) = true then some true else PySem.W.kitCls K (.type x) (.ref C)) = some false
  have e : (Value.type x == Value.ref C) = false := rfl
  rw [e, if_neg Bool.false_ne_true]
  show (if ((PySem.W.clsIn K C).isSome && PySem.W.typeIn K (.ref C) == some (.type "type")) = true then PySem.W.subIn K (.type x) (.ref C) else none) = some false
  rw [h1, h2, h3]
  rfl
theorem kit_type {K : PySem.W.Frag} {C : Addr} {T : String} (h1 : PySem.W.kitMeta T = true) (h3 : PySem.W.subIn K (.ref C) (.type T) = some false) : PySem.W.kitOne K (.ref C) (.type T) = some false := by
  show (if (Value.ref C == Value.type T) = true then some true else PySem.W.kitCls K (.ref C) (.type T)) = some false
  have e : (Value.ref C == Value.type T) = false := rfl
  rw [e, if_neg Bool.false_ne_true]
  show (if PySem.W.kitMeta T = true then PySem.W.subIn K (.ref C) (.type T) else none) = some false
  rw [h1, h3]
  rfl
theorem all_mk {l : PySem.W.OpenLaw} {w : World} {K : PySem.W.Frag} {h : Heap} {mg : Str → Option Value} {C aP T0 e0 fa : Addr} {fBo : Addr} {fCO : Addr} {fCP : Addr} {fFB : Addr} {fGe : Addr} {fHi : Addr} {fII : Addr} {fIL : Addr} {fIP : Addr} {fIT : Addr} {fIn : Addr} {fLA : Addr} {fLD : Addr} {fLE : Addr} {fLH : Addr} {fLI : Addr} {fLL : Addr} {fLM : Addr} {fLN : Addr} {fLP : Addr} {fLR : Addr} {fLS : Addr} {fLT : Addr} {fLW : Addr} {fLo : Addr} {fMu : Addr} {fPR : Addr} {fPw : Addr} {fQC : Addr} {fQD : Addr} {fQL : Addr} {fQM : Addr} {fQP : Addr} {fQS : Addr} {fQU : Addr} {fSp : Addr} {fTe : Addr} {slBo : Array (Option Value)} {slCO : Array (Option Value)} {slCP : Array (Option Value)} {slFB : Array (Option Value)} {slGe : Array (Option Value)} {slHi : Array (Option Value)} {slII : Array (Option Value)} {slIL : Array (Option Value)} {slIP : Array (Option Value)} {slIT : Array (Option Value)} {slIn : Array (Option Value)} {slLA : Array (Option Value)} {slLD : Array (Option Value)} {slLE : Array (Option Value)} {slLH : Array (Option Value)} {slLI : Array (Option Value)} {slLL : Array (Option Value)} {slLM : Array (Option Value)} {slLN : Array (Option Value)} {slLP : Array (Option Value)} {slLR : Array (Option Value)} {slLS : Array (Option Value)} {slLT : Array (Option Value)} {slLW : Array (Option Value)} {slLo : Array (Option Value)} {slMu : Array (Option Value)} {slP slT slE : Array (Option Value)} {slPR : Array (Option Value)} {slPw : Array (Option Value)} {slQC : Array (Option Value)} {slQD : Array (Option Value)} {slQL : Array (Option Value)} {slQM : Array (Option Value)} {slQP : Array (Option Value)} {slQS : Array (Option Value)} {slQU : Array (Option Value)} {slSp : Array (Option Value)} {slTe : Array (Option Value)} {clsv : ClassData} {nP nT nE : Nat} {odBo anBo : Option Addr} {odCO anCO : Option Addr} {odCP anCP : Option Addr} {odFB anFB : Option Addr} {odGe anGe : Option Addr} {odHi anHi : Option Addr} {odII anII : Option Addr} {odIL anIL : Option Addr} {odIP anIP : Option Addr} {odIT anIT : Option Addr} {odIn anIn : Option Addr} {odLA anLA : Option Addr} {odLD anLD : Option Addr} {odLE anLE : Option Addr} {odLH anLH : Option Addr} {odLI anLI : Option Addr} {odLL anLL : Option Addr} {odLM anLM : Option Addr} {odLN anLN : Option Addr} {odLP anLP : Option Addr} {odLR anLR : Option Addr} {odLS anLS : Option Addr} {odLT anLT : Option Addr} {odLW anLW : Option Addr} {odLo anLo : Option Addr} {odMu anMu : Option Addr} {odP odT odE : Option Addr} {odPR anPR : Option Addr} {odPw anPw : Option Addr} {odQC anQC : Option Addr} {odQD anQD : Option Addr} {odQL anQL : Option Addr} {odQM anQM : Option Addr} {odQP anQP : Option Addr} {odQS anQS : Option Addr} {odQU anQU : Option Addr} {odSp anSp : Option Addr} {odTe anTe : Option Addr} {foP roP : Option Value} {tP1 tP2 tP3 tP4 : Tok} {tW1 tW2 tW3 : Tok} {ocBo kVBo dcBo pmBo cdBo ctBo : Value} {ocCO kVCO dcCO pmCO cdCO ctCO : Value} {ocCP kVCP dcCP pmCP cdCP ctCP : Value} {ocFB kVFB dcFB pmFB cdFB ctFB : Value} {ocGe kVGe dcGe pmGe cdGe ctGe : Value} {ocHi kVHi dcHi pmHi cdHi ctHi : Value} {ocII kVII dcII pmII cdII ctII : Value} {ocIL kVIL dcIL pmIL cdIL ctIL : Value} {ocIP kVIP dcIP pmIP cdIP ctIP : Value} {ocIT kVIT dcIT pmIT cdIT ctIT : Value} {ocIn kVIn dcIn pmIn cdIn ctIn : Value} {ocLA kVLA dcLA pmLA cdLA ctLA : Value} {ocLD kVLD dcLD pmLD cdLD ctLD : Value} {ocLE kVLE dcLE pmLE cdLE ctLE : Value} {ocLH kVLH dcLH pmLH cdLH ctLH : Value} {ocLI kVLI dcLI pmLI cdLI ctLI : Value} {ocLL kVLL dcLL pmLL cdLL ctLL : Value} {ocLM kVLM dcLM pmLM cdLM ctLM : Value} {ocLN kVLN dcLN pmLN cdLN ctLN : Value} {ocLP kVLP dcLP pmLP cdLP ctLP : Value} {ocLR kVLR dcLR pmLR cdLR ctLR : Value} {ocLS kVLS dcLS pmLS cdLS ctLS : Value} {ocLT kVLT dcLT pmLT cdLT ctLT : Value} {ocLW kVLW dcLW pmLW cdLW ctLW : Value} {ocLo kVLo dcLo pmLo cdLo ctLo : Value} {ocMu kVMu dcMu pmMu cdMu ctMu : Value} {ocPR kVPR dcPR pmPR cdPR ctPR : Value} {ocPw kVPw dcPw pmPw cdPw ctPw : Value} {ocQC kVQC dcQC pmQC cdQC ctQC : Value} {ocQD kVQD dcQD pmQD cdQD ctQD : Value} {ocQL kVQL dcQL pmQL cdQL ctQL : Value} {ocQM kVQM dcQM pmQM cdQM ctQM : Value} {ocQP kVQP dcQP pmQP cdQP ctQP : Value} {ocQS kVQS dcQS pmQS cdQS ctQS : Value} {ocQU kVQU dcQU pmQU cdQU ctQU : Value} {ocSp kVSp dcSp pmSp cdSp ctSp : Value} {ocT : Value} {ocTe kVTe dcTe pmTe cdTe ctTe : Value} (X : K.In h) (G : h.Ns mainGlobals mg) (hfa : mg "law" = some (.ref fa))
    (aC : PySem.W.nsIn K mainGlobals "Filter" = some (some (.ref C)))
    (pg : PySem.W.plainGet K C Str.empty = true)
    (hdi : PySem.W.hasDictIn K C = true)
    (po : PySem.W.plainOver K C = true)
    (sa : PySem.W.findIn K (.ref C) "__setattr__" = some (some (.builtin "object.__setattr__")))
    (mk : PySem.W.makesIn K C = true)
    (kc : PySem.W.keepIn K (.ref C) = true)
    (n1 : PySem.W.findIn K (.ref C) "prime" = some none)
    (n2 : PySem.W.findIn K (.ref C) "pairs" = some none)
    (n3 : PySem.W.findIn K (.ref C) "coefficients" = some none)
    (cC : PySem.W.clsIn K C = some clsv)
    (tyC : PySem.W.typeIn K (.ref C) = some (.type "type"))
    (tk_NoneType : PySem.W.subIn K (.type "NoneType") (.ref C) = some false)
    (tk_bool : PySem.W.subIn K (.type "bool") (.ref C) = some false)
    (tk_int : PySem.W.subIn K (.type "int") (.ref C) = some false)
    (tk_str : PySem.W.subIn K (.type "str") (.ref C) = some false)
    (tk_list : PySem.W.subIn K (.type "list") (.ref C) = some false)
    (tk_tuple : PySem.W.subIn K (.type "tuple") (.ref C) = some false)
    (tk_dict : PySem.W.subIn K (.type "dict") (.ref C) = some false)
    (to_int : PySem.W.subIn K (.ref C) (.type "int") = some false)
    (to_bool : PySem.W.subIn K (.ref C) (.type "bool") = some false)
    (to_list : PySem.W.subIn K (.ref C) (.type "list") = some false)
    (to_tuple : PySem.W.subIn K (.ref C) (.type "tuple") = some false)
    (tca : PySem.W.findIn K (.ref C) "__class__" = some (some (.builtin "object.__class__")))
    (tcn : PySem.W.specialIn K (.builtin "object.__class__") "__get__" = some (some (.builtin "getset_descriptor.__get__")))
    (tct : PySem.W.takesIn K (.builtin "object.__class__") = some true)
    (tcm : PySem.W.mroIn K C (.type "object") = some true)
    (z_len : PySem.W.nsIn K mainGlobals "len" = some none)
    (z_isinstance : PySem.W.nsIn K mainGlobals "isinstance" = some none)
    (z_int : PySem.W.nsIn K mainGlobals "int" = some none)
    (z_bool : PySem.W.nsIn K mainGlobals "bool" = some none)
    (z_list : PySem.W.nsIn K mainGlobals "list" = some none)
    (z_tuple : PySem.W.nsIn K mainGlobals "tuple" = some none)
    (z_dict : PySem.W.nsIn K mainGlobals "dict" = some none)
    (z_sorted : PySem.W.nsIn K mainGlobals "sorted" = some none)
    (z_enumerate : PySem.W.nsIn K mainGlobals "enumerate" = some none)
    (z_zip : PySem.W.nsIn K mainGlobals "zip" = some none)
    (z_range : PySem.W.nsIn K mainGlobals "range" = some none)
    (z_all : PySem.W.nsIn K mainGlobals "all" = some none)
    (z_any : PySem.W.nsIn K mainGlobals "any" = some none)
    (z_reversed : PySem.W.nsIn K mainGlobals "reversed" = some none)
    (z_sum : PySem.W.nsIn K mainGlobals "sum" = some none)
    (z_min : PySem.W.nsIn K mainGlobals "min" = some none)
    (z_max : PySem.W.nsIn K mainGlobals "max" = some none)
    (z_abs : PySem.W.nsIn K mainGlobals "abs" = some none)
    (aPr : PySem.W.nsIn K mainGlobals "PRIMES" = some (some (.ref aP)))
    (lP : K.lookup aP = some ⟨.type "tuple", odP, .seq #[.int 2 tP1, .int 3 tP2, .int 5 tP3, .int 7 tP4] nP, slP⟩)
    (aIn : PySem.W.findIn K (.ref C) "__init__" = some (some (.ref fIn)))
    (iIn : PySem.W.isFn K (.ref fIn) = true)
    (lIn : K.lookup fIn = some ⟨ocIn, odIn, .func (PySem.W.fnOf "__init__" "Filter.__init__" (defArgs Filter___init___S) (defBody Filter___init___S) (defScope Filter___init___S) (.ref T0) kVIn dcIn pmIn anIn cdIn ctIn), slIn⟩)
    (cIn : PySem.W.codeIn K cdIn "Filter.__init__" = true)
    (kIn : PySem.W.keepIn K (.ref fIn) = true)
    (lT : K.lookup T0 = some ⟨ocT, odT, .seq #[.ref e0] nT, slT⟩)
    (lE : K.lookup e0 = some ⟨.type "tuple", odE, .seq #[] nE, slE⟩)
    (sf : PySem.W.selfFirst K C = true)
    (aTe : PySem.W.findIn K (.ref C) "terms" = some (some (.ref fTe)))
    (iTe : PySem.W.isFn K (.ref fTe) = true)
    (lTe : K.lookup fTe = some ⟨ocTe, odTe, .func (PySem.W.fnOf "terms" "Filter.terms" (defArgs Filter_terms_S) (defBody Filter_terms_S) (defScope Filter_terms_S) .none kVTe dcTe pmTe anTe cdTe ctTe), slTe⟩)
    (cTe : PySem.W.codeIn K cdTe "Filter.terms" = true)
    (kTe : PySem.W.keepIn K (.ref fTe) = true)
    (aMu : PySem.W.findIn K (.ref C) (PySem.dunder Operator.Mult.info.2) = some (some (.ref fMu)))
    (iMu : PySem.W.isFn K (.ref fMu) = true)
    (lMu : K.lookup fMu = some ⟨ocMu, odMu, .func (PySem.W.fnOf "__mul__" "Filter.__mul__" (defArgs Filter___mul___S) (defBody Filter___mul___S) (defScope Filter___mul___S) .none kVMu dcMu pmMu anMu cdMu ctMu), slMu⟩)
    (cMu : PySem.W.codeIn K cdMu "Filter.__mul__" = true)
    (kMu : PySem.W.keepIn K (.ref fMu) = true)
    (aPw : PySem.W.findIn K (.ref C) (PySem.dunder Operator.Pow.info.2) = some (some (.ref fPw)))
    (iPw : PySem.W.isFn K (.ref fPw) = true)
    (lPw : K.lookup fPw = some ⟨ocPw, odPw, .func (PySem.W.fnOf "__pow__" "Filter.__pow__" (defArgs Filter___pow___S) (defBody Filter___pow___S) (defScope Filter___pow___S) .none kVPw dcPw pmPw anPw cdPw ctPw), slPw⟩)
    (cPw : PySem.W.codeIn K cdPw "Filter.__pow__" = true)
    (kPw : PySem.W.keepIn K (.ref fPw) = true)
    (rP : PySem.W.findIn K (.ref C) (PySem.dunderR Operator.Pow.info.2) = some none)
    (oP : PySem.W.findIn K (.type "int") (PySem.dunder Operator.Pow.info.2) = some foP)
    (qP : PySem.W.findIn K (.type "int") (PySem.dunderR Operator.Pow.info.2) = some roP)
    (mro : clsv.mro = [.ref C, .type "object"])
    (iM : PySem.W.findIn K (.ref C) (PySem.dunderI Operator.Mult.info.2) = some none)
    (iO : PySem.W.findIn K (.type "object") (PySem.dunderI Operator.Mult.info.2) = some none)
    (aII : PySem.W.nsIn K mainGlobals "is_int" = some (some (.ref fII)))
    (lII : K.lookup fII = some ⟨ocII, odII, .func (PySem.W.fnOf "is_int" "is_int" (defArgs is_int_S) (defBody is_int_S) (defScope is_int_S) .none kVII dcII pmII anII cdII ctII), slII⟩)
    (cII : PySem.W.codeIn K cdII "is_int" = true)
    (kII : PySem.W.keepIn K (.ref fII) = true)
    (aIL : PySem.W.nsIn K mainGlobals "is_list" = some (some (.ref fIL)))
    (lIL : K.lookup fIL = some ⟨ocIL, odIL, .func (PySem.W.fnOf "is_list" "is_list" (defArgs is_list_S) (defBody is_list_S) (defScope is_list_S) .none kVIL dcIL pmIL anIL cdIL ctIL), slIL⟩)
    (cIL : PySem.W.codeIn K cdIL "is_list" = true)
    (kIL : PySem.W.keepIn K (.ref fIL) = true)
    (aIP : PySem.W.nsIn K mainGlobals "is_prime" = some (some (.ref fIP)))
    (lIP : K.lookup fIP = some ⟨ocIP, odIP, .func (PySem.W.fnOf "is_prime" "is_prime" (defArgs is_prime_S) (defBody is_prime_S) (defScope is_prime_S) .none kVIP dcIP pmIP anIP cdIP ctIP), slIP⟩)
    (cIP : PySem.W.codeIn K cdIP "is_prime" = true)
    (kIP : PySem.W.keepIn K (.ref fIP) = true)
    (aIT : PySem.W.nsIn K mainGlobals "is_term" = some (some (.ref fIT)))
    (lIT : K.lookup fIT = some ⟨ocIT, odIT, .func (PySem.W.fnOf "is_term" "is_term" (defArgs is_term_S) (defBody is_term_S) (defScope is_term_S) .none kVIT dcIT pmIT anIT cdIT ctIT), slIT⟩)
    (cIT : PySem.W.codeIn K cdIT "is_term" = true)
    (kIT : PySem.W.keepIn K (.ref fIT) = true)
    (aFB : PySem.W.nsIn K mainGlobals "first_bad_term" = some (some (.ref fFB)))
    (lFB : K.lookup fFB = some ⟨ocFB, odFB, .func (PySem.W.fnOf "first_bad_term" "first_bad_term" (defArgs first_bad_term_S) (defBody first_bad_term_S) (defScope first_bad_term_S) .none kVFB dcFB pmFB anFB cdFB ctFB), slFB⟩)
    (cFB : PySem.W.codeIn K cdFB "first_bad_term" = true)
    (kFB : PySem.W.keepIn K (.ref fFB) = true)
    (aCO : PySem.W.nsIn K mainGlobals "collected" = some (some (.ref fCO)))
    (lCO : K.lookup fCO = some ⟨ocCO, odCO, .func (PySem.W.fnOf "collected" "collected" (defArgs collected_S) (defBody collected_S) (defScope collected_S) .none kVCO dcCO pmCO anCO cdCO ctCO), slCO⟩)
    (cCO : PySem.W.codeIn K cdCO "collected" = true)
    (kCO : PySem.W.keepIn K (.ref fCO) = true)
    (aCP : PySem.W.nsIn K mainGlobals "check_primes" = some (some (.ref fCP)))
    (lCP : K.lookup fCP = some ⟨ocCP, odCP, .func (PySem.W.fnOf "check_primes" "check_primes" (defArgs check_primes_S) (defBody check_primes_S) (defScope check_primes_S) .none kVCP dcCP pmCP anCP cdCP ctCP), slCP⟩)
    (cCP : PySem.W.codeIn K cdCP "check_primes" = true)
    (kCP : PySem.W.keepIn K (.ref fCP) = true)
    (aPR : PySem.W.nsIn K mainGlobals "product" = some (some (.ref fPR)))
    (lPR : K.lookup fPR = some ⟨ocPR, odPR, .func (PySem.W.fnOf "product" "product" (defArgs product_S) (defBody product_S) (defScope product_S) .none kVPR dcPR pmPR anPR cdPR ctPR), slPR⟩)
    (cPR : PySem.W.codeIn K cdPR "product" = true)
    (kPR : PySem.W.keepIn K (.ref fPR) = true)
    (aLS : PySem.W.nsIn K mainGlobals "_law_spring" = some (some (.ref fLS)))
    (lLS : K.lookup fLS = some ⟨ocLS, odLS, .func (PySem.W.fnOf "_law_spring" "_law_spring" (defArgs _law_spring_S) (defBody _law_spring_S) (defScope _law_spring_S) .none kVLS dcLS pmLS anLS cdLS ctLS), slLS⟩)
    (cLS : PySem.W.codeIn K cdLS "_law_spring" = true)
    (kLS : PySem.W.keepIn K (.ref fLS) = true)
    (aLD : PySem.W.nsIn K mainGlobals "_law_draw" = some (some (.ref fLD)))
    (lLD : K.lookup fLD = some ⟨ocLD, odLD, .func (PySem.W.fnOf "_law_draw" "_law_draw" (defArgs _law_draw_S) (defBody _law_draw_S) (defScope _law_draw_S) .none kVLD dcLD pmLD anLD cdLD ctLD), slLD⟩)
    (cLD : PySem.W.codeIn K cdLD "_law_draw" = true)
    (kLD : PySem.W.keepIn K (.ref fLD) = true)
    (aLP : PySem.W.nsIn K mainGlobals "_law_pick" = some (some (.ref fLP)))
    (lLP : K.lookup fLP = some ⟨ocLP, odLP, .func (PySem.W.fnOf "_law_pick" "_law_pick" (defArgs _law_pick_S) (defBody _law_pick_S) (defScope _law_pick_S) .none kVLP dcLP pmLP anLP cdLP ctLP), slLP⟩)
    (cLP : PySem.W.codeIn K cdLP "_law_pick" = true)
    (kLP : PySem.W.keepIn K (.ref fLP) = true)
    (aLM : PySem.W.nsIn K mainGlobals "_law_same" = some (some (.ref fLM)))
    (lLM : K.lookup fLM = some ⟨ocLM, odLM, .func (PySem.W.fnOf "_law_same" "_law_same" (defArgs _law_same_S) (defBody _law_same_S) (defScope _law_same_S) .none kVLM dcLM pmLM anLM cdLM ctLM), slLM⟩)
    (cLM : PySem.W.codeIn K cdLM "_law_same" = true)
    (kLM : PySem.W.keepIn K (.ref fLM) = true)
    (aLH : PySem.W.nsIn K mainGlobals "_law_held" = some (some (.ref fLH)))
    (lLH : K.lookup fLH = some ⟨ocLH, odLH, .func (PySem.W.fnOf "_law_held" "_law_held" (defArgs _law_held_S) (defBody _law_held_S) (defScope _law_held_S) .none kVLH dcLH pmLH anLH cdLH ctLH), slLH⟩)
    (cLH : PySem.W.codeIn K cdLH "_law_held" = true)
    (kLH : PySem.W.keepIn K (.ref fLH) = true)
    (aLA : PySem.W.nsIn K mainGlobals "_law_pairs" = some (some (.ref fLA)))
    (lLA : K.lookup fLA = some ⟨ocLA, odLA, .func (PySem.W.fnOf "_law_pairs" "_law_pairs" (defArgs _law_pairs_S) (defBody _law_pairs_S) (defScope _law_pairs_S) .none kVLA dcLA pmLA anLA cdLA ctLA), slLA⟩)
    (cLA : PySem.W.codeIn K cdLA "_law_pairs" = true)
    (kLA : PySem.W.keepIn K (.ref fLA) = true)
    (aLR : PySem.W.nsIn K mainGlobals "_law_prime" = some (some (.ref fLR)))
    (lLR : K.lookup fLR = some ⟨ocLR, odLR, .func (PySem.W.fnOf "_law_prime" "_law_prime" (defArgs _law_prime_S) (defBody _law_prime_S) (defScope _law_prime_S) .none kVLR dcLR pmLR anLR cdLR ctLR), slLR⟩)
    (cLR : PySem.W.codeIn K cdLR "_law_prime" = true)
    (kLR : PySem.W.keepIn K (.ref fLR) = true)
    (aLT : PySem.W.nsIn K mainGlobals "_law_times" = some (some (.ref fLT)))
    (lLT : K.lookup fLT = some ⟨ocLT, odLT, .func (PySem.W.fnOf "_law_times" "_law_times" (defArgs _law_times_S) (defBody _law_times_S) (defScope _law_times_S) .none kVLT dcLT pmLT anLT cdLT ctLT), slLT⟩)
    (cLT : PySem.W.codeIn K cdLT "_law_times" = true)
    (kLT : PySem.W.keepIn K (.ref fLT) = true)
    (aLN : PySem.W.nsIn K mainGlobals "_law_drawn" = some (some (.ref fLN)))
    (lLN : K.lookup fLN = some ⟨ocLN, odLN, .func (PySem.W.fnOf "_law_drawn" "_law_drawn" (defArgs _law_drawn_S) (defBody _law_drawn_S) (defScope _law_drawn_S) .none kVLN dcLN pmLN anLN cdLN ctLN), slLN⟩)
    (cLN : PySem.W.codeIn K cdLN "_law_drawn" = true)
    (kLN : PySem.W.keepIn K (.ref fLN) = true)
    (aLE : PySem.W.nsIn K mainGlobals "_law_made" = some (some (.ref fLE)))
    (lLE : K.lookup fLE = some ⟨ocLE, odLE, .func (PySem.W.fnOf "_law_made" "_law_made" (defArgs _law_made_S) (defBody _law_made_S) (defScope _law_made_S) .none kVLE dcLE pmLE anLE cdLE ctLE), slLE⟩)
    (cLE : PySem.W.codeIn K cdLE "_law_made" = true)
    (kLE : PySem.W.keepIn K (.ref fLE) = true)
    (aLI : PySem.W.nsIn K mainGlobals "_law_is" = some (some (.ref fLI)))
    (lLI : K.lookup fLI = some ⟨ocLI, odLI, .func (PySem.W.fnOf "_law_is" "_law_is" (defArgs _law_is_S) (defBody _law_is_S) (defScope _law_is_S) .none kVLI dcLI pmLI anLI cdLI ctLI), slLI⟩)
    (cLI : PySem.W.codeIn K cdLI "_law_is" = true)
    (kLI : PySem.W.keepIn K (.ref fLI) = true)
    (aLW : PySem.W.nsIn K mainGlobals "_law_powers_right" = some (some (.ref fLW)))
    (lLW : K.lookup fLW = some ⟨ocLW, odLW, .func (PySem.W.fnOf "_law_powers_right" "_law_powers_right" (defArgs _law_powers_right_S) (defBody _law_powers_right_S) (defScope _law_powers_right_S) .none kVLW dcLW pmLW anLW cdLW ctLW), slLW⟩)
    (cLW : PySem.W.codeIn K cdLW "_law_powers_right" = true)
    (kLW : PySem.W.keepIn K (.ref fLW) = true)
    (aLL : PySem.W.nsIn K mainGlobals "law" = some (some (.ref fLL)))
    (lLL : K.lookup fLL = some ⟨ocLL, odLL, .func (PySem.W.fnOf "law" "law" (defArgs law_S) (defBody law_S) (defScope law_S) .none kVLL dcLL pmLL anLL cdLL ctLL), slLL⟩)
    (cLL : PySem.W.codeIn K cdLL "law" = true)
    (kLL : PySem.W.keepIn K (.ref fLL) = true)
    (aQP : PySem.W.nsIn K mainGlobals "pack" = some (some (.ref fQP)))
    (lQP : K.lookup fQP = some ⟨ocQP, odQP, .func (PySem.W.fnOf "pack" "pack" (defArgs pack_S) (defBody pack_S) (defScope pack_S) .none kVQP dcQP pmQP anQP cdQP ctQP), slQP⟩)
    (cQP : PySem.W.codeIn K cdQP "pack" = true)
    (kQP : PySem.W.keepIn K (.ref fQP) = true)
    (aQU : PySem.W.nsIn K mainGlobals "unpack" = some (some (.ref fQU)))
    (lQU : K.lookup fQU = some ⟨ocQU, odQU, .func (PySem.W.fnOf "unpack" "unpack" (defArgs unpack_S) (defBody unpack_S) (defScope unpack_S) .none kVQU dcQU pmQU anQU cdQU ctQU), slQU⟩)
    (cQU : PySem.W.codeIn K cdQU "unpack" = true)
    (kQU : PySem.W.keepIn K (.ref fQU) = true)
    (aQS : PySem.W.nsIn K mainGlobals "slot_mask" = some (some (.ref fQS)))
    (lQS : K.lookup fQS = some ⟨ocQS, odQS, .func (PySem.W.fnOf "slot_mask" "slot_mask" (defArgs slot_mask_S) (defBody slot_mask_S) (defScope slot_mask_S) .none kVQS dcQS pmQS anQS cdQS ctQS), slQS⟩)
    (cQS : PySem.W.codeIn K cdQS "slot_mask" = true)
    (kQS : PySem.W.keepIn K (.ref fQS) = true)
    (aQL : PySem.W.nsIn K mainGlobals "lowered" = some (some (.ref fQL)))
    (lQL : K.lookup fQL = some ⟨ocQL, odQL, .func (PySem.W.fnOf "lowered" "lowered" (defArgs lowered_S) (defBody lowered_S) (defScope lowered_S) .none kVQL dcQL pmQL anQL cdQL ctQL), slQL⟩)
    (cQL : PySem.W.codeIn K cdQL "lowered" = true)
    (kQL : PySem.W.keepIn K (.ref fQL) = true)
    (aQM : PySem.W.nsIn K mainGlobals "multiplied" = some (some (.ref fQM)))
    (lQM : K.lookup fQM = some ⟨ocQM, odQM, .func (PySem.W.fnOf "multiplied" "multiplied" (defArgs multiplied_S) (defBody multiplied_S) (defScope multiplied_S) .none kVQM dcQM pmQM anQM cdQM ctQM), slQM⟩)
    (cQM : PySem.W.codeIn K cdQM "multiplied" = true)
    (kQM : PySem.W.keepIn K (.ref fQM) = true)
    (aQC : PySem.W.nsIn K mainGlobals "places" = some (some (.ref fQC)))
    (lQC : K.lookup fQC = some ⟨ocQC, odQC, .func (PySem.W.fnOf "places" "places" (defArgs places_S) (defBody places_S) (defScope places_S) .none kVQC dcQC pmQC anQC cdQC ctQC), slQC⟩)
    (cQC : PySem.W.codeIn K cdQC "places" = true)
    (kQC : PySem.W.keepIn K (.ref fQC) = true)
    (aQD : PySem.W.nsIn K mainGlobals "is_dense" = some (some (.ref fQD)))
    (lQD : K.lookup fQD = some ⟨ocQD, odQD, .func (PySem.W.fnOf "is_dense" "is_dense" (defArgs is_dense_S) (defBody is_dense_S) (defScope is_dense_S) .none kVQD dcQD pmQD anQD cdQD ctQD), slQD⟩)
    (cQD : PySem.W.codeIn K cdQD "is_dense" = true)
    (kQD : PySem.W.keepIn K (.ref fQD) = true)
    (aLo : PySem.W.findIn K (.ref C) "low" = some (some (.ref fLo)))
    (iLo : PySem.W.isFn K (.ref fLo) = true)
    (lLo : K.lookup fLo = some ⟨ocLo, odLo, .func (PySem.W.fnOf "low" "Filter.low" (defArgs Filter_low_S) (defBody Filter_low_S) (defScope Filter_low_S) .none kVLo dcLo pmLo anLo cdLo ctLo), slLo⟩)
    (cLo : PySem.W.codeIn K cdLo "Filter.low" = true)
    (kLo : PySem.W.keepIn K (.ref fLo) = true)
    (aHi : PySem.W.findIn K (.ref C) "high" = some (some (.ref fHi)))
    (iHi : PySem.W.isFn K (.ref fHi) = true)
    (lHi : K.lookup fHi = some ⟨ocHi, odHi, .func (PySem.W.fnOf "high" "Filter.high" (defArgs Filter_high_S) (defBody Filter_high_S) (defScope Filter_high_S) .none kVHi dcHi pmHi anHi cdHi ctHi), slHi⟩)
    (cHi : PySem.W.codeIn K cdHi "Filter.high" = true)
    (kHi : PySem.W.keepIn K (.ref fHi) = true)
    (aSp : PySem.W.findIn K (.ref C) "span" = some (some (.ref fSp)))
    (iSp : PySem.W.isFn K (.ref fSp) = true)
    (lSp : K.lookup fSp = some ⟨ocSp, odSp, .func (PySem.W.fnOf "span" "Filter.span" (defArgs Filter_span_S) (defBody Filter_span_S) (defScope Filter_span_S) .none kVSp dcSp pmSp anSp cdSp ctSp), slSp⟩)
    (cSp : PySem.W.codeIn K cdSp "Filter.span" = true)
    (kSp : PySem.W.keepIn K (.ref fSp) = true)
    (aBo : PySem.W.findIn K (.ref C) "__bool__" = some (some (.ref fBo)))
    (iBo : PySem.W.isFn K (.ref fBo) = true)
    (jBo : PySem.W.fnIn K fBo = true)
    (lBo : K.lookup fBo = some ⟨ocBo, odBo, .func (PySem.W.fnOf "__bool__" "Filter.__bool__" (defArgs Filter___bool___S) (defBody Filter___bool___S) (defScope Filter___bool___S) .none kVBo dcBo pmBo anBo cdBo ctBo), slBo⟩)
    (cBo : PySem.W.codeIn K cdBo "Filter.__bool__" = true)
    (kBo : PySem.W.keepIn K (.ref fBo) = true)
    (aGe : PySem.W.findIn K (.ref C) "__getitem__" = some (some (.ref fGe)))
    (iGe : PySem.W.isFn K (.ref fGe) = true)
    (jGe : PySem.W.fnIn K fGe = true)
    (lGe : K.lookup fGe = some ⟨ocGe, odGe, .func (PySem.W.fnOf "__getitem__" "Filter.__getitem__" (defArgs Filter___getitem___S) (defBody Filter___getitem___S) (defScope Filter___getitem___S) .none kVGe dcGe pmGe anGe cdGe ctGe), slGe⟩)
    (cGe : PySem.W.codeIn K cdGe "Filter.__getitem__" = true)
    (kGe : PySem.W.keepIn K (.ref fGe) = true)
    (z_str : PySem.W.nsIn K mainGlobals "str" = some none)
    (gW1 : PySem.W.nsIn K mainGlobals "WIDE" = some (some (.int 8 tW1)))
    (gW2 : PySem.W.nsIn K mainGlobals "WIDE_BITS" = some (some (.int 19 tW2)))
    (gW3 : PySem.W.nsIn K mainGlobals "BLOCK" = some (some (.int 1024 tW3))) :
    ∃ fd : FuncData, (∀ (s : Shared) (v : Value), BindsTo s fd ⟨[v], []⟩ [("_law_script", v)]) ∧ ∀ base : Heap, K.In base → base.Ns mainGlobals mg → FnOk l.prog w K mg base CX0 9 fa fd ["_law_script"] (spLaw K) := by
  have e := hfa.symm.trans (PySem.W.mg_of X G aLL)
  cases e
  have mC := PySem.W.mg_of X G aC
  have B : Bi mg := ⟨PySem.W.mg_none_of X G z_len, PySem.W.mg_none_of X G z_isinstance, PySem.W.mg_none_of X G z_int, PySem.W.mg_none_of X G z_bool, PySem.W.mg_none_of X G z_list, PySem.W.mg_none_of X G z_tuple, PySem.W.mg_none_of X G z_dict, PySem.W.mg_none_of X G z_sorted, PySem.W.mg_none_of X G z_enumerate, PySem.W.mg_none_of X G z_zip, PySem.W.mg_none_of X G z_range, PySem.W.mg_none_of X G z_all, PySem.W.mg_none_of X G z_any, PySem.W.mg_none_of X G z_reversed, PySem.W.mg_none_of X G z_sum, PySem.W.mg_none_of X G z_min, PySem.W.mg_none_of X G z_max, PySem.W.mg_none_of X G z_abs⟩
  have cl : Cls K C := ⟨pg, hdi, po, sa⟩
  have c : FilC K C := ⟨cl, n1, n2, n3⟩
  have t : FilT K C := ⟨fun n hn => by
    simp only [kinds, List.mem_cons, List.mem_nil_iff, or_false] at hn
    rcases hn with rfl | rfl | rfl | rfl | rfl | rfl | rfl
    · exact kit_ref cC tyC tk_NoneType
    · exact kit_ref cC tyC tk_bool
    · exact kit_ref cC tyC tk_int
    · exact kit_ref cC tyC tk_str
    · exact kit_ref cC tyC tk_list
    · exact kit_ref cC tyC tk_tuple
    · exact kit_ref cC tyC tk_dict, kit_type (by rfl) to_int, kit_type (by rfl) to_bool, kit_type (by rfl) to_list, kit_type (by rfl) to_tuple, tca, tcn, tct, tcm⟩
  have pr : ∀ H, SqT K H aP (primes.map V.int) := fun H => Or.inr ⟨_, _, _, lP, rfl, rfl, by show 4 ≤ sizeLine; exact sz_of (by decide), .cons ⟨_, rfl⟩ (.cons ⟨_, rfl⟩ (.cons ⟨_, rfl⟩ (.cons ⟨_, rfl⟩ .nil)))⟩
  have FII := fun_mk (st := is_int_S) lII cII kII
  have FIL := fun_mk (st := is_list_S) lIL cIL kIL
  have FIP := fun_mk (st := is_prime_S) lIP cIP kIP
  have FIT := fun_mk (st := is_term_S) lIT cIT kIT
  have FFB := fun_mk (st := first_bad_term_S) lFB cFB kFB
  have FCO := fun_mk (st := collected_S) lCO cCO kCO
  have FCP := fun_mk (st := check_primes_S) lCP cCP kCP
  have FPR := fun_mk (st := product_S) lPR cPR kPR
  have FLS := fun_mk (st := _law_spring_S) lLS cLS kLS
  have FLD := fun_mk (st := _law_draw_S) lLD cLD kLD
  have FLP := fun_mk (st := _law_pick_S) lLP cLP kLP
  have FLM := fun_mk (st := _law_same_S) lLM cLM kLM
  have FLH := fun_mk (st := _law_held_S) lLH cLH kLH
  have FLA := fun_mk (st := _law_pairs_S) lLA cLA kLA
  have FLR := fun_mk (st := _law_prime_S) lLR cLR kLR
  have FLT := fun_mk (st := _law_times_S) lLT cLT kLT
  have FLN := fun_mk (st := _law_drawn_S) lLN cLN kLN
  have FLE := fun_mk (st := _law_made_S) lLE cLE kLE
  have FLI := fun_mk (st := _law_is_S) lLI cLI kLI
  have FLW := fun_mk (st := _law_powers_right_S) lLW cLW kLW
  have FLL := fun_mk (st := law_S) lLL cLL kLL
  have FQP := fun_mk (st := pack_S) lQP cQP kQP
  have FQU := fun_mk (st := unpack_S) lQU cQU kQU
  have FQS := fun_mk (st := slot_mask_S) lQS cQS kQS
  have FQL := fun_mk (st := lowered_S) lQL cQL kQL
  have FQM := fun_mk (st := multiplied_S) lQM cQM kQM
  have FQC := fun_mk (st := places_S) lQC cQC kQC
  have FQD := fun_mk (st := is_dense_S) lQD cQD kQD
  have FTe := fun_mk (st := Filter_terms_S) lTe cTe kTe
  have FMu := fun_mk (st := Filter___mul___S) lMu cMu kMu
  have FPw := fun_mk (st := Filter___pow___S) lPw cPw kPw
  have FLo := fun_mk (st := Filter_low_S) lLo cLo kLo
  have FHi := fun_mk (st := Filter_high_S) lHi cHi kHi
  have FSp := fun_mk (st := Filter_span_S) lSp cSp kSp
  have FBo := fun_mk (st := Filter___bool___S) lBo cBo kBo
  have FGe := fun_mk (st := Filter___getitem___S) lGe cGe kGe
  have bII := FII.binds (ps := ["thing"]) fun _ _ _ _ _ _ us hl => match us, hl with | [_], _ => rfl
  have bIL := FIL.binds (ps := ["thing"]) fun _ _ _ _ _ _ us hl => match us, hl with | [_], _ => rfl
  have bIP := FIP.binds (ps := ["thing"]) fun _ _ _ _ _ _ us hl => match us, hl with | [_], _ => rfl
  have bIT := FIT.binds (ps := ["thing"]) fun _ _ _ _ _ _ us hl => match us, hl with | [_], _ => rfl
  have bFB := FFB.binds (ps := ["terms"]) fun _ _ _ _ _ _ us hl => match us, hl with | [_], _ => rfl
  have bCO := FCO.binds (ps := ["prime", "pairs"]) fun _ _ _ _ _ _ us hl => match us, hl with | [_, _], _ => rfl
  have bCP := FCP.binds (ps := ["f", "g"]) fun _ _ _ _ _ _ us hl => match us, hl with | [_, _], _ => rfl
  have bPR := FPR.binds (ps := ["f", "g"]) fun _ _ _ _ _ _ us hl => match us, hl with | [_, _], _ => rfl
  have bLS := FLS.binds (ps := ["_law_script"]) fun _ _ _ _ _ _ us hl => match us, hl with | [_], _ => rfl
  have bLD := FLD.binds (ps := ["_law_spring_here", "_law_many"]) fun _ _ _ _ _ _ us hl => match us, hl with | [_, _], _ => rfl
  have bLP := FLP.binds (ps := ["_law_spring_here", "_law_things"]) fun _ _ _ _ _ _ us hl => match us, hl with | [_, _], _ => rfl
  have bLM := FLM.binds (ps := ["_law_found", "_law_due"]) fun _ _ _ _ _ _ us hl => match us, hl with | [_, _], _ => rfl
  have bLH := FLH.binds (ps := ["_law_prime_here", "_law_terms"]) fun _ _ _ _ _ _ us hl => match us, hl with | [_, _], _ => rfl
  have bLA := FLA.binds (ps := ["_law_held_here"]) fun _ _ _ _ _ _ us hl => match us, hl with | [_], _ => rfl
  have bLR := FLR.binds (ps := ["_law_spring_here"]) fun _ _ _ _ _ _ us hl => match us, hl with | [_], _ => rfl
  have bLT := FLT.binds (ps := ["_law_prime_here", "_law_one", "_law_two"]) fun _ _ _ _ _ _ us hl => match us, hl with | [_, _, _], _ => rfl
  have bLN := FLN.binds (ps := ["_law_spring_here", "_law_prime_here", "_law_most", "_law_reach"]) fun _ _ _ _ _ _ us hl => match us, hl with | [_, _, _, _], _ => rfl
  have bLE := FLE.binds (ps := ["_law_prime_here", "_law_held_here"]) fun _ _ _ _ _ _ us hl => match us, hl with | [_, _], _ => rfl
  have bLI := FLI.binds (ps := ["_law_f", "_law_prime_here", "_law_held_here"]) fun _ _ _ _ _ _ us hl => match us, hl with | [_, _, _], _ => rfl
  have bLW := FLW.binds (ps := ["_law_spring_here", "_law_p"]) fun _ _ _ _ _ _ us hl => match us, hl with | [_, _], _ => rfl
  have bLL := FLL.binds (ps := ["_law_script"]) fun _ _ _ _ _ _ us hl => match us, hl with | [_], _ => rfl
  have bQP := FQP.binds (ps := ["digits", "signs"]) fun _ _ _ _ _ _ us hl => match us, hl with | [_, _], _ => rfl
  have bQU := FQU.binds (ps := ["total", "signs", "count"]) fun _ _ _ _ _ _ us hl => match us, hl with | [_, _, _], _ => rfl
  have bQS := FQS.binds (ps := ["signs", "bits", "count"]) fun _ _ _ _ _ _ us hl => match us, hl with | [_, _, _], _ => rfl
  have bQL := FQL.binds (ps := ["prime", "total", "bits", "mask"]) fun _ _ _ _ _ _ us hl => match us, hl with | [_, _, _, _], _ => rfl
  have bQM := FQM.binds (ps := ["prime", "one", "two"]) fun _ _ _ _ _ _ us hl => match us, hl with | [_, _, _], _ => rfl
  have bQC := FQC.binds (ps := ["f"]) fun _ _ _ _ _ _ us hl => match us, hl with | [_], _ => rfl
  have bQD := FQD.binds (ps := ["f", "g"]) fun _ _ _ _ _ _ us hl => match us, hl with | [_, _], _ => rfl
  have bTe := FTe.binds (ps := ["self"]) fun _ _ _ _ _ _ us hl => match us, hl with | [_], _ => rfl
  have bMu := FMu.binds (ps := ["self", "other"]) fun _ _ _ _ _ _ us hl => match us, hl with | [_, _], _ => rfl
  have bPw := FPw.binds (ps := ["self", "other"]) fun _ _ _ _ _ _ us hl => match us, hl with | [_, _], _ => rfl
  have bLo := FLo.binds (ps := ["self"]) fun _ _ _ _ _ _ us hl => match us, hl with | [_], _ => rfl
  have bHi := FHi.binds (ps := ["self"]) fun _ _ _ _ _ _ us hl => match us, hl with | [_], _ => rfl
  have bSp := FSp.binds (ps := ["self"]) fun _ _ _ _ _ _ us hl => match us, hl with | [_], _ => rfl
  have bBo := FBo.binds (ps := ["self"]) fun _ _ _ _ _ _ us hl => match us, hl with | [_], _ => rfl
  have bGe := FGe.binds (ps := ["self", "at"]) fun _ _ _ _ _ _ us hl => match us, hl with | [_, _], _ => rfl
  have FIn : FunD K "__init__" "Filter.__init__" (defArgs Filter___init___S) (defBody Filter___init___S) (defScope Filter___init___S) [.ref e0] [] fIn _ := ⟨⟨_, _, _, _, _, _, _, _, _, _, rfl, lIn, cIn, Or.inr ⟨(fun z => nomatch z), T0, _, [.ref e0], nT, rfl, lT, rfl, .cons rfl .nil⟩, Or.inl rfl⟩, kIn⟩
  have bIn0 : ∃ ds, Vals (([V.ref e0] : List V).drop 1) ds ∧ Binds K _ ["self", "prime", "terms"] ds := FIn.binds1 3 1 (fun z => nomatch z) rfl fun T kV doc pm an cdv ct us its hu hi => match us, its, hu, hi with | [_, _, _], [_], _, _ => ⟨_, rfl, rfl⟩
  refine ⟨PySem.W.fnOf "law" "law" (defArgs law_S) (defBody law_S) (defScope law_S) .none kVLL dcLL pmLL anLL cdLL ctLL, fun s v => .of_eq rfl, fun base _ _ => ?_⟩
  have dd := @defOk l.prog w K mg base
  have OKf := ot_fil c t
  have g_PR := PySem.W.mg_of X G aPr
  have hII := dd FII (PySem.W.mg_of X G aII) (ok_is_int FII B OKf) bII
  have hIL := dd FIL (PySem.W.mg_of X G aIL) (ok_is_list FIL B OKf) bIL
  have hIP := dd FIP (PySem.W.mg_of X G aIP) (ok_is_prime FIP g_PR pr hII) bIP
  have hIT := dd FIT (PySem.W.mg_of X G aIT) (ok_is_term FIT B hII hIL) bIT
  have hFB := dd FFB (PySem.W.mg_of X G aFB) (ok_first_bad_term FFB B hIT hIL) bFB
  have hCO := dd FCO (PySem.W.mg_of X G aCO) (ok_collected (O := FilO K C) FCO B) bCO
  have okI := ok_init FIn B c hIP hFB hCO
  have hF0 : MakeOk l.prog w K mg base C 4 "Filter" ["self", "prime", "terms"] [] (spInit K C) := by
    obtain ⟨ds, hv, hb⟩ := bIn0
    exact ⟨fIn, _, ds, ⟨mk, aIn, iIn, kc⟩, mC, hb, hv, okI⟩
  have hCP := dd FCP (PySem.W.mg_of X G aCP) (ok_check FCP c) bCP
  have mLo : MethOk l.prog w K mg base C 1 "low" ["self"] _ := ⟨fLo, _, ⟨aLo, iLo, kLo⟩, bLo, ok_low FLo B c⟩
  have mHi : MethOk l.prog w K mg base C 1 "high" ["self"] _ := ⟨fHi, _, ⟨aHi, iHi, kHi⟩, bHi, ok_high FHi B c⟩
  have mSp : MethOk l.prog w K mg base C 1 "span" ["self"] _ := ⟨fSp, _, ⟨aSp, iSp, kSp⟩, bSp, ok_span FSp B c⟩
  have dBo : DunOk l.prog w K mg base C 1 "__bool__" ["self"] _ := ⟨fBo, _, aBo, iBo, jBo, bBo, ok_bool FBo B c⟩
  have dGe : DunOk l.prog w K mg base C 1 "__getitem__" ["self", "at"] _ := ⟨fGe, _, aGe, iGe, jGe, bGe, ok_getitem FGe B c⟩
  have hQP := dd FQP (PySem.W.mg_of X G aQP) (ok_pack (O := FilO K C) FQP B (PySem.W.mg_none_of X G z_str)) bQP
  have hQU := dd FQU (PySem.W.mg_of X G aQU) (ok_unpack (O := FilO K C) FQU B) bQU
  have hQS := dd FQS (PySem.W.mg_of X G aQS) (ok_slot_mask (O := FilO K C) FQS) bQS
  have hQL := dd FQL (PySem.W.mg_of X G aQL) (ok_lowered (O := FilO K C) FQL) bQL
  have hQM := dd FQM (PySem.W.mg_of X G aQM) (ok_multiplied FQM B (PySem.W.mg_of X G gW1) (PySem.W.mg_of X G gW2) (PySem.W.mg_of X G gW3) hQP hQU hQS hQL) bQM
  have hQC := dd FQC (PySem.W.mg_of X G aQC) (ok_places FQC B c cl mLo mHi dGe) bQC
  have hQD := dd FQD (PySem.W.mg_of X G aQD) (ok_is_dense FQD B c cl mSp dBo) bQD
  have hPR := dd FPR (PySem.W.mg_of X G aPR) (ok_product FPR B c cl hF0 mLo hQD hQC hQM) bPR
  have mTe : MethOk l.prog w K mg base C 1 "terms" ["self"] _ := ⟨fTe, _, ⟨aTe, iTe, kTe⟩, bTe, ok_terms FTe B c⟩
  have dMu : BinOk l.prog w K mg base C 7 .Mult _ := ⟨fMu, _, _, sf, aMu, iMu, bMu, ok_mul FMu B c t mC hII hCP hPR⟩
  have dPw : BinOk l.prog w K mg base C 7 .Pow _ := ⟨fPw, _, _, sf, aPw, iPw, bPw, ok_pow FPw B c hF0 hII hPR⟩
  have jPw : IntOk K C .Pow := ⟨_, _, _, rP, Or.inl rfl, oP, qP, tk_int⟩
  have jMu : InOk K C .Mult := ⟨_, cC, mro, iM, iO⟩
  have hLS := dd FLS (PySem.W.mg_of X G aLS) (ok_spring FLS B) bLS
  have hLD := dd FLD (PySem.W.mg_of X G aLD) (ok_draw (O := FilO K C) FLD B) bLD
  have hLP := dd FLP (PySem.W.mg_of X G aLP) (ok_pick FLP B hLD) bLP
  have hLM := dd FLM (PySem.W.mg_of X G aLM) (ok_same FLM B OKf (PySem.W.mg_of X G aLM) bLM 4) bLM
  have hLH := dd FLH (PySem.W.mg_of X G aLH) (ok_held (O := FilO K C) FLH B) bLH
  have hLA := dd FLA (PySem.W.mg_of X G aLA) (ok_pairs (O := FilO K C) FLA B) bLA
  have hLR := dd FLR (PySem.W.mg_of X G aLR) (ok_prime FLR B hLP) bLR
  have hLT := dd FLT (PySem.W.mg_of X G aLT) (ok_times FLT B hLH) bLT
  have hLN := dd FLN (PySem.W.mg_of X G aLN) (ok_drawn FLN B hLD hLH) bLN
  have hLE := dd FLE (PySem.W.mg_of X G aLE) (ok_made FLE hF0 hLA) bLE
  have hLI := dd FLI (PySem.W.mg_of X G aLI) (ok_is FLI B c t mC hLM hLA mTe) bLI
  have hLW := dd FLW (PySem.W.mg_of X G aLW) (ok_powers FLW B c hLN hLE hLT ⟨dPw, jPw⟩ hLI) bLW
  exact ok_law c FLL B hLS hLR hLD hLP hLN hLH hLA hLE hLT dMu jMu hLI hLW
theorem walk {l : PySem.W.OpenLaw} {q : Program} {loose : List Str} {XP : (Str → Option Value) → Heap → Prop} {YP : World → Heap → Prop} {d : DefRec} {K : Params → PySem.W.Frag} (hn : l.most = some 63) (hdf : d.params.defaults = [])
    (hY : ∀ (w : World) (h : Heap), YP w h → (K w.params).In h)
    (F : ∀ (w : World) (mg : Str → Option Value) (fa : Addr) (h : Heap), (K w.params).In h → h.Ns mainGlobals mg → mg d.name = some (.ref fa) →
      ∃ fd : FuncData, (∀ (s : Shared) (u : Value), BindsTo s fd ⟨[u], []⟩ [("_law_script", u)]) ∧ ∀ base : Heap, (K w.params).In base → base.Ns mainGlobals mg → FnOk l.prog w (K w.params) mg base CX0 9 fa fd ["_law_script"] (spLaw (K w.params))) :
    PySem.W.WalkO q loose XP YP l.row.toRowW d [] (fun f vs => PySem.call f vs) :=
  L2.walk_of (n := 63) (k := 9) (x := "_law_script") (CX := fun _ => CX0) (sp := fun w => spLaw (K w.params)) hn (by decide) hdf ⟨rfl, by decide, by decide⟩ hY F (fun _ _ a ns hl _ hS => ⟨a, ns, rfl, hS, hl, fun _ => rfl⟩) fun _ _ _ _ _ z => z
end SR
set_option maxRecDepth 100000
set_option maxHeartbeats 0
namespace SR
open PySem PySem.W L2
/-! ### what the top leaves, as far as it is asked -/
def KK0 : Params → PySem.W.Frag := fun P => [
  (nat_lit 2, ⟨.none, none, (.dict #[] 0), #[]⟩),
  (nat_lit 3, ⟨(.type "dict"), none, (.dict #[⟨PyData.keyHash P (Str.ofString "__name__"), (.str (Str.ofString "__name__") 165), (.str (Str.ofString "law_seenrows_k04_filters_multiplied") 782)⟩, ⟨PyData.keyHash P (Str.ofString "__doc__"), (.str (Str.ofString "__doc__") 166), .none⟩, ⟨PyData.keyHash P (Str.ofString "__package__"), (.str (Str.ofString "__package__") 167), .none⟩, ⟨PyData.keyHash P (Str.ofString "__loader__"), (.str (Str.ofString "__loader__") 168), (.builtin "__main__.__loader__#opaque")⟩, ⟨PyData.keyHash P (Str.ofString "__spec__"), (.str (Str.ofString "__spec__") 169), .none⟩, ⟨PyData.keyHash P (Str.ofString "__annotations__"), (.str (Str.ofString "__annotations__") 170), (.ref 6)⟩, ⟨PyData.keyHash P (Str.ofString "__builtins__"), (.str (Str.ofString "__builtins__") 171), (.ref 4)⟩, ⟨PyData.keyHash P (Str.ofString "__file__"), (.str (Str.ofString "__file__") 173), (.str (Str.ofString "/claim/cut.py") 172)⟩, ⟨PyData.keyHash P (Str.ofString "__cached__"), (.str (Str.ofString "__cached__") 174), .none⟩, ⟨PyData.keyHash P (Str.ofString "_wall"), (.str (Str.ofString "_wall") 193), (.ref 21)⟩, ⟨PyData.keyHash P (Str.ofString "SeenError"), (.str (Str.ofString "SeenError") 213), (.ref 31)⟩, ⟨PyData.keyHash P (Str.ofString "BadPrime"), (.str (Str.ofString "BadPrime") 238), (.ref 51)⟩, ⟨PyData.keyHash P (Str.ofString "BadTerm"), (.str (Str.ofString "BadTerm") 263), (.ref 70)⟩, ⟨PyData.keyHash P (Str.ofString "UnlikePrimes"), (.str (Str.ofString "UnlikePrimes") 279), (.ref 82)⟩, ⟨PyData.keyHash P (Str.ofString "ZeroFilter"), (.str (Str.ofString "ZeroFilter") 295), (.ref 94)⟩, ⟨PyData.keyHash P (Str.ofString "PRIMES"), (.str (Str.ofString "PRIMES") 302), (.ref 97)⟩, ⟨PyData.keyHash P (Str.ofString "is_int"), (.str (Str.ofString "is_int") 309), (.ref 104)⟩, ⟨PyData.keyHash P (Str.ofString "is_list"), (.str (Str.ofString "is_list") 316), (.ref 111)⟩, ⟨PyData.keyHash P (Str.ofString "is_prime"), (.str (Str.ofString "is_prime") 323), (.ref 118)⟩, ⟨PyData.keyHash P (Str.ofString "is_term"), (.str (Str.ofString "is_term") 330), (.ref 125)⟩, ⟨PyData.keyHash P (Str.ofString "first_bad_term"), (.str (Str.ofString "first_bad_term") 339), (.ref 132)⟩, ⟨PyData.keyHash P (Str.ofString "NARROW"), (.str (Str.ofString "NARROW") 343), (.int 3 342)⟩, ⟨PyData.keyHash P (Str.ofString "NARROW_BITS"), (.str (Str.ofString "NARROW_BITS") 345), (.int 8 344)⟩, ⟨PyData.keyHash P (Str.ofString "WIDE"), (.str (Str.ofString "WIDE") 347), (.int 8 346)⟩, ⟨PyData.keyHash P (Str.ofString "WIDE_BITS"), (.str (Str.ofString "WIDE_BITS") 349), (.int 19 348)⟩, ⟨PyData.keyHash P (Str.ofString "BLOCK"), (.str (Str.ofString "BLOCK") 351), (.int 1024 350)⟩, ⟨PyData.keyHash P (Str.ofString "SLOT"), (.str (Str.ofString "SLOT") 353), (.int 12 352)⟩, ⟨PyData.keyHash P (Str.ofString "pack"), (.str (Str.ofString "pack") 359), (.ref 137)⟩, ⟨PyData.keyHash P (Str.ofString "unpack"), (.str (Str.ofString "unpack") 365), (.ref 142)⟩, ⟨PyData.keyHash P (Str.ofString "slot_mask"), (.str (Str.ofString "slot_mask") 376), (.ref 149)⟩, ⟨PyData.keyHash P (Str.ofString "lowered"), (.str (Str.ofString "lowered") 387), (.ref 156)⟩, ⟨PyData.keyHash P (Str.ofString "narrow_mask"), (.str (Str.ofString "narrow_mask") 394), (.ref 163)⟩, ⟨PyData.keyHash P (Str.ofString "without"), (.str (Str.ofString "without") 405), (.ref 170)⟩, ⟨PyData.keyHash P (Str.ofString "multiplied"), (.str (Str.ofString "multiplied") 422), (.ref 177)⟩, ⟨PyData.keyHash P (Str.ofString "NEAR"), (.str (Str.ofString "NEAR") 426), (.int 1000 425)⟩, ⟨PyData.keyHash P (Str.ofString "inverse"), (.str (Str.ofString "inverse") 434), (.ref 184)⟩, ⟨PyData.keyHash P (Str.ofString "collected"), (.str (Str.ofString "collected") 440), (.ref 189)⟩, ⟨PyData.keyHash P (Str.ofString "long_division"), (.str (Str.ofString "long_division") 446), (.ref 194)⟩, ⟨PyData.keyHash P (Str.ofString "divided_from_above"), (.str (Str.ofString "divided_from_above") 463), (.ref 201)⟩, ⟨PyData.keyHash P (Str.ofString "divided_from_below"), (.str (Str.ofString "divided_from_below") 483), (.ref 208)⟩, ⟨PyData.keyHash P (Str.ofString "remainder"), (.str (Str.ofString "remainder") 493), (.ref 215)⟩, ⟨PyData.keyHash P (Str.ofString "near_pairs"), (.str (Str.ofString "near_pairs") 499), (.ref 220)⟩, ⟨PyData.keyHash P (Str.ofString "power_digits"), (.str (Str.ofString "power_digits") 514), (.ref 227)⟩, ⟨PyData.keyHash P (Str.ofString "stride_of"), (.str (Str.ofString "stride_of") 522), (.ref 234)⟩, ⟨PyData.keyHash P (Str.ofString "packed_powers"), (.str (Str.ofString "packed_powers") 538), (.ref 241)⟩, ⟨PyData.keyHash P (Str.ofString "packed_sum"), (.str (Str.ofString "packed_sum") 544), (.ref 246)⟩, ⟨PyData.keyHash P (Str.ofString "check_primes"), (.str (Str.ofString "check_primes") 554), (.ref 253)⟩, ⟨PyData.keyHash P (Str.ofString "check_division"), (.str (Str.ofString "check_division") 562), (.ref 260)⟩, ⟨PyData.keyHash P (Str.ofString "scaled"), (.str (Str.ofString "scaled") 568), (.ref 265)⟩, ⟨PyData.keyHash P (Str.ofString "places"), (.str (Str.ofString "places") 574), (.ref 270)⟩, ⟨PyData.keyHash P (Str.ofString "is_dense"), (.str (Str.ofString "is_dense") 582), (.ref 277)⟩, ⟨PyData.keyHash P (Str.ofString "product"), (.str (Str.ofString "product") 588), (.ref 282)⟩, ⟨PyData.keyHash P (Str.ofString "divisor_of"), (.str (Str.ofString "divisor_of") 595), (.ref 289)⟩, ⟨PyData.keyHash P (Str.ofString "Filter"), (.str (Str.ofString "Filter") 781), (.ref 438)⟩, ⟨PyData.keyHash P (Str.ofString "_law_spring"), (.str (Str.ofString "_law_spring") 790), (.ref 449)⟩, ⟨PyData.keyHash P (Str.ofString "_law_draw"), (.str (Str.ofString "_law_draw") 801), (.ref 456)⟩, ⟨PyData.keyHash P (Str.ofString "_law_pick"), (.str (Str.ofString "_law_pick") 809), (.ref 463)⟩, ⟨PyData.keyHash P (Str.ofString "_law_same"), (.str (Str.ofString "_law_same") 815), (.ref 468)⟩, ⟨PyData.keyHash P (Str.ofString "_law_held"), (.str (Str.ofString "_law_held") 821), (.ref 473)⟩, ⟨PyData.keyHash P (Str.ofString "_law_pairs"), (.str (Str.ofString "_law_pairs") 827), (.ref 478)⟩, ⟨PyData.keyHash P (Str.ofString "_law_times"), (.str (Str.ofString "_law_times") 833), (.ref 483)⟩, ⟨PyData.keyHash P (Str.ofString "_law_drawn"), (.str (Str.ofString "_law_drawn") 846), (.ref 490)⟩, ⟨PyData.keyHash P (Str.ofString "_law_made"), (.str (Str.ofString "_law_made") 854), (.ref 497)⟩, ⟨PyData.keyHash P (Str.ofString "_law_is"), (.str (Str.ofString "_law_is") 863), (.ref 504)⟩, ⟨PyData.keyHash P (Str.ofString "_law_prime"), (.str (Str.ofString "_law_prime") 870), (.ref 511)⟩, ⟨PyData.keyHash P (Str.ofString "_law_powers_right"), (.str (Str.ofString "_law_powers_right") 876), (.ref 516)⟩, ⟨PyData.keyHash P (Str.ofString "law"), (.str (Str.ofString "law") 893), (.ref 523)⟩] 67), #[]⟩),
  (nat_lit 97, ⟨(.type "tuple"), none, (.seq #[(.int 2 298), (.int 3 299), (.int 5 300), (.int 7 301)] 0), #[]⟩),
  (nat_lit 103, ⟨(.type "code"), none, (.fields #[(.str (Str.ofString "is_int") 303), (.str (Str.ofString "is_int") 304), (.str (Str.ofString "/claim/cut.py") 305), (.int 21 0), (.int 1 0), (.int 0 0), (.int 0 0), (.int 3 0), (.ref 98), (.bool true), (.int 181 0), (.ref 99), .none, (.ref 100), (.ref 101), (.ref 102), (.int 307 0), (.int 21 0), (.str (Str.ofString "/claim/cut.py") 308)]), #[]⟩),
  (nat_lit 104, ⟨(.type "function"), none, (.func (PySem.W.fnOf (Str.ofString "is_int") (Str.ofString "is_int") (defArgs (topS 9)) (defBody (topS 9)) (defScope (topS 9)) .none .none .none (.str (Str.ofString "seenrows.kinds") 296) none (.ref 103) .none)), #[]⟩),
  (nat_lit 110, ⟨(.type "code"), none, (.fields #[(.str (Str.ofString "is_list") 310), (.str (Str.ofString "is_list") 311), (.str (Str.ofString "/claim/cut.py") 312), (.int 23 0), (.int 1 0), (.int 0 0), (.int 0 0), (.int 3 0), (.ref 105), (.bool true), (.int 181 0), (.ref 106), .none, (.ref 107), (.ref 108), (.ref 109), (.int 314 0), (.int 23 0), (.str (Str.ofString "/claim/cut.py") 315)]), #[]⟩),
  (nat_lit 111, ⟨(.type "function"), none, (.func (PySem.W.fnOf (Str.ofString "is_list") (Str.ofString "is_list") (defArgs (topS 10)) (defBody (topS 10)) (defScope (topS 10)) .none .none .none (.str (Str.ofString "seenrows.kinds") 296) none (.ref 110) .none)), #[]⟩),
  (nat_lit 117, ⟨(.type "code"), none, (.fields #[(.str (Str.ofString "is_prime") 317), (.str (Str.ofString "is_prime") 318), (.str (Str.ofString "/claim/cut.py") 319), (.int 25 0), (.int 1 0), (.int 0 0), (.int 0 0), (.int 3 0), (.ref 112), (.bool true), (.int 181 0), (.ref 113), .none, (.ref 114), (.ref 115), (.ref 116), (.int 321 0), (.int 25 0), (.str (Str.ofString "/claim/cut.py") 322)]), #[]⟩),
  (nat_lit 118, ⟨(.type "function"), none, (.func (PySem.W.fnOf (Str.ofString "is_prime") (Str.ofString "is_prime") (defArgs (topS 11)) (defBody (topS 11)) (defScope (topS 11)) .none .none .none (.str (Str.ofString "seenrows.kinds") 296) none (.ref 117) .none)), #[]⟩),
  (nat_lit 124, ⟨(.type "code"), none, (.fields #[(.str (Str.ofString "is_term") 324), (.str (Str.ofString "is_term") 325), (.str (Str.ofString "/claim/cut.py") 326), (.int 27 0), (.int 1 0), (.int 0 0), (.int 0 0), (.int 3 0), (.ref 119), (.bool true), (.int 181 0), (.ref 120), .none, (.ref 121), (.ref 122), (.ref 123), (.int 328 0), (.int 27 0), (.str (Str.ofString "/claim/cut.py") 329)]), #[]⟩),
  (nat_lit 125, ⟨(.type "function"), none, (.func (PySem.W.fnOf (Str.ofString "is_term") (Str.ofString "is_term") (defArgs (topS 12)) (defBody (topS 12)) (defScope (topS 12)) .none .none .none (.str (Str.ofString "seenrows.kinds") 296) none (.ref 124) .none)), #[]⟩),
  (nat_lit 131, ⟨(.type "code"), none, (.fields #[(.str (Str.ofString "first_bad_term") 331), (.str (Str.ofString "first_bad_term") 332), (.str (Str.ofString "/claim/cut.py") 333), (.int 29 0), (.int 1 0), (.int 0 0), (.int 0 0), (.int 3 0), (.ref 126), (.bool true), (.int 181 0), (.ref 127), .none, (.ref 128), (.ref 129), (.ref 130), (.int 337 0), (.int 29 0), (.str (Str.ofString "/claim/cut.py") 338)]), #[]⟩),
  (nat_lit 132, ⟨(.type "function"), none, (.func (PySem.W.fnOf (Str.ofString "first_bad_term") (Str.ofString "first_bad_term") (defArgs (topS 13)) (defBody (topS 13)) (defScope (topS 13)) .none .none .none (.str (Str.ofString "seenrows.kinds") 296) none (.ref 131) .none)), #[]⟩),
  (nat_lit 136, ⟨(.type "code"), none, (.fields #[(.str (Str.ofString "pack") 354), (.str (Str.ofString "pack") 355), (.str (Str.ofString "/claim/cut.py") 356), (.int 43 0), (.int 2 0), (.int 0 0), (.int 0 0), (.int 3 0), (.ref 133), (.bool true), (.int 181 0), (.ref 134), .none, .none, .none, (.ref 135), (.int 357 0), (.int 43 0), (.str (Str.ofString "/claim/cut.py") 358)]), #[]⟩),
  (nat_lit 137, ⟨(.type "function"), none, (.func (PySem.W.fnOf (Str.ofString "pack") (Str.ofString "pack") (defArgs (topS 21)) (defBody (topS 21)) (defScope (topS 21)) .none .none .none (.str (Str.ofString "seenrows.packs") 340) none (.ref 136) .none)), #[]⟩),
  (nat_lit 141, ⟨(.type "code"), none, (.fields #[(.str (Str.ofString "unpack") 360), (.str (Str.ofString "unpack") 361), (.str (Str.ofString "/claim/cut.py") 362), (.int 46 0), (.int 3 0), (.int 0 0), (.int 0 0), (.int 3 0), (.ref 138), (.bool true), (.int 181 0), (.ref 139), .none, .none, .none, (.ref 140), (.int 363 0), (.int 46 0), (.str (Str.ofString "/claim/cut.py") 364)]), #[]⟩),
  (nat_lit 142, ⟨(.type "function"), none, (.func (PySem.W.fnOf (Str.ofString "unpack") (Str.ofString "unpack") (defArgs (topS 22)) (defBody (topS 22)) (defScope (topS 22)) .none .none .none (.str (Str.ofString "seenrows.packs") 340) none (.ref 141) .none)), #[]⟩),
  (nat_lit 148, ⟨(.type "code"), none, (.fields #[(.str (Str.ofString "slot_mask") 366), (.str (Str.ofString "slot_mask") 367), (.str (Str.ofString "/claim/cut.py") 368), (.int 50 0), (.int 3 0), (.int 0 0), (.int 0 0), (.int 3 0), (.ref 143), (.bool true), (.int 181 0), (.ref 144), .none, (.ref 145), (.ref 146), (.ref 147), (.int 374 0), (.int 50 0), (.str (Str.ofString "/claim/cut.py") 375)]), #[]⟩),
  (nat_lit 149, ⟨(.type "function"), none, (.func (PySem.W.fnOf (Str.ofString "slot_mask") (Str.ofString "slot_mask") (defArgs (topS 23)) (defBody (topS 23)) (defScope (topS 23)) .none .none .none (.str (Str.ofString "seenrows.packs") 340) none (.ref 148) .none)), #[]⟩),
  (nat_lit 155, ⟨(.type "code"), none, (.fields #[(.str (Str.ofString "lowered") 377), (.str (Str.ofString "lowered") 378), (.str (Str.ofString "/claim/cut.py") 379), (.int 54 0), (.int 4 0), (.int 0 0), (.int 0 0), (.int 3 0), (.ref 150), (.bool true), (.int 181 0), (.ref 151), .none, (.ref 152), (.ref 153), (.ref 154), (.int 385 0), (.int 54 0), (.str (Str.ofString "/claim/cut.py") 386)]), #[]⟩),
  (nat_lit 156, ⟨(.type "function"), none, (.func (PySem.W.fnOf (Str.ofString "lowered") (Str.ofString "lowered") (defArgs (topS 24)) (defBody (topS 24)) (defScope (topS 24)) .none .none .none (.str (Str.ofString "seenrows.packs") 340) none (.ref 155) .none)), #[]⟩),
  (nat_lit 176, ⟨(.type "code"), none, (.fields #[(.str (Str.ofString "multiplied") 406), (.str (Str.ofString "multiplied") 407), (.str (Str.ofString "/claim/cut.py") 408), (.int 61 0), (.int 3 0), (.int 0 0), (.int 0 0), (.int 3 0), (.ref 171), (.bool true), (.int 181 0), (.ref 172), .none, (.ref 173), (.ref 174), (.ref 175), (.int 420 0), (.int 61 0), (.str (Str.ofString "/claim/cut.py") 421)]), #[]⟩),
  (nat_lit 177, ⟨(.type "function"), none, (.func (PySem.W.fnOf (Str.ofString "multiplied") (Str.ofString "multiplied") (defArgs (topS 27)) (defBody (topS 27)) (defScope (topS 27)) .none .none .none (.str (Str.ofString "seenrows.packs") 340) none (.ref 176) .none)), #[]⟩),
  (nat_lit 188, ⟨(.type "code"), none, (.fields #[(.str (Str.ofString "collected") 435), (.str (Str.ofString "collected") 436), (.str (Str.ofString "/claim/cut.py") 437), (.int 75 0), (.int 2 0), (.int 0 0), (.int 0 0), (.int 3 0), (.ref 185), (.bool true), (.int 181 0), (.ref 186), .none, .none, .none, (.ref 187), (.int 438 0), (.int 75 0), (.str (Str.ofString "/claim/cut.py") 439)]), #[]⟩),
  (nat_lit 189, ⟨(.type "function"), none, (.func (PySem.W.fnOf (Str.ofString "collected") (Str.ofString "collected") (defArgs (topS 31)) (defBody (topS 31)) (defScope (topS 31)) .none .none .none (.str (Str.ofString "seenrows.remainders") 423) none (.ref 188) .none)), #[]⟩),
  (nat_lit 252, ⟨(.type "code"), none, (.fields #[(.str (Str.ofString "check_primes") 547), (.str (Str.ofString "check_primes") 548), (.str (Str.ofString "/claim/cut.py") 549), (.int 176 0), (.int 2 0), (.int 0 0), (.int 0 0), (.int 3 0), (.ref 247), (.bool true), (.int 181 0), (.ref 248), .none, (.ref 249), (.ref 250), (.ref 251), (.int 552 0), (.int 176 0), (.str (Str.ofString "/claim/cut.py") 553)]), #[]⟩),
  (nat_lit 253, ⟨(.type "function"), none, (.func (PySem.W.fnOf (Str.ofString "check_primes") (Str.ofString "check_primes") (defArgs (topS 42)) (defBody (topS 42)) (defScope (topS 42)) .none .none .none (.str (Str.ofString "seenrows.filters") 545) none (.ref 252) .none)), #[]⟩),
  (nat_lit 269, ⟨(.type "code"), none, (.fields #[(.str (Str.ofString "places") 569), (.str (Str.ofString "places") 570), (.str (Str.ofString "/claim/cut.py") 571), (.int 185 0), (.int 1 0), (.int 0 0), (.int 0 0), (.int 3 0), (.ref 266), (.bool true), (.int 181 0), (.ref 267), .none, .none, .none, (.ref 268), (.int 572 0), (.int 185 0), (.str (Str.ofString "/claim/cut.py") 573)]), #[]⟩),
  (nat_lit 270, ⟨(.type "function"), none, (.func (PySem.W.fnOf (Str.ofString "places") (Str.ofString "places") (defArgs (topS 45)) (defBody (topS 45)) (defScope (topS 45)) .none .none .none (.str (Str.ofString "seenrows.filters") 545) none (.ref 269) .none)), #[]⟩),
  (nat_lit 276, ⟨(.type "code"), none, (.fields #[(.str (Str.ofString "is_dense") 575), (.str (Str.ofString "is_dense") 576), (.str (Str.ofString "/claim/cut.py") 577), (.int 187 0), (.int 2 0), (.int 0 0), (.int 0 0), (.int 3 0), (.ref 271), (.bool true), (.int 181 0), (.ref 272), .none, (.ref 273), (.ref 274), (.ref 275), (.int 580 0), (.int 187 0), (.str (Str.ofString "/claim/cut.py") 581)]), #[]⟩),
  (nat_lit 277, ⟨(.type "function"), none, (.func (PySem.W.fnOf (Str.ofString "is_dense") (Str.ofString "is_dense") (defArgs (topS 46)) (defBody (topS 46)) (defScope (topS 46)) .none .none .none (.str (Str.ofString "seenrows.filters") 545) none (.ref 276) .none)), #[]⟩),
  (nat_lit 281, ⟨(.type "code"), none, (.fields #[(.str (Str.ofString "product") 583), (.str (Str.ofString "product") 584), (.str (Str.ofString "/claim/cut.py") 585), (.int 189 0), (.int 2 0), (.int 0 0), (.int 0 0), (.int 3 0), (.ref 278), (.bool true), (.int 181 0), (.ref 279), .none, .none, .none, (.ref 280), (.int 586 0), (.int 189 0), (.str (Str.ofString "/claim/cut.py") 587)]), #[]⟩),
  (nat_lit 282, ⟨(.type "function"), none, (.func (PySem.W.fnOf (Str.ofString "product") (Str.ofString "product") (defArgs (topS 47)) (defBody (topS 47)) (defScope (topS 47)) .none .none .none (.str (Str.ofString "seenrows.filters") 545) none (.ref 281) .none)), #[]⟩),
  (nat_lit 297, ⟨(.type "tuple"), none, (.seq #[] 0), #[]⟩),
  (nat_lit 298, ⟨(.type "tuple"), none, (.seq #[(.ref 297)] 0), #[]⟩),
  (nat_lit 304, ⟨(.type "code"), none, (.fields #[(.str (Str.ofString "__init__") 608), (.str (Str.ofString "Filter.__init__") 609), (.str (Str.ofString "/claim/cut.py") 610), (.int 199 0), (.int 3 0), (.int 0 0), (.int 0 0), (.int 3 0), (.ref 299), (.bool true), (.int 181 0), (.ref 300), .none, (.ref 301), (.ref 302), (.ref 303), (.int 615 0), (.int 199 0), (.str (Str.ofString "/claim/cut.py") 616)]), #[]⟩),
  (nat_lit 305, ⟨(.type "function"), none, (.func (PySem.W.fnOf (Str.ofString "__init__") (Str.ofString "Filter.__init__") (defArgs (inClass (topS 49) 0)) (defBody (inClass (topS 49) 0)) (defScope (inClass (topS 49) 0)) (.ref 298) .none .none (.str (Str.ofString "seenrows.filters") 545) none (.ref 304) .none)), #[]⟩),
  (nat_lit 321, ⟨(.type "code"), none, (.fields #[(.str (Str.ofString "terms") 639), (.str (Str.ofString "Filter.terms") 640), (.str (Str.ofString "/claim/cut.py") 641), (.int 213 0), (.int 1 0), (.int 0 0), (.int 0 0), (.int 3 0), (.ref 316), (.bool true), (.int 181 0), (.ref 317), .none, (.ref 318), (.ref 319), (.ref 320), (.int 643 0), (.int 213 0), (.str (Str.ofString "/claim/cut.py") 644)]), #[]⟩),
  (nat_lit 322, ⟨(.type "function"), none, (.func (PySem.W.fnOf (Str.ofString "terms") (Str.ofString "Filter.terms") (defArgs (inClass (topS 49) 2)) (defBody (inClass (topS 49) 2)) (defScope (inClass (topS 49) 2)) .none .none .none (.str (Str.ofString "seenrows.filters") 545) none (.ref 321) .none)), #[]⟩),
  (nat_lit 328, ⟨(.type "code"), none, (.fields #[(.str (Str.ofString "low") 646), (.str (Str.ofString "Filter.low") 647), (.str (Str.ofString "/claim/cut.py") 648), (.int 216 0), (.int 1 0), (.int 0 0), (.int 0 0), (.int 3 0), (.ref 323), (.bool true), (.int 181 0), (.ref 324), .none, (.ref 325), (.ref 326), (.ref 327), (.int 650 0), (.int 216 0), (.str (Str.ofString "/claim/cut.py") 651)]), #[]⟩),
  (nat_lit 329, ⟨(.type "function"), none, (.func (PySem.W.fnOf (Str.ofString "low") (Str.ofString "Filter.low") (defArgs (inClass (topS 49) 3)) (defBody (inClass (topS 49) 3)) (defScope (inClass (topS 49) 3)) .none .none .none (.str (Str.ofString "seenrows.filters") 545) none (.ref 328) .none)), #[]⟩),
  (nat_lit 335, ⟨(.type "code"), none, (.fields #[(.str (Str.ofString "high") 653), (.str (Str.ofString "Filter.high") 654), (.str (Str.ofString "/claim/cut.py") 655), (.int 219 0), (.int 1 0), (.int 0 0), (.int 0 0), (.int 3 0), (.ref 330), (.bool true), (.int 181 0), (.ref 331), .none, (.ref 332), (.ref 333), (.ref 334), (.int 657 0), (.int 219 0), (.str (Str.ofString "/claim/cut.py") 658)]), #[]⟩),
  (nat_lit 336, ⟨(.type "function"), none, (.func (PySem.W.fnOf (Str.ofString "high") (Str.ofString "Filter.high") (defArgs (inClass (topS 49) 4)) (defBody (inClass (topS 49) 4)) (defScope (inClass (topS 49) 4)) .none .none .none (.str (Str.ofString "seenrows.filters") 545) none (.ref 335) .none)), #[]⟩),
  (nat_lit 342, ⟨(.type "code"), none, (.fields #[(.str (Str.ofString "span") 660), (.str (Str.ofString "Filter.span") 661), (.str (Str.ofString "/claim/cut.py") 662), (.int 222 0), (.int 1 0), (.int 0 0), (.int 0 0), (.int 3 0), (.ref 337), (.bool true), (.int 181 0), (.ref 338), .none, (.ref 339), (.ref 340), (.ref 341), (.int 664 0), (.int 222 0), (.str (Str.ofString "/claim/cut.py") 665)]), #[]⟩),
  (nat_lit 343, ⟨(.type "function"), none, (.func (PySem.W.fnOf (Str.ofString "span") (Str.ofString "Filter.span") (defArgs (inClass (topS 49) 5)) (defBody (inClass (topS 49) 5)) (defScope (inClass (topS 49) 5)) .none .none .none (.str (Str.ofString "seenrows.filters") 545) none (.ref 342) .none)), #[]⟩),
  (nat_lit 361, ⟨(.type "code"), none, (.fields #[(.str (Str.ofString "__bool__") 681), (.str (Str.ofString "Filter.__bool__") 682), (.str (Str.ofString "/claim/cut.py") 683), (.int 235 0), (.int 1 0), (.int 0 0), (.int 0 0), (.int 3 0), (.ref 356), (.bool true), (.int 181 0), (.ref 357), .none, (.ref 358), (.ref 359), (.ref 360), (.int 685 0), (.int 235 0), (.str (Str.ofString "/claim/cut.py") 686)]), #[]⟩),
  (nat_lit 362, ⟨(.type "function"), none, (.func (PySem.W.fnOf (Str.ofString "__bool__") (Str.ofString "Filter.__bool__") (defArgs (inClass (topS 49) 8)) (defBody (inClass (topS 49) 8)) (defScope (inClass (topS 49) 8)) .none .none .none (.str (Str.ofString "seenrows.filters") 545) none (.ref 361) .none)), #[]⟩),
  (nat_lit 375, ⟨(.type "code"), none, (.fields #[(.str (Str.ofString "__getitem__") 696), (.str (Str.ofString "Filter.__getitem__") 697), (.str (Str.ofString "/claim/cut.py") 698), (.int 241 0), (.int 2 0), (.int 0 0), (.int 0 0), (.int 3 0), (.ref 370), (.bool true), (.int 181 0), (.ref 371), .none, (.ref 372), (.ref 373), (.ref 374), (.int 701 0), (.int 241 0), (.str (Str.ofString "/claim/cut.py") 702)]), #[]⟩),
  (nat_lit 376, ⟨(.type "function"), none, (.func (PySem.W.fnOf (Str.ofString "__getitem__") (Str.ofString "Filter.__getitem__") (defArgs (inClass (topS 49) 10)) (defBody (inClass (topS 49) 10)) (defScope (inClass (topS 49) 10)) .none .none .none (.str (Str.ofString "seenrows.filters") 545) none (.ref 375) .none)), #[]⟩),
  (nat_lit 410, ⟨(.type "code"), none, (.fields #[(.str (Str.ofString "__mul__") 734), (.str (Str.ofString "Filter.__mul__") 735), (.str (Str.ofString "/claim/cut.py") 736), (.int 262 0), (.int 2 0), (.int 0 0), (.int 0 0), (.int 3 0), (.ref 405), (.bool true), (.int 181 0), (.ref 406), .none, (.ref 407), (.ref 408), (.ref 409), (.int 739 0), (.int 262 0), (.str (Str.ofString "/claim/cut.py") 740)]), #[]⟩),
  (nat_lit 411, ⟨(.type "function"), none, (.func (PySem.W.fnOf (Str.ofString "__mul__") (Str.ofString "Filter.__mul__") (defArgs (inClass (topS 49) 15)) (defBody (inClass (topS 49) 15)) (defScope (inClass (topS 49) 15)) .none .none .none (.str (Str.ofString "seenrows.filters") 545) none (.ref 410) .none)), #[]⟩),
  (nat_lit 422, ⟨(.type "code"), none, (.fields #[(.str (Str.ofString "__pow__") 750), (.str (Str.ofString "Filter.__pow__") 751), (.str (Str.ofString "/claim/cut.py") 752), (.int 275 0), (.int 2 0), (.int 0 0), (.int 0 0), (.int 3 0), (.ref 419), (.bool true), (.int 181 0), (.ref 420), .none, .none, .none, (.ref 421), (.int 753 0), (.int 275 0), (.str (Str.ofString "/claim/cut.py") 754)]), #[]⟩),
  (nat_lit 423, ⟨(.type "function"), none, (.func (PySem.W.fnOf (Str.ofString "__pow__") (Str.ofString "Filter.__pow__") (defArgs (inClass (topS 49) 17)) (defBody (inClass (topS 49) 17)) (defScope (inClass (topS 49) 17)) .none .none .none (.str (Str.ofString "seenrows.filters") 545) none (.ref 422) .none)), #[]⟩),
  (nat_lit 437, ⟨(.type "dict"), none, (.dict #[⟨PyData.keyHash P (Str.ofString "__module__"), (.str (Str.ofString "__module__") 603), (.str (Str.ofString "seenrows.filters") 545)⟩, ⟨PyData.keyHash P (Str.ofString "__firstlineno__"), (.str (Str.ofString "__firstlineno__") 607), (.int 197 606)⟩, ⟨PyData.keyHash P (Str.ofString "__init__"), (.str (Str.ofString "__init__") 617), (.ref 305)⟩, ⟨PyData.keyHash P (Str.ofString "shift"), (.str (Str.ofString "shift") 638), (.ref 314)⟩, ⟨PyData.keyHash P (Str.ofString "terms"), (.str (Str.ofString "terms") 645), (.ref 322)⟩, ⟨PyData.keyHash P (Str.ofString "low"), (.str (Str.ofString "low") 652), (.ref 329)⟩, ⟨PyData.keyHash P (Str.ofString "high"), (.str (Str.ofString "high") 659), (.ref 336)⟩, ⟨PyData.keyHash P (Str.ofString "span"), (.str (Str.ofString "span") 666), (.ref 343)⟩, ⟨PyData.keyHash P (Str.ofString "normal"), (.str (Str.ofString "normal") 672), (.ref 348)⟩, ⟨PyData.keyHash P (Str.ofString "__call__"), (.str (Str.ofString "__call__") 680), (.ref 355)⟩, ⟨PyData.keyHash P (Str.ofString "__bool__"), (.str (Str.ofString "__bool__") 687), (.ref 362)⟩, ⟨PyData.keyHash P (Str.ofString "__eq__"), (.str (Str.ofString "__eq__") 695), (.ref 369)⟩, ⟨PyData.keyHash P (Str.ofString "__getitem__"), (.str (Str.ofString "__getitem__") 703), (.ref 376)⟩, ⟨PyData.keyHash P (Str.ofString "__iter__"), (.str (Str.ofString "__iter__") 710), (.ref 383)⟩, ⟨PyData.keyHash P (Str.ofString "__neg__"), (.str (Str.ofString "__neg__") 717), (.ref 390)⟩, ⟨PyData.keyHash P (Str.ofString "__add__"), (.str (Str.ofString "__add__") 725), (.ref 397)⟩, ⟨PyData.keyHash P (Str.ofString "__sub__"), (.str (Str.ofString "__sub__") 733), (.ref 404)⟩, ⟨PyData.keyHash P (Str.ofString "__mul__"), (.str (Str.ofString "__mul__") 741), (.ref 411)⟩, ⟨PyData.keyHash P (Str.ofString "__rmul__"), (.str (Str.ofString "__rmul__") 749), (.ref 418)⟩, ⟨PyData.keyHash P (Str.ofString "__pow__"), (.str (Str.ofString "__pow__") 755), (.ref 423)⟩, ⟨PyData.keyHash P (Str.ofString "__mod__"), (.str (Str.ofString "__mod__") 763), (.ref 430)⟩, ⟨PyData.keyHash P (Str.ofString "__floordiv__"), (.str (Str.ofString "__floordiv__") 769), (.ref 435)⟩, ⟨PyData.keyHash P (Str.ofString "__static_attributes__"), (.str (Str.ofString "__static_attributes__") 773), (.ref 436)⟩, ⟨PyData.keyHash P (Str.ofString "__dict__"), (.str (Str.ofString "__dict__") 775), (.ref 439)⟩, ⟨PyData.keyHash P (Str.ofString "__weakref__"), (.str (Str.ofString "__weakref__") 777), (.ref 440)⟩, ⟨PyData.keyHash P (Str.ofString "__doc__"), (.str (Str.ofString "__doc__") 778), .none⟩, ⟨PyData.keyHash P (Str.ofString "__hash__"), (.str (Str.ofString "__hash__") 779), .none⟩] 5), #[]⟩),
  (nat_lit 438, ⟨(.type "type"), none, (.cls ⟨(Str.ofString "Filter"), [(.type "object")], [(.ref 438), (.type "object")], 437, (Str.ofString "Filter"), true, [], [], false, none, false⟩), #[none, none, (some (.str (Str.ofString "Filter") 596)), (some (.str (Str.ofString "Filter") 604)), (some (.builtin "object.__new__")), (some (.bool true))]⟩),
  (nat_lit 448, ⟨(.type "code"), none, (.fields #[(.str (Str.ofString "_law_spring") 784), (.str (Str.ofString "_law_spring") 785), (.str (Str.ofString "/claim/cut.py") 786), (.int 304 0), (.int 1 0), (.int 0 0), (.int 0 0), (.int 3 0), (.ref 443), (.bool true), (.int 181 0), (.ref 444), .none, (.ref 445), (.ref 446), (.ref 447), (.int 788 0), (.int 304 0), (.str (Str.ofString "/claim/cut.py") 789)]), #[]⟩),
  (nat_lit 449, ⟨(.type "function"), none, (.func (PySem.W.fnOf (Str.ofString "_law_spring") (Str.ofString "_law_spring") (defArgs (topS 51)) (defBody (topS 51)) (defScope (topS 51)) .none .none .none (.str (Str.ofString "law_seenrows_k04_filters_multiplied") 782) none (.ref 448) .none)), #[]⟩),
  (nat_lit 455, ⟨(.type "code"), none, (.fields #[(.str (Str.ofString "_law_draw") 791), (.str (Str.ofString "_law_draw") 792), (.str (Str.ofString "/claim/cut.py") 793), (.int 306 0), (.int 2 0), (.int 0 0), (.int 0 0), (.int 3 0), (.ref 450), (.bool true), (.int 181 0), (.ref 451), .none, (.ref 452), (.ref 453), (.ref 454), (.int 799 0), (.int 306 0), (.str (Str.ofString "/claim/cut.py") 800)]), #[]⟩),
  (nat_lit 456, ⟨(.type "function"), none, (.func (PySem.W.fnOf (Str.ofString "_law_draw") (Str.ofString "_law_draw") (defArgs (topS 52)) (defBody (topS 52)) (defScope (topS 52)) .none .none .none (.str (Str.ofString "law_seenrows_k04_filters_multiplied") 782) none (.ref 455) .none)), #[]⟩),
  (nat_lit 462, ⟨(.type "code"), none, (.fields #[(.str (Str.ofString "_law_pick") 802), (.str (Str.ofString "_law_pick") 803), (.str (Str.ofString "/claim/cut.py") 804), (.int 320 0), (.int 2 0), (.int 0 0), (.int 0 0), (.int 3 0), (.ref 457), (.bool true), (.int 181 0), (.ref 458), .none, (.ref 459), (.ref 460), (.ref 461), (.int 807 0), (.int 320 0), (.str (Str.ofString "/claim/cut.py") 808)]), #[]⟩)]
def KA0 : List Addr := [nat_lit 2, nat_lit 3, nat_lit 97, nat_lit 103, nat_lit 104, nat_lit 110, nat_lit 111, nat_lit 117, nat_lit 118, nat_lit 124, nat_lit 125, nat_lit 131, nat_lit 132, nat_lit 136, nat_lit 137, nat_lit 141, nat_lit 142, nat_lit 148, nat_lit 149, nat_lit 155, nat_lit 156, nat_lit 176, nat_lit 177, nat_lit 188, nat_lit 189, nat_lit 252, nat_lit 253, nat_lit 269, nat_lit 270, nat_lit 276, nat_lit 277, nat_lit 281, nat_lit 282, nat_lit 297, nat_lit 298, nat_lit 304, nat_lit 305, nat_lit 321, nat_lit 322, nat_lit 328, nat_lit 329, nat_lit 335, nat_lit 336, nat_lit 342, nat_lit 343, nat_lit 361, nat_lit 362, nat_lit 375, nat_lit 376, nat_lit 410, nat_lit 411, nat_lit 422, nat_lit 423, nat_lit 437, nat_lit 438, nat_lit 448, nat_lit 449, nat_lit 455, nat_lit 456, nat_lit 462]
def KK1 : Params → PySem.W.Frag := fun P => [
  (nat_lit 463, ⟨(.type "function"), none, (.func (PySem.W.fnOf (Str.ofString "_law_pick") (Str.ofString "_law_pick") (defArgs (topS 53)) (defBody (topS 53)) (defScope (topS 53)) .none .none .none (.str (Str.ofString "law_seenrows_k04_filters_multiplied") 782) none (.ref 462) .none)), #[]⟩),
  (nat_lit 467, ⟨(.type "code"), none, (.fields #[(.str (Str.ofString "_law_same") 810), (.str (Str.ofString "_law_same") 811), (.str (Str.ofString "/claim/cut.py") 812), (.int 322 0), (.int 2 0), (.int 0 0), (.int 0 0), (.int 3 0), (.ref 464), (.bool true), (.int 181 0), (.ref 465), .none, .none, .none, (.ref 466), (.int 813 0), (.int 322 0), (.str (Str.ofString "/claim/cut.py") 814)]), #[]⟩),
  (nat_lit 468, ⟨(.type "function"), none, (.func (PySem.W.fnOf (Str.ofString "_law_same") (Str.ofString "_law_same") (defArgs (topS 54)) (defBody (topS 54)) (defScope (topS 54)) .none .none .none (.str (Str.ofString "law_seenrows_k04_filters_multiplied") 782) none (.ref 467) .none)), #[]⟩),
  (nat_lit 472, ⟨(.type "code"), none, (.fields #[(.str (Str.ofString "_law_held") 816), (.str (Str.ofString "_law_held") 817), (.str (Str.ofString "/claim/cut.py") 818), (.int 330 0), (.int 2 0), (.int 0 0), (.int 0 0), (.int 3 0), (.ref 469), (.bool true), (.int 181 0), (.ref 470), .none, .none, .none, (.ref 471), (.int 819 0), (.int 330 0), (.str (Str.ofString "/claim/cut.py") 820)]), #[]⟩),
  (nat_lit 473, ⟨(.type "function"), none, (.func (PySem.W.fnOf (Str.ofString "_law_held") (Str.ofString "_law_held") (defArgs (topS 55)) (defBody (topS 55)) (defScope (topS 55)) .none .none .none (.str (Str.ofString "law_seenrows_k04_filters_multiplied") 782) none (.ref 472) .none)), #[]⟩),
  (nat_lit 477, ⟨(.type "code"), none, (.fields #[(.str (Str.ofString "_law_pairs") 822), (.str (Str.ofString "_law_pairs") 823), (.str (Str.ofString "/claim/cut.py") 824), (.int 338 0), (.int 1 0), (.int 0 0), (.int 0 0), (.int 3 0), (.ref 474), (.bool true), (.int 181 0), (.ref 475), .none, .none, .none, (.ref 476), (.int 825 0), (.int 338 0), (.str (Str.ofString "/claim/cut.py") 826)]), #[]⟩),
  (nat_lit 478, ⟨(.type "function"), none, (.func (PySem.W.fnOf (Str.ofString "_law_pairs") (Str.ofString "_law_pairs") (defArgs (topS 56)) (defBody (topS 56)) (defScope (topS 56)) .none .none .none (.str (Str.ofString "law_seenrows_k04_filters_multiplied") 782) none (.ref 477) .none)), #[]⟩),
  (nat_lit 482, ⟨(.type "code"), none, (.fields #[(.str (Str.ofString "_law_times") 828), (.str (Str.ofString "_law_times") 829), (.str (Str.ofString "/claim/cut.py") 830), (.int 340 0), (.int 3 0), (.int 0 0), (.int 0 0), (.int 3 0), (.ref 479), (.bool true), (.int 181 0), (.ref 480), .none, .none, .none, (.ref 481), (.int 831 0), (.int 340 0), (.str (Str.ofString "/claim/cut.py") 832)]), #[]⟩),
  (nat_lit 483, ⟨(.type "function"), none, (.func (PySem.W.fnOf (Str.ofString "_law_times") (Str.ofString "_law_times") (defArgs (topS 57)) (defBody (topS 57)) (defScope (topS 57)) .none .none .none (.str (Str.ofString "law_seenrows_k04_filters_multiplied") 782) none (.ref 482) .none)), #[]⟩),
  (nat_lit 489, ⟨(.type "code"), none, (.fields #[(.str (Str.ofString "_law_drawn") 834), (.str (Str.ofString "_law_drawn") 835), (.str (Str.ofString "/claim/cut.py") 836), (.int 345 0), (.int 4 0), (.int 0 0), (.int 0 0), (.int 3 0), (.ref 484), (.bool true), (.int 181 0), (.ref 485), .none, (.ref 486), (.ref 487), (.ref 488), (.int 844 0), (.int 345 0), (.str (Str.ofString "/claim/cut.py") 845)]), #[]⟩),
  (nat_lit 490, ⟨(.type "function"), none, (.func (PySem.W.fnOf (Str.ofString "_law_drawn") (Str.ofString "_law_drawn") (defArgs (topS 58)) (defBody (topS 58)) (defScope (topS 58)) .none .none .none (.str (Str.ofString "law_seenrows_k04_filters_multiplied") 782) none (.ref 489) .none)), #[]⟩),
  (nat_lit 496, ⟨(.type "code"), none, (.fields #[(.str (Str.ofString "_law_made") 847), (.str (Str.ofString "_law_made") 848), (.str (Str.ofString "/claim/cut.py") 849), (.int 351 0), (.int 2 0), (.int 0 0), (.int 0 0), (.int 3 0), (.ref 491), (.bool true), (.int 181 0), (.ref 492), .none, (.ref 493), (.ref 494), (.ref 495), (.int 852 0), (.int 351 0), (.str (Str.ofString "/claim/cut.py") 853)]), #[]⟩),
  (nat_lit 497, ⟨(.type "function"), none, (.func (PySem.W.fnOf (Str.ofString "_law_made") (Str.ofString "_law_made") (defArgs (topS 59)) (defBody (topS 59)) (defScope (topS 59)) .none .none .none (.str (Str.ofString "law_seenrows_k04_filters_multiplied") 782) none (.ref 496) .none)), #[]⟩),
  (nat_lit 503, ⟨(.type "code"), none, (.fields #[(.str (Str.ofString "_law_is") 855), (.str (Str.ofString "_law_is") 856), (.str (Str.ofString "/claim/cut.py") 857), (.int 353 0), (.int 3 0), (.int 0 0), (.int 0 0), (.int 3 0), (.ref 498), (.bool true), (.int 181 0), (.ref 499), .none, (.ref 500), (.ref 501), (.ref 502), (.int 861 0), (.int 353 0), (.str (Str.ofString "/claim/cut.py") 862)]), #[]⟩),
  (nat_lit 504, ⟨(.type "function"), none, (.func (PySem.W.fnOf (Str.ofString "_law_is") (Str.ofString "_law_is") (defArgs (topS 60)) (defBody (topS 60)) (defScope (topS 60)) .none .none .none (.str (Str.ofString "law_seenrows_k04_filters_multiplied") 782) none (.ref 503) .none)), #[]⟩),
  (nat_lit 510, ⟨(.type "code"), none, (.fields #[(.str (Str.ofString "_law_prime") 864), (.str (Str.ofString "_law_prime") 865), (.str (Str.ofString "/claim/cut.py") 866), (.int 355 0), (.int 1 0), (.int 0 0), (.int 0 0), (.int 3 0), (.ref 505), (.bool true), (.int 181 0), (.ref 506), .none, (.ref 507), (.ref 508), (.ref 509), (.int 868 0), (.int 355 0), (.str (Str.ofString "/claim/cut.py") 869)]), #[]⟩),
  (nat_lit 511, ⟨(.type "function"), none, (.func (PySem.W.fnOf (Str.ofString "_law_prime") (Str.ofString "_law_prime") (defArgs (topS 61)) (defBody (topS 61)) (defScope (topS 61)) .none .none .none (.str (Str.ofString "law_seenrows_k04_filters_multiplied") 782) none (.ref 510) .none)), #[]⟩),
  (nat_lit 515, ⟨(.type "code"), none, (.fields #[(.str (Str.ofString "_law_powers_right") 871), (.str (Str.ofString "_law_powers_right") 872), (.str (Str.ofString "/claim/cut.py") 873), (.int 357 0), (.int 2 0), (.int 0 0), (.int 0 0), (.int 3 0), (.ref 512), (.bool true), (.int 181 0), (.ref 513), .none, .none, .none, (.ref 514), (.int 874 0), (.int 357 0), (.str (Str.ofString "/claim/cut.py") 875)]), #[]⟩),
  (nat_lit 516, ⟨(.type "function"), none, (.func (PySem.W.fnOf (Str.ofString "_law_powers_right") (Str.ofString "_law_powers_right") (defArgs (topS 62)) (defBody (topS 62)) (defScope (topS 62)) .none .none .none (.str (Str.ofString "law_seenrows_k04_filters_multiplied") 782) none (.ref 515) .none)), #[]⟩),
  (nat_lit 522, ⟨(.type "code"), none, (.fields #[(.str (Str.ofString "law") 877), (.str (Str.ofString "law") 878), (.str (Str.ofString "/claim/cut.py") 879), (.int 365 0), (.int 1 0), (.int 0 0), (.int 0 0), (.int 3 0), (.ref 517), (.bool true), (.int 181 0), (.ref 518), .none, (.ref 519), (.ref 520), (.ref 521), (.int 891 0), (.int 365 0), (.str (Str.ofString "/claim/cut.py") 892)]), #[]⟩),
  (nat_lit 523, ⟨(.type "function"), none, (.func (PySem.W.fnOf (Str.ofString "law") (Str.ofString "law") (defArgs (topS 63)) (defBody (topS 63)) (defScope (topS 63)) .none .none .none (.str (Str.ofString "law_seenrows_k04_filters_multiplied") 782) none (.ref 522) .none)), #[]⟩)]
def KA1 : List Addr := [nat_lit 463, nat_lit 467, nat_lit 468, nat_lit 472, nat_lit 473, nat_lit 477, nat_lit 478, nat_lit 482, nat_lit 483, nat_lit 489, nat_lit 490, nat_lit 496, nat_lit 497, nat_lit 503, nat_lit 504, nat_lit 510, nat_lit 511, nat_lit 515, nat_lit 516, nat_lit 522, nat_lit 523]
def KK : Params → PySem.W.Frag := fun P =>
  (nat_lit 2, ⟨.none, none, (.dict #[] 0), #[]⟩) ::
  (nat_lit 3, ⟨(.type "dict"), none, (.dict #[⟨PyData.keyHash P (Str.ofString "__name__"), (.str (Str.ofString "__name__") 165), (.str (Str.ofString "law_seenrows_k04_filters_multiplied") 782)⟩, ⟨PyData.keyHash P (Str.ofString "__doc__"), (.str (Str.ofString "__doc__") 166), .none⟩, ⟨PyData.keyHash P (Str.ofString "__package__"), (.str (Str.ofString "__package__") 167), .none⟩, ⟨PyData.keyHash P (Str.ofString "__loader__"), (.str (Str.ofString "__loader__") 168), (.builtin "__main__.__loader__#opaque")⟩, ⟨PyData.keyHash P (Str.ofString "__spec__"), (.str (Str.ofString "__spec__") 169), .none⟩, ⟨PyData.keyHash P (Str.ofString "__annotations__"), (.str (Str.ofString "__annotations__") 170), (.ref 6)⟩, ⟨PyData.keyHash P (Str.ofString "__builtins__"), (.str (Str.ofString "__builtins__") 171), (.ref 4)⟩, ⟨PyData.keyHash P (Str.ofString "__file__"), (.str (Str.ofString "__file__") 173), (.str (Str.ofString "/claim/cut.py") 172)⟩, ⟨PyData.keyHash P (Str.ofString "__cached__"), (.str (Str.ofString "__cached__") 174), .none⟩, ⟨PyData.keyHash P (Str.ofString "_wall"), (.str (Str.ofString "_wall") 193), (.ref 21)⟩, ⟨PyData.keyHash P (Str.ofString "SeenError"), (.str (Str.ofString "SeenError") 213), (.ref 31)⟩, ⟨PyData.keyHash P (Str.ofString "BadPrime"), (.str (Str.ofString "BadPrime") 238), (.ref 51)⟩, ⟨PyData.keyHash P (Str.ofString "BadTerm"), (.str (Str.ofString "BadTerm") 263), (.ref 70)⟩, ⟨PyData.keyHash P (Str.ofString "UnlikePrimes"), (.str (Str.ofString "UnlikePrimes") 279), (.ref 82)⟩, ⟨PyData.keyHash P (Str.ofString "ZeroFilter"), (.str (Str.ofString "ZeroFilter") 295), (.ref 94)⟩, ⟨PyData.keyHash P (Str.ofString "PRIMES"), (.str (Str.ofString "PRIMES") 302), (.ref 97)⟩, ⟨PyData.keyHash P (Str.ofString "is_int"), (.str (Str.ofString "is_int") 309), (.ref 104)⟩, ⟨PyData.keyHash P (Str.ofString "is_list"), (.str (Str.ofString "is_list") 316), (.ref 111)⟩, ⟨PyData.keyHash P (Str.ofString "is_prime"), (.str (Str.ofString "is_prime") 323), (.ref 118)⟩, ⟨PyData.keyHash P (Str.ofString "is_term"), (.str (Str.ofString "is_term") 330), (.ref 125)⟩, ⟨PyData.keyHash P (Str.ofString "first_bad_term"), (.str (Str.ofString "first_bad_term") 339), (.ref 132)⟩, ⟨PyData.keyHash P (Str.ofString "NARROW"), (.str (Str.ofString "NARROW") 343), (.int 3 342)⟩, ⟨PyData.keyHash P (Str.ofString "NARROW_BITS"), (.str (Str.ofString "NARROW_BITS") 345), (.int 8 344)⟩, ⟨PyData.keyHash P (Str.ofString "WIDE"), (.str (Str.ofString "WIDE") 347), (.int 8 346)⟩, ⟨PyData.keyHash P (Str.ofString "WIDE_BITS"), (.str (Str.ofString "WIDE_BITS") 349), (.int 19 348)⟩, ⟨PyData.keyHash P (Str.ofString "BLOCK"), (.str (Str.ofString "BLOCK") 351), (.int 1024 350)⟩, ⟨PyData.keyHash P (Str.ofString "SLOT"), (.str (Str.ofString "SLOT") 353), (.int 12 352)⟩, ⟨PyData.keyHash P (Str.ofString "pack"), (.str (Str.ofString "pack") 359), (.ref 137)⟩, ⟨PyData.keyHash P (Str.ofString "unpack"), (.str (Str.ofString "unpack") 365), (.ref 142)⟩, ⟨PyData.keyHash P (Str.ofString "slot_mask"), (.str (Str.ofString "slot_mask") 376), (.ref 149)⟩, ⟨PyData.keyHash P (Str.ofString "lowered"), (.str (Str.ofString "lowered") 387), (.ref 156)⟩, ⟨PyData.keyHash P (Str.ofString "narrow_mask"), (.str (Str.ofString "narrow_mask") 394), (.ref 163)⟩, ⟨PyData.keyHash P (Str.ofString "without"), (.str (Str.ofString "without") 405), (.ref 170)⟩, ⟨PyData.keyHash P (Str.ofString "multiplied"), (.str (Str.ofString "multiplied") 422), (.ref 177)⟩, ⟨PyData.keyHash P (Str.ofString "NEAR"), (.str (Str.ofString "NEAR") 426), (.int 1000 425)⟩, ⟨PyData.keyHash P (Str.ofString "inverse"), (.str (Str.ofString "inverse") 434), (.ref 184)⟩, ⟨PyData.keyHash P (Str.ofString "collected"), (.str (Str.ofString "collected") 440), (.ref 189)⟩, ⟨PyData.keyHash P (Str.ofString "long_division"), (.str (Str.ofString "long_division") 446), (.ref 194)⟩, ⟨PyData.keyHash P (Str.ofString "divided_from_above"), (.str (Str.ofString "divided_from_above") 463), (.ref 201)⟩, ⟨PyData.keyHash P (Str.ofString "divided_from_below"), (.str (Str.ofString "divided_from_below") 483), (.ref 208)⟩, ⟨PyData.keyHash P (Str.ofString "remainder"), (.str (Str.ofString "remainder") 493), (.ref 215)⟩, ⟨PyData.keyHash P (Str.ofString "near_pairs"), (.str (Str.ofString "near_pairs") 499), (.ref 220)⟩, ⟨PyData.keyHash P (Str.ofString "power_digits"), (.str (Str.ofString "power_digits") 514), (.ref 227)⟩, ⟨PyData.keyHash P (Str.ofString "stride_of"), (.str (Str.ofString "stride_of") 522), (.ref 234)⟩, ⟨PyData.keyHash P (Str.ofString "packed_powers"), (.str (Str.ofString "packed_powers") 538), (.ref 241)⟩, ⟨PyData.keyHash P (Str.ofString "packed_sum"), (.str (Str.ofString "packed_sum") 544), (.ref 246)⟩, ⟨PyData.keyHash P (Str.ofString "check_primes"), (.str (Str.ofString "check_primes") 554), (.ref 253)⟩, ⟨PyData.keyHash P (Str.ofString "check_division"), (.str (Str.ofString "check_division") 562), (.ref 260)⟩, ⟨PyData.keyHash P (Str.ofString "scaled"), (.str (Str.ofString "scaled") 568), (.ref 265)⟩, ⟨PyData.keyHash P (Str.ofString "places"), (.str (Str.ofString "places") 574), (.ref 270)⟩, ⟨PyData.keyHash P (Str.ofString "is_dense"), (.str (Str.ofString "is_dense") 582), (.ref 277)⟩, ⟨PyData.keyHash P (Str.ofString "product"), (.str (Str.ofString "product") 588), (.ref 282)⟩, ⟨PyData.keyHash P (Str.ofString "divisor_of"), (.str (Str.ofString "divisor_of") 595), (.ref 289)⟩, ⟨PyData.keyHash P (Str.ofString "Filter"), (.str (Str.ofString "Filter") 781), (.ref 438)⟩, ⟨PyData.keyHash P (Str.ofString "_law_spring"), (.str (Str.ofString "_law_spring") 790), (.ref 449)⟩, ⟨PyData.keyHash P (Str.ofString "_law_draw"), (.str (Str.ofString "_law_draw") 801), (.ref 456)⟩, ⟨PyData.keyHash P (Str.ofString "_law_pick"), (.str (Str.ofString "_law_pick") 809), (.ref 463)⟩, ⟨PyData.keyHash P (Str.ofString "_law_same"), (.str (Str.ofString "_law_same") 815), (.ref 468)⟩, ⟨PyData.keyHash P (Str.ofString "_law_held"), (.str (Str.ofString "_law_held") 821), (.ref 473)⟩, ⟨PyData.keyHash P (Str.ofString "_law_pairs"), (.str (Str.ofString "_law_pairs") 827), (.ref 478)⟩, ⟨PyData.keyHash P (Str.ofString "_law_times"), (.str (Str.ofString "_law_times") 833), (.ref 483)⟩, ⟨PyData.keyHash P (Str.ofString "_law_drawn"), (.str (Str.ofString "_law_drawn") 846), (.ref 490)⟩, ⟨PyData.keyHash P (Str.ofString "_law_made"), (.str (Str.ofString "_law_made") 854), (.ref 497)⟩, ⟨PyData.keyHash P (Str.ofString "_law_is"), (.str (Str.ofString "_law_is") 863), (.ref 504)⟩, ⟨PyData.keyHash P (Str.ofString "_law_prime"), (.str (Str.ofString "_law_prime") 870), (.ref 511)⟩, ⟨PyData.keyHash P (Str.ofString "_law_powers_right"), (.str (Str.ofString "_law_powers_right") 876), (.ref 516)⟩, ⟨PyData.keyHash P (Str.ofString "law"), (.str (Str.ofString "law") 893), (.ref 523)⟩] 67), #[]⟩) ::
  (nat_lit 97, ⟨(.type "tuple"), none, (.seq #[(.int 2 298), (.int 3 299), (.int 5 300), (.int 7 301)] 0), #[]⟩) ::
  (nat_lit 103, ⟨(.type "code"), none, (.fields #[(.str (Str.ofString "is_int") 303), (.str (Str.ofString "is_int") 304), (.str (Str.ofString "/claim/cut.py") 305), (.int 21 0), (.int 1 0), (.int 0 0), (.int 0 0), (.int 3 0), (.ref 98), (.bool true), (.int 181 0), (.ref 99), .none, (.ref 100), (.ref 101), (.ref 102), (.int 307 0), (.int 21 0), (.str (Str.ofString "/claim/cut.py") 308)]), #[]⟩) ::
  (nat_lit 104, ⟨(.type "function"), none, (.func (PySem.W.fnOf (Str.ofString "is_int") (Str.ofString "is_int") (defArgs (topS 9)) (defBody (topS 9)) (defScope (topS 9)) .none .none .none (.str (Str.ofString "seenrows.kinds") 296) none (.ref 103) .none)), #[]⟩) ::
  (nat_lit 110, ⟨(.type "code"), none, (.fields #[(.str (Str.ofString "is_list") 310), (.str (Str.ofString "is_list") 311), (.str (Str.ofString "/claim/cut.py") 312), (.int 23 0), (.int 1 0), (.int 0 0), (.int 0 0), (.int 3 0), (.ref 105), (.bool true), (.int 181 0), (.ref 106), .none, (.ref 107), (.ref 108), (.ref 109), (.int 314 0), (.int 23 0), (.str (Str.ofString "/claim/cut.py") 315)]), #[]⟩) ::
  (nat_lit 111, ⟨(.type "function"), none, (.func (PySem.W.fnOf (Str.ofString "is_list") (Str.ofString "is_list") (defArgs (topS 10)) (defBody (topS 10)) (defScope (topS 10)) .none .none .none (.str (Str.ofString "seenrows.kinds") 296) none (.ref 110) .none)), #[]⟩) ::
  (nat_lit 117, ⟨(.type "code"), none, (.fields #[(.str (Str.ofString "is_prime") 317), (.str (Str.ofString "is_prime") 318), (.str (Str.ofString "/claim/cut.py") 319), (.int 25 0), (.int 1 0), (.int 0 0), (.int 0 0), (.int 3 0), (.ref 112), (.bool true), (.int 181 0), (.ref 113), .none, (.ref 114), (.ref 115), (.ref 116), (.int 321 0), (.int 25 0), (.str (Str.ofString "/claim/cut.py") 322)]), #[]⟩) ::
  (nat_lit 118, ⟨(.type "function"), none, (.func (PySem.W.fnOf (Str.ofString "is_prime") (Str.ofString "is_prime") (defArgs (topS 11)) (defBody (topS 11)) (defScope (topS 11)) .none .none .none (.str (Str.ofString "seenrows.kinds") 296) none (.ref 117) .none)), #[]⟩) ::
  (nat_lit 124, ⟨(.type "code"), none, (.fields #[(.str (Str.ofString "is_term") 324), (.str (Str.ofString "is_term") 325), (.str (Str.ofString "/claim/cut.py") 326), (.int 27 0), (.int 1 0), (.int 0 0), (.int 0 0), (.int 3 0), (.ref 119), (.bool true), (.int 181 0), (.ref 120), .none, (.ref 121), (.ref 122), (.ref 123), (.int 328 0), (.int 27 0), (.str (Str.ofString "/claim/cut.py") 329)]), #[]⟩) ::
  (nat_lit 125, ⟨(.type "function"), none, (.func (PySem.W.fnOf (Str.ofString "is_term") (Str.ofString "is_term") (defArgs (topS 12)) (defBody (topS 12)) (defScope (topS 12)) .none .none .none (.str (Str.ofString "seenrows.kinds") 296) none (.ref 124) .none)), #[]⟩) ::
  (nat_lit 131, ⟨(.type "code"), none, (.fields #[(.str (Str.ofString "first_bad_term") 331), (.str (Str.ofString "first_bad_term") 332), (.str (Str.ofString "/claim/cut.py") 333), (.int 29 0), (.int 1 0), (.int 0 0), (.int 0 0), (.int 3 0), (.ref 126), (.bool true), (.int 181 0), (.ref 127), .none, (.ref 128), (.ref 129), (.ref 130), (.int 337 0), (.int 29 0), (.str (Str.ofString "/claim/cut.py") 338)]), #[]⟩) ::
  (nat_lit 132, ⟨(.type "function"), none, (.func (PySem.W.fnOf (Str.ofString "first_bad_term") (Str.ofString "first_bad_term") (defArgs (topS 13)) (defBody (topS 13)) (defScope (topS 13)) .none .none .none (.str (Str.ofString "seenrows.kinds") 296) none (.ref 131) .none)), #[]⟩) ::
  (nat_lit 136, ⟨(.type "code"), none, (.fields #[(.str (Str.ofString "pack") 354), (.str (Str.ofString "pack") 355), (.str (Str.ofString "/claim/cut.py") 356), (.int 43 0), (.int 2 0), (.int 0 0), (.int 0 0), (.int 3 0), (.ref 133), (.bool true), (.int 181 0), (.ref 134), .none, .none, .none, (.ref 135), (.int 357 0), (.int 43 0), (.str (Str.ofString "/claim/cut.py") 358)]), #[]⟩) ::
  (nat_lit 137, ⟨(.type "function"), none, (.func (PySem.W.fnOf (Str.ofString "pack") (Str.ofString "pack") (defArgs (topS 21)) (defBody (topS 21)) (defScope (topS 21)) .none .none .none (.str (Str.ofString "seenrows.packs") 340) none (.ref 136) .none)), #[]⟩) ::
  (nat_lit 141, ⟨(.type "code"), none, (.fields #[(.str (Str.ofString "unpack") 360), (.str (Str.ofString "unpack") 361), (.str (Str.ofString "/claim/cut.py") 362), (.int 46 0), (.int 3 0), (.int 0 0), (.int 0 0), (.int 3 0), (.ref 138), (.bool true), (.int 181 0), (.ref 139), .none, .none, .none, (.ref 140), (.int 363 0), (.int 46 0), (.str (Str.ofString "/claim/cut.py") 364)]), #[]⟩) ::
  (nat_lit 142, ⟨(.type "function"), none, (.func (PySem.W.fnOf (Str.ofString "unpack") (Str.ofString "unpack") (defArgs (topS 22)) (defBody (topS 22)) (defScope (topS 22)) .none .none .none (.str (Str.ofString "seenrows.packs") 340) none (.ref 141) .none)), #[]⟩) ::
  (nat_lit 148, ⟨(.type "code"), none, (.fields #[(.str (Str.ofString "slot_mask") 366), (.str (Str.ofString "slot_mask") 367), (.str (Str.ofString "/claim/cut.py") 368), (.int 50 0), (.int 3 0), (.int 0 0), (.int 0 0), (.int 3 0), (.ref 143), (.bool true), (.int 181 0), (.ref 144), .none, (.ref 145), (.ref 146), (.ref 147), (.int 374 0), (.int 50 0), (.str (Str.ofString "/claim/cut.py") 375)]), #[]⟩) ::
  (nat_lit 149, ⟨(.type "function"), none, (.func (PySem.W.fnOf (Str.ofString "slot_mask") (Str.ofString "slot_mask") (defArgs (topS 23)) (defBody (topS 23)) (defScope (topS 23)) .none .none .none (.str (Str.ofString "seenrows.packs") 340) none (.ref 148) .none)), #[]⟩) ::
  (nat_lit 155, ⟨(.type "code"), none, (.fields #[(.str (Str.ofString "lowered") 377), (.str (Str.ofString "lowered") 378), (.str (Str.ofString "/claim/cut.py") 379), (.int 54 0), (.int 4 0), (.int 0 0), (.int 0 0), (.int 3 0), (.ref 150), (.bool true), (.int 181 0), (.ref 151), .none, (.ref 152), (.ref 153), (.ref 154), (.int 385 0), (.int 54 0), (.str (Str.ofString "/claim/cut.py") 386)]), #[]⟩) ::
  (nat_lit 156, ⟨(.type "function"), none, (.func (PySem.W.fnOf (Str.ofString "lowered") (Str.ofString "lowered") (defArgs (topS 24)) (defBody (topS 24)) (defScope (topS 24)) .none .none .none (.str (Str.ofString "seenrows.packs") 340) none (.ref 155) .none)), #[]⟩) ::
  (nat_lit 176, ⟨(.type "code"), none, (.fields #[(.str (Str.ofString "multiplied") 406), (.str (Str.ofString "multiplied") 407), (.str (Str.ofString "/claim/cut.py") 408), (.int 61 0), (.int 3 0), (.int 0 0), (.int 0 0), (.int 3 0), (.ref 171), (.bool true), (.int 181 0), (.ref 172), .none, (.ref 173), (.ref 174), (.ref 175), (.int 420 0), (.int 61 0), (.str (Str.ofString "/claim/cut.py") 421)]), #[]⟩) ::
  (nat_lit 177, ⟨(.type "function"), none, (.func (PySem.W.fnOf (Str.ofString "multiplied") (Str.ofString "multiplied") (defArgs (topS 27)) (defBody (topS 27)) (defScope (topS 27)) .none .none .none (.str (Str.ofString "seenrows.packs") 340) none (.ref 176) .none)), #[]⟩) ::
  (nat_lit 188, ⟨(.type "code"), none, (.fields #[(.str (Str.ofString "collected") 435), (.str (Str.ofString "collected") 436), (.str (Str.ofString "/claim/cut.py") 437), (.int 75 0), (.int 2 0), (.int 0 0), (.int 0 0), (.int 3 0), (.ref 185), (.bool true), (.int 181 0), (.ref 186), .none, .none, .none, (.ref 187), (.int 438 0), (.int 75 0), (.str (Str.ofString "/claim/cut.py") 439)]), #[]⟩) ::
  (nat_lit 189, ⟨(.type "function"), none, (.func (PySem.W.fnOf (Str.ofString "collected") (Str.ofString "collected") (defArgs (topS 31)) (defBody (topS 31)) (defScope (topS 31)) .none .none .none (.str (Str.ofString "seenrows.remainders") 423) none (.ref 188) .none)), #[]⟩) ::
  (nat_lit 252, ⟨(.type "code"), none, (.fields #[(.str (Str.ofString "check_primes") 547), (.str (Str.ofString "check_primes") 548), (.str (Str.ofString "/claim/cut.py") 549), (.int 176 0), (.int 2 0), (.int 0 0), (.int 0 0), (.int 3 0), (.ref 247), (.bool true), (.int 181 0), (.ref 248), .none, (.ref 249), (.ref 250), (.ref 251), (.int 552 0), (.int 176 0), (.str (Str.ofString "/claim/cut.py") 553)]), #[]⟩) ::
  (nat_lit 253, ⟨(.type "function"), none, (.func (PySem.W.fnOf (Str.ofString "check_primes") (Str.ofString "check_primes") (defArgs (topS 42)) (defBody (topS 42)) (defScope (topS 42)) .none .none .none (.str (Str.ofString "seenrows.filters") 545) none (.ref 252) .none)), #[]⟩) ::
  (nat_lit 269, ⟨(.type "code"), none, (.fields #[(.str (Str.ofString "places") 569), (.str (Str.ofString "places") 570), (.str (Str.ofString "/claim/cut.py") 571), (.int 185 0), (.int 1 0), (.int 0 0), (.int 0 0), (.int 3 0), (.ref 266), (.bool true), (.int 181 0), (.ref 267), .none, .none, .none, (.ref 268), (.int 572 0), (.int 185 0), (.str (Str.ofString "/claim/cut.py") 573)]), #[]⟩) ::
  (nat_lit 270, ⟨(.type "function"), none, (.func (PySem.W.fnOf (Str.ofString "places") (Str.ofString "places") (defArgs (topS 45)) (defBody (topS 45)) (defScope (topS 45)) .none .none .none (.str (Str.ofString "seenrows.filters") 545) none (.ref 269) .none)), #[]⟩) ::
  (nat_lit 276, ⟨(.type "code"), none, (.fields #[(.str (Str.ofString "is_dense") 575), (.str (Str.ofString "is_dense") 576), (.str (Str.ofString "/claim/cut.py") 577), (.int 187 0), (.int 2 0), (.int 0 0), (.int 0 0), (.int 3 0), (.ref 271), (.bool true), (.int 181 0), (.ref 272), .none, (.ref 273), (.ref 274), (.ref 275), (.int 580 0), (.int 187 0), (.str (Str.ofString "/claim/cut.py") 581)]), #[]⟩) ::
  (nat_lit 277, ⟨(.type "function"), none, (.func (PySem.W.fnOf (Str.ofString "is_dense") (Str.ofString "is_dense") (defArgs (topS 46)) (defBody (topS 46)) (defScope (topS 46)) .none .none .none (.str (Str.ofString "seenrows.filters") 545) none (.ref 276) .none)), #[]⟩) ::
  (nat_lit 281, ⟨(.type "code"), none, (.fields #[(.str (Str.ofString "product") 583), (.str (Str.ofString "product") 584), (.str (Str.ofString "/claim/cut.py") 585), (.int 189 0), (.int 2 0), (.int 0 0), (.int 0 0), (.int 3 0), (.ref 278), (.bool true), (.int 181 0), (.ref 279), .none, .none, .none, (.ref 280), (.int 586 0), (.int 189 0), (.str (Str.ofString "/claim/cut.py") 587)]), #[]⟩) ::
  (nat_lit 282, ⟨(.type "function"), none, (.func (PySem.W.fnOf (Str.ofString "product") (Str.ofString "product") (defArgs (topS 47)) (defBody (topS 47)) (defScope (topS 47)) .none .none .none (.str (Str.ofString "seenrows.filters") 545) none (.ref 281) .none)), #[]⟩) ::
  (nat_lit 297, ⟨(.type "tuple"), none, (.seq #[] 0), #[]⟩) ::
  (nat_lit 298, ⟨(.type "tuple"), none, (.seq #[(.ref 297)] 0), #[]⟩) ::
  (nat_lit 304, ⟨(.type "code"), none, (.fields #[(.str (Str.ofString "__init__") 608), (.str (Str.ofString "Filter.__init__") 609), (.str (Str.ofString "/claim/cut.py") 610), (.int 199 0), (.int 3 0), (.int 0 0), (.int 0 0), (.int 3 0), (.ref 299), (.bool true), (.int 181 0), (.ref 300), .none, (.ref 301), (.ref 302), (.ref 303), (.int 615 0), (.int 199 0), (.str (Str.ofString "/claim/cut.py") 616)]), #[]⟩) ::
  (nat_lit 305, ⟨(.type "function"), none, (.func (PySem.W.fnOf (Str.ofString "__init__") (Str.ofString "Filter.__init__") (defArgs (inClass (topS 49) 0)) (defBody (inClass (topS 49) 0)) (defScope (inClass (topS 49) 0)) (.ref 298) .none .none (.str (Str.ofString "seenrows.filters") 545) none (.ref 304) .none)), #[]⟩) ::
  (nat_lit 321, ⟨(.type "code"), none, (.fields #[(.str (Str.ofString "terms") 639), (.str (Str.ofString "Filter.terms") 640), (.str (Str.ofString "/claim/cut.py") 641), (.int 213 0), (.int 1 0), (.int 0 0), (.int 0 0), (.int 3 0), (.ref 316), (.bool true), (.int 181 0), (.ref 317), .none, (.ref 318), (.ref 319), (.ref 320), (.int 643 0), (.int 213 0), (.str (Str.ofString "/claim/cut.py") 644)]), #[]⟩) ::
  (nat_lit 322, ⟨(.type "function"), none, (.func (PySem.W.fnOf (Str.ofString "terms") (Str.ofString "Filter.terms") (defArgs (inClass (topS 49) 2)) (defBody (inClass (topS 49) 2)) (defScope (inClass (topS 49) 2)) .none .none .none (.str (Str.ofString "seenrows.filters") 545) none (.ref 321) .none)), #[]⟩) ::
  (nat_lit 328, ⟨(.type "code"), none, (.fields #[(.str (Str.ofString "low") 646), (.str (Str.ofString "Filter.low") 647), (.str (Str.ofString "/claim/cut.py") 648), (.int 216 0), (.int 1 0), (.int 0 0), (.int 0 0), (.int 3 0), (.ref 323), (.bool true), (.int 181 0), (.ref 324), .none, (.ref 325), (.ref 326), (.ref 327), (.int 650 0), (.int 216 0), (.str (Str.ofString "/claim/cut.py") 651)]), #[]⟩) ::
  (nat_lit 329, ⟨(.type "function"), none, (.func (PySem.W.fnOf (Str.ofString "low") (Str.ofString "Filter.low") (defArgs (inClass (topS 49) 3)) (defBody (inClass (topS 49) 3)) (defScope (inClass (topS 49) 3)) .none .none .none (.str (Str.ofString "seenrows.filters") 545) none (.ref 328) .none)), #[]⟩) ::
  (nat_lit 335, ⟨(.type "code"), none, (.fields #[(.str (Str.ofString "high") 653), (.str (Str.ofString "Filter.high") 654), (.str (Str.ofString "/claim/cut.py") 655), (.int 219 0), (.int 1 0), (.int 0 0), (.int 0 0), (.int 3 0), (.ref 330), (.bool true), (.int 181 0), (.ref 331), .none, (.ref 332), (.ref 333), (.ref 334), (.int 657 0), (.int 219 0), (.str (Str.ofString "/claim/cut.py") 658)]), #[]⟩) ::
  (nat_lit 336, ⟨(.type "function"), none, (.func (PySem.W.fnOf (Str.ofString "high") (Str.ofString "Filter.high") (defArgs (inClass (topS 49) 4)) (defBody (inClass (topS 49) 4)) (defScope (inClass (topS 49) 4)) .none .none .none (.str (Str.ofString "seenrows.filters") 545) none (.ref 335) .none)), #[]⟩) ::
  (nat_lit 342, ⟨(.type "code"), none, (.fields #[(.str (Str.ofString "span") 660), (.str (Str.ofString "Filter.span") 661), (.str (Str.ofString "/claim/cut.py") 662), (.int 222 0), (.int 1 0), (.int 0 0), (.int 0 0), (.int 3 0), (.ref 337), (.bool true), (.int 181 0), (.ref 338), .none, (.ref 339), (.ref 340), (.ref 341), (.int 664 0), (.int 222 0), (.str (Str.ofString "/claim/cut.py") 665)]), #[]⟩) ::
  (nat_lit 343, ⟨(.type "function"), none, (.func (PySem.W.fnOf (Str.ofString "span") (Str.ofString "Filter.span") (defArgs (inClass (topS 49) 5)) (defBody (inClass (topS 49) 5)) (defScope (inClass (topS 49) 5)) .none .none .none (.str (Str.ofString "seenrows.filters") 545) none (.ref 342) .none)), #[]⟩) ::
  (nat_lit 361, ⟨(.type "code"), none, (.fields #[(.str (Str.ofString "__bool__") 681), (.str (Str.ofString "Filter.__bool__") 682), (.str (Str.ofString "/claim/cut.py") 683), (.int 235 0), (.int 1 0), (.int 0 0), (.int 0 0), (.int 3 0), (.ref 356), (.bool true), (.int 181 0), (.ref 357), .none, (.ref 358), (.ref 359), (.ref 360), (.int 685 0), (.int 235 0), (.str (Str.ofString "/claim/cut.py") 686)]), #[]⟩) ::
  (nat_lit 362, ⟨(.type "function"), none, (.func (PySem.W.fnOf (Str.ofString "__bool__") (Str.ofString "Filter.__bool__") (defArgs (inClass (topS 49) 8)) (defBody (inClass (topS 49) 8)) (defScope (inClass (topS 49) 8)) .none .none .none (.str (Str.ofString "seenrows.filters") 545) none (.ref 361) .none)), #[]⟩) ::
  (nat_lit 375, ⟨(.type "code"), none, (.fields #[(.str (Str.ofString "__getitem__") 696), (.str (Str.ofString "Filter.__getitem__") 697), (.str (Str.ofString "/claim/cut.py") 698), (.int 241 0), (.int 2 0), (.int 0 0), (.int 0 0), (.int 3 0), (.ref 370), (.bool true), (.int 181 0), (.ref 371), .none, (.ref 372), (.ref 373), (.ref 374), (.int 701 0), (.int 241 0), (.str (Str.ofString "/claim/cut.py") 702)]), #[]⟩) ::
  (nat_lit 376, ⟨(.type "function"), none, (.func (PySem.W.fnOf (Str.ofString "__getitem__") (Str.ofString "Filter.__getitem__") (defArgs (inClass (topS 49) 10)) (defBody (inClass (topS 49) 10)) (defScope (inClass (topS 49) 10)) .none .none .none (.str (Str.ofString "seenrows.filters") 545) none (.ref 375) .none)), #[]⟩) ::
  (nat_lit 410, ⟨(.type "code"), none, (.fields #[(.str (Str.ofString "__mul__") 734), (.str (Str.ofString "Filter.__mul__") 735), (.str (Str.ofString "/claim/cut.py") 736), (.int 262 0), (.int 2 0), (.int 0 0), (.int 0 0), (.int 3 0), (.ref 405), (.bool true), (.int 181 0), (.ref 406), .none, (.ref 407), (.ref 408), (.ref 409), (.int 739 0), (.int 262 0), (.str (Str.ofString "/claim/cut.py") 740)]), #[]⟩) ::
  (nat_lit 411, ⟨(.type "function"), none, (.func (PySem.W.fnOf (Str.ofString "__mul__") (Str.ofString "Filter.__mul__") (defArgs (inClass (topS 49) 15)) (defBody (inClass (topS 49) 15)) (defScope (inClass (topS 49) 15)) .none .none .none (.str (Str.ofString "seenrows.filters") 545) none (.ref 410) .none)), #[]⟩) ::
  (nat_lit 422, ⟨(.type "code"), none, (.fields #[(.str (Str.ofString "__pow__") 750), (.str (Str.ofString "Filter.__pow__") 751), (.str (Str.ofString "/claim/cut.py") 752), (.int 275 0), (.int 2 0), (.int 0 0), (.int 0 0), (.int 3 0), (.ref 419), (.bool true), (.int 181 0), (.ref 420), .none, .none, .none, (.ref 421), (.int 753 0), (.int 275 0), (.str (Str.ofString "/claim/cut.py") 754)]), #[]⟩) ::
  (nat_lit 423, ⟨(.type "function"), none, (.func (PySem.W.fnOf (Str.ofString "__pow__") (Str.ofString "Filter.__pow__") (defArgs (inClass (topS 49) 17)) (defBody (inClass (topS 49) 17)) (defScope (inClass (topS 49) 17)) .none .none .none (.str (Str.ofString "seenrows.filters") 545) none (.ref 422) .none)), #[]⟩) ::
  (nat_lit 437, ⟨(.type "dict"), none, (.dict #[⟨PyData.keyHash P (Str.ofString "__module__"), (.str (Str.ofString "__module__") 603), (.str (Str.ofString "seenrows.filters") 545)⟩, ⟨PyData.keyHash P (Str.ofString "__firstlineno__"), (.str (Str.ofString "__firstlineno__") 607), (.int 197 606)⟩, ⟨PyData.keyHash P (Str.ofString "__init__"), (.str (Str.ofString "__init__") 617), (.ref 305)⟩, ⟨PyData.keyHash P (Str.ofString "shift"), (.str (Str.ofString "shift") 638), (.ref 314)⟩, ⟨PyData.keyHash P (Str.ofString "terms"), (.str (Str.ofString "terms") 645), (.ref 322)⟩, ⟨PyData.keyHash P (Str.ofString "low"), (.str (Str.ofString "low") 652), (.ref 329)⟩, ⟨PyData.keyHash P (Str.ofString "high"), (.str (Str.ofString "high") 659), (.ref 336)⟩, ⟨PyData.keyHash P (Str.ofString "span"), (.str (Str.ofString "span") 666), (.ref 343)⟩, ⟨PyData.keyHash P (Str.ofString "normal"), (.str (Str.ofString "normal") 672), (.ref 348)⟩, ⟨PyData.keyHash P (Str.ofString "__call__"), (.str (Str.ofString "__call__") 680), (.ref 355)⟩, ⟨PyData.keyHash P (Str.ofString "__bool__"), (.str (Str.ofString "__bool__") 687), (.ref 362)⟩, ⟨PyData.keyHash P (Str.ofString "__eq__"), (.str (Str.ofString "__eq__") 695), (.ref 369)⟩, ⟨PyData.keyHash P (Str.ofString "__getitem__"), (.str (Str.ofString "__getitem__") 703), (.ref 376)⟩, ⟨PyData.keyHash P (Str.ofString "__iter__"), (.str (Str.ofString "__iter__") 710), (.ref 383)⟩, ⟨PyData.keyHash P (Str.ofString "__neg__"), (.str (Str.ofString "__neg__") 717), (.ref 390)⟩, ⟨PyData.keyHash P (Str.ofString "__add__"), (.str (Str.ofString "__add__") 725), (.ref 397)⟩, ⟨PyData.keyHash P (Str.ofString "__sub__"), (.str (Str.ofString "__sub__") 733), (.ref 404)⟩, ⟨PyData.keyHash P (Str.ofString "__mul__"), (.str (Str.ofString "__mul__") 741), (.ref 411)⟩, ⟨PyData.keyHash P (Str.ofString "__rmul__"), (.str (Str.ofString "__rmul__") 749), (.ref 418)⟩, ⟨PyData.keyHash P (Str.ofString "__pow__"), (.str (Str.ofString "__pow__") 755), (.ref 423)⟩, ⟨PyData.keyHash P (Str.ofString "__mod__"), (.str (Str.ofString "__mod__") 763), (.ref 430)⟩, ⟨PyData.keyHash P (Str.ofString "__floordiv__"), (.str (Str.ofString "__floordiv__") 769), (.ref 435)⟩, ⟨PyData.keyHash P (Str.ofString "__static_attributes__"), (.str (Str.ofString "__static_attributes__") 773), (.ref 436)⟩, ⟨PyData.keyHash P (Str.ofString "__dict__"), (.str (Str.ofString "__dict__") 775), (.ref 439)⟩, ⟨PyData.keyHash P (Str.ofString "__weakref__"), (.str (Str.ofString "__weakref__") 777), (.ref 440)⟩, ⟨PyData.keyHash P (Str.ofString "__doc__"), (.str (Str.ofString "__doc__") 778), .none⟩, ⟨PyData.keyHash P (Str.ofString "__hash__"), (.str (Str.ofString "__hash__") 779), .none⟩] 5), #[]⟩) ::
  (nat_lit 438, ⟨(.type "type"), none, (.cls ⟨(Str.ofString "Filter"), [(.type "object")], [(.ref 438), (.type "object")], 437, (Str.ofString "Filter"), true, [], [], false, none, false⟩), #[none, none, (some (.str (Str.ofString "Filter") 596)), (some (.str (Str.ofString "Filter") 604)), (some (.builtin "object.__new__")), (some (.bool true))]⟩) ::
  (nat_lit 448, ⟨(.type "code"), none, (.fields #[(.str (Str.ofString "_law_spring") 784), (.str (Str.ofString "_law_spring") 785), (.str (Str.ofString "/claim/cut.py") 786), (.int 304 0), (.int 1 0), (.int 0 0), (.int 0 0), (.int 3 0), (.ref 443), (.bool true), (.int 181 0), (.ref 444), .none, (.ref 445), (.ref 446), (.ref 447), (.int 788 0), (.int 304 0), (.str (Str.ofString "/claim/cut.py") 789)]), #[]⟩) ::
  (nat_lit 449, ⟨(.type "function"), none, (.func (PySem.W.fnOf (Str.ofString "_law_spring") (Str.ofString "_law_spring") (defArgs (topS 51)) (defBody (topS 51)) (defScope (topS 51)) .none .none .none (.str (Str.ofString "law_seenrows_k04_filters_multiplied") 782) none (.ref 448) .none)), #[]⟩) ::
  (nat_lit 455, ⟨(.type "code"), none, (.fields #[(.str (Str.ofString "_law_draw") 791), (.str (Str.ofString "_law_draw") 792), (.str (Str.ofString "/claim/cut.py") 793), (.int 306 0), (.int 2 0), (.int 0 0), (.int 0 0), (.int 3 0), (.ref 450), (.bool true), (.int 181 0), (.ref 451), .none, (.ref 452), (.ref 453), (.ref 454), (.int 799 0), (.int 306 0), (.str (Str.ofString "/claim/cut.py") 800)]), #[]⟩) ::
  (nat_lit 456, ⟨(.type "function"), none, (.func (PySem.W.fnOf (Str.ofString "_law_draw") (Str.ofString "_law_draw") (defArgs (topS 52)) (defBody (topS 52)) (defScope (topS 52)) .none .none .none (.str (Str.ofString "law_seenrows_k04_filters_multiplied") 782) none (.ref 455) .none)), #[]⟩) ::
  (nat_lit 462, ⟨(.type "code"), none, (.fields #[(.str (Str.ofString "_law_pick") 802), (.str (Str.ofString "_law_pick") 803), (.str (Str.ofString "/claim/cut.py") 804), (.int 320 0), (.int 2 0), (.int 0 0), (.int 0 0), (.int 3 0), (.ref 457), (.bool true), (.int 181 0), (.ref 458), .none, (.ref 459), (.ref 460), (.ref 461), (.int 807 0), (.int 320 0), (.str (Str.ofString "/claim/cut.py") 808)]), #[]⟩) ::
  (nat_lit 463, ⟨(.type "function"), none, (.func (PySem.W.fnOf (Str.ofString "_law_pick") (Str.ofString "_law_pick") (defArgs (topS 53)) (defBody (topS 53)) (defScope (topS 53)) .none .none .none (.str (Str.ofString "law_seenrows_k04_filters_multiplied") 782) none (.ref 462) .none)), #[]⟩) ::
  (nat_lit 467, ⟨(.type "code"), none, (.fields #[(.str (Str.ofString "_law_same") 810), (.str (Str.ofString "_law_same") 811), (.str (Str.ofString "/claim/cut.py") 812), (.int 322 0), (.int 2 0), (.int 0 0), (.int 0 0), (.int 3 0), (.ref 464), (.bool true), (.int 181 0), (.ref 465), .none, .none, .none, (.ref 466), (.int 813 0), (.int 322 0), (.str (Str.ofString "/claim/cut.py") 814)]), #[]⟩) ::
  (nat_lit 468, ⟨(.type "function"), none, (.func (PySem.W.fnOf (Str.ofString "_law_same") (Str.ofString "_law_same") (defArgs (topS 54)) (defBody (topS 54)) (defScope (topS 54)) .none .none .none (.str (Str.ofString "law_seenrows_k04_filters_multiplied") 782) none (.ref 467) .none)), #[]⟩) ::
  (nat_lit 472, ⟨(.type "code"), none, (.fields #[(.str (Str.ofString "_law_held") 816), (.str (Str.ofString "_law_held") 817), (.str (Str.ofString "/claim/cut.py") 818), (.int 330 0), (.int 2 0), (.int 0 0), (.int 0 0), (.int 3 0), (.ref 469), (.bool true), (.int 181 0), (.ref 470), .none, .none, .none, (.ref 471), (.int 819 0), (.int 330 0), (.str (Str.ofString "/claim/cut.py") 820)]), #[]⟩) ::
  (nat_lit 473, ⟨(.type "function"), none, (.func (PySem.W.fnOf (Str.ofString "_law_held") (Str.ofString "_law_held") (defArgs (topS 55)) (defBody (topS 55)) (defScope (topS 55)) .none .none .none (.str (Str.ofString "law_seenrows_k04_filters_multiplied") 782) none (.ref 472) .none)), #[]⟩) ::
  (nat_lit 477, ⟨(.type "code"), none, (.fields #[(.str (Str.ofString "_law_pairs") 822), (.str (Str.ofString "_law_pairs") 823), (.str (Str.ofString "/claim/cut.py") 824), (.int 338 0), (.int 1 0), (.int 0 0), (.int 0 0), (.int 3 0), (.ref 474), (.bool true), (.int 181 0), (.ref 475), .none, .none, .none, (.ref 476), (.int 825 0), (.int 338 0), (.str (Str.ofString "/claim/cut.py") 826)]), #[]⟩) ::
  (nat_lit 478, ⟨(.type "function"), none, (.func (PySem.W.fnOf (Str.ofString "_law_pairs") (Str.ofString "_law_pairs") (defArgs (topS 56)) (defBody (topS 56)) (defScope (topS 56)) .none .none .none (.str (Str.ofString "law_seenrows_k04_filters_multiplied") 782) none (.ref 477) .none)), #[]⟩) ::
  (nat_lit 482, ⟨(.type "code"), none, (.fields #[(.str (Str.ofString "_law_times") 828), (.str (Str.ofString "_law_times") 829), (.str (Str.ofString "/claim/cut.py") 830), (.int 340 0), (.int 3 0), (.int 0 0), (.int 0 0), (.int 3 0), (.ref 479), (.bool true), (.int 181 0), (.ref 480), .none, .none, .none, (.ref 481), (.int 831 0), (.int 340 0), (.str (Str.ofString "/claim/cut.py") 832)]), #[]⟩) ::
  (nat_lit 483, ⟨(.type "function"), none, (.func (PySem.W.fnOf (Str.ofString "_law_times") (Str.ofString "_law_times") (defArgs (topS 57)) (defBody (topS 57)) (defScope (topS 57)) .none .none .none (.str (Str.ofString "law_seenrows_k04_filters_multiplied") 782) none (.ref 482) .none)), #[]⟩) ::
  (nat_lit 489, ⟨(.type "code"), none, (.fields #[(.str (Str.ofString "_law_drawn") 834), (.str (Str.ofString "_law_drawn") 835), (.str (Str.ofString "/claim/cut.py") 836), (.int 345 0), (.int 4 0), (.int 0 0), (.int 0 0), (.int 3 0), (.ref 484), (.bool true), (.int 181 0), (.ref 485), .none, (.ref 486), (.ref 487), (.ref 488), (.int 844 0), (.int 345 0), (.str (Str.ofString "/claim/cut.py") 845)]), #[]⟩) ::
  (nat_lit 490, ⟨(.type "function"), none, (.func (PySem.W.fnOf (Str.ofString "_law_drawn") (Str.ofString "_law_drawn") (defArgs (topS 58)) (defBody (topS 58)) (defScope (topS 58)) .none .none .none (.str (Str.ofString "law_seenrows_k04_filters_multiplied") 782) none (.ref 489) .none)), #[]⟩) ::
  (nat_lit 496, ⟨(.type "code"), none, (.fields #[(.str (Str.ofString "_law_made") 847), (.str (Str.ofString "_law_made") 848), (.str (Str.ofString "/claim/cut.py") 849), (.int 351 0), (.int 2 0), (.int 0 0), (.int 0 0), (.int 3 0), (.ref 491), (.bool true), (.int 181 0), (.ref 492), .none, (.ref 493), (.ref 494), (.ref 495), (.int 852 0), (.int 351 0), (.str (Str.ofString "/claim/cut.py") 853)]), #[]⟩) ::
  (nat_lit 497, ⟨(.type "function"), none, (.func (PySem.W.fnOf (Str.ofString "_law_made") (Str.ofString "_law_made") (defArgs (topS 59)) (defBody (topS 59)) (defScope (topS 59)) .none .none .none (.str (Str.ofString "law_seenrows_k04_filters_multiplied") 782) none (.ref 496) .none)), #[]⟩) ::
  (nat_lit 503, ⟨(.type "code"), none, (.fields #[(.str (Str.ofString "_law_is") 855), (.str (Str.ofString "_law_is") 856), (.str (Str.ofString "/claim/cut.py") 857), (.int 353 0), (.int 3 0), (.int 0 0), (.int 0 0), (.int 3 0), (.ref 498), (.bool true), (.int 181 0), (.ref 499), .none, (.ref 500), (.ref 501), (.ref 502), (.int 861 0), (.int 353 0), (.str (Str.ofString "/claim/cut.py") 862)]), #[]⟩) ::
  (nat_lit 504, ⟨(.type "function"), none, (.func (PySem.W.fnOf (Str.ofString "_law_is") (Str.ofString "_law_is") (defArgs (topS 60)) (defBody (topS 60)) (defScope (topS 60)) .none .none .none (.str (Str.ofString "law_seenrows_k04_filters_multiplied") 782) none (.ref 503) .none)), #[]⟩) ::
  (nat_lit 510, ⟨(.type "code"), none, (.fields #[(.str (Str.ofString "_law_prime") 864), (.str (Str.ofString "_law_prime") 865), (.str (Str.ofString "/claim/cut.py") 866), (.int 355 0), (.int 1 0), (.int 0 0), (.int 0 0), (.int 3 0), (.ref 505), (.bool true), (.int 181 0), (.ref 506), .none, (.ref 507), (.ref 508), (.ref 509), (.int 868 0), (.int 355 0), (.str (Str.ofString "/claim/cut.py") 869)]), #[]⟩) ::
  (nat_lit 511, ⟨(.type "function"), none, (.func (PySem.W.fnOf (Str.ofString "_law_prime") (Str.ofString "_law_prime") (defArgs (topS 61)) (defBody (topS 61)) (defScope (topS 61)) .none .none .none (.str (Str.ofString "law_seenrows_k04_filters_multiplied") 782) none (.ref 510) .none)), #[]⟩) ::
  (nat_lit 515, ⟨(.type "code"), none, (.fields #[(.str (Str.ofString "_law_powers_right") 871), (.str (Str.ofString "_law_powers_right") 872), (.str (Str.ofString "/claim/cut.py") 873), (.int 357 0), (.int 2 0), (.int 0 0), (.int 0 0), (.int 3 0), (.ref 512), (.bool true), (.int 181 0), (.ref 513), .none, .none, .none, (.ref 514), (.int 874 0), (.int 357 0), (.str (Str.ofString "/claim/cut.py") 875)]), #[]⟩) ::
  (nat_lit 516, ⟨(.type "function"), none, (.func (PySem.W.fnOf (Str.ofString "_law_powers_right") (Str.ofString "_law_powers_right") (defArgs (topS 62)) (defBody (topS 62)) (defScope (topS 62)) .none .none .none (.str (Str.ofString "law_seenrows_k04_filters_multiplied") 782) none (.ref 515) .none)), #[]⟩) ::
  (nat_lit 522, ⟨(.type "code"), none, (.fields #[(.str (Str.ofString "law") 877), (.str (Str.ofString "law") 878), (.str (Str.ofString "/claim/cut.py") 879), (.int 365 0), (.int 1 0), (.int 0 0), (.int 0 0), (.int 3 0), (.ref 517), (.bool true), (.int 181 0), (.ref 518), .none, (.ref 519), (.ref 520), (.ref 521), (.int 891 0), (.int 365 0), (.str (Str.ofString "/claim/cut.py") 892)]), #[]⟩) ::
  (nat_lit 523, ⟨(.type "function"), none, (.func (PySem.W.fnOf (Str.ofString "law") (Str.ofString "law") (defArgs (topS 63)) (defBody (topS 63)) (defScope (topS 63)) .none .none .none (.str (Str.ofString "law_seenrows_k04_filters_multiplied") 782) none (.ref 522) .none)), #[]⟩) :: []
def KA : List Addr := [nat_lit 2, nat_lit 3, nat_lit 97, nat_lit 103, nat_lit 104, nat_lit 110, nat_lit 111, nat_lit 117, nat_lit 118, nat_lit 124, nat_lit 125, nat_lit 131, nat_lit 132, nat_lit 136, nat_lit 137, nat_lit 141, nat_lit 142, nat_lit 148, nat_lit 149, nat_lit 155, nat_lit 156, nat_lit 176, nat_lit 177, nat_lit 188, nat_lit 189, nat_lit 252, nat_lit 253, nat_lit 269, nat_lit 270, nat_lit 276, nat_lit 277, nat_lit 281, nat_lit 282, nat_lit 297, nat_lit 298, nat_lit 304, nat_lit 305, nat_lit 321, nat_lit 322, nat_lit 328, nat_lit 329, nat_lit 335, nat_lit 336, nat_lit 342, nat_lit 343, nat_lit 361, nat_lit 362, nat_lit 375, nat_lit 376, nat_lit 410, nat_lit 411, nat_lit 422, nat_lit 423, nat_lit 437, nat_lit 438, nat_lit 448, nat_lit 449, nat_lit 455, nat_lit 456, nat_lit 462, nat_lit 463, nat_lit 467, nat_lit 468, nat_lit 472, nat_lit 473, nat_lit 477, nat_lit 478, nat_lit 482, nat_lit 483, nat_lit 489, nat_lit 490, nat_lit 496, nat_lit 497, nat_lit 503, nat_lit 504, nat_lit 510, nat_lit 511, nat_lit 515, nat_lit 516, nat_lit 522, nat_lit 523]
def LO : List PySem.Str := ([PySem.Str.ofString "_wall", PySem.Str.ofString "__name__", PySem.Str.ofString "SeenError", PySem.Str.ofString "BadPrime", PySem.Str.ofString "BadTerm", PySem.Str.ofString "UnlikePrimes", PySem.Str.ofString "ZeroFilter", PySem.Str.ofString "PRIMES", PySem.Str.ofString "is_int", PySem.Str.ofString "is_list", PySem.Str.ofString "is_prime", PySem.Str.ofString "is_term", PySem.Str.ofString "first_bad_term", PySem.Str.ofString "NARROW", PySem.Str.ofString "NARROW_BITS", PySem.Str.ofString "WIDE", PySem.Str.ofString "WIDE_BITS", PySem.Str.ofString "BLOCK", PySem.Str.ofString "SLOT", PySem.Str.ofString "pack", PySem.Str.ofString "unpack", PySem.Str.ofString "slot_mask", PySem.Str.ofString "lowered", PySem.Str.ofString "narrow_mask", PySem.Str.ofString "without", PySem.Str.ofString "multiplied", PySem.Str.ofString "NEAR", PySem.Str.ofString "inverse", PySem.Str.ofString "collected", PySem.Str.ofString "long_division", PySem.Str.ofString "divided_from_above", PySem.Str.ofString "divided_from_below", PySem.Str.ofString "remainder", PySem.Str.ofString "near_pairs", PySem.Str.ofString "power_digits", PySem.Str.ofString "stride_of", PySem.Str.ofString "packed_powers", PySem.Str.ofString "packed_sum", PySem.Str.ofString "check_primes", PySem.Str.ofString "check_division"] : List PySem.Str) ++ ([PySem.Str.ofString "scaled", PySem.Str.ofString "places", PySem.Str.ofString "is_dense", PySem.Str.ofString "product", PySem.Str.ofString "divisor_of", PySem.Str.ofString "Filter", PySem.Str.ofString "_law_spring", PySem.Str.ofString "_law_draw", PySem.Str.ofString "_law_pick", PySem.Str.ofString "_law_same", PySem.Str.ofString "_law_held", PySem.Str.ofString "_law_pairs", PySem.Str.ofString "_law_times", PySem.Str.ofString "_law_drawn", PySem.Str.ofString "_law_made", PySem.Str.ofString "_law_is", PySem.Str.ofString "_law_prime", PySem.Str.ofString "_law_powers_right"] : List PySem.Str)
def VV : PySem.Program := PySem.W.view PySem.Challenge.pw_seenrows_k04_filters_multiplied [63]
end SR
lay_quick PySem.Challenge.pw_seenrows_k04_filters_multiplied SR.KK0 SR.KK1 SR.VV SR.LO
set_option maxRecDepth 100000
set_option maxHeartbeats 0
namespace SR
open PySem PySem.W HeadRun PyProof.Rows PySem.Calls
theorem look_l (w : World) (os : OsState) : (endF (stepQ (denQ tabQ) PySem.W.Fast.tw16489529272618247081 w) 3633 PySem.W.Fast.tw16489529272618247081 w os).map (fun s => looksF PySem.W.Fast.tw16489529272618247081 (boot_heap w.params) s.abs) = some true := by kernel_rfl
theorem look_s (w : World) (os : OsState) : (endF (stepQ (denQ tabQ) PySem.W.Fast.tw16489529272618247081 w) 3633 PySem.W.Fast.tw16489529272618247081 w os).map (fun s => seenQ PySem.W.Fast.tw12481167789305635118 PySem.W.Fast.tw4387945433670703405 (importedModules PySem.W.Fast.tw16489529272618247081.main.body) (fun s => xlAt PySem.W.Fast.tw12481167789305635118 [] s && recOk (RowW.records (OpenRow.toRowW (PySem.W.OpenLaw.row PySem.Challenge.rw_seenrows_k04_filters_multiplied))) s) s.abs) = some (openGood PySem.W.Fast.tw12481167789305635118 PySem.W.Fast.tw4387945433670703405) := by kernel_rfl
theorem look_k0 (w : World) (os : OsState) : (endF (stepQ (denQ tabQ) PySem.W.Fast.tw16489529272618247081 w) 3633 PySem.W.Fast.tw16489529272618247081 w os).map (fun s => KA0.map (getT s)) = some ((PySem.W.Fast.tw8986227453893839255 w.params).map fun x => some x.2) := by kernel_rfl
theorem look_k1 (w : World) (os : OsState) : (endF (stepQ (denQ tabQ) PySem.W.Fast.tw16489529272618247081 w) 3633 PySem.W.Fast.tw16489529272618247081 w os).map (fun s => KA1.map (getT s)) = some ((PySem.W.Fast.tw17149621385884660539 w.params).map fun x => some x.2) := by kernel_rfl
theorem map_app {α β γ : Type} {x : Option α} {as bs : List β} {g : α → β → γ} {c d : List γ} (h1 : Option.map (fun s => as.map (g s)) x = some c) (h2 : Option.map (fun s => bs.map (g s)) x = some d) : Option.map (fun s => (as ++ bs).map (g s)) x = some (c ++ d) := by
  cases x with
  | none => cases h1
  | some s =>
    have e1 : as.map (g s) = c := Option.some.inj h1
    have e2 : bs.map (g s) = d := Option.some.inj h2
    show some ((as ++ bs).map (g s)) = _
    rw [List.map_append, e1, e2]
theorem triple {α β γ δ : Type} {x : Option α} {f : α → β} {g : α → γ} {h : α → δ} {b : β} {c : γ} {d : δ} (h1 : Option.map f x = some b) (h2 : Option.map g x = some c) (h3 : Option.map h x = some d) : Option.map (fun s => (f s, g s, h s)) x = some (b, c, d) := by
  cases x with
  | none => cases h1
  | some s =>
    have e1 : f s = b := Option.some.inj h1
    have e2 : g s = c := Option.some.inj h2
    have e3 : h s = d := Option.some.inj h3
    show some (f s, g s, h s) = some (b, c, d)
    rw [e1, e2, e3]
theorem ka_eq : KA = (KA0 ++ KA1) := by kernel_rfl
theorem kk_eq (P : Params) : KK P = (KK0 P ++ KK1 P) := by kernel_rfl
theorem kk_as (P : Params) : KA = (KK P).map (·.1) := by kernel_rfl
theorem look_k (w : World) (os : OsState) : (endF (stepQ (denQ tabQ) PySem.W.Fast.tw16489529272618247081 w) 3633 PySem.W.Fast.tw16489529272618247081 w os).map (fun s => KA.map (getT s)) = some ((KK w.params).map fun x => some x.2) := by
  rw [ka_eq, kk_eq, List.map_append, show KK0 = PySem.W.Fast.tw8986227453893839255 from PySem.W.Fast.te8986227453893839255, show KK1 = PySem.W.Fast.tw17149621385884660539 from PySem.W.Fast.te17149621385884660539]
  exact map_app (look_k0 w os) (look_k1 w os)
theorem run_all (w : World) : RunEq (PySem.W.OpenLaw.row PySem.Challenge.rw_seenrows_k04_filters_multiplied) VV (kHook KK KA kk_as) (fun s => KA.map (getT s)) 3633 LO w := by
  intro os
  show (endF (stepQ (denQ tabQ) PySem.Challenge.pw_seenrows_k04_filters_multiplied w) 3633 PySem.Challenge.pw_seenrows_k04_filters_multiplied w os).map (fun s => (looksF PySem.Challenge.pw_seenrows_k04_filters_multiplied (boot_heap w.params) s.abs, seenQ VV LO (importedModules PySem.Challenge.pw_seenrows_k04_filters_multiplied.main.body) (fun s => xlAt VV [] s && recOk (RowW.records (OpenRow.toRowW (PySem.W.OpenLaw.row PySem.Challenge.rw_seenrows_k04_filters_multiplied))) s) s.abs, KA.map (getT s))) = some (true, openGood VV LO, (KK w.params).map fun x => some x.2)
  rw [show PySem.Challenge.pw_seenrows_k04_filters_multiplied = PySem.W.Fast.tw16489529272618247081 from PySem.W.Fast.te16489529272618247081, show VV = PySem.W.Fast.tw12481167789305635118 from PySem.W.Fast.te12481167789305635118, show LO = PySem.W.Fast.tw4387945433670703405 from PySem.W.Fast.te4387945433670703405]
  exact triple (look_l w os) (look_s w os) (look_k w os)
theorem ob_eq (s : SharedT) : KA.map (getT s) = (kHook KK KA kk_as).obs s.abs := List.map_congr_left fun a _ => getT_eq s a
end SR
set_option maxRecDepth 100000
open PySem PySem.W PyProof.Rows
set_option maxRecDepth 100000 in
set_option maxHeartbeats 0 in
theorem PySem.Challenge.cw_seenrows_k04_filters_multiplied_holds : PySem.Challenge.rw_seenrows_k04_filters_multiplied.Holds := by
  w_on; o_law
  refine HeadRun.head_any (r := (PySem.W.OpenLaw.row PySem.Challenge.rw_seenrows_k04_filters_multiplied)) (q := SR.VV) (H := kHook SR.KK SR.KA SR.kk_as) (ob := fun s => SR.KA.map (HeadRun.getT s)) (M := 3633) (loose := SR.LO) (d := HeadRun.topDef (PySem.W.OpenLaw.row PySem.Challenge.rw_seenrows_k04_filters_multiplied).prog 63) (kwd := []) SR.ob_eq
    (by kernel_rfl) (fun s => by kernel_rfl) SR.run_all (by kernel_rfl) (by kernel_rfl) (by kernel_rfl) (by rfl) (by first | assumption | decide +kernel) (by decide +kernel) ⟨rfl, rfl, rfl, rfl, rfl, by decide +kernel⟩ ?hw ?hc
  case hw => w_witness2
  case hc =>
    k_fill
    refine SR.walk (l := PySem.Challenge.rw_seenrows_k04_filters_multiplied) rfl rfl (fun w h Y => PySem.W.kIn_of Y) ?F
    case F =>
      intro w mg fa h KX G hmg
      refine' SR.all_mk KX G hmg ?aC ?pg ?hdi ?po ?sa ?mk ?kc ?n1 ?n2 ?n3 ?cC ?tyC ?tk_NoneType ?tk_bool ?tk_int ?tk_str ?tk_list ?tk_tuple ?tk_dict ?to_int ?to_bool ?to_list ?to_tuple ?tca ?tcn ?tct ?tcm ?z_len ?z_isinstance ?z_int ?z_bool ?z_list ?z_tuple ?z_dict ?z_sorted ?z_enumerate ?z_zip ?z_range ?z_all ?z_any ?z_reversed ?z_sum ?z_min ?z_max ?z_abs ?aPr ?lP ?aIn ?iIn ?lIn ?cIn ?kIn ?lT ?lE ?sf ?aTe ?iTe ?lTe ?cTe ?kTe ?aMu ?iMu ?lMu ?cMu ?kMu ?aPw ?iPw ?lPw ?cPw ?kPw ?rP ?oP ?qP ?mro ?iM ?iO ?aII ?lII ?cII ?kII ?aIL ?lIL ?cIL ?kIL ?aIP ?lIP ?cIP ?kIP ?aIT ?lIT ?cIT ?kIT ?aFB ?lFB ?cFB ?kFB ?aCO ?lCO ?cCO ?kCO ?aCP ?lCP ?cCP ?kCP ?aPR ?lPR ?cPR ?kPR ?aLS ?lLS ?cLS ?kLS ?aLD ?lLD ?cLD ?kLD ?aLP ?lLP ?cLP ?kLP ?aLM ?lLM ?cLM ?kLM ?aLH ?lLH ?cLH ?kLH ?aLA ?lLA ?cLA ?kLA ?aLR ?lLR ?cLR ?kLR ?aLT ?lLT ?cLT ?kLT ?aLN ?lLN ?cLN ?kLN ?aLE ?lLE ?cLE ?kLE ?aLI ?lLI ?cLI ?kLI ?aLW ?lLW ?cLW ?kLW ?aLL ?lLL ?cLL ?kLL ?aQP ?lQP ?cQP ?kQP ?aQU ?lQU ?cQU ?kQU ?aQS ?lQS ?cQS ?kQS ?aQL ?lQL ?cQL ?kQL ?aQM ?lQM ?cQM ?kQM ?aQC ?lQC ?cQC ?kQC ?aQD ?lQD ?cQD ?kQD ?aLo ?iLo ?lLo ?cLo ?kLo ?aHi ?iHi ?lHi ?cHi ?kHi ?aSp ?iSp ?lSp ?cSp ?kSp ?aBo ?iBo ?jBo ?lBo ?cBo ?kBo ?aGe ?iGe ?jGe ?lGe ?cGe ?kGe ?z_str ?gW1 ?gW2 ?gW3
      (case aC => k_is)
      (case pg => k_is)
      (case hdi => k_is)
      (case po => k_is)
      (case sa => k_is)
      (case mk => k_is)
      (case kc => k_is)
      (case n1 => k_is)
      (case n2 => k_is)
      (case n3 => k_is)
      (case cC => k_is)
      (case tyC => k_is)
      (case tk_NoneType => k_is)
      (case tk_bool => k_is)
      (case tk_int => k_is)
      (case tk_str => k_is)
      (case tk_list => k_is)
      (case tk_tuple => k_is)
      (case tk_dict => k_is)
      (case to_int => k_is)
      (case to_bool => k_is)
      (case to_list => k_is)
      (case to_tuple => k_is)
      (case tca => k_is)
      (case tcn => k_is)
      (case tct => k_is)
      (case tcm => k_is)
      (case z_len => k_is)
      (case z_isinstance => k_is)
      (case z_int => k_is)
      (case z_bool => k_is)
      (case z_list => k_is)
      (case z_tuple => k_is)
      (case z_dict => k_is)
      (case z_sorted => k_is)
      (case z_enumerate => k_is)
      (case z_zip => k_is)
      (case z_range => k_is)
      (case z_all => k_is)
      (case z_any => k_is)
      (case z_reversed => k_is)
      (case z_sum => k_is)
      (case z_min => k_is)
      (case z_max => k_is)
      (case z_abs => k_is)
      (case aPr => k_is)
      (case lP => k_is)
      (case aIn => k_is)
      (case iIn => k_is)
      (case lIn => k_is)
      (case cIn => k_is)
      (case kIn => k_is)
      (case lT => k_is)
      (case lE => k_is)
      (case sf => k_is)
      (case aTe => k_is)
      (case iTe => k_is)
      (case lTe => k_is)
      (case cTe => k_is)
      (case kTe => k_is)
      (case aMu => k_is)
      (case iMu => k_is)
      (case lMu => k_is)
      (case cMu => k_is)
      (case kMu => k_is)
      (case aPw => k_is)
      (case iPw => k_is)
      (case lPw => k_is)
      (case cPw => k_is)
      (case kPw => k_is)
      (case rP => k_is)
      (case oP => k_is)
      (case qP => k_is)
      (case mro => exact rfl)
      (case iM => k_is)
      (case iO => k_is)
      (case aII => k_is)
      (case lII => k_is)
      (case cII => k_is)
      (case kII => k_is)
      (case aIL => k_is)
      (case lIL => k_is)
      (case cIL => k_is)
      (case kIL => k_is)
      (case aIP => k_is)
      (case lIP => k_is)
      (case cIP => k_is)
      (case kIP => k_is)
      (case aIT => k_is)
      (case lIT => k_is)
      (case cIT => k_is)
      (case kIT => k_is)
      (case aFB => k_is)
      (case lFB => k_is)
      (case cFB => k_is)
      (case kFB => k_is)
      (case aCO => k_is)
      (case lCO => k_is)
      (case cCO => k_is)
      (case kCO => k_is)
      (case aCP => k_is)
      (case lCP => k_is)
      (case cCP => k_is)
      (case kCP => k_is)
      (case aPR => k_is)
      (case lPR => k_is)
      (case cPR => k_is)
      (case kPR => k_is)
      (case aLS => k_is)
      (case lLS => k_is)
      (case cLS => k_is)
      (case kLS => k_is)
      (case aLD => k_is)
      (case lLD => k_is)
      (case cLD => k_is)
      (case kLD => k_is)
      (case aLP => k_is)
      (case lLP => k_is)
      (case cLP => k_is)
      (case kLP => k_is)
      (case aLM => k_is)
      (case lLM => k_is)
      (case cLM => k_is)
      (case kLM => k_is)
      (case aLH => k_is)
      (case lLH => k_is)
      (case cLH => k_is)
      (case kLH => k_is)
      (case aLA => k_is)
      (case lLA => k_is)
      (case cLA => k_is)
      (case kLA => k_is)
      (case aLR => k_is)
      (case lLR => k_is)
      (case cLR => k_is)
      (case kLR => k_is)
      (case aLT => k_is)
      (case lLT => k_is)
      (case cLT => k_is)
      (case kLT => k_is)
      (case aLN => k_is)
      (case lLN => k_is)
      (case cLN => k_is)
      (case kLN => k_is)
      (case aLE => k_is)
      (case lLE => k_is)
      (case cLE => k_is)
      (case kLE => k_is)
      (case aLI => k_is)
      (case lLI => k_is)
      (case cLI => k_is)
      (case kLI => k_is)
      (case aLW => k_is)
      (case lLW => k_is)
      (case cLW => k_is)
      (case kLW => k_is)
      (case aLL => k_is)
      (case lLL => k_is)
      (case cLL => k_is)
      (case kLL => k_is)
      (case aQP => k_is)
      (case lQP => k_is)
      (case cQP => k_is)
      (case kQP => k_is)
      (case aQU => k_is)
      (case lQU => k_is)
      (case cQU => k_is)
      (case kQU => k_is)
      (case aQS => k_is)
      (case lQS => k_is)
      (case cQS => k_is)
      (case kQS => k_is)
      (case aQL => k_is)
      (case lQL => k_is)
      (case cQL => k_is)
      (case kQL => k_is)
      (case aQM => k_is)
      (case lQM => k_is)
      (case cQM => k_is)
      (case kQM => k_is)
      (case aQC => k_is)
      (case lQC => k_is)
      (case cQC => k_is)
      (case kQC => k_is)
      (case aQD => k_is)
      (case lQD => k_is)
      (case cQD => k_is)
      (case kQD => k_is)
      (case aLo => k_is)
      (case iLo => k_is)
      (case lLo => k_is)
      (case cLo => k_is)
      (case kLo => k_is)
      (case aHi => k_is)
      (case iHi => k_is)
      (case lHi => k_is)
      (case cHi => k_is)
      (case kHi => k_is)
      (case aSp => k_is)
      (case iSp => k_is)
      (case lSp => k_is)
      (case cSp => k_is)
      (case kSp => k_is)
      (case aBo => k_is)
      (case iBo => k_is)
      (case jBo => k_is)
      (case lBo => k_is)
      (case cBo => k_is)
      (case kBo => k_is)
      (case aGe => k_is)
      (case iGe => k_is)
      (case jGe => k_is)
      (case lGe => k_is)
      (case cGe => k_is)
      (case kGe => k_is)
      (case z_str => k_is)
      (case gW1 => k_is)
      (case gW2 => k_is)
      (case gW3 => k_is)
  
