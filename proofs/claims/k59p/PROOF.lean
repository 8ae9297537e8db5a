import PyProof.Rows.All
import Wide.All
import OpenK.AllK
import Wide.FinOn
import KE.KExcInit
import KE.KExcIs
import HandS.ForExc
import HandS.ExcInit
import HandS.ExcField
import HandS.MakeKwOnly
import HandS.Codes
import HandS.ForMost
import HandS.Style
import HandS.HeadEnd
import HandS.HeadHook2
import HandS.Head2
import PyProof.ReprRoads
import HandS.GenCall
import PyProof.Rows.ListAppend
import HandS.GenList
import KE.KTryMore
import HandS.Walk
import HandS.SetFor
import HandS.IsInst
import PyProof.TypeEq
import PyProof.InstEq
import PyProof.TypeOfCall
import HandS.SortInts
import HandS.Strs
import HandS.More
import KE.KDictList
import HandS.EndTab
import HandS.HeadHook4
import HandS.HeadNt
import HandS.HeadHook3
import HandS.FStr
import HandS.Small
import PyProof.FString3
import PyProof.Rows.StrIntSpec
import HandS.Star
import HandS.Property
import HandS.ClsMeth
import PyProof.Rows.RuleB_pow
import PyProof.StrOps2
import HandS.ExcOwn
import HandS.ReplaceLit
import HandS.OwnEq
import HandS.New0
import PyProof.EqAt
import PyProof.NeKinds
import KE.KCallOwn
import HandS.Zip
import PyProof.EqKinds
import HandS.Text
import HandS.DictComp
import HandS.ListItems
import PyProof.TupleOfSeq
import PyProof.Rows.Range3
import KE.GoesMore
import HandS.TupMul
import HandS.StrMore
import PyProof.Rows.StrFin3
import PyProof.Rows.StrCut
import HandS.Replace
import PySem.Challenge.RW_brinejar_k59_hexes
set_option Elab.async false
set_option linter.all false
set_option maxRecDepth 100000
set_option maxHeartbeats 4000000
/-! VxA: exceptions of own classes over any of the built-in bases, with an own __init__, held as values: made, told apart, read. -/
namespace PySem
namespace VxS
open PySem.W PySem.Calls PyProof.Rows PySem.HandSPX
section
open Builtin Builtin.ObjectAttr
variable {prog : Program} {w : World} {A : Around} {E : Value → Shared → Prop} {R : Result → Shared → Prop} {hp : Heap} {g : Array GenState} {d : Drawn} {t : Nat} {os : OsState}
/-- a class chain over a built-in base: own classes, then the base's chain, stores by object.__setattr__ -/
structure Tail (bmB : List Value) (mro : List Value) : Prop where
  tail : excTail bmB mro = true
  pass : ∀ self, refuseLoop self "__setattr__" bmB = pure ()
  obj : bmB.contains (.type "object") = true
theorem Tail.has {bmB mro : List Value} (T : Tail bmB mro) : mro.contains (.type "object") = true := (excTail_contains "object" mro T.tail).trans T.obj
theorem Tail.ne {bmB mro : List Value} (T : Tail bmB mro) : mro.isEmpty = false := by
  cases mro with
  | nil => exact absurd T.has (by decide)
  | cons _ _ => rfl
/-- the first field -/
theorem osa_new {K : W.Frag} {name : Str} {tk : Tok} {v : Value} {x C : Addr} {fv : Array Value} {cd : ClassData} {bmB : List Value}
    (X : K.In hp) (hx : hp.get? x = some { cls := .ref C, data := .fields fv }) (hcd : W.clsIn K C = some cd) (T : Tail bmB cd.mro) (hh : cd.hasDict = true) (ha : W.findIn K (.ref C) name = some none)
    (hq : ∀ h' tk' dx, (∀ b o, b ≠ x → hp.get? b = some o → h'.get? b = some o) → hp.objs.size ≤ dx → dx ≠ x → h'.get? x = some { cls := .ref C, dict := some dx, data := .fields fv } →
      h'.Ns1 dx (fun y => if y = name then some v else none) → R (.ok (.ret .none)) ⟨h', g, d, tk', os⟩) :
    codeAny (model prog w) A (.call (.builtin "object.__setattr__") ⟨[.ref x, .str name tk, v], []⟩) R ⟨hp, g, d, t, os⟩ := by
  have I : W.InstAt hp x { cls := .ref C, data := .fields fv } C none := ⟨hx, rfl, rfl, trivial⟩
  have SF := F.store_object
  have hxs : x ≠ hp.objs.size := Nat.ne_of_lt (Heap.lt_size hx)
  have sub : W.Looks (model prog w) hp (isInstance (.ref x) (.type "object")) true := I.type.andThen (W.looks_mroIn X (by unfold W.mroIn; rw [hcd, Option.bind_some, if_neg (by rw [T.ne]; decide), T.has]))
  refine codeAny_call_builtin SF.slot.plain SF.entry (@W.check_slot (model prog w) _ _ ⟨hp, g, d, t, os⟩ "object.__setattr__" "object" "__setattr__" (.ref x) [.str name tk, v] [] _ SF.kind SF.split sub (SF.args (.ref x) (.str name tk) v) ?_)
  have hmr : W.Looks (model prog w) hp (mroOf (.ref C)) cd.mro := (W.looks_clsIn X hcd).andThen .now
  have L3 : W.Looks (model prog w) hp (storeTaker? none) none := .now
  have hcls : W.Looks (model prog w) hp (classData C) cd := W.looks_clsIn X hcd
  rw [W.osa_eq, refuse_eq]
  refine wpAny_bind (wpAny_bind (I.type.at (wpAny_bind (hmr.at ?_))))
  rw [excTail_pass _ (T.pass _) _ T.tail]
  refine wpAny_pure (wpAny_bind (I.type.at (wpAny_bind ((W.looks_findIn X ha).at (wpAny_bind (L3.at ?_))))))
  show wpAny _ _ (storeInOwnDict (.ref x) (.ref C) (.str name tk) name v false) _ _ _
  obtain ⟨nm, bs, mro, ns, qn, hd, sn, sb, ab, col, del⟩ := cd
  dsimp only at hh
  subst hh
  unfold storeInOwnDict ownDictForStores
  repeat (first | with_reducible refine store_in_new ?_ ?_ | with_reducible refine wpAny_loadPart_at hx ?_ | with_reducible refine hcls.at ?_ | wp_step)
  · exact ⟨_, #[], _, (Heap.get?_update_ne _ _ _ _ hxs.symm).trans (Heap.get?_push_at rfl rfl), rfl, fun e he => absurd he (by simp), fun _ => rfl⟩
  · intro h' tk' hn' hs
    have hx₁ : (hp.push { cls := .type "dict", data := .dict #[] }).get? x = some { cls := .ref C, data := .fields fv } := Heap.get?_push_of_some _ hx
    refine hq h' tk' hp.objs.size (fun b o hb ho => ?_) (Nat.le_refl _) hxs.symm ?_ hn'
    · exact (hs.2 b (Nat.ne_of_lt (Heap.lt_size ho))).trans ((Heap.get?_update_ne _ _ _ _ hb).trans (Heap.get?_push_of_some _ ho))
    · exact (hs.2 x hxs).trans (Heap.get?_update_self _ hx₁ rfl)
/-- a further field -/
theorem osa_old {K : W.Frag} {name : Str} {tk : Tok} {v : Value} {x C dx : Addr} {fv : Array Value} {cd : ClassData} {m0 : Str → Option Value} {nl : List Str} {bmB : List Value}
    (X : K.In hp) (hx : hp.get? x = some { cls := .ref C, dict := some dx, data := .fields fv }) (hns : hp.Ns1 dx m0) (hw : Within m0 nl) (hz : nl.length ≤ 1000) (hcd : W.clsIn K C = some cd) (T : Tail bmB cd.mro) (hh : cd.hasDict = true)
    (ha : W.findIn K (.ref C) name = some none)
    (hq : ∀ h' tk', (∀ b o, b ≠ dx → hp.get? b = some o → h'.get? b = some o) → h'.Ns1 dx (fun y => if y = name then some v else m0 y) → R (.ok (.ret .none)) ⟨h', g, d, tk', os⟩) :
    codeAny (model prog w) A (.call (.builtin "object.__setattr__") ⟨[.ref x, .str name tk, v], []⟩) R ⟨hp, g, d, t, os⟩ := by
  obtain ⟨oD, esD, epD, hoD, hdD, _⟩ := hns.count hw
  have I : W.InstAt hp x { cls := .ref C, dict := some dx, data := .fields fv } C (some oD) := ⟨hx, rfl, rfl, hoD⟩
  have SF := F.store_object
  have sub : W.Looks (model prog w) hp (isInstance (.ref x) (.type "object")) true := I.type.andThen (W.looks_mroIn X (by unfold W.mroIn; rw [hcd, Option.bind_some, if_neg (by rw [T.ne]; decide), T.has]))
  refine codeAny_call_builtin SF.slot.plain SF.entry (@W.check_slot (model prog w) _ _ ⟨hp, g, d, t, os⟩ "object.__setattr__" "object" "__setattr__" (.ref x) [.str name tk, v] [] _ SF.kind SF.split sub (SF.args (.ref x) (.str name tk) v) ?_)
  have hmr : W.Looks (model prog w) hp (mroOf (.ref C)) cd.mro := (W.looks_clsIn X hcd).andThen .now
  have L3 : W.Looks (model prog w) hp (storeTaker? none) none := .now
  have hcls : W.Looks (model prog w) hp (classData C) cd := W.looks_clsIn X hcd
  rw [W.osa_eq, refuse_eq]
  refine wpAny_bind (wpAny_bind (I.type.at (wpAny_bind (hmr.at ?_))))
  rw [excTail_pass _ (T.pass _) _ T.tail]
  refine wpAny_pure (wpAny_bind (I.type.at (wpAny_bind ((W.looks_findIn X ha).at (wpAny_bind (L3.at ?_))))))
  show wpAny _ _ (storeInOwnDict (.ref x) (.ref C) (.str name tk) name v false) _ _ _
  obtain ⟨nm, bs, mro, ns, qn, hd, sn, sb, ab, col, del⟩ := cd
  dsimp only at hh
  subst hh
  unfold storeInOwnDict ownDictForStores
  repeat (first | with_reducible refine OEX.store_in_old hns hw hz ?_ | with_reducible refine wpAny_loadPart_at hx ?_ | with_reducible refine hcls.at ?_ | wp_step)
  intro h' tk' hn' hs
  exact hq h' tk' (fun b o hb ho => (hs.2 b hb).trans ho) hn'
end
end VxS
end PySem

set_option Elab.async false
set_option linter.all false
set_option maxRecDepth 100000
set_option maxHeartbeats 4000000
namespace L2
open PySem PySem.Spec PyProof.Rows

/-- what the written part says of an exception class of the program -/
structure Xc (K : PySem.W.Frag) (C : Addr) : Prop where
  cls : ∃ (nm q : Str) (N : Addr) (bs bm : List Value) (sn : List Str) (sub : List Value) (ab : Bool) (col : Option Bool) (dd : Option Addr) (k0 k1 k2 k3 k5 : Option Value) (B newId initId : String) (bmB : List Value),
    K.lookup C = some (excClassObj nm q C N bs bm true sn sub ab col dd k0 k1 k2 k3 k5 newId) ∧ ExcBaseFacts B newId initId bmB ∧ VxS.Tail bmB (.ref C :: bm)
  sa : PySem.W.findIn K (.ref C) "__setattr__" = some (some (.builtin "object.__setattr__"))
  ga : PySem.W.findIn K (.ref C) "__getattribute__" = some (some (.builtin "BaseException.__getattribute__"))
  gg : PySem.W.findIn K (.ref C) "__getattr__" = some none
  exC : PySem.W.subIn K (.ref C) (.type "BaseException") = some true
  tyC : PySem.W.typeIn K (.ref C) = some (.type "type")
  kC : PySem.W.keepIn K (.ref C) = true
  hdC : PySem.W.hasDictIn K C = true
  ca : PySem.W.findIn K (.ref C) "__class__" = some (some (.builtin "object.__class__"))
  cn : PySem.W.specialIn K (.builtin "object.__class__") "__get__" = some (some (.builtin "getset_descriptor.__get__"))
  ct : PySem.W.takesIn K (.builtin "object.__class__") = some true
  cm : PySem.W.mroIn K C (.type "object") = some true

/-- an exception of the class at C, its own dict at d -/
def exV (e C d : Addr) : HO := .ext fun h => ∃ (oe : Obj) (vs : Array Value), h.get? e = some oe ∧ oe.cls = .ref C ∧ oe.dict = some d ∧ oe.data = .fields vs
theorem exV_ok {P : Program} {w : World} {H : Hp} {h : Heap} {e C d : Addr} {oe : Obj} {vs : Array Value} (he : h.get? e = some oe) (hc : oe.cls = .ref C) (hd : oe.dict = some d) (hv : oe.data = .fields vs) : ObjOk P w H h e (exV e C d) :=
  ⟨⟨oe, vs, he, hc, hd, hv⟩, ⟨_, he⟩, fun h1 h2 z k => by
    obtain ⟨o, v, q, r⟩ := z
    exact ⟨o, v, k _ q, r⟩⟩
theorem exV_at {P : Program} {w : World} {H : Hp} {h : Heap} {e C d : Addr} (hok : HOk P w H h) (he : H e = some (exV e C d)) : ∃ (oe : Obj) (vs : Array Value), h.get? e = some oe ∧ oe.cls = .ref C ∧ oe.dict = some d ∧ oe.data = .fields vs := by
  have x : ObjOk P w H h e (.ext fun h => ∃ (oe : Obj) (vs : Array Value), h.get? e = some oe ∧ oe.cls = .ref C ∧ oe.dict = some d ∧ oe.data = .fields vs) := hok e _ he
  exact x.1
/-- at e: an exception of the class at C with these fields -/
def ExAt (H : Hp) (e C : Addr) (fs : List (Str × V)) : Prop := ∃ d, H e = some (exV e C d) ∧ H d = some (.xd fs)
theorem ExAt.mono {H H' : Hp} {e C : Addr} {fs : List (Str × V)} (x : ExAt H e C fs) (s : Same H H') : ExAt H' e C fs := by
  obtain ⟨d, h1, h2⟩ := x
  exact ⟨d, s _ _ h1, s _ _ h2⟩

section
variable {X : Cx} {pins : List (Addr × Obj)} {σ : St} {H : Hp} {s : Shared} {a C dx : Addr} {f : Str} {y : V} {u : Value} {fs : List (Str × V)} {Q : Unit → Shared → Prop} {E : Value → Shared → Prop} {A : Around}
theorem xst_new (T : Xc X.K C) (I : Inv X pins σ H s) (e : H a = some (exo a C none)) (hno : PySem.W.findIn X.K (.ref C) f = some none) (ry : RelV y u)
    (h : ∀ dx s', H dx = none → dx ≠ a → Inv X pins σ (upd (upd H dx (exd dx [(f, y)])) a (exo a C (some dx))) s' → Q () s') : wpAny (model X.prog X.w) A (setAttr (.ref a) f u) Q E s := by
  obtain ⟨nm, q, N, bs, bm, sn, sub, ab, col, dd, k0, k1, k2, k3, k5, B, newId, initId, bmB, hC, FB, hbm⟩ := T.cls
  have hcl : PySem.W.clsIn X.K C = some { name := nm, bases := bs, mro := .ref C :: bm, ns := N, qualname := q, hasDict := true, slotNames := sn, subclasses := sub, abstract := ab, collection := col, hasDel := false } := by unfold PySem.W.clsIn; rw [hC] <;> rfl
  obtain ⟨t1, ho⟩ := exo_at I.hok e
  obtain ⟨hp, g, d, t, os⟩ := s
  refine PySem.W.set_plain I.kIn (ox := { cls := .ref C, dict := none, data := .fields #[.ref t1, .none, .none, .none, .bool false, .none] }) (od := none) ⟨ho, rfl, rfl, trivial⟩ T.sa ?_
  refine VxS.osa_new I.kIn ho hcl hbm rfl hno (fun h' tk' dx k dn dne hx hn => ?_)
  have hnd : H dx = none := I.hok.fresh dn
  have nd : ∀ {b : Addr} {o : Obj}, hp.get? b = some o → b ≠ dx := fun {b o} q => Nat.ne_of_lt (Nat.lt_of_lt_of_le (Heap.lt_size q) dn)
  have na : ∀ {b : Addr}, H b = none → b ≠ a := fun {b} n z => by
    rw [z, e] at n
    cases n
  have Un1 : Un X.fs [] H (upd (upd H dx (exd dx [(f, y)])) a (exo a C (some dx))) hp h' := {
    keep := fun b o q n _ _ => k b o (na n) q
    slot := fun b o q n _ _ => ⟨o.slots, k b o (na n) q⟩
    free := fun b o q n _ => by rw [upd_ne (na n), upd_ne (nd q)]; exact n
    there := fun b o q _ => by
      by_cases hb : b = a
      · exact ⟨_, by rw [hb]; exact hx⟩
      · exact ⟨o, k b o hb q⟩
    tups := fun b xs q => by rw [upd_ne (at_ne e q exo_tup), upd_ne (ne_of_none q hnd)]; exact q
    frzs := fun b o v q => by rw [upd_ne (at_ne e q exo_frz), upd_ne (ne_of_none q hnd)]; exact q
    tbls := fun b ps q => ⟨#[], by rw [upd_ne (at_ne e q exo_tbl), upd_ne (ne_of_none q hnd), q]; simp⟩ }
  refine h dx _ hnd dne (I.un (t' := tk') Un1 fun b o q => ?_)
  by_cases hb : b = a
  · subst hb
    rw [upd_same] at q
    cases q
    exact exo_ok hx
  · rw [upd_ne hb] at q
    by_cases hd : b = dx
    · subst hd
      rw [upd_same] at q
      cases q
      exact exd_ok hn (relO_put (fs := []) ry fun g => True.intro)
    · rw [upd_ne hd] at q
      exact (I.hok b o q).stay (fun c v hc z => k c v (by
          rcases hc with hc | hc
          · rw [hc]
            exact hb
          · exact at_ne e hc exo_own) z)
        (fun c hc => by rw [upd_ne (at_ne e hc exo_own), upd_ne (ne_of_none hc hnd)]; exact hc) (fun c xs hc => by rw [upd_ne (at_ne e hc exo_tup), upd_ne (ne_of_none hc hnd)]; exact hc)
theorem xst_old (T : Xc X.K C) (I : Inv X pins σ H s) (e : H a = some (exo a C (some dx))) (ed : H dx = some (exd dx fs)) (hl : fs.length ≤ 900) (hno : PySem.W.findIn X.K (.ref C) f = some none) (ry : RelV y u)
    (h : ∀ s', Inv X pins σ (upd H dx (exd dx ((f, y) :: fs))) s' → Q () s') : wpAny (model X.prog X.w) A (setAttr (.ref a) f u) Q E s := by
  obtain ⟨nm, q, N, bs, bm, sn, sub, ab, col, dd, k0, k1, k2, k3, k5, B, newId, initId, bmB, hC, FB, hbm⟩ := T.cls
  have hcl : PySem.W.clsIn X.K C = some { name := nm, bases := bs, mro := .ref C :: bm, ns := N, qualname := q, hasDict := true, slotNames := sn, subclasses := sub, abstract := ab, collection := col, hasDel := false } := by unfold PySem.W.clsIn; rw [hC] <;> rfl
  obtain ⟨t1, ho⟩ := exo_at I.hok e
  obtain ⟨mA, hns, rel⟩ := exd_at I.hok ed
  have hw := within_of rel
  obtain ⟨hp, g, d, t, os⟩ := s
  obtain ⟨oD, _, _, hoD, _, _⟩ := hns.count hw
  refine PySem.W.set_plain I.kIn (ox := { cls := .ref C, dict := some dx, data := .fields #[.ref t1, .none, .none, .none, .bool false, .none] }) (od := some oD) ⟨ho, rfl, rfl, hoD⟩ T.sa ?_
  refine VxS.osa_old I.kIn ho hns hw (by rw [List.length_map]; omega) hcl hbm rfl hno (fun h' tk' k hn => ?_)
  have hd : ∃ o, h'.get? dx = some o := by
    obtain ⟨o, _, _, e', _⟩ := hn
    exact ⟨o, e'⟩
  exact h _ (I.write (t' := tk') (x := dx) (e := dx) (o := exd dx ((f, y) :: fs)) (by rw [ed]; exact True.intro) (.inl rfl) k hd (exd_ok hn (relO_put ry rel)))
end
/-- self.f = e in an exception's __init__ -/
def tXst (K : PySem.W.Frag) (f : Str) (to te : TE) : TS := fun D σ H => te σ H fun y H1 => to σ H1 fun x H2 => ∃ a C : Addr, x = .ref a ∧ Xc K C ∧ PySem.W.findIn K (.ref C) f = some none ∧
  ((H2 a = some (exo a C none) ∧ ∀ dx, H2 dx = none → dx ≠ a → D.nx σ (upd (upd H2 dx (exd dx [(f, y)])) a (exo a C (some dx)))) ∨
    ∃ (dx : Addr) (fs : List (Str × V)), H2 a = some (exo a C (some dx)) ∧ H2 dx = some (exd dx fs) ∧ fs.length ≤ 900 ∧ D.nx σ (upd H2 dx (exd dx ((f, y) :: fs))))
section
variable {X : Cx} {o e : Expr} {es : List Expr} {to te : TE} {ta : TA} {f : Str} {p p' p1 p2 pos : Pos}
theorem ps_xst (ho : PE X o to) (he : PE X e te) (hs : swapsWith e (some (.Attribute o f p')) pos.line X.env = pure false := by rfl) : PS X (.Assign [.Attribute o f p'] e pos) (tXst X.K f to te) := by
  refine ⟨fun pins s σ H D I h => ?_⟩
  refine plainObj_wpAny_Assign_Attribute (thn (he.run pins s σ H _ I h) fun v s1 ⟨y, H1, I1, r1, q1⟩ => thn (ho.run pins s1 σ H1 _ I1 q1) fun u s2 ⟨x, H2, I2, r2, a, C, ex, T, hno, q⟩ => ?_) hs
  subst ex
  obtain rfl : u = Value.ref a := r2
  rcases q with ⟨ea, q⟩ | ⟨dx, fs, ea, ed, hl, q⟩
  · exact xst_new T I2 ea hno r1 fun dx s' n ne J => ⟨σ, _, J, q dx n ne⟩
  · exact xst_old T I2 ea ed hl hno r1 fun s' J => ⟨σ, _, J, q⟩
end
/-- isinstance(e, c), e an exception of the program -/
def rIsX (K : PySem.W.Frag) : List V → Hp → VK → Prop := fun xs H Q => ∃ (a C : Addr) (fs : List (Str × V)) (c : V) (cv : Value) (b : Bool), xs = [.ref a, c] ∧ ExAt H a C fs ∧ Xc K C ∧ (∀ u, RelV c u → u = cv) ∧ PySem.W.kitOne K (.ref C) cv = some b ∧ Q (.bl b) H
theorem exV_inst {X : Cx} {pins : List (Addr × Obj)} {σ : St} {H : Hp} {s : Shared} {a C : Addr} {fs : List (Str × V)} (I : Inv X pins σ H s) (x : ExAt H a C fs) :
    ∃ (oe od : Obj) (mA : Str → Option Value), PySem.W.InstAt s.heap a oe C (some od) ∧ (∀ name, PySem.W.lookIn name od = some (mA name)) ∧ ∀ f, RelO (fs.lookup f) (mA f) := by
  obtain ⟨d, h1, h2⟩ := x
  obtain ⟨oe, vs, he, hc, hd, hv⟩ := exV_at I.hok h1
  have hx : ObjOk X.prog X.w H s.heap d (.xd fs) := I.hok d _ h2
  obtain ⟨mA, hns, hr⟩ := hx
  obtain ⟨od, ho, hl⟩ := lookIn_ns hns
  exact ⟨oe, od, mA, ⟨he, hc, by unfold PySem.W.notCls; rw [hv] <;> rfl, by rw [hd]; exact ho⟩, hl, hr⟩
theorem Xc.kit {K : PySem.W.Frag} {C x : Addr} {ox : Obj} {od : Option Obj} (T : Xc K C) : PySem.W.KitX K (.ref x) (.ref C) (fun h => PySem.W.InstAt h x ox C od) :=
  PySem.W.kitx_exc (by
    obtain ⟨cd, hc, _⟩ := PySem.W.any_some T.hdC
    rw [hc] <;> rfl) T.ga T.gg T.exC T.ca T.cn T.ct T.cm
theorem call_isX {X : Cx} : CallR X (.builtin "isinstance") (rIsX X.K) := by
  intro pins s σ H xs us Q I r h
  obtain ⟨a, C, fs, c, cv, b, rfl, x, T, hcv, e, q⟩ := h
  cases r with
  | cons rx rr =>
    cases rr with
    | cons rt rr =>
      cases rr
      cases rx
      have ec := hcv _ rt
      subst ec
      obtain ⟨oe, od, mA, J, _, _⟩ := exV_inst I x
      exact PySem.W.kia_one T.kit I.kIn J e (fun z => nomatch z) fun tk => ⟨.bl b, H, I.kept (t' := tk) fun _ _ z => z, rfl, q⟩
/-- isinstance(e, (c1, c2, ..)), e an exception of the program -/
def rIsXT (K : PySem.W.Frag) : List V → Hp → VK → Prop := fun xs H Q => ∃ (a C tp : Addr) (fs : List (Str × V)) (ts : List V) (cvs : List Value) (b : Bool), xs = [.ref a, .ref tp] ∧ ExAt H a C fs ∧ Xc K C ∧ H tp = some (.tup ts) ∧
  (∀ us, Vals ts us → us = cvs) ∧ PySem.W.kitAny K (.ref C) cvs = some b ∧ Q (.bl b) H
theorem call_isXT {X : Cx} : CallR X (.builtin "isinstance") (rIsXT X.K) := by
  intro pins s σ H xs us Q I r h
  obtain ⟨a, C, tp, fs, ts, cvs, b, rfl, x, T, ht, hcv, e, q⟩ := h
  cases r with
  | cons rx rr =>
    cases rr with
    | cons rt rr =>
      cases rr
      cases rx
      cases rt
      obtain ⟨oe, od, mA, J, _, _⟩ := exV_inst I x
      obtain ⟨_, its, rv, o, ho, hcl, n, hdt⟩ := I.hok tp _ ht
      have ev := hcv _ rv
      subst ev
      obtain ⟨oc, odd, oda, osl⟩ := o
      dsimp only at hcl hdt
      subst hcl hdt
      exact PySem.W.kia_tup T.kit I.kIn J ho e (fun z => nomatch z) fun tk => ⟨.bl b, H, I.kept (t' := tk) fun _ _ z => z, rfl, q⟩
/-- e.f of an exception of the program -/
def tXfd (K : PySem.W.Frag) (f : Str) (te : TE) : TE := fun σ H Q => te σ H fun x H1 => ∃ (a C : Addr) (fs : List (Str × V)) (v : V), x = .ref a ∧ ExAt H1 a C fs ∧ Xc K C ∧ PySem.W.findIn K (.ref C) f = some none ∧ fs.lookup f = some v ∧ Q v H1
theorem pe_xfd {X : Cx} {e : Expr} {te : TE} {pos : Pos} {n : Str} (he : PE X e te) (hb : attributeBase e n X.env (eval e X.env) = eval e X.env := by rfl) : PE X (.Attribute e n pos) (tXfd X.K n te) := by
  refine ⟨fun pins s σ H Q I h => ?_⟩
  refine attr_of hb (thn (he.run pins s σ H _ I h) fun u s1 hh => ?_)
  obtain ⟨x, H1, I1, rx, a, C, fs, v, ex, xa, T, hno, l, q⟩ := hh
  subst ex
  obtain rfl : u = Value.ref a := rx
  obtain ⟨oe, od, mA, J, hl, hr⟩ := exV_inst I1 xa
  obtain ⟨u, hu, ru⟩ := RelO.some_of (v := v) (o := mA n) (by rw [← l]; exact hr n)
  exact HandSPX.exc_get I1.kIn J T.ga T.gg T.exC (PySem.W.findObj_own T.hdC hno rfl (by rw [hl, hu])) (handed_of ru) ⟨v, H1, I1.tok _, ru, q⟩
end L2

set_option Elab.async false
set_option linter.all false
set_option maxRecDepth 100000
set_option maxHeartbeats 4000000
namespace PySem
namespace VxS
open PySem.W PySem.Calls PyProof.Rows PySem.HandSPX
section
variable {M : Model} {A : Around} {E : Value → Shared → Prop} {h : Heap} {g : Array GenState} {d : Drawn} {t : Nat} {os : OsState}
variable {nm q : Str} {C N : Addr} {bs bm bmB : List Value} {hdct : Bool} {sn : List Str} {sub : List Value} {ab : Bool} {col : Option Bool} {dd : Option Addr} {k0 k1 k2 k3 k5 : Option Value} {B newId initId : String}
theorem check_newK (F : ExcBaseFacts B newId initId bmB) (hT : ∀ X : String, bm.contains (.type X) = bmB.contains (.type X)) {rest : List Value} {kw : List (Str × Value)} {Q : Unit → Shared → Prop}
    (hC : h.get? C = some (excClassObj nm q C N bs bm hdct sn sub ab col dd k0 k1 k2 k3 k5 newId)) (hq : Q () ⟨h, g, d, t, os⟩) : wpAny M A (checkBuiltinCall newId ⟨.ref C :: rest, kw⟩) Q E ⟨h, g, d, t, os⟩ := by
  have hcont : (Value.ref C :: bm).contains (.type B) = true := by rw [List.contains_cons, hT, F.hasB, Bool.or_true]
  have hstar := F.noStar
  simp only [checkBuiltinCall, F.newKind, F.newSplit, F.newRow]
  repeat (first | refine wpAny_loadPart_at hC ?_ | (refine wpAny_isSubtype_exc hC ?_; rw [hcont]) | refine wpAny_staticBase_exc hC ?_ | refine wpAny_madeBy_exc hC ?_ | simp only [bne_self_eq_false, Bool.false_eq_true, if_false] | wp_step)
  exact hq
end
section
variable {prog : Program} {w : World} {A : Around} {E : Value → Shared → Prop} {R : Result → Shared → Prop} {h : Heap} {g : Array GenState} {d : Drawn} {t : Nat} {os : OsState}
variable {nm q : Str} {C N : Addr} {bs bm bmB : List Value} {hdct : Bool} {sn : List Str} {sub : List Value} {ab : Bool} {col : Option Bool} {dd : Option Addr} {k0 k1 k2 k3 k5 : Option Value} {B newId initId : String}
theorem new_K (F : ExcBaseFacts B newId initId bmB) (hT : ∀ X : String, bm.contains (.type X) = bmB.contains (.type X)) {rest : List Value} {kw : List (Str × Value)}
    (hC : h.get? C = some (excClassObj nm q C N bs bm hdct sn sub ab col dd k0 k1 k2 k3 k5 newId))
    (hq : R (.ok (.ret (.ref (h.objs.size + 1)))) ⟨(h.push { cls := .type "tuple", data := .seq rest.toArray }).push
      { cls := .ref C, data := .fields #[.ref h.objs.size, .none, .none, .none, .bool false, .none] }, g, d, t, os⟩) (hrest : rest.length ≤ sizeLine) :
    codeAny (model prog w) A (.builtin newId ⟨.ref C :: rest, kw⟩) R ⟨h, g, d, t, os⟩ := by
  have hends := F.ends
  have hcB : (Value.ref C :: bm).contains (.type B) = true := by rw [List.contains_cons, hT, F.hasB, Bool.or_true]
  have hcA : (Value.ref C :: bm).contains (.type "AttributeError") = false := by rw [List.contains_cons, hT, F.noAttr]; rfl
  have hcN : (Value.ref C :: bm).contains (.type "NameError") = false := by rw [List.contains_cons, hT, F.noName]; rfl
  refine codeAny_builtinAt F.entry ?_
  unfold Builtin.«BaseException.__new__»
  refine wpAt_bind ?_
  show wpAt _ _ _ (stack >>= _) _ _ _
  refine wpAt_bind (wpAt_stack fun p below => wpAt_of_wpAny ?_)
  wp_walk
  refine wpAt_of_wpAny ?_
  rw [F.owner]
  repeat (first | with_reducible refine wpAny_madeHere_exc F.canon hC ?_ | with_reducible refine wpAny_loadPart_at hC ?_ | (with_reducible refine wpAny_isSubtype_exc hC ?_; first | rw [hcB] | rw [hcA] | rw [hcN]) | wp_step)
  show R _ _
  rw [Heap.size_push]
  exact hq
theorem type_call_K (F : ExcBaseFacts B newId initId bmB) (hT : ∀ X : String, bm.contains (.type X) = bmB.contains (.type X)) {rest : List Value} {kw : List (Str × Value)} {fI : Addr} {Q : Fin → Shared → Prop}
    (hC : h.get? C = some (excClassObj nm q C N bs bm hdct sn sub ab col dd k0 k1 k2 k3 k5 newId))
    (hi : W.Looks (model prog w) h (typeLookup (.ref C) "__init__") (some (.ref fI))) (hb : ∀ self, W.Looks (model prog w) h (bindSpecial (.ref fI) self) (.ref fI, [self])) (hrest : rest.length ≤ sizeLine)
    (hq : codeAny (model prog w) A (.call (.ref fI) ⟨.ref (h.objs.size + 1) :: rest, kw⟩)
      (fun r s' => match r with | .ok (.ret v) => v = .none ∧ Q (.done (.ret (.ref (h.objs.size + 1)))) s' | .ok _ => False | .error e => E e s')
      ⟨(h.push (W.kdv_tup rest)).push (excO C h.objs.size), g, d, t, os⟩) :
    wpAny (model prog w) A (Builtin.«type.__call__» ⟨.ref C :: rest, kw⟩) Q E ⟨h, g, d, t, os⟩ := by
  repeat (first | with_reducible refine wpAny_loadPart_at hC ?_ | with_reducible refine wpAny_madeBy_exc hC ?_ | wp_step)
  refine codeAny_call_builtin_code (Code.quiet_builtin _ F.quiet) (check_newK F hT hC ?_)
  refine new_K F hT hC ?_ hrest
  show wpAny _ _ _ _ _ _
  have k : ∀ b o, h.get? b = some o → ((h.push (W.kdv_tup rest)).push (excO C h.objs.size)).get? b = some o := fun b o e => Heap.get?_push_of_some _ (Heap.get?_push_of_some _ e)
  have hC₁ := k _ _ hC
  have hget : ((h.push (W.kdv_tup rest)).push (excO C h.objs.size)).get? (h.objs.size + 1) = some (excO C h.objs.size) := by heap_get
  have hcC : (Value.ref C :: bm).contains (.ref C) = true := by simp
  have i1 := hi.keeps k
  have b1 := (hb (.ref (h.objs.size + 1))).keeps k
  unfold isInstance
  repeat (first | with_reducible refine wpAny_loadPart_at hget ?_ | (with_reducible refine wpAny_isSubtype_exc hC₁ ?_; rw [hcC]) | wp_step)
  show wpAny _ _ (typeLookup (.ref C) _) _ _ _
  refine i1.at ?_
  refine wpAny_holding (wpAny_bind (b1.at ?_))
  refine wpAny_bind (wpAny_call (codeAny_mono hq fun r s' z => ?_))
  rcases r with e | (v | _ | _ | _) <;> first | exact z | exact z.elim | skip
  obtain ⟨rfl, z⟩ := z
  first
    | exact wpAny_pure (wpAny_pure z)
    | (wp_walk; exact z)
theorem call_K (F : ExcBaseFacts B newId initId bmB) (hT : ∀ X : String, bm.contains (.type X) = bmB.contains (.type X)) {rest : List Value} {kw : List (Str × Value)} {fI : Addr}
    (hC : h.get? C = some (excClassObj nm q C N bs bm hdct sn sub ab col dd k0 k1 k2 k3 k5 newId))
    (hi : W.Looks (model prog w) h (typeLookup (.ref C) "__init__") (some (.ref fI))) (hb : ∀ self, W.Looks (model prog w) h (bindSpecial (.ref fI) self) (.ref fI, [self])) (hrest : rest.length ≤ sizeLine)
    (hq : codeAny (model prog w) (A.under (.builtin "type.__call__" ⟨.ref C :: rest, kw⟩)) (.call (.ref fI) ⟨.ref (h.objs.size + 1) :: rest, kw⟩) (W.InitBack (h.objs.size + 1) R)
      ⟨(h.push (W.kdv_tup rest)).push (excO C h.objs.size), g, d, t, os⟩) :
    codeAny (model prog w) A (.call (.ref C) ⟨rest, kw⟩) R ⟨h, g, d, t, os⟩ := by
  have f1 := tc_lookup
  have f2 := tc_bind (.ref C)
  have hTy : (⟨h, g, d, t, os⟩ : Shared).TypeIs (.ref C) "type" := ⟨_, hC, rfl⟩
  refine codeAny_of_tree ?_
  show wpAny _ _ (callAny (.ref C) _) _ _ _
  repeat (any_goals (first | assumption | with_reducible refine wpAny_loadPart_at hC ?_ | wp_step))
  refine ⟨rfl, ?_⟩
  refine codeAny_call_builtin_at (Code.quiet_builtin _ (by decide +kernel)) entry_typeCall (wpAny_check_type_call_sub hC (type_call_K F hT hC hi hb hrest ?_))
  refine codeAny_mono hq fun r s' z => ?_
  rcases r with e | (v | _ | _ | _) <;> exact z
end
end VxS
end PySem

set_option Elab.async false
set_option linter.all false
set_option maxRecDepth 100000
set_option maxHeartbeats 4000000
namespace L2
open PySem PySem.Spec PyProof.Rows
/-- an object is told otherwise -/
theorem HOk.retype {P : Program} {w : World} {H : Hp} {h : Heap} {x : Addr} {o' : HO} (ok : HOk P w H h) (mu : Mut (H x)) (hx : ∃ o, h.get? x = some o) (new : ObjOk P w (upd H x o') h x o') : HOk P w (upd H x o') h :=
  ok.write mu (.inl rfl) (fun _ _ _ e => e) hx new
section
variable {X : Cx} {CX : CXT} {k : Nat} {C fI : Addr} {fd : FuncData} {ps : List Str} {sp : Sp} {x : Str} {p pos : Pos} {e : Expr} {es : List Expr} {kws : List Keyword} {t tk : TA}
/-- behind the __init__: the exception and its dict stand as an exception's -/
theorem xnew_end {pins : List (Addr × Obj)} {σ : St} {H1 H2 : Hp} {hp hp2 h2 : Heap} {g1 g2 : Array GenState} {d1 d2 : Drawn} {t1 t2 : Nat} {os1 os2 : OsState} {a d : Addr} {fs : List (Str × V)} (I1 : Inv X pins σ H1 ⟨hp, g1, d1, t1, os1⟩)
    (ha : hp.objs.size ≤ a) (kk : ∀ b o, hp.get? b = some o → hp2.get? b = some o) (un : Un (frs X.stack) [] (upd H1 a (exo a C none)) H2 hp2 h2) (hok : HOk X.prog X.w H2 h2) (ho : os2 = os1) (hb : AllBare g2)
    (ea : H2 a = some (exo a C (some d))) (ed : H2 d = some (exd d fs)) : Inv X pins σ (upd (upd H2 a (exV a C d)) d (.xd fs)) ⟨h2, g2, d2, t2, os2⟩ := by
  obtain ⟨t0, hoe⟩ := exo_at hok ea
  obtain ⟨mA, hns, rel⟩ := exd_at hok ed
  have hn : H1 a = none := I1.hok.fresh ha
  have hda : d ≠ a := fun z => by
    obtain ⟨o, es, ep, e1, e2, _⟩ := hns
    rw [z, hoe] at e1
    have z2 := Option.some.inj e1
    subst z2
    cases e2
  have nha : ∀ {b : Addr} {o : Obj}, hp.get? b = some o → b ≠ a := fun {b o} z => Nat.ne_of_lt (Nat.lt_of_lt_of_le (Heap.lt_size z) ha)
  have up : ∀ {b : Addr}, b ≠ a → H1 b = none → upd H1 a (exo a C none) b = none := fun {b} hb n => by rw [upd_ne hb]; exact n
  have nd : ∀ {b : Addr} {o : Obj}, hp.get? b = some o → H1 b = none → b ≠ d := fun {b o} z n e => by
    have y := un.free b o (kk b o z) (up (nha z) n) (by simp)
    rw [e, ed] at y
    cases y
  have U : Un (frs X.stack) [] H1 (upd (upd H2 a (exV a C d)) d (.xd fs)) hp h2 := {
    keep := fun b o z n hf hx => un.keep b o (kk b o z) (up (nha z) n) hf hx
    slot := fun b o z n hf hx => un.slot b o (kk b o z) (up (nha z) n) hf hx
    free := fun b o z n hx => by
      rw [upd_ne (nd z n), upd_ne (nha z)]
      exact un.free b o (kk b o z) (up (nha z) n) hx
    there := fun b o z hx => un.there b o (kk b o z) hx
    tups := fun b xs z => by
      have q := un.tups b xs (by rw [upd_ne (ne_of_none z hn)]; exact z)
      rw [upd_ne (at_ne ed q exd_tup), upd_ne (ne_of_none z hn)]
      exact q
    frzs := fun b o v z => by
      have q := un.frzs b o v (by rw [upd_ne (ne_of_none z hn)]; exact z)
      rw [upd_ne (at_ne ed q (fun y => by
        have y' : HO.ext _ = HO.frz o v := y
        cases y')), upd_ne (ne_of_none z hn)]
      exact q
    tbls := fun b ps z => by
      obtain ⟨m, q⟩ := un.tbls b ps (by rw [upd_ne (ne_of_none z hn)]; exact z)
      refine ⟨m, ?_⟩
      rw [upd_ne (at_ne ed q (fun y => by
        have y' : HO.ext _ = HO.tbl (ps ++ m) := y
        cases y')), upd_ne (ne_of_none z hn)]
      exact q }
  have ok1 : HOk X.prog X.w (upd H2 a (exV a C d)) h2 := hok.retype (by rw [ea]; exact True.intro) ⟨_, hoe⟩ (exV_ok hoe rfl rfl rfl)
  have ed1 : (upd H2 a (exV a C d)) d = some (exd d fs) := by rw [upd_ne hda]; exact ed
  have ok2 : HOk X.prog X.w (upd (upd H2 a (exV a C d)) d (.xd fs)) h2 := by
    obtain ⟨o, es, ep, e1, r⟩ := id hns
    exact ok1.retype (by rw [ed1]; exact True.intro) ⟨o, e1⟩ ⟨mA, hns, rel⟩
  exact I1.call' (ch := []) ho U ok2 hb (fun b z => absurd z (by simp))
/-- C(..) of an exception class of the program, as a value. us: the positional values, kw the keywords', zs: bound in the parameters' order -/
theorem run_xnew {pins : List (Addr × Obj)} {σ : St} {H : Hp} {s : Shared} {Q : VK} {us zs : List Value} {kw : List (Str × Value)} {vs : List V} (T : Xc X.K C) (iC : PySem.W.findIn X.K (.ref C) "__init__" = some (some (.ref fI))) (tI : PySem.W.typeIn X.K (.ref fI) = some (.type "function"))
    (F1 : FnOk X.prog X.w X.K X.mg X.base CX k fI fd ps sp) (hr : Room (k + 1) X.A) (hx : Passes CX X (fun _ _ _ => False)) (hz : us.length ≤ sizeLine)
    (hb : ∀ (s : Shared) (a : Addr), X.K.In s.heap → BindsTo s fd ⟨Value.ref a :: us, kw⟩ (ps.zip (Value.ref a :: zs))) (I : Inv X pins σ H s) (r : Vals vs zs)
    (h : ∀ a, H a = none → sp (.ref a :: vs) (upd H a (exo a C none)) (fun v H2 => v = .non ∧ ∃ (d : Addr) (fs : List (Str × V)), H2 a = some (exo a C (some d)) ∧ H2 d = some (exd d fs) ∧ Q (.ref a) (upd (upd H2 a (exV a C d)) d (.xd fs))) (fun _ _ _ => False)) :
    wpAny (model X.prog X.w) X.A (call (.ref C) us kw) (EP X pins σ Q) X.xe s := by
  obtain ⟨nm, q, N, bs, bm, sn, sub, ab, col, dd, k0, k1, k2, k3, k5, B, newId, initId, bmB, hC, FB, hbm⟩ := T.cls
  have hT : ∀ Y : String, bm.contains (.type Y) = bmB.contains (.type Y) := fun Y => by
    have z := PySem.W.excTail_contains Y _ hbm.tail
    rw [List.contains_cons] at z
    have e : (Value.type Y == Value.ref C) = false := rfl
    rw [e, Bool.false_or] at z
    exact z
  obtain ⟨hp, g, dr, tk, os⟩ := s
  have hsz : hp.objs.size ≤ hp.objs.size + 1 := Nat.le_succ _
  have hn : H (hp.objs.size + 1) = none := I.hok.fresh hsz
  have hq := h (hp.objs.size + 1) hn
  have kk : ∀ b o, hp.get? b = some o → ((hp.push (PySem.W.kdv_tup us)).push (PySem.HandSPX.excO C hp.objs.size)).get? b = some o := fun b o e => Heap.get?_push_of_some _ (Heap.get?_push_of_some _ e)
  have hget : ((hp.push (PySem.W.kdv_tup us)).push (PySem.HandSPX.excO C hp.objs.size)).get? (hp.objs.size + 1) = some (PySem.HandSPX.excO C hp.objs.size) := by heap_get
  have I2 : Inv X pins σ (upd H (hp.objs.size + 1) (exo (hp.objs.size + 1) C none)) ⟨(hp.push (PySem.W.kdv_tup us)).push (PySem.HandSPX.excO C hp.objs.size), g, dr, tk, os⟩ :=
    I.laid (t' := tk) (a := hp.objs.size + 1) (o := exo (hp.objs.size + 1) C none) (h' := (hp.push (PySem.W.kdv_tup us)).push (PySem.HandSPX.excO C hp.objs.size)) kk hsz (exo_ok hget)
  have r2 : Vals (V.ref (hp.objs.size + 1) :: vs) (Value.ref (hp.objs.size + 1) :: zs) := .cons rfl r
  refine wpAny_call (VxS.call_K FB hT (I.kIn _ _ hC) (PySem.W.looks_findIn I.kIn iC) (fun self => PySem.W.bind_fn I.kIn self tI) hz
    (codeAny_mono (F1.run _ X.stack _ _ ⟨Value.ref (hp.objs.size + 1) :: us, kw⟩ (Value.ref (hp.objs.size + 1) :: zs) _ _ (fun _ _ _ => False) (hr.make C us kw) (I2.env0.make C us kw) (hb _ _ I2.kIn) r2 hq) fun r s' hq' => ?_))
  cases r with
  | error er => exact hx pins σ _ _ er s' I2 hq'
  | ok fl =>
    cases fl with
    | ret u =>
      obtain ⟨v, H2, os2, bare2, un2, hok2, rv, ev, d, fs, ea, ed, q2⟩ := hq'
      subst ev
      obtain ⟨h2, g2, d2, t2, os'⟩ := s'
      exact ⟨rv, .ref (hp.objs.size + 1), _, xnew_end (d2 := d2) (t2 := t2) I hsz kk un2 hok2 os2 bare2 ea ed, rfl, q2⟩
    | next => exact False.elim hq'
    | brk => exact False.elim hq'
    | cont => exact False.elim hq'
/-- the wish behind C(..): sp is the __init__'s promise, vs the values in the parameters' order -/
def XNew (C : Addr) (sp : Sp) (vs : List V) (H : Hp) (Q : VK) : Prop :=
  ∀ a, H a = none → sp (.ref a :: vs) (upd H a (exo a C none)) (fun v H2 => v = .non ∧ ∃ (d : Addr) (fs : List (Str × V)), H2 a = some (exo a C (some d)) ∧ H2 d = some (exd d fs) ∧ Q (.ref a) (upd (upd H2 a (exV a C d)) d (.xd fs))) (fun _ _ _ => False)
def tXnew (C : Addr) (sp : Sp) (t : TA) : TE := fun σ H Q => t σ H fun vs H1 => vs.length ≤ 1000 ∧ XNew C sp vs H1 Q
theorem pe_xnew (T : Xc X.K C) (iC : PySem.W.findIn X.K (.ref C) "__init__" = some (some (.ref fI))) (tI : PySem.W.typeIn X.K (.ref fI) = some (.type "function"))
    (F1 : FnOk X.prog X.w X.K X.mg X.base CX k fI fd ps sp) (hr : Room (k + 1) X.A) (hbd : Binds X.K fd ps []) (hx : Passes CX X (fun _ _ _ => False)) (hg : Gl X x) (hm : X.mg x = some (.ref C)) (ha : PA X (e :: es) t)
    (hdb : (x == ("__debug__" : Str)) = false := by decide) (he : starEach (e :: es) X.env = (false, eval e X.env) :: starEach es X.env := by rfl) (hpl : (backTo pos (starEach es X.env)).any (·.1) = false := by rfl) :
    PE X (.Call (.Name x p) (e :: es) [] pos) (tXnew C sp t) := by
  refine ⟨fun pins s σ H Q I h => ?_⟩
  refine wpAny_Call_Name_kw (ld_glob I hg hm ?_ hdb)
  refine PySem.W.callWith_K (h₀ := X.base) I.ok.mod.kin T.kC (thn (ha.run pos pins s σ H _ I h) fun us s1 ⟨vs, H1, I1, r1, hz, q1⟩ => ⟨I1.kIn, ?_⟩) he hpl
  have hl : ∀ a : Addr, (Value.ref a :: us).length = ps.length := fun a => by
    have e1 := F1.len _ _ _ _ (q1 s1.heap.objs.size (I1.hok.fresh (Nat.le_refl _)))
    rw [List.length_cons] at e1
    rw [List.length_cons, ← r1.length]
    exact e1
  exact run_xnew (us := us) T iC tI F1 hr hx (by rw [← r1.length, sizeLine_eq]; omega) (fun s a kin => by
    have z := hbd s (Value.ref a :: us) kin (by rw [List.append_nil]; exact hl a)
    rw [List.append_nil] at z
    exact z) I1 r1 q1
/-- C(k = v, ..): one | two keywords, in the parameters' order pe -/
def tXnewK (C : Addr) (sp : Sp) (n : Nat) (gV : List V → List V) (tk : TA) : TE := fun σ H Q => tk σ H fun zs H1 => zs.length = n ∧ XNew C sp (gV zs) H1 Q
theorem pe_xnewK {ks : List Str} {g : List Value → List Value} {gV : List V → List V} (T : Xc X.K C) (iC : PySem.W.findIn X.K (.ref C) "__init__" = some (some (.ref fI))) (tI : PySem.W.typeIn X.K (.ref fI) = some (.type "function"))
    (F1 : FnOk X.prog X.w X.K X.mg X.base CX k fI fd ps sp) (hr : Room (k + 1) X.A) (hbd : ∀ (s : Shared) (a : Addr) (ws : List Value), X.K.In s.heap → ws.length = ks.length → BindsTo s fd ⟨[Value.ref a], ks.zip ws⟩ (ps.zip (Value.ref a :: g ws)))
    (rel : ∀ {zs : List V} {ws : List Value}, Vals zs ws → Vals (gV zs) (g ws)) (hx : Passes CX X (fun _ _ _ => False)) (hg : Gl X x) (hm : X.mg x = some (.ref C)) (hkw : PK X kws tk)
    (hall : (backToKw pos (keywordEach kws X.env)).all (·.1.isSome) = true := by rfl) (hks : (backToKw pos (keywordEach kws X.env)).filterMap (·.1) = ks := by rfl) (hdb : (x == ("__debug__" : Str)) = false := by decide)
    (hpl : ((backTo pos (starEach [] X.env)).any (·.1) || (backToKw pos (keywordEach kws X.env)).any (·.1.isNone)) = false := by rfl) :
    PE X (.Call (.Name x p) [] kws pos) (tXnewK C sp ks.length gV tk) := by
  refine ⟨fun pins s σ H Q I h => ?_⟩
  refine wpAny_Call_Name_kw (ld_glob I hg hm ?_ hdb)
  refine PySem.W.callWith_KW0 (h₀ := X.base) I.ok.mod.kin T.kC hall ?_ hpl
  refine thn (hkw.run pos pins s σ H _ I h) fun ws s2 ⟨zs, H2, I2, rz, l2, q2⟩ => ⟨I2.kIn, ?_⟩
  rw [hks]
  exact run_xnew (us := []) T iC tI F1 hr hx (Nat.zero_le _) (fun s a kin => hbd s a ws kin (by rw [← rz.length]; exact l2)) I2 (rel rz) q2
end
/-! ### what the written part says, by one look -/
def xcB (K : PySem.W.Frag) (C : Addr) (bmB : List Value) (newId : String) : Bool :=
  PySem.W.excInitIn K C bmB newId && (PySem.W.hasDictIn K C && (decide (PySem.W.findIn K (.ref C) "__setattr__" = some (some (.builtin "object.__setattr__"))) && (decide (PySem.W.findIn K (.ref C) "__getattribute__" = some (some (.builtin "BaseException.__getattribute__"))) &&
  (decide (PySem.W.findIn K (.ref C) "__getattr__" = some none) && (decide (PySem.W.subIn K (.ref C) (.type "BaseException") = some true) && (decide (PySem.W.typeIn K (.ref C) = some (.type "type")) && (PySem.W.keepIn K (.ref C) &&
  (decide (PySem.W.findIn K (.ref C) "__class__" = some (some (.builtin "object.__class__"))) && (decide (PySem.W.specialIn K (.builtin "object.__class__") "__get__" = some (some (.builtin "getset_descriptor.__get__"))) &&
  (decide (PySem.W.takesIn K (.builtin "object.__class__") = some true) && decide (PySem.W.mroIn K C (.type "object") = some true)))))))))))
theorem band {a b : Bool} (h : (a && b) = true) : a = true ∧ b = true := Bool.and_eq_true_iff.mp h
theorem xc_of {K : PySem.W.Frag} {C : Addr} {B newId initId : String} {bmB : List Value} (FB : ExcBaseFacts B newId initId bmB) (SF : StoreFacts B bmB "object.__setattr__" "object") (h : xcB K C bmB newId = true) : Xc K C := by
  obtain ⟨h1, h⟩ := band h
  obtain ⟨h2, h⟩ := band h
  obtain ⟨h3, h⟩ := band h
  obtain ⟨h4, h⟩ := band h
  obtain ⟨h5, h⟩ := band h
  obtain ⟨h6, h⟩ := band h
  obtain ⟨h7, h⟩ := band h
  obtain ⟨h8, h⟩ := band h
  obtain ⟨h9, h⟩ := band h
  obtain ⟨h10, h⟩ := band h
  obtain ⟨h11, h12⟩ := band h
  refine ⟨?_, of_decide_eq_true h3, of_decide_eq_true h4, of_decide_eq_true h5, of_decide_eq_true h6, of_decide_eq_true h7, h8, h2, of_decide_eq_true h9, of_decide_eq_true h10, of_decide_eq_true h11, of_decide_eq_true h12⟩
  obtain ⟨cd0, hc0, hd0⟩ := PySem.W.any_some h2
  unfold PySem.W.excInitIn at h1
  split at h1
  · rename_i dd cd sl ho
    split at h1
    · rename_i C' bm k0 k1 k2 k3 n k5 hm hs
      simp only [Bool.and_eq_true, beq_iff_eq, Bool.not_eq_true'] at h1
      obtain ⟨⟨⟨rfl, rfl⟩, hdel⟩, ht⟩ := h1
      have hcl : PySem.W.clsIn K C' = some cd := by unfold PySem.W.clsIn; rw [ho] <;> rfl
      rw [hcl] at hc0
      have ec := Option.some.inj hc0
      rw [← ec] at hd0
      obtain ⟨nm, bs, mro, ns, qn, hd, sn, sub, ab, col, del⟩ := cd
      dsimp only at hm hdel hd0
      subst hm hdel hd0
      have hsl : sl = #[k0, k1, k2, k3, some (.builtin n), k5] := by
        obtain ⟨l⟩ := sl
        simp only at hs
        rw [hs]
      subst hsl
      exact ⟨nm, qn, ns, bs, bm, sn, sub, ab, col, dd, k0, k1, k2, k3, k5, B, n, initId, bmB, ho, FB, ⟨ht, SF.passes, SF.hasOwner⟩⟩
    · cases h1
  · cases h1
/-- the three bases -/
abbrev bmVE : List Value := [.type "ValueError", .type "Exception", .type "BaseException", .type "object"]
abbrev bmRE : List Value := [.type "RuntimeError", .type "Exception", .type "BaseException", .type "object"]
abbrev bmLE : List Value := [.type "LookupError", .type "Exception", .type "BaseException", .type "object"]
theorem xc_VE {K : PySem.W.Frag} {C : Addr} (h : xcB K C bmVE "ValueError.__new__" = true) : Xc K C := xc_of PySem.F.excBase_ValueError PySem.F.store_ValueError h
theorem xc_RE {K : PySem.W.Frag} {C : Addr} (h : xcB K C bmRE "RuntimeError.__new__" = true) : Xc K C := xc_of PySem.F.excBase_RuntimeError PySem.F.store_RuntimeError h
theorem xc_LE {K : PySem.W.Frag} {C : Addr} (h : xcB K C bmLE "LookupError.__new__" = true) : Xc K C := xc_of PySem.F.excBase_LookupError PySem.F.store_LookupError h
end L2

set_option Elab.async false
set_option linter.all false
set_option maxRecDepth 100000
set_option maxHeartbeats 4000000
/-! VxE: list + list where the left one may be the script; the state that draws leave -/
namespace L2
open PySem PySem.Spec PyProof.Rows
section
variable {X : Cx}
def rCatS (K : PySem.W.Frag) : R2 := fun x y H Q => ∃ l b xs zs, x = .ref l ∧ y = .ref b ∧ SqL K H l xs ∧ SqL K H b zs ∧ xs.length + zs.length ≤ sizeLine ∧ ∀ p, H p = none → Q (.ref p) (upd H p (.lst (xs ++ zs)))
theorem op_catS : OpR X (binaryOp .Add) (rCatS X.K) := by
  intro pins s σ H x y v u Q I rx ry h
  obtain ⟨l, b, xs, zs, rfl, rfl, hH, hB, hz, q⟩ := h
  cases rx
  cases ry
  obtain ⟨its, r, ⟨o, n, e, e1, e2, e3⟩, z⟩ := I.list hH
  obtain ⟨its2, r2, ⟨o2, n2, f, f1, f2, f3⟩, z2⟩ := I.list hB
  obtain ⟨c, d, dt, sl⟩ := o
  obtain ⟨c2, d2, dt2, sl2⟩ := o2
  dsimp only at e1 e2 e3 f1 f2 f3
  subst e1 e2 e3 f1 f2 f3
  have ea : its.toArray ++ its2.toArray = (its ++ its2).toArray := by simp
  refine concat_meets ⟨_, e, rfl⟩ ⟨_, f, rfl⟩ noFill_list_add seq_list_add PySem.F.slot_list_add PySem.F.entry_list_add (PySem.F.args_list_add_2 _ _) (list_addW l b its.toArray its2.toArray n n2 none none sl sl2 (by rw [List.size_toArray, List.size_toArray, ← r.length, ← r2.length]; exact hz)) ⟨e, f, ?_⟩
  rw [ea]
  exact ⟨.ref _, _, I.lnew (t' := s.toks) (r.append r2) (by rw [List.length_append]; exact hz), rfl, q _ I.fresh⟩
end
/-! ### draws -/
abbrev kCells : Key := Sum.inr "cells"
abbrev kAt : Key := Sum.inr "at"
abbrev kLeft : Key := Sum.inr "left"
abbrev kUsed : Key := Sum.inr "used"
def drawKv (l : Addr) (a b c : Int) : List (Key × V) := [(kCells, .ref l), (kAt, .int a), (kLeft, .int b), (kUsed, .int c)]
theorem dk_cells {l : Addr} {a b c : Int} : valV (drawKv l a b c) kCells = some (.ref l) := by kernel_rfl
theorem dk_at {l : Addr} {a b c : Int} : valV (drawKv l a b c) kAt = some (.int a) := by kernel_rfl
theorem dk_left {l : Addr} {a b c : Int} : valV (drawKv l a b c) kLeft = some (.int b) := by kernel_rfl
theorem dk_used {l : Addr} {a b c : Int} : valV (drawKv l a b c) kUsed = some (.int c) := by kernel_rfl
theorem dp_at {l : Addr} {a b c z : Int} : putK (drawKv l a b c) kAt (.int z) = drawKv l z b c := by kernel_rfl
theorem dp_left {l : Addr} {a b c z : Int} : putK (drawKv l a b c) kLeft (.int z) = drawKv l a z c := by kernel_rfl
theorem dp_used {l : Addr} {a b c z : Int} : putK (drawKv l a b c) kUsed (.int z) = drawKv l a b z := by kernel_rfl
/-- at p: the dict that the draws go on with; at most N draws are behind it -/
def DrawAt (H : Hp) (p : Addr) (N : Nat) : Prop := ∃ (l : Addr) (cs : List Int) (a b c : Int), H p = some (.dK (drawKv l a b c)) ∧ H l = some (.lst (cs.map V.int)) ∧ 0 < cs.length ∧ cs.length ≤ 64 ∧ 0 ≤ a ∧ a ≤ N ∧ 0 ≤ b ∧ 0 ≤ c ∧ c ≤ N
/-- all that was tracked but p stands -/
def Keep (p : Addr) (H H' : Hp) : Prop := ∀ c o, H c = some o → c ≠ p → H' c = some o
theorem Keep.refl {p : Addr} {H : Hp} : Keep p H H := fun _ _ e _ => e
theorem Keep.trans {p : Addr} {H H1 H2 : Hp} (a : Keep p H H1) (b : Keep p H1 H2) : Keep p H H2 := fun c o e n => b c o (a c o e n) n
theorem Keep.of {p : Addr} {H H' : Hp} (s : Same H H') : Keep p H H' := fun c o e _ => s c o e
theorem Keep.upd {p : Addr} {H : Hp} {o : HO} : Keep p H (upd H p o) := fun c o e n => by rw [upd_ne n]; exact e
theorem same_new {H : Hp} {p : Addr} {o : HO} (h : H p = none) : Same H (upd H p o) := fun c u e => by rw [upd_ne (ne_of_none e h)]; exact e
theorem DrawAt.same {H H' : Hp} {p : Addr} {N : Nat} (d : DrawAt H p N) (s : Same H H') : DrawAt H' p N := by
  obtain ⟨l, cs, a, b, c, h1, h2, r⟩ := d
  exact ⟨l, cs, a, b, c, s _ _ h1, s _ _ h2, r⟩
theorem DrawAt.ne {H : Hp} {p : Addr} {N : Nat} (d : DrawAt H p N) {q : Addr} {o : HO} (h : H q = some o) (n : ∀ kvs, o ≠ .dK kvs) : q ≠ p := by
  obtain ⟨l, cs, a, b, c, h1, _⟩ := d
  exact ne_of h h1 (n _)
theorem DrawAt.mono {H : Hp} {p : Addr} {N M : Nat} (d : DrawAt H p N) (h : N ≤ M) : DrawAt H p M := by
  obtain ⟨l, cs, a, b, c, h1, h2, r1, r2, r3, r4, r5, r6, r7⟩ := d
  exact ⟨l, cs, a, b, c, h1, h2, r1, r2, r3, by omega, r5, r6, by omega⟩
/-- the promises of the three defs -/
def spBegin (K : PySem.W.Frag) : Sp := fun vs H Q _ => ∃ (a : Addr) (ns : List Int), vs = [.ref a] ∧ SqL K H a (ns.map V.int) ∧ ns.length ≤ 63 ∧ ∀ p H', H p = none → Same H H' → DrawAt H' p 0 → Q (.ref p) H'
def spMixed : Sp := fun vs H Q _ => ∃ c k : Int, vs = [.int c, .int k] ∧ 0 ≤ k ∧ k < 1099511627776 ∧ ∀ r : Int, 0 ≤ r → r < 2147483648 → Q (.int r) H
def spNext : Sp := fun vs H Q _ => ∃ (p : Addr) (b : Int) (N : Nat), vs = [.ref p, .int b] ∧ DrawAt H p N ∧ N < 1000000000 ∧ 0 < b ∧ b < 1073741824 ∧ ∀ (r : Int) (H' : Hp), 0 ≤ r → r < b → DrawAt H' p (N + 1) → Keep p H H' → Q (.int r) H'
/-! ### facts behind the top: the facts of HeadHook2 and one look more -/
end L2
namespace He
open PySem PySem.Spec PyProof.Rows L2
def hookXe (n : Nat) (fa : List Fa) (fn : List DefD) (chk : PySem.W.Frag → Bool) : PySem.W.Hook where
  α := AlD × Bool
  obs := fun s => (obsD fa fn (frG s.heap.get? (asD s.heap.get? n)), chk (frG s.heap.get? (asD s.heap.get? n)))
  val := fun _ => (valD fn, true)
  says := fun _ h => ∃ K : PySem.W.Frag, K.In h ∧ SaysD fa fn K ∧ chk K = true
  of := fun _ _ e => ⟨_, frG_in, congrArg Prod.fst e, congrArg Prod.snd e⟩
  keeps := fun _ _ _ ⟨K, hK, c⟩ k => ⟨K, PySem.W.Frag.In.keeps hK k, c⟩
def obsXe (n : Nat) (fa : List Fa) (fn : List DefD) (chk : PySem.W.Frag → Bool) (g : Addr → Option Obj) : AlD × Bool := (obsD fa fn (frG g (asD g n)), chk (frG g (asD g n)))
theorem obsXe_eq {n : Nat} {fa : List Fa} {fn : List DefD} {chk : PySem.W.Frag → Bool} {g : Addr → Option Obj} {s : Shared} (h : ∀ a, g a = s.heap.get? a) : obsXe n fa fn chk g = (hookXe n fa fn chk).obs s := by
  have e : g = s.heap.get? := funext h
  rw [e] <;> rfl
end He

set_option Elab.async false
set_option linter.all false
set_option maxRecDepth 100000
set_option maxHeartbeats 4000000
/-! VxG: defs that are promised where nothing is being shown (no repr runs): FnG; their bodies, their calls; a law's end over them. -/
namespace L2
open PySem PySem.Spec PyProof.Rows
structure FnG (P : Program) (w : World) (K : PySem.W.Frag) (mg : Str → Option Value) (base : Heap) (CX : CXT) (k : Nat) (f : Addr) (fd : FuncData) (ps : List Str) (sp : Sp) : Prop where
  len : ∀ vs H Q E, sp vs H Q E → vs.length = ps.length
  run : ∀ (A : Around), A.guards = some [] → Room k A → ∀ (outer : List Env) (s : Shared) (H : Hp) (args : Args) (us : List Value) (vs : List V) (Q : VK) (E : XK), Env0 P w K mg base A outer s H → BindsTo s fd args (ps.zip us) → Vals vs us → sp vs H Q E →
    codeAny (model P w) A (.call (.ref f) args) (CR CX outer P w H s Q E) s
section
variable {P : Program} {w : World} {K : PySem.W.Frag} {mg : Str → Option Value} {base : Heap} {CX : CXT} {k : Nat} {f : Addr} {fd : FuncData} {N ps : List Str} {sp : Sp}
theorem FnOk.g (F : FnOk P w K mg base CX k f fd ps sp) : FnG P w K mg base CX k f fd ps sp := ⟨F.len, fun A _ hr outer s H args us vs Q E => F.run A outer s H args us vs Q E hr⟩
/-- such a def, by its body -/
theorem FunD.okG {x qual : Str} {params : Arguments} {body : List Stmt} {scope : Scope} {dvs : List V} {kws : List (Str × V)} (F : FunD K x qual params body scope dvs kws f fd) (S : FnScope N ps scope) (len : ∀ vs H Q E, sp vs H Q E → vs.length = ps.length)
    (hbody : ∀ (cdv : Value) (A : Around) (outer : List Env) (s : Shared) (H : Hp) (vs : List V) (Q : VK) (E : XK), (A.deeper (envOfC qual scope s.heap.objs.size f cdv)).guards = some [] → Room k (A.deeper (envOfC qual scope s.heap.objs.size f cdv)) → sp vs H Q E →
      ∃ t, PSs (cxOf CX P w K mg base N qual scope f cdv A outer s H E) body t ∧ t { nx := fun _ H' => Q .non H', rt := Q } (start N vs) H) : FnG P w K mg base CX (k + 1) f fd ps sp := by
  obtain ⟨oc, od, dV, kV, doc, pm, an, cdv, ct, osl, rfl, lk, hcd, _, _⟩ := F.ex
  refine ⟨len, fun A hgu hr outer s H args us vs Q E e0 hb r hsp => ?_⟩
  have kin : K.In s.heap := e0.mod.kin.keeps fun b o e => (e0.bs b o e).1
  have par : ∀ y ∈ ps.zip us, scope.names.lookup y.1 = some .local ∨ (scope.names.lookup y.1 = some .cell ∧ ((cellsFrom (s.heap.objs.size + 1) scope.names []).lookup y.1).isSome = true) := by
    intro y hy
    obtain ⟨n, v⟩ := y
    exact (S.par n (List.of_mem_zip hy).1).imp id fun q => ⟨q, PySem.W.cellsFrom_some _ _ _ (.inl q)⟩
  refine codeAny_call_function hr.depth (kin _ _ lk) rfl S.co S.gen rfl (PySem.W.codeRec_of kin hcd) (hb _ _ _ _ (wpAny_newFunctionEnv_cells S.kind par fun env he s1 x => ?_))
  subst he
  refine ⟨(e0.mod.nolimit.keeps fun b o e => (e0.bs b o e).1).keeps x.toInCall.keep, codeAny_func ?_⟩
  obtain ⟨t, ht, hq⟩ := hbody cdv A outer s H vs Q E hgu (hr.deeper _) hsp
  refine wpAny_mono (ht.run [] s1 (start N vs) H _ (inv_start S hr.hd e0 (len _ _ _ _ hsp) r x) hq) (fun fl s' hs => ?_) fun _ _ hs => hs
  cases fl with
  | ret u =>
    obtain ⟨v, _, H', J, rv, q⟩ := hs
    exact ⟨v, H', J.os, J.bare, J.base, J.hok, rv, q⟩
  | next =>
    obtain ⟨_, H', J, q⟩ := hs
    exact ⟨V.non, H', J.os, J.bare, J.base, J.hok, rfl, q⟩
  | brk => exact hs.elim fun _ z => z.elim fun _ z => z.2.elim
  | cont => exact hs.elim fun _ z => z.elim fun _ z => z.2.elim
end
section
variable {X : Cx} {CX : CXT} {k : Nat} {f : Addr} {fd : FuncData} {ps : List Str} {sp : Sp} {dvs : List V} {ds : List Value} {E : XK} {x : Str} {p pos : Pos} {e : Expr} {es : List Expr} {t : TA}
/-- f(e, ..) -/
theorem pe_callG (hgu : X.A.guards = some []) (F : FnG X.prog X.w X.K X.mg X.base CX k f fd ps sp) (hr : Room k X.A) (hg : Gl X x) (hm : X.mg x = some (.ref f)) (hk : PySem.W.keepIn X.K (.ref f) = true) (hb : Binds X.K fd ps ds) (hd : Vals dvs ds) (hx : Passes CX X E)
    (ha : PA X (e :: es) t) (hdb : (x == ("__debug__" : Str)) = false := by decide) (he : starEach (e :: es) X.env = (false, eval e X.env) :: starEach es X.env := by rfl) (hpl : (backTo pos (starEach es X.env)).any (·.1) = false := by rfl) :
    PE X (.Call (.Name x p) (e :: es) [] pos) (tCall sp dvs E t) := by
  refine ⟨fun pins s σ H Q I h => wpAny_Call_Name_kw (ld_glob I hg hm (PySem.W.callWith_K (h₀ := X.base) I.ok.mod.kin hk (thn (ha.run pos pins s σ H _ I h) fun us s1 z => ?_) he hpl) hdb)⟩
  obtain ⟨vs, H1, I1, r, q⟩ := z
  have r2 : Vals (vs ++ dvs) (us ++ ds) := r.append hd
  refine ⟨I1.kIn, wpAny_call (codeAny_mono (F.run X.A hgu hr X.stack s1 H1 ⟨us, []⟩ (us ++ ds) (vs ++ dvs) Q E I1.env0 (hb s1 us I1.kIn (r2.length.symm.trans (F.len _ _ _ _ q))) r2 q) fun rs s' hq => ?_)⟩
  cases rs with
  | error er => exact hx pins σ H1 s1 er s' I1 hq
  | ok fl =>
    cases fl with
    | ret u => exact I1.after hq
    | next => exact hq.elim
    | brk => exact hq.elim
    | cont => exact hq.elim
end
/-- the script, tracked as the list that it is -/
def onlyAt (a : Addr) (o : Obj) (xs : List V) : Hp := fun b => if b = a then some (.frz o (.lst xs)) else none
/-- a law's end: its def is promised where nothing is being shown -/
theorem law_callG {P : Program} {w : World} {K : PySem.W.Frag} {mg mb : Str → Option Value} {k : Nat} {fa a : Addr} {fd : FuncData} {x : Str} {sp : Sp} {s₁ : Shared} {vs : List Value} {ns : List Int}
    (kin : K.In s₁.heap) (hns : s₁.heap.Ns mainGlobals mg) (hb : s₁.heap.Ns builtinsNs mb) (hbb : ∀ x : Str, x ≠ "__name__" → mb x = bootBuiltins x) (hlim : s₁.heap.NoLimit) (hg : s₁.gens = #[])
    (ha : s₁.heap.get? a = some { cls := .type "list", data := .seq vs.toArray }) (hi : IntsAre vs ns) (hl : ns.length ≤ sizeLine) (hr : Room k callerA)
    (F : ∀ base : Heap, K.In base → base.Ns mainGlobals mg → FnG P w K mg base CX0 k fa fd [x] sp) (hbind : ∀ (s : Shared) (u : Value), BindsTo s fd ⟨[u], []⟩ [(x, u)])
    (hsp : ∀ H : Hp, Only H → SqL K H a (ns.map V.int) → sp [.ref a] H (fun v _ => v = .bl true) fun _ _ _ => False) :
    codeAny (model P w) callerA (.call (.ref fa) ⟨[.ref a], []⟩) (fun r s' => r = .ok (.ret (.bool true)) ∧ OldK s₁.heap s'.heap ∧ s'.os = s₁.os ∧ AllBare s'.gens) s₁ := by
  have rv : Vals (ns.map V.int) vs := vals_ints hi
  have key : ∀ H : Hp, Only H → SqL K H a (ns.map V.int) → HOk P w H s₁.heap → (∀ b, H b ≠ none → b = a) → (H a ≠ none → K.lookup a = none) →
      codeAny (model P w) callerA (.call (.ref fa) ⟨[.ref a], []⟩) (fun r s' => r = .ok (.ret (.bool true)) ∧ OldK s₁.heap s'.heap ∧ s'.os = s₁.os ∧ AllBare s'.gens) s₁ := by
    intro H hO hS hok only hK
    have free : ∀ b, b ≠ a → H b = none := fun b nb => by
      cases q : H b with
      | none => rfl
      | some u => exact absurd (only b (by rw [q]; exact fun z => nomatch z)) nb
    have dictNe : ∀ {b : Addr} {o : Obj} {es : Array DictEntry} {ep : Nat}, s₁.heap.get? b = some o → o.data = .dict es ep → b ≠ a := fun {b o es ep} e d z => by
      rw [z, ha] at e
      have eo := Option.some.inj e
      rw [← eo] at d
      exact nomatch (show Data.seq vs.toArray _ = Data.dict es ep from d)
    have nsK : ∀ {b : Addr} {m : Str → Option Value}, s₁.heap.Ns b m → (hidT s₁.heap H).Ns b m := fun {b m} z => by
      obtain ⟨o, es, ep, e, d, r⟩ := z
      exact ⟨o, es, ep, hidT_get e (free b (dictNe e d)), d, r⟩
    have kinB : K.In (hidT s₁.heap H) := fun b o e => hidT_get (kin b o e) (by
      by_cases nb : b = a
      · cases q : H b with
        | none => rfl
        | some u =>
          have z := hK (by rw [← nb, q]; exact fun z => nomatch z)
          rw [← nb, e] at z
          cases z
      · exact free b nb)
    have md : Mod K mg (hidT s₁.heap H) := ⟨kinB, nsK hns, ⟨mb, nsK hb, hbb⟩, by
      obtain ⟨mc, h1, h2⟩ := hlim
      exact ⟨mc, nsK h1, h2⟩⟩
    have e0 : Env0 P w K mg (hidT s₁.heap H) callerA [] s₁ H := ⟨rfl, md, fun b o e => of_hidT e, Nat.le_of_eq (hidT_size _ _), trivial, fun b z => (List.not_mem_nil z).elim, hok, .of_eq hg⟩
    refine codeAny_mono ((F _ kinB (nsK hns)).run callerA rfl hr [] s₁ H ⟨[.ref a], []⟩ [.ref a] [.ref a] _ _ e0 (hbind s₁ (.ref a)) (.cons rfl .nil) (hsp H hO hS)) fun r s' h => ?_
    cases r with
    | error e => exact False.elim h
    | ok fl =>
      cases fl with
      | next => exact False.elim h
      | brk => exact False.elim h
      | cont => exact False.elim h
      | ret u =>
        obtain ⟨v, H', os, bare, un, hok', r', q⟩ := h
        have ev : v = .bl true := q
        rw [ev] at r'
        have eu : u = Value.bool true := r'
        rw [eu]
        refine ⟨rfl, OldK.of_keep fun b o e => ?_, os, bare⟩
        rcases hO b with z | ⟨ob, xs, z⟩
        · exact un.keep b o e z (fun y => (List.not_mem_nil y).elim) (fun y => (List.not_mem_nil y).elim)
        · have e1 := (hok b _ z).1
          have e2 := (hok' b _ (un.frzs b ob _ z)).1
          rw [e] at e1
          rw [Option.some.inj e1]
          exact e2
  cases hk : K.lookup a with
  | some o =>
    have e := kin a o hk
    rw [ha] at e
    have eo := Option.some.inj e
    refine key (fun _ => none) (fun _ => .inl rfl) (.inr ⟨o, vs.toArray, _, hk, by rw [← eo], by rw [← eo], by rw [← eo], by rw [List.size_toArray, hi.length]; exact hl, by simpa using rv⟩) (fun b u z => nomatch (show (none : Option HO) = some u from z)) (fun b z => absurd rfl z) fun z => absurd rfl z
  | none =>
    have at_ : onlyAt a { cls := .type "list", data := .seq vs.toArray } (ns.map V.int) a = some (.frz { cls := .type "list", data := .seq vs.toArray } (.lst (ns.map V.int))) := if_pos rfl
    have off : ∀ b, b ≠ a → onlyAt a { cls := .type "list", data := .seq vs.toArray } (ns.map V.int) b = none := fun b nb => if_neg nb
    refine key (onlyAt a { cls := .type "list", data := .seq vs.toArray } (ns.map V.int)) (fun b => ?_) (.inl (.inr ⟨_, at_⟩)) (fun b u z => ?_) (fun b z => ?_) fun _ => hk
    · by_cases nb : b = a
      · exact .inr ⟨_, _, by rw [nb]; exact at_⟩
      · exact .inl (off b nb)
    · by_cases nb : b = a
      · subst nb
        rw [at_] at z
        have ez := Option.some.inj z
        subst ez
        exact ⟨ha, by rw [List.length_map]; exact hl, vs, _, rv, ha⟩
      · rw [off b nb] at z
        cases z
    · by_cases nb : b = a
      · exact nb
      · exact absurd (off b nb) z
theorem walk_ofG {l : PySem.W.OpenLaw} {n k : Nat} {q : Program} {loose : List Str} {XP : (Str → Option Value) → Heap → Prop} {YP : World → Heap → Prop} {d : DefRec} {x : Str}
    (hn : l.most = some n) (hn2 : n ≤ sizeLine) (hdf : d.params.defaults = []) (hr : Room k callerA)
    (F : ∀ (w : World) (mg : Str → Option Value) (fa : Addr) (h : Heap), YP w h → h.Ns mainGlobals mg → mg d.name = some (.ref fa) →
      ∃ (K : PySem.W.Frag) (fd : FuncData) (sp : Sp), K.In h ∧ (∀ (s : Shared) (u : Value), BindsTo s fd ⟨[u], []⟩ [(x, u)]) ∧
        (∀ (H : Hp) (a : Addr) (ns : List Int), ns.length ≤ n → Only H → SqL K H a (ns.map V.int) → sp [.ref a] H (fun v _ => v = .bl true) fun _ _ _ => False) ∧
        ∀ base : Heap, K.In base → base.Ns mainGlobals mg → FnG l.prog w K mg base CX0 k fa fd [x] sp) :
    PySem.W.WalkO q loose XP YP l.row.toRowW d [] (fun f vs => PySem.call f vs) :=
  Att.attach_call hn hdf fun w s₀ s₁ mg mb fa o pm cd doc a vs ns G Y ho hd hcd hmg hobj hints hlen hg => by
    obtain ⟨K, fd, sp, kin, hb, hsp, hF⟩ := F w mg fa _ Y G.T.g hmg
    exact law_callG kin G.T.g G.T.b G.T.builtins G.T.nolimit hg hobj hints (Nat.le_trans hlen hn2) hr hF hb fun H hO hS => hsp H a ns hlen hO hS
/-! ### repr -/
/-- what a value says of itself: None, bools, ints, texts, lists, tuples of these, an empty dict -/
inductive Sw (K : PySem.W.Frag) (H : Hp) : V → PyData → Prop
  | non : Sw K H .non .none
  | bl (b : Bool) : Sw K H (.bl b) (.bool b)
  | int (i : Int) : Sw K H (.int i) (.int i)
  | str (x : Str) : Sw K H (.str x) (.str x)
  | emp {a : Addr} : H a = some (.dK []) → Sw K H (.ref a) (.dict [])
end L2

set_option Elab.async false
set_option linter.all false
set_option maxRecDepth 100000
set_option maxHeartbeats 4000000
/-! VxR: repr of values that are data: None, bools, ints, texts, lists and tuples of these, dicts of no or one entry. -/
namespace L2
open PySem PySem.Spec PyProof.Rows
/-- the written part holds sys.modules, which is a dict -/
def SysK (K : PySem.W.Frag) : Prop := ∃ (o : Obj) (es : Array DictEntry) (n : Nat), K.lookup sysModules = some o ∧ o.data = .dict es n
def sysB (K : PySem.W.Frag) : Bool := match K.lookup sysModules with
  | some ⟨_, _, .dict _ _, _⟩ => true
  | _ => false
theorem sys_of {K : PySem.W.Frag} (h : sysB K = true) : SysK K := by
  unfold sysB at h
  split at h
  · rename_i es n sl e
    exact ⟨_, _, _, e, rfl⟩
  · cases h
def keyD : Key → PyData
  | .inl i => .int i
  | .inr x => .str x
mutual
inductive Sd (K : PySem.W.Frag) (H : Hp) : V → PyData → Prop
  | non : Sd K H .non .none
  | bl (b : Bool) : Sd K H (.bl b) (.bool b)
  | int (i : Int) : Sd K H (.int i) (.int i)
  | str (x : Str) : Sd K H (.str x) (.str x)
  | lst {a : Addr} {xs : List V} {ds : List PyData} : SqL K H a xs → SdAll K H xs ds → Sd K H (.ref a) (.list ds)
  | tup {a : Addr} {xs : List V} {ds : List PyData} : SqT K H a xs → SdAll K H xs ds → Sd K H (.ref a) (.tuple ds)
  | emp {a : Addr} : H a = some (.dK []) → Sd K H (.ref a) (.dict [])
  | one {a : Addr} {k : Key} {v : V} {d : PyData} : H a = some (.dK [(k, v)]) → Sd K H v d → Sd K H (.ref a) (.dict [(keyD k, d)])
inductive SdAll (K : PySem.W.Frag) (H : Hp) : List V → List PyData → Prop
  | nil : SdAll K H [] []
  | cons {v : V} {vs : List V} {d : PyData} {ds : List PyData} : Sd K H v d → SdAll K H vs ds → SdAll K H (v :: vs) (d :: ds)
end
section
variable {K : PySem.W.Frag} {H H' : Hp}
theorem SqL.same' {a : Addr} {xs : List V} (s : Same H H') (h : SqL K H a xs) : SqL K H' a xs := s.seq h
mutual
theorem Sd.same (s : Same H H') (st : ∀ {a : Addr} {xs : List V}, SqT K H a xs → SqT K H' a xs) : ∀ {v : V} {d : PyData}, Sd K H v d → Sd K H' v d
  | _, _, .non => .non
  | _, _, .bl b => .bl b
  | _, _, .int i => .int i
  | _, _, .str x => .str x
  | _, _, .lst h a => .lst (s.seq h) (SdAll.same s st a)
  | _, _, .tup h a => .tup (st h) (SdAll.same s st a)
  | _, _, .emp h => .emp (s _ _ h)
  | _, _, .one h a => .one (s _ _ h) (Sd.same s st a)
theorem SdAll.same (s : Same H H') (st : ∀ {a : Addr} {xs : List V}, SqT K H a xs → SqT K H' a xs) : ∀ {vs : List V} {ds : List PyData}, SdAll K H vs ds → SdAll K H' vs ds
  | _, _, .nil => .nil
  | _, _, .cons h a => .cons (Sd.same s st h) (SdAll.same s st a)
end
end
section
variable {X : Cx} {pins : List (Addr × Obj)} {σ : St} {H : Hp} {s : Shared}
theorem sys_free (S : SysK X.K) (I : Inv X pins σ H s) : H sysModules = none := by
  obtain ⟨o, es, n, hk, _⟩ := S
  exact (I.bs _ _ (I.ok.mod.kin _ _ hk)).2
theorem sys_list (S : SysK X.K) (I : Inv X pins σ H s) {a : Addr} {o : Obj} {its : Array Value} {n : Nat} (e : s.heap.get? a = some o) (d : o.data = .seq its n) : a ≠ sysModules := by
  obtain ⟨o2, es, n2, hk, hd⟩ := S
  intro z
  rw [z, I.kIn _ _ hk] at e
  rw [← Option.some.inj e, hd] at d
  cases d
mutual
theorem Sd.reads (S : SysK X.K) (I : Inv X pins σ H s) : ∀ (d : PyData) (v : V) (u : Value), Sd X.K H v d → RelV v u → ∃ as, Reads s.heap u d as ∧ sysModules ∉ as
  | .none, _, _, h, r => by
    cases h
    cases r
    exact ⟨_, Reads.none, List.not_mem_nil⟩
  | .bool b, _, _, h, r => by
    cases h
    cases r
    exact ⟨_, Reads.bool b, List.not_mem_nil⟩
  | .int i, _, _, h, r => by
    cases h
    obtain ⟨t, rfl⟩ := r
    exact ⟨_, Reads.int i t, List.not_mem_nil⟩
  | .str x, _, _, h, r => by
    cases h
    obtain ⟨t, rfl⟩ := r
    exact ⟨_, Reads.str x t, List.not_mem_nil⟩
  | .list ds, _, _, h, r => by
    cases h with
    | lst hs ha =>
      cases r
      obtain ⟨its, rv, ⟨o, n, ho, hc, _, hd⟩, _⟩ := I.list hs
      obtain ⟨as, hr, hn⟩ := SdAll.reads S I ds _ its ha rv
      exact ⟨_, Reads.list ho hc hd hr, fun m => (List.mem_cons.mp m).elim (fun z => sys_list S I ho hd z.symm) hn⟩
  | .tuple ds, _, _, h, r => by
    cases h with
    | tup hs ha =>
      cases r
      obtain ⟨its, rv, ⟨o, ho, hc, n, hd⟩, _⟩ := I.tuple hs
      obtain ⟨as, hr, hn⟩ := SdAll.reads S I ds _ its ha rv
      exact ⟨_, Reads.tuple ho hc hd hr, hn⟩
  | .dict [], _, _, h, r => by
    cases h with
    | emp ha =>
      cases r
      obtain ⟨_, hsy, vs, kv, o, es, ep, ho, hx, hd, _, hp, _⟩ := I.hok _ _ ha
      cases kv
      have e0 : es.toList = [] := by
        generalize es.toList = l at hp
        cases hp
        rfl
      exact ⟨_, Reads.dict ho hx.1 hd (by rw [e0]; exact .nil) (by rw [e0]; exact .nil), fun m => by
        rcases List.mem_append.mp m with m | m
        · rcases List.mem_cons.mp m with z | z
          · rw [z] at hsy
            simp at hsy
          · exact (List.not_mem_nil z)
        · exact (List.not_mem_nil m)⟩
  | .dict [(kd, d)], _, _, h, r => by
    cases h with
    | @one a k v _ ha hv =>
      cases r
      obtain ⟨_, hsy, vs, kv, o, es, ep, ho, hx, hd, _, hp, _⟩ := I.hok _ _ ha
      cases kv with
      | @cons _ q _ _ h1 h2 =>
        cases h2
        obtain ⟨e1, rv⟩ := h1
        obtain ⟨as, hr, hn⟩ := Sd.reads S I d v q.2 hv rv
        obtain ⟨en, ek, ev, e0⟩ : ∃ en : DictEntry, (mixKind X.prog X.w).is q.1 en.key = true ∧ en.val = q.2 ∧ es.toList = [en] := by
          generalize es.toList = l at hp
          cases hp with
          | cons a1 a2 a3 =>
            cases a3
            exact ⟨_, a1, a2, rfl⟩
        have hk : ∃ as, Reads s.heap en.key (keyD k) as ∧ as = [] := by
          have e1' : k = q.1 := e1
          rw [e1']
          rcases keyIs_shape (show keyIs q.1 en.key = true from ek) with ⟨i, t, z1, z2⟩ | ⟨x, t, z1, z2⟩
          · rw [z1, z2]
            exact ⟨_, Reads.int i t, rfl⟩
          · rw [z1, z2]
            exact ⟨_, Reads.str x t, rfl⟩
        obtain ⟨bs, hb, rfl⟩ := hk
        exact ⟨_, Reads.dict ho hx.1 hd (by rw [e0]; exact .cons hb .nil) (by rw [e0]; exact .cons (as := as) (by show Reads s.heap en.val d as; rw [ev]; exact hr) .nil), fun m => by
          rcases List.mem_append.mp m with m | m
          · rcases List.mem_cons.mp m with z | z
            · rw [z] at hsy
              simp at hsy
            · exact (List.not_mem_nil z)
          · rw [List.append_nil] at m
            exact hn m⟩
  | .dict (_ :: _ :: _), _, _, h, _ => by cases h
theorem SdAll.reads (S : SysK X.K) (I : Inv X pins σ H s) : ∀ (ds : List PyData) (vs : List V) (us : List Value), SdAll X.K H vs ds → Vals vs us → ∃ as, ReadsAll s.heap us ds as ∧ sysModules ∉ as
  | [], _, _, h, r => by
    cases h
    cases r
    exact ⟨_, ReadsAll.nil, List.not_mem_nil⟩
  | d :: ds, _, _, h, r => by
    cases h with
    | cons h1 h2 =>
      cases r with
      | cons r1 r2 =>
        obtain ⟨as, q1, n1⟩ := Sd.reads S I d _ _ h1 r1
        obtain ⟨bs, q2, n2⟩ := SdAll.reads S I ds _ _ h2 r2
        exact ⟨_, ReadsAll.cons q1 q2, fun m => (List.mem_append.mp m).elim n1 n2⟩
end
end
/-- repr(v) -/
def rRepr (K : PySem.W.Frag) : List V → Hp → VK → Prop := fun xs H Q => ∃ (v : V) (d : PyData), xs = [v] ∧ Sd K H v d ∧ d.showable = true ∧ d.depth ≤ 40 ∧ d.shown.length ≤ sizeLine ∧ Q (.str d.shown) H
theorem call_repr {X : Cx} {k : Nat} (hgu : X.A.guards = some []) (hr : Room k X.A) (S : SysK X.K) : CallR X (.builtin "repr") (rRepr X.K) := by
  intro pins s σ H xs us Q I r h
  obtain ⟨v, d, rfl, hv, hs, hd, hz, q⟩ := h
  obtain ⟨u, rfl, ru⟩ := vals1 r
  obtain ⟨as, hr1, hn⟩ := Sd.reads S I d v u hv ru
  have fin : ∀ (h' : Heap) (t tk : Nat), (∀ b o, s.heap.get? b = some o → h'.get? b = some o) → EP X pins σ Q (.str d.shown t) { s with heap := h', toks := tk } := fun h' t tk kp => ⟨.str d.shown, H, I.kept (t' := tk) kp, ⟨t, rfl⟩, q⟩
  have ref : ∀ a, u = .ref a → wpAny (model X.prog X.w) X.A (call (.builtin "repr") [u]) (EP X pins σ Q) X.xe s := fun a e => by
    subst e
    exact repr_of_reads' hr1 hs (fun _ => hn) hgu (by have := hr.un; omega) (fun _ _ e => e) (fun h' t tk kp => fin h' t tk kp) hz
  cases hr1 with
  | none =>
    have q' : Q (.str "None") H := by
      have z := q
      simp only [PyData.shown] at z
      exact z
    exact PySem.P.repr_of_none ⟨.str "None", H, I.tok _, ⟨_, rfl⟩, q'⟩
  | bool b =>
    have q' : Q (.str (if b then "True" else "False")) H := by
      have z := q
      simp only [PyData.shown] at z
      cases b <;> exact z
    cases b
    · exact PySem.P.repr_of_bool ⟨.str "False", H, I.tok _, ⟨_, rfl⟩, q'⟩
    · exact PySem.P.repr_of_bool ⟨.str "True", H, I.tok _, ⟨_, rfl⟩, q'⟩
  | int i t =>
    have q' : Q (.str (toString i)) H := by
      have z := q
      simp only [PyData.shown] at z
      exact z
    exact PySem.P.repr_of_int (by simpa [PyData.showable] using hs) ⟨.str (toString i), H, I.tok _, ⟨_, rfl⟩, q'⟩
  | str x t =>
    have q' : Q (.str (reprText x)) H := by
      have z := q
      simp only [PyData.shown] at z
      exact z
    exact PySem.P.repr_of_str ⟨.str (reprText x), H, I.tok _, ⟨_, rfl⟩, q'⟩ (by simpa only [PyData.shown] using hz)
  | list _ _ _ _ => exact ref _ rfl
  | tuple _ _ _ _ => exact ref _ rfl
  | dict _ _ _ _ _ => exact ref _ rfl
/-! ### a bound of what is shown -/
mutual
def wt : PyData → Nat
  | .none => 4
  | .bool _ => 5
  | .int _ => 1921
  | .str x => (reprText x).length
  | .list xs => wtAll xs + 2
  | .tuple xs => wtAll xs + 3
  | .dict kvs => wtKv kvs + 2
def wtAll : List PyData → Nat
  | [] => 0
  | x :: xs => wt x + 2 + wtAll xs
def wtKv : List (PyData × PyData) → Nat
  | [] => 0
  | (k, v) :: r => wt k + wt v + 4 + wtKv r
end
theorem listText_le (ts : List Str) : (listText ts).length ≤ piled ts + 2 := by
  cases ts with
  | nil => decide
  | cons t r =>
    have h1 : (listText (t :: r)).length = (textFrom 1 (("[" : Str) ++ (if (0 : Nat) > 0 then ", " else "" : String) ++ t) r).length + 1 := by
      show (textFrom 0 "[" (t :: r) ++ "]").length = _
      rw [strLen_append]
      rfl
    have h2 := textFrom_length_pos r 1 (("[" : Str) ++ (if (0 : Nat) > 0 then ", " else "" : String) ++ t) (Nat.succ_pos 0)
    have h3 : (("[" : Str) ++ (if (0 : Nat) > 0 then ", " else "" : String) ++ t).length = 1 + t.length := by
      rw [strLen_append, strLen_append]
      rfl
    rw [h1, h2, h3, piled_cons]
    omega
theorem join_le (ts : List Str) : (Str.join ", " ts).length ≤ piled ts := by
  by_cases h : ts = []
  · subst h
    decide
  · have := join_length_add ts h
    omega
theorem tupleText_le (ts : List Str) : (tupleText ts).length ≤ piled ts + 3 := by
  unfold tupleText
  rw [strLen_append, strLen_append]
  have e1 : ((("(" : String) : Str)).length = 1 := rfl
  have e3 : (((if ts.length == 1 then ",)" else ")" : String) : Str)).length ≤ 2 := by split <;> decide
  have := join_le ts
  omega
theorem dictText_le (ts : List Str) : (dictText ts).length ≤ piled ts + 2 := by
  unfold dictText
  rw [strLen_append, strLen_append]
  have e1 : ((("{" : String) : Str)).length = 1 := rfl
  have e2 : ((("}" : String) : Str)).length = 1 := rfl
  have := join_le ts
  omega
mutual
theorem shown_le : ∀ d : PyData, d.showable = true → d.shown.length ≤ wt d
  | .none, _ => by simp only [PyData.shown, wt]; decide
  | .bool b, _ => by cases b <;> simp only [PyData.shown, wt] <;> decide
  | .int i, h => by
    simp only [PyData.shown, wt]
    exact int_text_len_1921 (by simpa [PyData.showable] using h)
  | .str x, _ => by simp only [PyData.shown, wt]; exact Nat.le_refl _
  | .list xs, h => by
    simp only [PyData.shown, wt]
    have h1 := shownAll_le xs (by simpa [PyData.showable] using h)
    have := listText_le (PyData.shownAll xs)
    omega
  | .tuple xs, h => by
    simp only [PyData.shown, wt]
    have h1 := shownAll_le xs (by simpa [PyData.showable] using h)
    have := tupleText_le (PyData.shownAll xs)
    omega
  | .dict kvs, h => by
    simp only [PyData.shown, wt]
    have h1 := shownKv_le kvs (by simpa [PyData.showable] using h)
    have := dictText_le (PyData.shownKv kvs)
    omega
theorem shownAll_le : ∀ xs : List PyData, PyData.showableAll xs = true → piled (PyData.shownAll xs) ≤ wtAll xs
  | [], _ => by simp only [PyData.shownAll, wtAll]; decide
  | x :: xs, h => by
    have h' : x.showable = true ∧ PyData.showableAll xs = true := by simpa [PyData.showableAll] using h
    simp only [PyData.shownAll, wtAll]
    rw [piled_cons]
    have h1 := shown_le x h'.1
    have h2 := shownAll_le xs h'.2
    omega
theorem shownKv_le : ∀ kvs : List (PyData × PyData), PyData.showableKv kvs = true → piled (PyData.shownKv kvs) ≤ wtKv kvs
  | [], _ => by simp only [PyData.shownKv, wtKv]; decide
  | (k, v) :: r, h => by
    have h' : (k.showable = true ∧ v.showable = true) ∧ PyData.showableKv r = true := by simpa [PyData.showableKv] using h
    simp only [PyData.shownKv, wtKv]
    rw [piled_cons, strLen_append, strLen_append]
    have h1 := shown_le k h'.1.1
    have h2 := shown_le v h'.1.2
    have h3 := shownKv_le r h'.2
    have e : (((": " : String) : Str)).length = 2 := rfl
    omega
end
theorem shown_fits {d : PyData} (h : d.showable = true) (h2 : wt d ≤ sizeLine) : d.shown.length ≤ sizeLine := Nat.le_trans (shown_le d h) h2
end L2

set_option Elab.async false
set_option linter.all false
set_option maxRecDepth 100000
set_option maxHeartbeats 4000000
/-! VxX: the classes of errors of a program, each with an __init__ that stores its one or two fields; lists of new errors, lists of isinstance. -/
namespace L2
open PySem PySem.Spec PyProof.Rows
theorem PE.imp {X : Cx} {e : Expr} {t t' : TE} (h : PE X e t) (i : ∀ σ H Q, t' σ H Q → t σ H Q) : PE X e t' := ⟨fun pins s σ H Q I q => h.run pins s σ H Q I (i σ H Q q)⟩
theorem PA.imp {X : Cx} {es : List Expr} {t t' : TA} (h : PA X es t) (i : ∀ σ H Q, t' σ H Q → t σ H Q) : PA X es t' := ⟨fun pos pins s σ H Q I q => h.run pos pins s σ H Q I (i σ H Q q)⟩
theorem Same.refl' {H : Hp} : Same H H := fun _ _ e => e
theorem Same.tr {H H1 H2 : Hp} (a : Same H H1) (b : Same H1 H2) : Same H H2 := fun c o e => b c o (a c o e)
/-- self.f = v -/
def spIni (C : Addr) (f : Str) : Sp := fun vs H Q _ => ∃ (a : Addr) (v : V), vs = [.ref a, v] ∧ H a = some (exo a C none) ∧ ∀ dx, H dx = none → dx ≠ a → Q .non (upd (upd H dx (exd dx [(f, v)])) a (exo a C (some dx)))
/-- self.f = v; self.g = u -/
def spIni2 (C : Addr) (f g : Str) : Sp := fun vs H Q _ => ∃ (a : Addr) (v u : V), vs = [.ref a, v, u] ∧ H a = some (exo a C none) ∧ ∀ dx, H dx = none → dx ≠ a →
  Q .non (upd (upd (upd H dx (exd dx [(f, v)])) a (exo a C (some dx))) dx (exd dx [(g, u), (f, v)]))
theorem xnew1 {C : Addr} {f : Str} {v : V} {H : Hp} {Q : VK} (h : ∀ a H', H a = none → Same H H' → ExAt H' a C [(f, v)] → Q (.ref a) H') : XNew C (spIni C f) [v] H Q := fun a ha => by
  refine ⟨a, v, rfl, upd_same, fun dx n ne => ⟨rfl, dx, [(f, v)], upd_same, (by rw [upd_ne ne, upd_same]), ?_⟩⟩
  have hd : H dx = none := by rw [← n, upd_ne ne]
  refine h a _ ha (fun b o e => ?_) ⟨dx, ?_, upd_same⟩
  · rw [upd_ne (ne_of_none e hd), upd_ne (ne_of_none e ha), upd_ne (ne_of_none e ha), upd_ne (ne_of_none e hd), upd_ne (ne_of_none e ha)]
    exact e
  · rw [upd_ne ne.symm, upd_same]
theorem xnew2 {C : Addr} {f g : Str} {v u : V} {H : Hp} {Q : VK} (h : ∀ a H', H a = none → Same H H' → ExAt H' a C [(g, u), (f, v)] → Q (.ref a) H') : XNew C (spIni2 C f g) [v, u] H Q := fun a ha => by
  refine ⟨a, v, u, rfl, upd_same, fun dx n ne => ⟨rfl, dx, [(g, u), (f, v)], (by rw [upd_ne ne.symm, upd_same]), upd_same, ?_⟩⟩
  have hd : H dx = none := by rw [← n, upd_ne ne]
  refine h a _ ha (fun b o e => ?_) ⟨dx, ?_, upd_same⟩
  · rw [upd_ne (ne_of_none e hd), upd_ne (ne_of_none e ha), upd_ne (ne_of_none e hd), upd_ne (ne_of_none e ha), upd_ne (ne_of_none e hd), upd_ne (ne_of_none e ha)]
    exact e
  · rw [upd_ne ne.symm, upd_same]
/-- one class: its name, its field -/
structure XK1 (P : Program) (w : World) (K : PySem.W.Frag) (mg : Str → Option Value) (base : Heap) (x f : Str) (C : Addr) : Prop where
  T : Xc K C
  hm : mg x = some (.ref C)
  no : PySem.W.findIn K (.ref C) f = some none
  ex : ∃ (fI : Addr) (fd : FuncData), PySem.W.findIn K (.ref C) "__init__" = some (some (.ref fI)) ∧ PySem.W.typeIn K (.ref fI) = some (.type "function") ∧ FnOk P w K mg base CX0 1 fI fd ["self", f] (spIni C f) ∧ Binds K fd ["self", f] [] ∧
    ∀ (s : Shared) (a : Addr) (ws : List Value), K.In s.heap → ws.length = 1 → BindsTo s fd ⟨[Value.ref a], [f].zip ws⟩ ((["self", f] : List Str).zip (Value.ref a :: ws))
/-- a class with two fields -/
structure XK2 (P : Program) (w : World) (K : PySem.W.Frag) (mg : Str → Option Value) (base : Heap) (x f g : Str) (C : Addr) : Prop where
  T : Xc K C
  hm : mg x = some (.ref C)
  no : PySem.W.findIn K (.ref C) f = some none
  no2 : PySem.W.findIn K (.ref C) g = some none
  ex : ∃ (fI : Addr) (fd : FuncData), PySem.W.findIn K (.ref C) "__init__" = some (some (.ref fI)) ∧ PySem.W.typeIn K (.ref fI) = some (.type "function") ∧ FnOk P w K mg base CX0 1 fI fd ["self", f, g] (spIni2 C f g) ∧ Binds K fd ["self", f, g] [] ∧
    ∀ (s : Shared) (a : Addr) (ws : List Value), K.In s.heap → ws.length = 2 → BindsTo s fd ⟨[Value.ref a], [g, f].zip ws⟩ ((["self", f, g] : List Str).zip (Value.ref a :: ws.reverse))
/-- a new error of the class at C with the fields fs of the i-th slot's value -/
def tX1 (C : Addr) (fs : V → List (Str × V)) (i : Nat) : TE := fun σ H Q => ∃ v, σ[i]? = some (some v) ∧ ∀ a H', H a = none → Same H H' → ExAt H' a C (fs v) → Q (.ref a) H'
section
variable {X : Cx} {x f g : Str} {C : Addr} {p pos kp kp2 : Pos} {e e2 : Expr} {i : Nat} {z : Str} {ci : Int} {j1 j2 : Nat} {q1 q2 : Pos}
/-- C(name) -/
theorem pe_x1 (B : XK1 X.prog X.w X.K X.mg X.base x f C) (hr : Room 2 X.A) (hg : Gl X x) (he : PE X e (tVar i)) (hdb : (x == ("__debug__" : Str)) = false := by decide) (hs : starEach [e] X.env = (false, eval e X.env) :: starEach [] X.env := by rfl) :
    PE X (.Call (.Name x p) [e] [] pos) (tX1 C (fun v => [(f, v)]) i) := by
  obtain ⟨fI, fd, i1, i2, F, b, _⟩ := B.ex
  refine PE.imp (pe_xnew B.T i1 i2 F hr b pass0 hg B.hm (pa_cons he pa_nil hs) hdb hs rfl) fun σ H Q h => ?_
  obtain ⟨v, hv, k⟩ := h
  exact ⟨v, hv, (by show 1 ≤ 1000; decide), xnew1 k⟩
/-- C(name, 'text') -/
theorem pe_x2 (B : XK2 X.prog X.w X.K X.mg X.base x f g C) (hr : Room 2 X.A) (hg : Gl X x) (he : PE X e (tVar i)) (hdb : (x == ("__debug__" : Str)) = false := by decide)
    (hs : starEach [e, .Constant (.str z) j1 q1] X.env = (false, eval e X.env) :: starEach [.Constant (.str z) j1 q1] X.env := by rfl) :
    PE X (.Call (.Name x p) [e, .Constant (.str z) j1 q1] [] pos) (tX1 C (fun v => [(g, .str z), (f, v)]) i) := by
  obtain ⟨fI, fd, i1, i2, F, b, _⟩ := B.ex
  refine PE.imp (pe_xnew B.T i1 i2 F hr b pass0 hg B.hm (pa_cons he (pa_cons pe_str pa_nil) hs) hdb hs (by rfl)) fun σ H Q h => ?_
  obtain ⟨v, hv, k⟩ := h
  exact ⟨v, hv, (by show 2 ≤ 1000; decide), xnew2 k⟩
/-- C(f = name) -/
theorem pe_x1K (B : XK1 X.prog X.w X.K X.mg X.base x f C) (hr : Room 2 X.A) (hg : Gl X x) (he : PE X e (tVar i)) (hdb : (x == ("__debug__" : Str)) = false := by decide) :
    PE X (.Call (.Name x p) [] [⟨some f, e, kp⟩] pos) (tX1 C (fun v => [(f, v)]) i) := by
  obtain ⟨fI, fd, i1, i2, F, _, kb⟩ := B.ex
  refine PE.imp (pe_xnewK (ks := [f]) (g := fun ws => ws) (gV := fun zs => zs) B.T i1 i2 F hr (fun s a ws kin hl => kb s a ws kin hl) (fun r => r) pass0 hg B.hm (pk_cons he pk_nil) (by rfl) (by rfl) hdb (by rfl)) fun σ H Q h => ?_
  obtain ⟨v, hv, k⟩ := h
  exact ⟨v, hv, rfl, xnew1 k⟩
theorem vals_rev : ∀ {zs : List V} {ws : List Value}, Vals zs ws → Vals zs.reverse ws.reverse
  | _, _, .nil => .nil
  | _, _, .cons (a := a) (b := b) r t => by
    rw [List.reverse_cons, List.reverse_cons]
    exact (vals_rev t).append (.cons r .nil)
/-- C(g = 'text', f = name) -/
theorem pe_x2K (B : XK2 X.prog X.w X.K X.mg X.base x f g C) (hr : Room 2 X.A) (hg : Gl X x) (he : PE X e (tVar i)) (hdb : (x == ("__debug__" : Str)) = false := by decide) :
    PE X (.Call (.Name x p) [] [⟨some g, .Constant (.str z) j1 q1, kp⟩, ⟨some f, e, kp2⟩] pos) (tX1 C (fun v => [(g, .str z), (f, v)]) i) := by
  obtain ⟨fI, fd, i1, i2, F, _, kb⟩ := B.ex
  refine PE.imp (pe_xnewK (ks := [g, f]) (g := fun ws => ws.reverse) (gV := fun zs => zs.reverse) B.T i1 i2 F hr (fun s a ws kin hl => kb s a ws kin hl) (fun r => vals_rev r) pass0 hg B.hm (pk_cons pe_str (pk_cons he pk_nil)) (by rfl) (by rfl) hdb (by rfl)) fun σ H Q h => ?_
  obtain ⟨v, hv, k⟩ := h
  exact ⟨v, hv, rfl, xnew2 k⟩
/-- C(g = 'text', f = 0) -/
theorem pe_x2KC (B : XK2 X.prog X.w X.K X.mg X.base x f g C) (hr : Room 2 X.A) (hg : Gl X x) (hdb : (x == ("__debug__" : Str)) = false := by decide) :
    PE X (.Call (.Name x p) [] [⟨some g, .Constant (.str z) j1 q1, kp⟩, ⟨some f, .Constant (.int ci) j2 q2, kp2⟩] pos) (fun _ H Q => ∀ a H', H a = none → Same H H' → ExAt H' a C [(g, .str z), (f, .int ci)] → Q (.ref a) H') := by
  obtain ⟨fI, fd, i1, i2, F, _, kb⟩ := B.ex
  refine PE.imp (pe_xnewK (ks := [g, f]) (g := fun ws => ws.reverse) (gV := fun zs => zs.reverse) B.T i1 i2 F hr (fun s a ws kin hl => kb s a ws kin hl) (fun r => vals_rev r) pass0 hg B.hm (pk_cons pe_str (pk_cons pe_int pk_nil)) (by rfl) (by rfl) hdb (by rfl)) fun σ H Q h => ?_
  exact ⟨rfl, xnew2 h⟩
end
/-! ### lists of new errors -/
abbrev XSpec := Addr × (V → List (Str × V))
def Exs (H : Hp) (v : V) : List XSpec → List Addr → Prop
  | [], [] => True
  | c :: cs, a :: as => ExAt H a c.1 (c.2 v) ∧ Exs H v cs as
  | _, _ => False
theorem Exs.mono {H H' : Hp} {v : V} (s : Same H H') : ∀ {cs : List XSpec} {as : List Addr}, Exs H v cs as → Exs H' v cs as
  | [], [], _ => True.intro
  | _ :: _, _ :: _, h => ⟨h.1.mono s, Exs.mono s h.2⟩
  | [], _ :: _, h => h.elim
  | _ :: _, [], h => h.elim
theorem Exs.app {H : Hp} {v : V} : ∀ {cs ds : List XSpec} {as bs : List Addr}, Exs H v cs as → Exs H v ds bs → Exs H v (cs ++ ds) (as ++ bs)
  | [], _, [], _, _, h => h
  | _ :: _, _, _ :: _, _, h, k => ⟨h.1, Exs.app h.2 k⟩
  | [], _, _ :: _, _, h, _ => h.elim
  | _ :: _, _, [], _, h, _ => h.elim
theorem Exs.len {H : Hp} {v : V} : ∀ {cs : List XSpec} {as : List Addr}, Exs H v cs as → as.length = cs.length
  | [], [], _ => rfl
  | _ :: _, _ :: _, h => congrArg Nat.succ (Exs.len h.2)
  | [], _ :: _, h => h.elim
  | _ :: _, [], h => h.elim
theorem Exs.get {H : Hp} {v : V} : ∀ {cs : List XSpec} {as : List Addr} {j : Nat} {c : XSpec}, Exs H v cs as → cs[j]? = some c → ∃ a, as[j]? = some a ∧ ExAt H a c.1 (c.2 v)
  | [], [], _, _, _, e => by simp at e
  | c' :: _, a :: _, 0, c, h, e => by
    have ec : c' = c := by simpa using e
    exact ⟨a, rfl, by rw [← ec]; exact h.1⟩
  | _ :: _, _ :: _, j + 1, c, h, e => by
    obtain ⟨a, h1, h2⟩ := Exs.get (j := j) h.2 (by simpa using e)
    exact ⟨a, by simpa using h1, h2⟩
  | [], _ :: _, _, _, h, _ => h.elim
  | _ :: _, [], _, _, h, _ => h.elim
def tXs (cs : List XSpec) (i : Nat) : TA := fun σ H Q => ∃ v, σ[i]? = some (some v) ∧ ∀ (as : List Addr) H', Same H H' → Exs H' v cs as → Q (as.map V.ref) H'
section
variable {X : Cx} {e : Expr} {es : List Expr} {i : Nat} {C : Addr} {fs : V → List (Str × V)} {cs : List XSpec}
theorem pa_xn : PA X [] (tXs [] i) := PA.imp pa_nil fun σ H Q h => by
  obtain ⟨v, _, k⟩ := h
  exact k [] H Same.refl' True.intro
theorem pa_xc (he : PE X e (tX1 C fs i)) (hr : PA X es (tXs cs i)) (hs : starEach (e :: es) X.env = (false, eval e X.env) :: starEach es X.env := by rfl) : PA X (e :: es) (tXs ((C, fs) :: cs) i) := PA.imp (pa_cons he hr hs) fun σ H Q h => by
  obtain ⟨v, hv, k⟩ := h
  exact ⟨v, hv, fun a H1 _ s1 x1 => ⟨v, hv, fun as H2 s2 x2 => k (a :: as) H2 (s1.tr s2) ⟨x1.mono s2, x2⟩⟩⟩
end
/-! ### lists of isinstance(e, C), e in the slot i, of the class at D -/
def tIss (D : Addr) (bs : List Bool) (i : Nat) : TA := fun σ H Q => ∃ (a : Addr) (fs : List (Str × V)), σ[i]? = some (some (.ref a)) ∧ ExAt H a D fs ∧ Q (bs.map V.bl) H
section
variable {X : Cx} {e : Expr} {es : List Expr} {i : Nat} {D : Addr} {x n : Str} {p1 p2 p3 pos : Pos} {b : Bool} {bs : List Bool}
theorem pe_is1 {C : Addr} (T : Xc X.K D) (hi : Gl X "isinstance") (mi : X.mg "isinstance" = none) (he : PE X e (tVar i)) (hg : Gl X x) (hm : X.mg x = some (.ref C)) (kit : PySem.W.kitOne X.K (.ref D) (.ref C) = some b)
    (hs : starEach [e, .Name x p2] X.env = (false, eval e X.env) :: starEach [.Name x p2] X.env := by rfl) (hpl : (backTo pos (starEach [.Name x p2] X.env)).any (·.1) = false := by rfl) (hd : (x == ("__debug__" : Str)) = false := by decide) :
    PE X (.Call (.Name "isinstance" p1) [e, .Name x p2] [] pos) (fun σ H Q => ∃ (a : Addr) (fs : List (Str × V)), σ[i]? = some (some (.ref a)) ∧ ExAt H a D fs ∧ Q (.bl b) H) :=
  PE.imp (pe_callB call_isX hi mi (by decide +kernel) (pa_cons he (pa_cons (pe_glob (v := .ref C) hg hm rfl hd) pa_nil) hs) (by decide) (by decide) hs hpl) fun σ H Q h => by
    obtain ⟨a, fs, h1, h2, k⟩ := h
    exact ⟨_, h1, a, D, fs, .ref C, .ref C, b, rfl, h2, T, fun u r => r, kit, k⟩
/-- a built-in class -/
theorem pe_is1T {t : String} (T : Xc X.K D) (hi : Gl X "isinstance") (mi : X.mg "isinstance" = none) (he : PE X e (tVar i)) (hg : Gl X x) (hm : X.mg x = none) (hv : bootBuiltins x = some (.type t)) (kit : PySem.W.kitOne X.K (.ref D) (.type t) = some b) (hn : x ≠ "__name__" := by decide)
    (hs : starEach [e, .Name x p2] X.env = (false, eval e X.env) :: starEach [.Name x p2] X.env := by rfl) (hpl : (backTo pos (starEach [.Name x p2] X.env)).any (·.1) = false := by rfl) (hd : (x == ("__debug__" : Str)) = false := by decide) :
    PE X (.Call (.Name "isinstance" p1) [e, .Name x p2] [] pos) (fun σ H Q => ∃ (a : Addr) (fs : List (Str × V)), σ[i]? = some (some (.ref a)) ∧ ExAt H a D fs ∧ Q (.bl b) H) :=
  PE.imp (pe_callB call_isX hi mi (by decide +kernel) (pa_cons he (pa_cons (pe_bltn (v := .ty t) hg hm hv rfl hn hd) pa_nil) hs) (by decide) (by decide) hs hpl) fun σ H Q h => by
    obtain ⟨a, fs, h1, h2, k⟩ := h
    exact ⟨_, h1, a, D, fs, .ty t, .type t, b, rfl, h2, T, fun u r => r, kit, k⟩
theorem pa_isn : PA X [] (tIss D [] i) := PA.imp pa_nil fun σ H Q h => by
  obtain ⟨a, fs, _, _, k⟩ := h
  exact k
theorem pa_isc (he : PE X e (fun σ H Q => ∃ (a : Addr) (fs : List (Str × V)), σ[i]? = some (some (.ref a)) ∧ ExAt H a D fs ∧ Q (.bl b) H)) (hr : PA X es (tIss D bs i)) (hs : starEach (e :: es) X.env = (false, eval e X.env) :: starEach es X.env := by rfl) :
    PA X (e :: es) (tIss D (b :: bs) i) := PA.imp (pa_cons he hr hs) fun σ H Q h => by
  obtain ⟨a, fs, h1, h2, k⟩ := h
  exact ⟨a, fs, h1, h2, a, fs, h1, h2, k⟩
end
end L2

set_option Elab.async false
set_option linter.all false
set_option maxRecDepth 100000
set_option maxHeartbeats 4000000
/-! VxY: generators of the program whose consumer owns some objects (a list, a comprehension's names) that change while the generator sleeps. What a run hands out is told beforehand (xs); j of it are out. -/
namespace L2
open PySem PySem.Spec PyProof.Rows GenW
/-- while the generator sleeps: the consumer's own objects may change, all else stays -/
structure Zzz (Z : List Addr) (s s' : Shared) : Prop where
  os : s'.os = s.os
  bare : AllBare s'.gens
  keep : ∀ b o, b ∉ Z → s.heap.get? b = some o → s'.heap.get? b = some o
  own : ∀ z ∈ Z, ∃ o, s'.heap.get? z = some o ∧ ∀ v, o.data ≠ .cell v
/-- the consumer's objects lie apart of the generator's frame -/
def Aside (X : Cx) (Z : List Addr) : Prop := ∀ z ∈ Z, X.s_0.heap.objs.size ≤ z ∧ z ≠ X.env.locals ∧ (∀ x c, X.env.cells.lookup x = some c → c ≠ z) ∧ ∀ p ∈ X.pn, p.1 ≠ z
/-- running: the consumer's objects stand as they stood when it was woken (s₀) -/
def YRun (X : Cx) (Z : List Addr) (ip : List (Addr × Obj)) (σ : L2.St) (H : Hp) (s₀ s : Shared) : Prop :=
  ∃ zp : List (Addr × Obj), zp.map (·.1) = Z ∧ (∀ p ∈ zp, s₀.heap.get? p.1 = some p.2) ∧ Inv X (zp ++ ip) σ H s
theorem snap {h : Heap} : ∀ {Z : List Addr}, (∀ z ∈ Z, ∃ o, h.get? z = some o ∧ ∀ v, o.data ≠ .cell v) → ∃ zp : List (Addr × Obj), zp.map (·.1) = Z ∧ ∀ p ∈ zp, h.get? p.1 = some p.2 ∧ ∀ v, p.2.data ≠ .cell v
  | [], _ => ⟨[], rfl, fun _ m => (List.not_mem_nil m).elim⟩
  | z :: Z, h1 => by
    obtain ⟨o, e1, e2⟩ := h1 z List.mem_cons_self
    obtain ⟨zp, f1, f2⟩ := snap (Z := Z) fun y hy => h1 y (List.mem_cons_of_mem _ hy)
    refine ⟨(z, o) :: zp, by rw [List.map_cons, f1], fun p m => ?_⟩
    rcases List.mem_cons.mp m with m | m
    · rw [m]
      exact ⟨e1, e2⟩
    · exact f2 p m
section
variable {X : Cx} {Z : List Addr} {ip : List (Addr × Obj)} {σ : L2.St} {H : Hp} {s₀ s s' : Shared}
theorem YRun.at {z : Addr} (r : YRun X Z ip σ H s₀ s) (hz : z ∈ Z) : H z = none ∧ z ∉ X.fs ∧ ∃ o, s₀.heap.get? z = some o ∧ s.heap.get? z = some o := by
  obtain ⟨zp, rfl, e2, I⟩ := r
  obtain ⟨p, hp, rfl⟩ := List.mem_map.mp hz
  obtain ⟨i1, i2, i3, i4, i5⟩ := I.pin p (List.mem_append_right _ (List.mem_append_left _ hp))
  exact ⟨i2, i4, p.2, e2 p hp, i1⟩
theorem YRun.inv (r : YRun X Z ip σ H s₀ s) : Inv X ip σ H s := by
  obtain ⟨zp, _, _, I⟩ := r
  exact I.pins_of fun p hp => I.pin p (List.mem_append_right _ (List.mem_append_right _ hp))
/-- woken again -/
theorem YRun.woken (hA : Aside X Z) (hip : ∀ p ∈ ip, p.1 ∉ Z) (r : YRun X Z ip σ H s₀ s) (w : Zzz Z s s') : YRun X Z ip σ H s' s' := by
  have at_ := fun z (hz : z ∈ Z) => r.at hz
  have I := r.inv
  obtain ⟨zp', f1, f2⟩ := snap w.own
  obtain ⟨w1, w2, w3, w4⟩ := w
  have nz : ∀ b u, H b = some u → b ∉ Z := fun b u q hb => by
    rw [(at_ b hb).1] at q
    cases q
  obtain ⟨hh, g, d, t, o⟩ := s'
  have ho : o = s.os := w1
  subst ho
  have J : Inv X ip σ H { s with heap := hh, gens := g, drawn := d, toks := t } := by
    refine I.step (ch := Z) (fun b hb => ?_) (fun b ob _ _ hc q _ => w3 b ob hc q) (fun b ob _ _ hc q _ => ⟨ob.slots, w3 b ob hc q⟩) (fun _ _ _ _ n => n) (fun b ob hc q => ⟨ob, w3 b ob hc q⟩)
      (fun _ _ q => q) (fun _ _ _ q => q) (fun b ps q => ⟨#[], by rw [q]; simp⟩) (fun m hm => ?_) (fun b u q => ?_) w2
    · obtain ⟨a1, a2, a3, a4⟩ := hA b hb
      refine ⟨.inr a1, a2, a3, fun p hp => ?_⟩
      rcases List.mem_append.mp hp with hp | hp
      · exact a4 p hp
      · exact fun e => hip p hp (by rw [e]; exact hb)
    · obtain ⟨ob, es, ep, ho, rr⟩ := hm
      exact ⟨ob, es, ep, w3 _ ob (fun z => (hA _ z).2.1 rfl) ho, rr⟩
    · refine (I.hok b u q).stay (fun c v hc y => w3 c v ?_ y) (fun _ y => y) fun _ _ y => y
      rcases hc with y | y
      · rw [y]
        exact nz b u q
      · exact nz c _ y
  refine ⟨zp', f1, fun p hp => (f2 p hp).1, J.pins_of fun p hp => ?_⟩
  rcases List.mem_append.mp hp with hp | hp
  · have hz : p.1 ∈ Z := by
      rw [← f1]
      exact List.mem_map.mpr ⟨p, hp, rfl⟩
    exact ⟨(f2 p hp).1, (at_ _ hz).1, (hA _ hz).2.1, (at_ _ hz).2.1, (f2 p hp).2⟩
  · exact J.pin p (List.mem_append_right _ hp)
end
/-! ### the protocol -/
def YP (X : Cx) (Z : List Addr) (xs : List V) : Protocol := fun n s₀ v s kap =>
  ∃ j x ip σ H, n + 1 + j = xs.length ∧ xs[j]? = some x ∧ RelV x v ∧ YRun X Z ip σ H s₀ s ∧ ∀ s', Zzz Z s s' → kap (.send .none) s'
def YR (X : Cx) (Z : List Addr) (xs : List V) (Q : VK) (F : Value → Shared → Prop) : GenEnd := fun n s₀ r s => match r with
  | .ok (.ret u) => ∃ v ip σ H, n = 0 ∧ YRun X Z ip σ H s₀ s ∧ RelV v u ∧ Q v H
  | .ok _ => False
  | .error e => F e s
structure YEnds where
  nx : Nat → L2.St → Hp → Prop
  rt : Nat → VK
  bk : Nat → L2.St → Hp → Prop := fun _ _ _ => False
  ct : Nat → L2.St → Hp → Prop := fun _ _ _ => False
abbrev TY := YEnds → Nat → L2.St → Hp → Prop
def YSP (X : Cx) (Z : List Addr) (ip : List (Addr × Obj)) (D : YEnds) (j : Nat) (s₀ : Shared) (f : Flow) (s : Shared) : Prop :=
  match f with
  | .next => ∃ σ H, YRun X Z ip σ H s₀ s ∧ D.nx j σ H
  | .brk => ∃ σ H, YRun X Z ip σ H s₀ s ∧ D.bk j σ H
  | .cont => ∃ σ H, YRun X Z ip σ H s₀ s ∧ D.ct j σ H
  | .ret u => ∃ v σ H, YRun X Z ip σ H s₀ s ∧ RelV v u ∧ D.rt j v H
/-- where the generator's code stands -/
structure YC (X : Cx) (Z : List Addr) (ip : List (Addr × Obj)) (A : Around) (c : Code) (fs : List Frame) (gd : Bool → Bool) : Prop where
  ip : ∀ p ∈ ip, p.1 ∉ Z
  aside : Aside X Z
  over : A.over c fs = X.A
  split : splitAtGen fs = none
  guard : fs.any Frame.guarded = false
  gd : gd false = false
structure YK (X : Cx) (Z : List Addr) (xs : List V) (ip : List (Addr × Obj)) (A : Around) (R : GenEnd) (c : Code) (fs : List Frame) (K : Flow → Sem PySem.Fin) (J : Value → Sem PySem.Fin) (D : YEnds) : Prop where
  ok : ∀ (n j : Nat) (s₀ s : Shared) (f : Flow), n + j = xs.length → YSP X Z ip D j s₀ f s → Seg (model X.prog X.w) A R (YP X Z xs) n s₀ c (K f) fs s
  exc : ∀ (n : Nat) (s₀ : Shared) (e : Value) (s : Shared), X.xe e s → Seg (model X.prog X.w) A R (YP X Z xs) n s₀ c (J e) fs s
structure YS (X : Cx) (xs : List V) (st : Stmt) (t : TY) : Prop where
  run : ∀ (A : Around) (Z : List Addr) (ip : List (Addr × Obj)) (R : GenEnd) (n j : Nat) (s₀ : Shared) (c : Code) (fs : List Frame) (K : Flow → Sem PySem.Fin) (J : Value → Sem PySem.Fin) (gd : Bool → Bool) (lv : List Value → List Value) (s : Shared) (σ : L2.St) (H : Hp) (D : YEnds),
    YC X Z ip A c fs gd → n + j = xs.length → YK X Z xs ip A R c fs K J D → YRun X Z ip σ H s₀ s → t D j σ H → Seg (model X.prog X.w) A R (YP X Z xs) n s₀ c ((exec st X.env).wrap K J gd lv) fs s
structure YSs (X : Cx) (xs : List V) (st : List Stmt) (t : TY) : Prop where
  run : ∀ (A : Around) (Z : List Addr) (ip : List (Addr × Obj)) (R : GenEnd) (n j : Nat) (s₀ : Shared) (c : Code) (fs : List Frame) (K : Flow → Sem PySem.Fin) (J : Value → Sem PySem.Fin) (gd : Bool → Bool) (lv : List Value → List Value) (s : Shared) (σ : L2.St) (H : Hp) (D : YEnds),
    YC X Z ip A c fs gd → n + j = xs.length → YK X Z xs ip A R c fs K J D → YRun X Z ip σ H s₀ s → t D j σ H → Seg (model X.prog X.w) A R (YP X Z xs) n s₀ c ((execs st X.env).wrap K J gd lv) fs s
section
variable {X : Cx} {xs : List V} {st : Stmt} {rest : List Stmt}
def YEnds.at (D : YEnds) (j : Nat) : Ends := { nx := D.nx j, rt := D.rt j, bk := D.bk j, ct := D.ct j }
theorem ysp_of {Z : List Addr} {ip zp : List (Addr × Obj)} {D : YEnds} {j : Nat} {s₀ s : Shared} {f : Flow} (e1 : zp.map (·.1) = Z) (e2 : ∀ p ∈ zp, s₀.heap.get? p.1 = some p.2) (h : SP X (zp ++ ip) (D.at j) f s) : YSP X Z ip D j s₀ f s := by
  match f, h with
  | .next, ⟨σ, H, I, q⟩ => exact ⟨σ, H, ⟨zp, e1, e2, I⟩, q⟩
  | .brk, ⟨σ, H, I, q⟩ => exact ⟨σ, H, ⟨zp, e1, e2, I⟩, q⟩
  | .cont, ⟨σ, H, I, q⟩ => exact ⟨σ, H, ⟨zp, e1, e2, I⟩, q⟩
  | .ret u, ⟨v, σ, H, I, r, q⟩ => exact ⟨v, σ, H, ⟨zp, e1, e2, I⟩, r, q⟩
/-- a statement that hands out nothing -/
theorem ys_ps {t : TS} (h : PS X st t) : YS X xs st (fun D j σ H => t (D.at j) σ H) := by
  refine ⟨fun A Z ip R n j s₀ c fs K J gd lv s σ H D g hn k r ht => ?_⟩
  obtain ⟨zp, e1, e2, I⟩ := r
  refine seg_wrap ?_
  rw [g.over]
  exact wpAny_mono (h.run _ s σ H (D.at j) I ht) (fun f s' q => k.ok n j s₀ s' f hn (ysp_of e1 e2 q)) fun x s' q => k.exc n s₀ x s' q
theorem yss_nil : YSs X xs [] (fun D j σ H => D.nx j σ H) :=
  ⟨fun A Z ip R n j s₀ c fs K J gd lv s σ H D g hn k r ht => seg_execs_nil (k.ok n j s₀ s .next hn ⟨σ, H, r, ht⟩)⟩
theorem yss_cons {t u : TY} (a : YS X xs st t) (b : YSs X xs rest u) : YSs X xs (st :: rest) (fun D j σ H => t { D with nx := fun j' σ' H' => u D j' σ' H' } j σ H) := by
  refine ⟨fun A Z ip R n j s₀ c fs K J gd lv s σ H D g hn k r ht => seg_execs_cons (a.run A Z ip R n j s₀ c fs _ J gd lv s σ H { D with nx := fun j' σ' H' => u D j' σ' H' } g hn ⟨fun n' j' s₁ s' f hn' hs => ?_, k.exc⟩ r ht)⟩
  match f, hs with
  | .next, ⟨σ', H', r', q⟩ => exact b.run A Z ip R n' j' s₁ c fs K J gd lv s' σ' H' D g hn' k r' q
  | .brk, hs => exact k.ok n' j' s₁ s' .brk hn' hs
  | .cont, hs => exact k.ok n' j' s₁ s' .cont hn' hs
  | .ret u, hs => exact k.ok n' j' s₁ s' (.ret u) hn' hs
/-- yield e -/
theorem ys_yield {e : Expr} {yp pos : Pos} {te : TE} (he : PE X e te) (hco : X.env.scope.isCoroutine = false := by rfl) (hi : interactive X.env = false := by rfl) :
    YS X xs (.Expr (.Yield (some e) yp) pos) (fun D j σ H => j < xs.length ∧ te σ H fun x H1 => xs[j]? = some x ∧ D.nx (j + 1) σ H1) := by
  refine ⟨fun A Z ip R n j s₀ c fs K J gd lv s σ H D g hn k r ht => ?_⟩
  obtain ⟨hlt, ht⟩ := ht
  obtain ⟨zp, e1, e2, I⟩ := r
  obtain ⟨m, rfl⟩ : ∃ m, n = m + 1 := ⟨n - 1, by omega⟩
  refine seg_Expr_Yield g.split g.gd g.guard ?_ hco hi
  rw [g.over]
  refine wpAny_mono (he.run _ s σ H _ I ht) (fun v s' hv => ?_) fun x s' q => k.exc _ s₀ x s' q
  obtain ⟨x, H1, I1, rv, hx, q⟩ := hv
  intro kap hk
  have r1 : YRun X Z ip σ H1 s₀ s' := ⟨zp, e1, e2, I1⟩
  exact ⟨j, x, ip, σ, H1, hn, hx, rv, r1, fun s2 z => hk .none s2 (k.ok m (j + 1) s2 s2 .next (by omega) ⟨σ, H1, r1.woken g.aside g.ip z, q⟩)⟩
/-! ### yield from -/
theorem seg_from {Z : List Addr} {ip : List (Addr × Obj)} {A : Around} {R : GenEnd} {fs : List Frame} {it : Addr} {ys : List V} {St : Nat → Heap → Prop} {σ : L2.St} {H : Hp} {j0 : Nat} (hip : ∀ p ∈ ip, p.1 ∉ Z) (hpi : ∀ p ∈ X.pn ++ ip, p.1 ≠ it) (hA : Aside X Z)
    (hex : it ∈ X.ex ∨ X.s_0.heap.objs.size ≤ it) (hL : it ≠ X.env.locals) (hcell : ∀ x c, X.env.cells.lookup x = some c → c ≠ it) (hZ : it ∉ Z) (hH : H it = none) (q : QIt X H it ys St)
    (ho : (A.over (.builtin "proto.yield_from" ⟨[.ref it, .bool false, .none], []⟩) fs).handled = none) (hsp : splitAtGen fs = none) (hgd : fs.any Frame.guarded = false) (hxs : ∀ i y, ys[i]? = some y → xs[j0 + i]? = some y)
    (hend : ∀ (n : Nat) (s₀ s : Shared), n + (j0 + ys.length) = xs.length → YRun X Z ip σ H s₀ s → Seg (model X.prog X.w) A R (YP X Z xs) n s₀ (.builtin "proto.yield_from" ⟨[.ref it, .bool false, .none], []⟩) (.pure (.done (.ret .none))) fs s) :
    ∀ (r i n : Nat) (s₀ s : Shared), i + r = ys.length → n + (j0 + i) = xs.length → YRun X Z ip σ H s₀ s → St i s.heap →
      Seg (model X.prog X.w) A R (YP X Z xs) n s₀ (.builtin "proto.yield_from" ⟨[.ref it, .bool false, .none], []⟩) ((model X.prog X.w).den (.builtin "proto.yield_from" ⟨[.ref it, .bool false, .none], []⟩)) fs s := by
  obtain ⟨T, tyT, noClose, noGen⟩ := q.ty
  -- the iterator has turned
  have turned : ∀ {s₀ s : Shared} {h' : Heap} {tk : Nat}, YRun X Z ip σ H s₀ s → (∀ b o, b ≠ it → s.heap.get? b = some o → h'.get? b = some o) → YRun X Z ip σ H s₀ { s with heap := h', toks := tk } := by
    intro s₀ s h' tk r hk
    obtain ⟨zp, e1, e2, I⟩ := r
    refine ⟨zp, e1, e2, I.turned (it := it) hk hH hL hex hcell fun p hp => ?_⟩
    rcases List.mem_append.mp hp with hp | hp
    · exact hpi p (List.mem_append_left _ hp)
    · rcases List.mem_append.mp hp with hp | hp
      · intro e
        refine hZ ?_
        rw [← e, ← e1]
        exact List.mem_map.mpr ⟨p, hp, rfl⟩
      · exact hpi p (List.mem_append_right _ hp)
  intro r
  induction r with
  | zero =>
    intro i n s₀ s hi hn rr hst
    obtain rfl : i = ys.length := by omega
    rw [den_yf]
    unfold Builtin.«proto.yield_from»
    try dsimp only
    refine seg_bind (wpAny_pure ?_)
    try dsimp only
    refine seg_bind (wpAny_attempt (wpAny_holding ?_))
    rw [if_neg Bool.false_ne_true, if_pos (show (Value.none == Value.none) = true from rfl)]
    refine wpAny_bind (wpAny_rule (wpAny_bind (q.done _ s _ _ ho hst fun e h' tk stop hk => ?_)))
    obtain ⟨a, o, vs, rfl, oa, oc, od, o5⟩ := stop
    try dsimp only
    refine seg_bind (wpAny_endsTurn oa oc ?_)
    try dsimp only
    rw [if_pos rfl]
    first
      | refine seg_bind (wpAny_rule ?_)
      | (rw [if_neg Bool.false_ne_true]; refine seg_bind (wpAny_rule ?_))
      | (rw [if_neg Bool.false_ne_true]; refine seg_bind (wpAny_pure ?_); refine seg_bind (wpAny_rule ?_))
    exact seg_bind (wpAny_field oa od o5 (hend n s₀ _ hn (turned rr hk)))
  | succ r ih =>
    intro i n s₀ s hi hn rr hst
    obtain ⟨x, hx⟩ : ∃ x, ys[i]? = some x := ⟨_, List.getElem?_eq_getElem (by omega)⟩
    have hx2 := hxs i x hx
    have hlt := (List.getElem?_eq_some_iff.mp hx2).1
    obtain ⟨m, rfl⟩ : ∃ m, n = m + 1 := ⟨n - 1, by omega⟩
    rw [den_yf]
    unfold Builtin.«proto.yield_from»
    try dsimp only
    refine seg_bind (wpAny_pure ?_)
    try dsimp only
    refine seg_bind (wpAny_attempt (wpAny_holding ?_))
    rw [if_neg Bool.false_ne_true, if_pos (show (Value.none == Value.none) = true from rfl)]
    refine wpAny_bind (wpAny_rule (wpAny_bind (q.item _ i x s _ _ ho hx hst fun v h' tk rv hst' hk => wpAny_pure ?_)))
    have r1 := turned (tk := tk) rr hk
    obtain ⟨oi, hoi, hoc⟩ := tyT (i + 1) h' hst'
    try dsimp only
    refine seg_bind (wpAny_typeOf (T := T) ⟨oi, hoi, hoc⟩ ?_)
    try dsimp only
    first
      | (refine seg_bind (wpAny_of_eq noClose ?_); refine seg_bind (wpAny_pure ?_))
      | refine seg_bind (wpAny_bind (wpAny_of_eq noClose (wpAny_pure ?_)))
      | refine seg_bind (wpAny_of_eq noClose ?_)
    try dsimp only
    refine seg_bind (wpAny_sleptOver hoi hoc noGen (seg_yield hsp rfl hgd ⟨j0 + i, x, ip, σ, H, by omega, hx2, rv, r1, fun s2 z => ?_⟩))
    have r2 := r1.woken hA hip z
    have st2 : St (i + 1) s2.heap := q.frame (i + 1) h' s2.heap hst' fun b o hb e => z.keep b o (fun hm => by
      rcases hb with y | y
      · rw [y] at hm
        exact hZ hm
      · exact y (r1.at hm).1) e
    obtain ⟨oj, hoj, hojc⟩ := tyT (i + 1) s2.heap st2
    show Seg _ _ _ _ m s2 _ (Builtin.Generator.sleptOver (.ref it) false >>= fun _ => _) fs s2
    refine seg_bind (wpAny_sleptOver hoj hojc noGen ?_)
    try dsimp only
    exact seg_bind (wpAny_pure (seg_again (plainId_quiet plain_yf _) (ih (i + 1) m s2 s2 (by omega) (by omega) r2 st2)))
theorem ys_from {e : Expr} {yp pos : Pos} {t : TYf} (he : YfE X e t) (hc : X.A.handled = none) (hi : interactive X.env = false := by rfl) :
    YS X xs (.Expr (.YieldFrom e yp) pos) (fun D j σ H => t σ H fun ys H1 => (∀ i y, ys[i]? = some y → xs[j + i]? = some y) ∧ D.nx (j + ys.length) σ H1) := by
  refine ⟨fun A Z ip R n j s₀ c fs K J gd lv s σ H D g hn k r ht => ?_⟩
  obtain ⟨zp, e1, e2, I⟩ := r
  rw [exec_Expr X.env _ pos hi rfl]
  show Seg _ _ _ _ n s₀ c (.at pos fun _ => ((eval e X.env >>= fun v => (standAt yp >>= fun _ => yieldFrom X.env v)) >>= fun x => dropValue (.YieldFrom e yp) pos x).wrap K J gd lv) fs s
  refine seg_at (segw_bind2 ?_)
  rw [g.over]
  refine wpAny_mono (he.run _ s σ H _ I ht) (fun v s1 hv => ?_) fun x s' q => k.exc n s₀ x s' q
  obtain ⟨T, hT, hne, hit⟩ := hv
  refine seg_at ?_
  show Seg _ _ _ _ n s₀ c ((yieldFrom X.env v).wrap (fun b => (dropValue (.YieldFrom e yp) pos b).wrap K J gd lv) J gd lv) fs s1
  unfold yieldFrom
  refine seg_bind_wrap (wpAny_typeOf hT ?_)
  rw [if_neg (show ¬ ((Value.type T == Value.type "coroutine") = true) by rw [hne]; exact Bool.false_ne_true)]
  refine seg_bind_wrap (wpAny_holding ?_)
  rw [g.over]
  refine wpAny_mono hit (fun u s2 hu => ?_) fun x s' q => k.exc n s₀ x s' q
  obtain ⟨it, H', ys, St, rfl, I2, q1, q2, q3, q4, q5, q6, q7, hxs, hq⟩ := hu
  have r2 : YRun X Z ip σ H' s₀ s2 := ⟨zp, e1, e2, I2⟩
  have hZ : it ∉ Z := fun hm => by
    rw [← e1] at hm
    obtain ⟨p, hp, e⟩ := List.mem_map.mp hm
    exact q5 p (List.mem_append_right _ (List.mem_append_left _ hp)) e
  refine seg_call fun p => seg_from (ys := ys) (j0 := j) g.ip (fun p hp => ?_) g.aside q1 q2 q3 hZ q4 q7 ?_ ?_ ?_ hxs (fun n' s₁ s' hn' r' => ?_) ys.length 0 n s₀ s2 (Nat.zero_add _) hn r2 q6
  · rcases List.mem_append.mp hp with hp | hp
    · exact q5 p (List.mem_append_left _ hp)
    · exact q5 p (List.mem_append_right _ (List.mem_append_right _ hp))
  · show (A.over c fs).handled = none
    rw [g.over]
    exact hc
  · show (splitAtGen fs).map _ = none
    rw [g.split] <;> rfl
  · show (gd false || fs.any Frame.guarded) = false
    rw [g.gd, g.guard] <;> rfl
  · exact seg_leaf (.ok (.ret .none)) (k.ok n' (j + ys.length) s₁ s' .next hn' ⟨σ, H', r', hq⟩)
end
end L2

set_option Elab.async false
set_option linter.all false
set_option maxRecDepth 100000
set_option maxHeartbeats 800000
/-! VxZ: a generator def's promise by its body; its call. -/
namespace L2
open PySem PySem.Spec PyProof.Rows GenW
/-- arguments, heap, what will be handed out, what is wanted at the end, exceptions -/
abbrev SpY := List V → Hp → List V → (Hp → Prop) → XK → Prop
/-- the consumer's objects are as they were at the waking -/
def Still (Z : List Addr) (H : Hp) (s₀ s : Shared) : Prop := ∀ z ∈ Z, H z = none ∧ ∃ o, s₀.heap.get? z = some o ∧ s.heap.get? z = some o
def YEnd (P : Program) (w : World) (outer : List Env) (H : Hp) (s : Shared) (Z : List Addr) (a : Addr) (g : Nat) (Q : Hp → Prop) (E : XK) : GenEnd := fun n s₀ r s1 =>
  ((r = .ok (.ret .none) ∨ r = .ok .next) ∧ ∃ H', n = 0 ∧ s1.os = s.os ∧ AllBare s1.gens ∧ Un (frs outer) [] H H' s.heap s1.heap ∧ HOk P w H' s1.heap ∧ Still Z H' s₀ s1 ∧ Q H') ∨
  ∃ e, r = .error e ∧ CX P w outer H s E e s1 ∧ s1.heap.IsGen a g
def YItm (P : Program) (w : World) (outer : List Env) (H : Hp) (s : Shared) (Z : List Addr) (a : Addr) (g : Nat) (xs : List V) : Protocol := fun n s₀ v s1 kap =>
  ∃ j x H', n + 1 + j = xs.length ∧ xs[j]? = some x ∧ RelV x v ∧ s1.os = s.os ∧ AllBare s1.gens ∧ s1.heap.NoLimit ∧ s1.heap.IsGen a g ∧ Un (frs outer) [] H H' s.heap s1.heap ∧ HOk P w H' s1.heap ∧ Still Z H' s₀ s1 ∧
    ∀ s', Zzz Z s1 s' → kap (.send .none) s'
/-- a generator that has not begun -/
def YMade (P : Program) (w : World) (k : Nat) (outer : List Env) (H : Hp) (s : Shared) (xs : List V) (Q : Hp → Prop) (E : XK) (u : Value) (s' : Shared) : Prop :=
  ∃ (a : Addr) (g : Nat) (c : Code), u = .ref a ∧ s.heap.objs.size ≤ a ∧ a < s'.heap.objs.size ∧ s'.heap.IsGen a g ∧ s'.gens[g]? = some (.fresh c) ∧ s'.os = s.os ∧ AllBare s'.gens ∧ s'.heap.NoLimit ∧ (∀ b o, s.heap.get? b = some o → s'.heap.get? b = some o) ∧
    ∀ (A : Around) (Z : List Addr) (s2 : Shared), Room k A → A.frames = some outer → (∀ z ∈ Z, s'.heap.objs.size ≤ z ∧ ∃ o, s2.heap.get? z = some o ∧ ∀ v, o.data ≠ .cell v) → (∀ b o, s'.heap.get? b = some o → s2.heap.get? b = some o) → s2.os = s.os → AllBare s2.gens →
      Seg (model P w) A (YEnd P w outer H s Z a g Q E) (YItm P w outer H s Z a g xs) xs.length s2 c ((model P w).den c) [] s2
structure YDef (P : Program) (w : World) (K : PySem.W.Frag) (mg : Str → Option Value) (base : Heap) (k : Nat) (f : Addr) (fd : FuncData) (ps : List Str) (sp : SpY) : Prop where
  len : ∀ vs H xs Q E, sp vs H xs Q E → vs.length = ps.length
  run : ∀ (A : Around) (outer : List Env) (s : Shared) (H : Hp) (args : Args) (us : List Value) (vs xs : List V) (Q : Hp → Prop) (E : XK), Room k A → Env0 P w K mg base A outer s H → BindsTo s fd args (ps.zip us) → Vals vs us → sp vs H xs Q E →
    codeAny (model P w) A (.call (.ref f) args) (fun r s' => match r with | .ok (.ret u) => YMade P w k outer H s xs Q E u s' | _ => False) s
/-- the rule: such a def, by its body -/
theorem FunD.okY {P : Program} {w : World} {K : PySem.W.Frag} {mg : Str → Option Value} {base : Heap} {k : Nat} {f : Addr} {fd : FuncData} {x qual : Str} {params : Arguments} {body : List Stmt} {scope : Scope} {dvs : List V} {kws : List (Str × V)} {N ps : List Str} {sp : SpY}
    (F : FunD K x qual params body scope dvs kws f fd) (S : GScope N ps scope) (len : ∀ vs H xs Q E, sp vs H xs Q E → vs.length = ps.length)
    (hbody : ∀ (cdv : Value) (A : Around) (outer : List Env) (s : Shared) (H : Hp) (vs xs : List V) (Q : Hp → Prop) (E : XK) (pn : List (Addr × Obj)), Room k (A.deeper (envOfC qual scope s.heap.objs.size f cdv)) → sp vs H xs Q E →
      ∃ t, YSs (gcxOf P w K mg base N qual scope f cdv A outer s H E pn) xs body t ∧ t { nx := fun j _ H' => j = xs.length ∧ Q H', rt := fun j v H' => v = .non ∧ j = xs.length ∧ Q H' } 0 (start N vs) H) : YDef P w K mg base (k + 1) f fd ps sp := by
  obtain ⟨oc, od, dV, kV, doc, pm, an, cdv, ct, osl, rfl, lk, hcd, _, _⟩ := F.ex
  refine ⟨len, fun A outer s H args us vs xs Q E hr e0 hb r hsp => ?_⟩
  have hl := len _ _ _ _ _ hsp
  have kin : K.In s.heap := e0.mod.kin.keeps fun b o e => (e0.bs b o e).1
  have lim : s.heap.NoLimit := e0.mod.nolimit.keeps fun b o e => (e0.bs b o e).1
  have par : ∀ y ∈ ps.zip us, scope.names.lookup y.1 = some .local ∨ (scope.names.lookup y.1 = some .cell ∧ ((cellsFrom (s.heap.objs.size + 1) scope.names []).lookup y.1).isSome = true) := by
    intro y hy
    obtain ⟨n, v⟩ := y
    exact (S.par n (List.of_mem_zip hy).1).imp id fun q => ⟨q, PySem.W.cellsFrom_some _ _ _ (.inl q)⟩
  refine codeAny_call_generator hr.depth (kin _ _ lk) rfl S.co S.gen rfl (PySem.W.codeRec_of kin hcd) (hb _ _ _ _ (wpAny_newFunctionEnv_cells S.kind par fun env he s1 x => ?_))
  subst he
  have lim1 : s1.heap.NoLimit := lim.keeps x.toInCall.keep
  refine ⟨lim1, ?_⟩
  obtain ⟨h1, tk, es1, hk1⟩ := x.done
  have os1 : s1.os = s.os := by rw [es1]
  have gen1 : s1.gens = s.gens := by rw [es1]
  have kp1 : ∀ b o, s.heap.get? b = some o → s1.heap.get? b = some o := x.toInCall.keep
  have lt1 : s.heap.objs.size < s1.heap.objs.size := x.toInCall.ns.lt
  have made : ∀ (go : Obj) (nm qn : Value) (tk2 : Nat), go.cls = .type "generator" → go.data = .fields #[.int s1.gens.size 0, nm, qn] → go.slots = #[] → (∀ h : Heap, (h.push go).get? h.objs.size = some go) →
      YMade P w (k + 1) outer H s xs Q E (.ref s1.heap.objs.size) { s1 with gens := s1.gens.push (.fresh (.func body (envOfC qual scope s.heap.objs.size f cdv))), toks := tk2, heap := s1.heap.push go } := by
    intro go nm qn tk2 gc gd gsl gp
    have isG : ∀ h : Heap, h.get? s1.heap.objs.size = some go → h.IsGen s1.heap.objs.size s1.gens.size := fun h e => ⟨go, nm, qn, e, gc, gd, gsl⟩
    refine ⟨s1.heap.objs.size, s1.gens.size, _, rfl, Nat.le_of_lt lt1, ?_, isG _ (gp _), Array.getElem?_push_size .., os1, ?_, lim1.keeps fun b o e => Heap.get?_push_of_some _ e, fun b o e => Heap.get?_push_of_some _ (kp1 b o e), ?_⟩
    · show _ < (s1.heap.push _).objs.size
      rw [Heap.size_push]
      exact Nat.lt_succ_self _
    · exact AllBare.push (by rw [gen1]; exact e0.bare) rfl
    intro B Z s2 hrB hfB hZ k2 os2 bare2
    have e0B : Env0 P w K mg base B outer s H := ⟨hfB, e0.mod, e0.bs, e0.bsz, e0.funs, e0.frf, e0.hok, e0.bare⟩
    obtain ⟨t, ht, hq⟩ := hbody cdv B outer s H vs xs Q E [(s1.heap.objs.size, go)] (hrB.deeper _) hsp
    have I1 : Inv (gcxOf P w K mg base N qual scope f cdv B outer s H E []) [] (start N vs) H s1 := inv_startG S hrB.hd e0B hl r x
    have kp2 : ∀ b o, s1.heap.get? b = some o → s2.heap.get? b = some o := fun b o e => k2 b o (Heap.get?_push_of_some _ e)
    have I2 : Inv (gcxOf P w K mg base N qual scope f cdv B outer s H E []) [] (start N vs) H s2 :=
      I1.call' (ch := []) (os2.trans os1.symm) (Un.kept kp2) (I1.hok.kept kp2) bare2 fun b z => by simp at z
    have zlt : ∀ z ∈ Z, s1.heap.objs.size < z := fun z hz => by
      have q : (s1.heap.push go).objs.size ≤ z := (hZ z hz).1
      rw [Heap.size_push] at q
      exact q
    have ea : s2.heap.get? s1.heap.objs.size = some go := k2 _ _ (gp s1.heap)
    -- what is younger than the frame
    have young : ∀ b, s1.heap.objs.size ≤ b → H b = none ∧ b ≠ s.heap.objs.size ∧ b ∉ frs outer ∧ s.heap.objs.size ≤ b ∧ ∀ y c, (cellsFrom (s.heap.objs.size + 1) scope.names []).lookup y = some c → c ≠ b := by
      intro b hb
      refine ⟨I1.hok.fresh hb, Nat.ne_of_gt (Nat.lt_of_lt_of_le lt1 hb), I1.nofs hb, Nat.le_trans (Nat.le_of_lt lt1) hb, fun y c e z => ?_⟩
      obtain ⟨v, ob, ho, _⟩ := I1.cell y c e
      have q := Heap.lt_size ho
      rw [z] at q
      exact absurd (Nat.lt_of_lt_of_le q hb) (Nat.lt_irrefl _)
    have hA : Aside (gcxOf P w K mg base N qual scope f cdv B outer s H E [(s1.heap.objs.size, go)]) Z := fun z hz => by
      obtain ⟨_, y2, _, y4, y5⟩ := young z (Nat.le_of_lt (zlt z hz))
      refine ⟨y4, y2, y5, fun p hp => ?_⟩
      rw [List.mem_singleton.mp hp]
      exact Nat.ne_of_lt (zlt z hz)
    obtain ⟨zp, f1, f2⟩ := snap (h := s2.heap) (Z := Z) fun z hz => (hZ z hz).2
    have r0 : YRun (gcxOf P w K mg base N qual scope f cdv B outer s H E [(s1.heap.objs.size, go)]) Z [] (start N vs) H s2 s2 := by
      refine ⟨zp, f1, fun p hp => (f2 p hp).1, Inv.pinnedG I2 fun p hp => ?_⟩
      rcases List.mem_append.mp hp with z | z
      · rw [List.mem_singleton.mp z]
        obtain ⟨y1, y2, y3, _, _⟩ := young s1.heap.objs.size (Nat.le_refl _)
        exact ⟨ea, y1, y2, y3, fun v q => by rw [gd] at q; cases q⟩
      · rw [List.append_nil] at z
        have hz : p.1 ∈ Z := by
          rw [← f1]
          exact List.mem_map.mpr ⟨p, z, rfl⟩
        obtain ⟨y1, y2, y3, _, _⟩ := young p.1 (Nat.le_of_lt (zlt _ hz))
        exact ⟨(f2 p z).1, y1, y2, y3, (f2 p z).2⟩
    have isG2 : ∀ {ip : List (Addr × Obj)} {s₀ s' : Shared} {σ' : L2.St} {H' : Hp}, YRun (gcxOf P w K mg base N qual scope f cdv B outer s H E [(s1.heap.objs.size, go)]) Z ip σ' H' s₀ s' → s'.heap.IsGen s1.heap.objs.size s1.gens.size := fun {ip s₀ s' σ' H'} rr =>
      isG _ (rr.inv.pin (s1.heap.objs.size, go) (List.mem_append_left _ (List.mem_singleton.mpr rfl))).1
    have still : ∀ {ip : List (Addr × Obj)} {s₀ s' : Shared} {σ' : L2.St} {H' : Hp}, YRun (gcxOf P w K mg base N qual scope f cdv B outer s H E [(s1.heap.objs.size, go)]) Z ip σ' H' s₀ s' → Still Z H' s₀ s' := fun {ip s₀ s' σ' H'} rr z hz => ⟨(rr.at hz).1, (rr.at hz).2.2⟩
    refine seg_func (seg_imp (R := YR (gcxOf P w K mg base N qual scope f cdv B outer s H E [(s1.heap.objs.size, go)]) Z xs (fun v H' => v = .non ∧ Q H') fun e s' => CX P w outer H s E e s' ∧ ∀ p ∈ [(s1.heap.objs.size, go)], s'.heap.get? p.1 = some p.2)
      (Y := YP (gcxOf P w K mg base N qual scope f cdv B outer s H E [(s1.heap.objs.size, go)]) Z xs) (fun n s₀ r' s' hR => ?_) (fun n s₀ v s' kap kap' hkk hY => ?_) xs.length ?_)
    · cases r' with
      | error e =>
        obtain ⟨q1, q2⟩ := hR
        exact .inr ⟨e, rfl, q1, isG _ (q2 (s1.heap.objs.size, go) (List.mem_singleton.mpr rfl))⟩
      | ok fl =>
        cases fl with
        | next => exact False.elim hR
        | brk => exact False.elim hR
        | cont => exact False.elim hR
        | ret u =>
          obtain ⟨v, ip, σ', H', hn, rr, rv, ev, hQ⟩ := hR
          subst ev
          have eu : u = Value.none := rv
          subst eu
          have J := rr.inv
          exact .inl ⟨.inl rfl, H', hn, J.os, J.bare, J.base, J.hok, still rr, hQ⟩
    · obtain ⟨j, y, ip, σ', H', hn, hx, rv, rr, h3⟩ := hY
      have J := rr.inv
      exact ⟨j, y, H', hn, hx, rv, J.os, J.bare, J.nolimit, isG2 rr, J.base, J.hok, still rr, fun s3 z => hkk _ _ (h3 s3 z)⟩
    · refine ht.run B Z [] _ xs.length 0 s2 _ [] _ _ id id s2 (start N vs) H _ ⟨fun p hp => by simp at hp, hA, over_func, rfl, rfl, rfl⟩ (Nat.add_zero _) ⟨fun n j s₀ s' fl hn hs => ?_, fun n s₀ e s' hx => ?_⟩ r0 hq
      · cases fl with
        | next =>
          obtain ⟨σ', H', rr, hj, hQ⟩ := hs
          have hn0 : n = 0 := by omega
          exact seg_end (.ok (.ret .none)) ⟨.non, [], σ', H', hn0, rr, rfl, rfl, hQ⟩
        | brk => obtain ⟨_, _, _, q⟩ := hs; exact False.elim q
        | cont => obtain ⟨_, _, _, q⟩ := hs; exact False.elim q
        | ret u =>
          obtain ⟨v, σ', H', rr, rv, ev, hj, hQ⟩ := hs
          have hn0 : n = 0 := by omega
          exact seg_end (.ok (.ret u)) ⟨v, [], σ', H', hn0, rr, rv, ev, hQ⟩
      · refine seg_wrap ?_
        rw [over_func]
        exact wpAny_mono (show wpAny (model P w) (B.deeper (envOfC qual scope s.heap.objs.size f cdv)) (leaving (envOfC qual scope s.heap.objs.size f cdv) e) (fun _ s3 => CX P w outer H s E e s3 ∧ ∀ p ∈ [(s1.heap.objs.size, go)], s3.heap.get? p.1 = some p.2) (fun _ _ => False) s' from hx) (fun _ s3 q => seg_end (.error e) q) fun _ s3 q => q.elim
  exact made _ _ _ _ rfl rfl rfl fun h => Heap.get?_push_size _ rfl
/-- an expression whose value is a generator that has not begun -/
abbrev TYg := L2.St → Hp → List V → (Hp → Prop) → Prop
structure PY (X : Cx) (k : Nat) (e : Expr) (tg : TYg) (E : XK) : Prop where
  run : ∀ (pins : List (Addr × Obj)) (s : Shared) (σ : L2.St) (H : Hp) (xs : List V) (Q : Hp → Prop), Inv X pins σ H s → tg σ H xs Q → wpAny (model X.prog X.w) X.A (eval e X.env)
    (fun u s' => ∃ H1 sc, Inv X pins σ H1 sc ∧ YMade X.prog X.w k X.stack H1 sc xs Q E u s') X.xe s
end L2

set_option Elab.async false
set_option linter.all false
set_option maxRecDepth 100000
set_option maxHeartbeats 1000000
/-! VxQ: [x for x in g()], g a generator of the program. -/
namespace L2
open PySem PySem.Spec PyProof.Rows GenW
theorem no_cx {P : Program} {w : World} {outer : List Env} {H : Hp} {s : Shared} {e : Value} {s1 : Shared} (h : CX P w outer H s E0 e s1) : False := by
  obtain ⟨_, _, _, _, _, _, _, _, _, _, _, _, z⟩ := h
  exact z
section
variable {X : Cx} {e : Expr} {x : Str} {px pe pos : Pos} {scope : Scope} {k : Nat} {tg : TYg}
theorem pe_lcY (h : PY X k e tg E0) (hr : Room (k + 1) X.A) (hk : scope.kind = .function) (hu : ∀ y ∈ scope.names, scope.names.lookup y.1 = some y.2) (hf : ∀ y ∈ scope.names, y.2 ≠ .free) (hx : scope.names.lookup x = some .local)
    (hs : ∀ v, foldedSetIterable e X.env v = pure v := by intro _; rfl) (hd : (x == ("__debug__" : Str)) = false := by decide) :
    PE X (.ListComp (.Name x pe) [⟨.Name x px, e, [], 0⟩] scope pos) (fun σ H Q => ∃ xs : List V, xs.length ≤ sizeLine ∧ tg σ H xs fun H2 => ∀ p, H2 p = none → Q (.ref p) (upd H2 p (.lst xs))) := by
  refine ⟨fun pins s σ H Q I hq => ?_⟩
  obtain ⟨xs, hxs, hq⟩ := hq
  rw [eval_ListComp]
  refine wpAny_comprehension_free (use := none) rfl hs (closure_ok fun y hy q => absurd q (hf y hy)) hk (fun y hy q => by rw [hu y hy, q]) (thn (h.run pins s σ H xs _ I hq) fun u s1 hg => ?_)
  obtain ⟨H1, sc, I1, a, g, c, rfl, a1, a2, isG, hgs, os1, bare1, lim1, kp1, wake⟩ := hg
  refine wpAny_pyIter_gen isG (wpAny_newObj_type (newEnv_comp ?_) (by show 0 ≤ sizeLine; decide))
  -- the list, the names
  generalize hD : s1.heap.objs.size = D
  generalize hs3 : ({ s1 with heap := s1.heap.push { cls := .type "list", data := .seq ([] : List Value).toArray } } : Shared) = s3
  have h3 : s3.heap = s1.heap.push { cls := .type "list", data := .seq ([] : List Value).toArray } := by rw [← hs3]
  generalize hC : s3.heap.objs.size = C
  have hCD : C = D + 1 := by rw [← hC, h3, Heap.size_push, hD]
  show codeAny _ _ (.compStart (.ListComp (.Name x pe) [⟨.Name x px, e, [], 0⟩] scope pos) 0 (.ref a) (.ref D) (compEnvC scope (cellsFrom (C + 1) scope.names (cloFrom X.env.cells scope.names [])) C X.env)) (compPost (model X.prog X.w) X.A X.xe none (EP X pins σ Q) (.ref D) C) { s3 with heap := pushCells (s3.heap.push { cls := .type "dict", data := .dict #[] }) scope.names }
  generalize hce : compEnvC scope (cellsFrom (C + 1) scope.names (cloFrom X.env.cells scope.names [])) C X.env = ce
  have cL : ce.locals = C := by subst hce; rfl
  have cK : ce.scope.kind = .function := by subst hce; exact hk
  have cX : ce.kindOf x = some .local := by
    subst hce
    exact lookup_relabel_local hx
  have cP : (ce.scope.kind == .class || (ce.scope.kind == .module && ce.locals != ce.globals)) = false := by
    rw [cK]
    rfl
  generalize hs4 : ({ s3 with heap := pushCells (s3.heap.push { cls := .type "dict", data := .dict #[] }) scope.names } : Shared) = s4
  have h4 : s4.heap = pushCells (s3.heap.push { cls := .type "dict", data := .dict #[] }) scope.names := by rw [← hs4]
  have k13 : ∀ b o, s1.heap.get? b = some o → s3.heap.get? b = some o := fun b o q => by rw [h3]; exact Heap.get?_push_of_some _ q
  have k34 : ∀ b o, s3.heap.get? b = some o → s4.heap.get? b = some o := fun b o q => by rw [h4]; exact pushCells_keeps _ _ _ _ (Heap.get?_push_of_some _ q)
  have k14 : ∀ b o, s1.heap.get? b = some o → s4.heap.get? b = some o := fun b o q => k34 b o (k13 b o q)
  have os4 : s4.os = sc.os := by rw [← hs4, ← hs3]; exact os1
  have gens4 : s4.gens = s1.gens := by rw [← hs4, ← hs3]
  have eD : s4.heap.get? D = some (lstObj #[] 0) := k34 D _ (by rw [h3, ← hD]; exact Heap.get?_push_size _ rfl)
  have eC : s4.heap.Ns C fun _ => none := by
    rw [h4, ← hC]
    exact (Heap.Ns.new s3.heap (.type "dict")).keeps (pushCells_keeps _ _)
  have aD : a ≠ D := fun z => by
    rw [← hD] at z
    exact Nat.lt_irrefl _ (z ▸ a2)
  have aC : a ≠ C := fun z => by
    rw [hCD, ← hD] at z
    exact Nat.lt_irrefl _ (Nat.lt_of_lt_of_le (z ▸ a2) (Nat.le_succ _))
  have DC : D ≠ C := fun z => by
    rw [hCD] at z
    exact Nat.lt_irrefl D (by
      have q : D < D + 1 := Nat.lt_succ_self D
      rw [← z] at q
      exact q)
  have scD : sc.heap.objs.size ≤ D := by
    rw [← hD]
    exact Nat.le_trans a1 (Nat.le_of_lt a2)
  have scC : sc.heap.objs.size ≤ C := Nat.le_trans scD (by rw [hCD]; exact Nat.le_succ D)
  have sD : cStatics ≠ D := fun z => by
    obtain ⟨mc, hn, _⟩ := lim1
    have q := hn.lt
    rw [z, ← hD] at q
    exact Nat.lt_irrefl _ q
  have sC : cStatics ≠ C := fun z => by
    obtain ⟨mc, hn, _⟩ := lim1
    have q := hn.lt
    rw [z, hCD, ← hD] at q
    exact Nat.lt_irrefl _ (Nat.lt_of_lt_of_le q (Nat.le_succ _))
  -- the state between two items
  have loop : codeAny (model X.prog X.w) X.A (.compLoop (.ListComp (.Name x pe) [⟨.Name x px, e, [], 0⟩] scope pos) 0 (.ref a) (.ref D) ce) (compPost (model X.prog X.w) X.A X.xe none (EP X pins σ Q) (.ref D) C) s4 := by
    refine compLoop_any (fun n s5 => ∃ (j : Nat) (gs : GenState) (acc : Array Value) (cc : Nat) (m : Str → Option Value), n + j = xs.length ∧ s5.gens[g]? = some gs ∧
      gs.Goes (model X.prog X.w) X.A.in1 (YEnd X.prog X.w X.stack H1 sc [D, C] a g (fun H2 => ∀ p, H2 p = none → Q (.ref p) (upd H2 p (.lst xs))) E0) (YItm X.prog X.w X.stack H1 sc [D, C] a g xs) n (.send .none) (s5.setGen g .running) ∧
      s5.heap.get? D = some (lstObj acc cc) ∧ Vals (xs.take j) acc.toList ∧ s5.heap.Ns C m ∧ s5.heap.IsGen a g ∧ s5.heap.NoLimit ∧ s5.os = sc.os ∧ AllBare s5.gens) ?_ xs.length ?_
    · rintro n s5 ⟨j, gs, acc, cc, m, hn, hg5, go5, d5, v5, c5, i5, l5, o5, b5⟩
      have gl : g < s5.gens.size := (Array.getElem?_eq_some_iff.mp hg5).1
      refine wpAny_gsz (n := g + 1) gl (next_genG (A := X.A) hr.hd l5 hr.depth i5 hg5 (F := fun n s₀ s1 => ∃ H', n = 0 ∧ s1.os = sc.os ∧ AllBare s1.gens ∧ Un (frs X.stack) [] H1 H' sc.heap s1.heap ∧ HOk X.prog X.w H' s1.heap ∧ Still [D, C] H' s₀ s1 ∧ ∀ p, H' p = none → Q (.ref p) (upd H' p (.lst xs)))
        (Er := fun e s1 => CX X.prog X.w X.stack H1 sc E0 e s1 ∧ s1.heap.IsGen a g) go5 (fun v s6 gs' bare6 hv => ?_) (fun s6 hp h' hk => ?_) fun er s6 he => (no_cx he.1).elim)
      · -- an item
        intro hsz
        obtain ⟨j', y, H', hn', hy, rv, o6, b6, l6, i6, un6, hok6, st6, kap⟩ := hv
        obtain ⟨q1, oD, q2, q3⟩ := st6 D List.mem_cons_self
        obtain ⟨z1, oC, z2, z3⟩ := st6 C (List.mem_cons_of_mem _ List.mem_cons_self)
        have d6 : s6.heap.get? D = some (lstObj acc cc) := by
          rw [q3, ← q2]
          exact d5
        have c6 : s6.heap.Ns C m := c5.at' fun o eo => by
          have w : some oC = some o := z2.symm.trans eo
          rw [z3, w]
        obtain ⟨og, nm, qn, g1, g2, g3, g4⟩ := id i6
        refine go_of (s := s6.setGen g gs') g1 g2 g3 (by decide) ?_
        refine wpAny_assign_Name (wpAny_storeName_local (s := s6.setGen g gs') cX (by rw [cL]; exact c6) (fun h7 n7 sb7 => ?_) cP)
        rw [cL] at n7 sb7
        refine wpAny_tests_nil ?_
        rw [if_pos rfl]
        refine wpAny_Name (wpAny_loadName_local cK cX (v := v) (by rw [cL]; exact n7) (by simp) ?_) hd
        have d7 : h7.get? D = some (lstObj acc cc) := (sb7.2 D DC).trans d6
        have sz : acc.size = j := by
          have q := v5.length
          rw [List.length_take] at q
          have q2 : acc.toList.length = acc.size := by simp
          omega
        refine append_at d7 (fun h8 sb8 d8 => ?_) (by rw [sz]; omega)
        have k68 : ∀ b o, b ≠ D → b ≠ C → s6.heap.get? b = some o → h8.get? b = some o := fun b o n1 n2 q => (sb8.2 b n1).trans ((sb7.2 b n2).trans q)
        have c8 : h8.Ns C _ := n7.at' fun o q => (sb8.2 C (Ne.symm DC)).trans q
        have g6 : g < s6.gens.size := by
          have q : (s6.setGen g gs').gens.size = s6.gens.size := setGen_size _ _ _
          have q2 : g + 1 ≤ (s6.setGen g gs').gens.size := hsz
          omega
        have b8 : AllBare (s6.setGen g gs').gens := allBare_setGen b6 bare6
        obtain ⟨mc, ln, lx⟩ := l6
        have zz : Zzz [D, C] s6 (({ s6.setGen g gs' with toks := (s6.setGen g gs').toks + 1, heap := h8 } : Shared).setGen g .running) := by
          refine ⟨rfl, allBare_setGen (s := { s6.setGen g gs' with toks := (s6.setGen g gs').toks + 1, heap := h8 }) b8 rfl, fun b o hb q => ?_, fun z hz => ?_⟩
          · exact k68 b o (fun w => hb (by rw [w]; exact List.mem_cons_self)) (fun w => hb (by rw [w]; exact List.mem_cons_of_mem _ List.mem_cons_self)) q
          · rcases List.mem_cons.mp hz with w | w
            · rw [w]
              exact ⟨_, d8, fun v w => by cases w⟩
            · rw [List.mem_singleton.mp w]
              obtain ⟨o, es, ep, w1, w2, _⟩ := id c8
              exact ⟨o, w1, fun v w => by rw [w2] at w; cases w⟩
        have go8 := kap _ zz
        cases n with
        | zero => exact go8.elim
        | succ n =>
          have jj : j' = j := by omega
          subst jj
          refine ⟨n, Nat.lt_succ_self n, j' + 1, gs', acc.push v, cc + 1, _, by omega, setGen_at g6, go8, d8, ?_, c8, ⟨og, nm, qn, k68 a og aD aC g1, g2, g3, g4⟩, ⟨mc, ln.at' fun o q => k68 _ o sD sC q, lx⟩, o6, b8⟩
          rw [Array.toList_push, List.take_add_one, hy]
          exact v5.append (.cons rv .nil)
      · -- the end
        intro _
        obtain ⟨H', hn0, o6, b6, un6, hok6, st6, qq⟩ := hp
        obtain ⟨q1, oD, q2, q3⟩ := st6 D List.mem_cons_self
        obtain ⟨z1, oC, z2, z3⟩ := st6 C (List.mem_cons_of_mem _ List.mem_cons_self)
        have d6 : s6.heap.get? D = some (lstObj acc cc) := by
          rw [q3, ← q2]
          exact d5
        have c6 : s6.heap.Ns C m := c5.at' fun o eo => by
          have w : some oC = some o := z2.symm.trans eo
          rw [z3, w]
        have v6 : Vals xs acc.toList := by
          have w := v5
          rw [List.take_of_length_le (by omega)] at w
          exact w
        have J : Inv X pins σ (upd H' D (.lst xs)) { s6.setGen g .finished with heap := h' } :=
          I1.drained scD hxs (hk _ _ d6) v6 .nil o6 (allBare_setGen (s := s6) b6 rfl) (un6.trans (Un.kept hk)) (hok6.kept hk) q1
        have nC : (upd H' D (.lst xs)) C = none := by
          rw [upd_ne (Ne.symm DC)]
          exact z1
        obtain ⟨f0, f1, f2, f3, f4, f5⟩ := I1.fpOk scC nC
        refine ⟨m, c6.keeps hk, fun h9 sb9 => ⟨.ref D, _, J.turned (t' := s6.toks) (fun b o hb q => (sb9.2 b hb).trans q) f0 f1 f3 f4 f5, rfl, qq D q1⟩⟩
    · refine ⟨0, .fresh c, #[], 0, _, Nat.add_zero _, ?_, ⟨rfl, ?_⟩, eD, .nil, eC, isG.keeps k14, lim1.keeps k14, os4, by rw [gens4]; exact bare1⟩
      · rw [gens4]
        exact hgs
      · refine wake X.A.in1 [D, C] (s4.setGen g .running) hr.in1 I1.ok.frames (fun z hz => ?_) k14 os4 (allBare_setGen (s := s4) (by rw [gens4]; exact bare1) rfl)
        rcases List.mem_cons.mp hz with w | w
        · rw [w]
          exact ⟨Nat.le_of_eq hD, _, eD, fun v w => by cases w⟩
        · rw [List.mem_singleton.mp w]
          obtain ⟨o, es, ep, w1, w2, _⟩ := id eC
          exact ⟨by rw [hCD, hD]; exact Nat.le_succ D, o, w1, fun v w => by rw [w2] at w; cases w⟩
  exact codeAny_compStart_list loop (wpAny_pyIter_gen (isG.keeps k14) loop)
end
end L2

set_option Elab.async false
set_option linter.all false
set_option maxRecDepth 100000
set_option maxHeartbeats 4000000
/-! VxT: try: .. except (A, B, C) as e: caught = e, the error being a tracked value behind it; raise of a program's error that has its own __init__, over any base. -/
namespace L2
open PySem PySem.Spec PyProof.Rows
section
variable {X : Cx} {pins : List (Addr × Obj)} {σ : St} {H : Hp} {s : Shared}
/-- a record that stands untracked, and was not there at the entry, is tracked from here on -/
theorem Inv.adopt {a : Addr} {o : HO} {oe : Obj} {vs : Array Value} (I : Inv X pins σ H s) (e : s.heap.get? a = some oe) (dv : oe.data = .fields vs) (na : H a = none) (h0 : X.s_0.heap.get? a = none) (hp : ∀ p ∈ X.pn ++ pins, p.1 ≠ a)
    (new : ObjOk X.prog X.w (upd H a o) s.heap a o) : Inv X pins σ (upd H a o) s := by
  have nt : ∀ b u, H b = some u → b ≠ a := fun b u z y => by
    rw [y, na] at z
    cases z
  refine ⟨I.ok, I.os, I.bare, ⟨I.base.keep, I.base.slot, fun b u z n hx => ?_, I.base.there, fun b xs z => ?_, fun b u xs z => ?_, fun b ps z => ?_⟩, I.loc, I.cell, ?_, fun x c z => ?_, fun p hq => ?_, fun b u z => ?_, I.len⟩
  · rw [upd_ne (fun y => by
      rw [y, h0] at z
      cases z)]
    exact I.base.free b u z n hx
  · have q := I.base.tups b xs z
    rw [upd_ne (nt _ _ q)]
    exact q
  · have q := I.base.frzs b u xs z
    rw [upd_ne (nt _ _ q)]
    exact q
  · obtain ⟨m, q⟩ := I.base.tbls b ps z
    exact ⟨m, by rw [upd_ne (nt _ _ q)]; exact q⟩
  · rw [upd_ne (fun y => ?_)]
    · exact I.free
    · obtain ⟨m, ⟨o2, es, ep, ho, hd, _⟩, _⟩ := I.loc
      rw [y, e] at ho
      rw [← Option.some.inj ho, dv] at hd
      cases hd
  · rw [upd_ne (fun y => ?_)]
    · exact I.freeC x c z
    · obtain ⟨v, o2, ho, hd⟩ := I.cell x c z
      rw [y, e] at ho
      rw [← Option.some.inj ho, dv] at hd
      cases hd
  · obtain ⟨q1, q2, q3⟩ := I.pin p hq
    exact ⟨q1, by rw [upd_ne (hp p hq)]; exact q2, q3⟩
  · by_cases hb : b = a
    · subst hb
      rw [upd_same] at z
      cases z
      exact new
    · rw [upd_ne hb] at z
      exact (I.hok b u z).stay (fun _ _ _ q => q) (fun c q => by rw [upd_ne (nt _ _ q)]; exact q) fun c xs q => by rw [upd_ne (nt _ _ q)]; exact q
end
/-- what such a clause wishes of an error of the body: slot i is the clause's name, slot j the kept one -/
def wKept (K : PySem.W.Frag) (cs : List Value) (i j : Nat) (Wout : WX) (D : Ends) : WX := fun cls d σ H =>
  ∃ b, PySem.W.exmAny K cls cs = some b ∧ (b = true → ∃ C dd : Addr, cls = .ref C ∧ d = some dd ∧ ∀ a, H a = none → D.nx (((σ.set i (some (.ref a))).set j (some (.ref a))).set i none) (upd H a (exV a C dd))) ∧ (b = false → Wout cls d σ H)
theorem flying_keeps {B h h' : Heap} {l : List Env} {a : Addr} {Z : Obj → Prop} (k : ∀ b o, h.get? b = some o → h'.get? b = some o) (f : HandSPX.FlyingZ B l a Z h) : HandSPX.FlyingZ B l a Z h' := by
  obtain ⟨f1, f2, f3, oe, vs, T, oT, ts, t1, t2, t3, t4, t5, t6, t7, t8, t9⟩ := f
  refine ⟨fun b o e => k b o (f1 b o e), f2, ?_, oe, vs, T, oT, ts, k _ _ t1, t2, t3, t4, t5, t6, k _ _ t7, t8, t9⟩
  clear t1 t2 t3 t4 t5 t6 t7 t8 t9
  induction l with
  | nil => exact True.intro
  | cons env rest ih =>
    obtain ⟨g1, ⟨L, o, g2, g3, g4, g5⟩, g6⟩ := f3
    exact ⟨g1, ⟨L, o, g2, g3, k _ _ g4, g5⟩, ih g6⟩
section
variable {X : Cx} {x1 x2 x3 n m : Str} {C1 C2 C3 : Addr} {i j kk : Nat} {body : List Stmt} {p1 p2 p3 tp pa pb pc pos pos' : Pos} {tb : WX → TS} {Wout : WX}
theorem ps_try_kept (hs : X.stack = X.env :: X.outer) (hf : X.env.frame = some X.env.locals) (hex : X.ex = []) (hN : X.N.Nodup) (hi : X.N[i]? = some n) (hj : X.N[j]? = some m) (hln : X.env.kindOf n = some .local) (hlm : X.env.kindOf m = some .local)
    (g1 : Gl X x1) (m1 : X.mg x1 = some (.ref C1)) (g2 : Gl X x2) (m2 : X.mg x2 = some (.ref C2)) (g3 : Gl X x3) (m3 : X.mg x3 = some (.ref C3)) (tk : Takes X Wout)
    (hb : ∀ (W : WX) (pn : List (Addr × Obj)) (xe : Value → Shared → Prop), Takes (X.tr pn xe) W → PassesOwn (model X.prog X.w) X.A X.env xe → PSs (X.tr pn xe) body (tb W))
    (hij : i ≠ j := by decide) (d1 : (x1 == ("__debug__" : Str)) = false := by decide) (d2 : (x2 == ("__debug__" : Str)) = false := by decide) (d3 : (x3 == ("__debug__" : Str)) = false := by decide) 
    (hn1 : (n == ("__debug__" : Str)) = false := by decide) (hn2 : (n == ("__classdict__" : Str)) = false := by decide)
    (hsw : swapsWith (.Name n pc) (some (.Name m pb)) pa.line X.env = pure false := by rfl)
    : PS X (.Try body [.ExceptHandler (some (.Tuple [.Name x1 p1, .Name x2 p2, .Name x3 p3] kk tp)) (some n) [.Assign [.Name m pb] (.Name n pc) pa] pos'] [] [] pos) (fun D σ H => tb (wKept X.K [.ref C1, .ref C2, .ref C3] i j Wout D) D σ H) := by
  refine ⟨fun pins s σ H D I h => ?_⟩
  have ok := I.ok
  have frs_eq : X.A.frames = some (X.env :: X.outer) := by
    rw [ok.frames, hs]
  let hd1 : ExceptHandler := .ExceptHandler (some (.Tuple [.Name x1 p1, .Name x2 p2, .Name x3 p3] kk tp)) (some n) [.Assign [.Name m pb] (.Name n pc) pa] pos'
  let xe2 : Value → Shared → Prop := fun e t1 => wpAny (model X.prog X.w) X.A (noteFrame e X.env) (fun _ t2 => wpAny (model X.prog X.w) X.A (setFlight e none) (fun _ t3 => wpAny (model X.prog X.w) X.A (handleBy e X.env [hd1]) (SP X pins D) X.xe t3) X.xe t2) X.xe t1
  have B0 : PSs (X.tr (X.pn ++ pins) xe2) body (tb (wKept X.K [.ref C1, .ref C2, .ref C3] i j Wout D)) := hb _ _ xe2 (fun u s' xx => ?caught) PassesOwn.looking
  case caught =>
    obtain ⟨a, B, sI, pins', σ', H', cls, d, rfl, JT, nb, up, sky, na, os, ag, b, hx, hyes, hno⟩ := xx
    have J : Inv X pins σ' H' sI := JT.ofTry ok
    have sky2 : Sky B (X.env :: X.outer) a (Zc cls d) X.env.locals s'.heap := by
      rw [← hs]
      exact sky
    show wpAny (model X.prog X.w) X.A (noteFrame (.ref a) X.env) _ _ _
    refine Sky.land Zc.steady frs_eq hf sky2 fun h3 fl3 up3 => ?_
    have out : ∀ {h : Heap} {o : Obj} {vs : Array Value}, HandSPX.FlyingZ B (X.env :: X.outer) a (Zc cls d) h → h.get? a = some o → o.data = .fields vs → a ≠ X.env.locals ∧ a ∉ X.fs ∧ a ∉ frs X.stack := by
      intro h o vs fl e dd
      have no : a ∉ frs (X.env :: X.outer) := fun hm => by
        obtain ⟨_, o2, e2, hnf⟩ := fl.2.2.1.mem hm
        rw [e] at e2
        cases e2
        exact hnf _ dd
      refine ⟨fun z => no (List.mem_filterMap.mpr ⟨X.env, List.mem_cons_self, ?_⟩), fun hm => ?_, ?_⟩
      · rw [hf, z]
      · obtain ⟨en, he, q⟩ := List.mem_filterMap.mp hm
        exact no (List.mem_filterMap.mpr ⟨en, List.mem_cons_of_mem _ he, q⟩)
      · rw [hs]
        exact no
    obtain ⟨oe3, vs3, he3, hz3, hd3⟩ := fl3.there
    obtain ⟨nL, nF, nS⟩ := out fl3 he3 hd3
    have J3 : Inv X pins σ' H' { s' with heap := h3 } := J.landed nb fl3.1 (up.trans up3) os ag
    have S3 := J3.suite he3 hd3 na nL nF
    -- the clause's tuple
    refine wpAny_handleBy_cons (codeAny_handlers_test (wpAny_Tuple (wpAny_items_cons (ld_glob (X := X.suite a ((a, oe3) :: (X.pn ++ pins))) S3 g1 m1 (wpAny_items_cons (ld_glob (X := X.suite a ((a, oe3) :: (X.pn ++ pins))) S3 g2 m2 (wpAny_items_cons (ld_glob (X := X.suite a ((a, oe3) :: (X.pn ++ pins))) S3 g3 m3 (wpAny_items_nil ⟨by size_fits, ?_⟩) d3)) d2)) d1)))) (fun q => by cases q)
    have kp : ∀ b o, h3.get? b = some o → (h3.push { cls := .type "tuple", data := .seq [Value.ref C1, .ref C2, .ref C3].toArray }).get? b = some o := fun b o z => Heap.get?_push_of_some _ z
    have LT : PySem.W.Looks (model X.prog X.w) h3 (typeOf (.ref a)) cls := fun A Q E t k q => wpAny_typeOf_ref (k _ _ he3) (by rw [hz3.1]; exact q)
    refine (PySem.W.exm_tup3 (J3.kIn.keeps kp) (LT.keeps kp) (Heap.get?_push_size h3 rfl) hx).here ?_
    have fl5 := flying_keeps kp fl3
    have up5 := (up.trans up3).trans (Heap.UpToSlots.of_keeps kp)
    cases b with
    | true =>
      obtain ⟨C, dd, rfl, rfl, kq⟩ := hyes rfl
      refine codeAny_handlers_suite_as ?_
      refine HandSPX.lands_againZ fl5 fun h4 fl4 up4 => ?_
      obtain ⟨oe4, vs4, he4, hz4, hd4⟩ := fl4.there
      have J4 : Inv X pins σ' H' { s' with heap := h4 } := J.landed nb fl4.1 (up5.trans up4) os ag
      have S4 := J4.suite he4 hd4 na nL nF
      refine store_ok (X := X.suite a ((a, oe4) :: (X.pn ++ pins))) (v := .ref a) S4 hN hi (.inl hln) rfl (fun s5 S5 => ?_) (.inr hln)
      have PA5 : PSs (X.suite a ((a, oe4) :: (X.pn ++ pins))) [.Assign [.Name m pb] (.Name n pc) pa] (tSeq (tAsg (tVar i) (gName j)) tNext) := pss_cons (ps_set hN hj (.inl hlm) (pe_var hi (.inl hln) hn1 hn2) hsw (.inr hlm)) pss_nil
      refine wpAny_mono (PA5.run [] s5 _ H' { nx := fun σ6 H6 => σ6 = (σ'.set i (some (.ref a))).set j (some (.ref a)) ∧ H6 = H', rt := fun _ _ => False, bk := fun _ _ => False, ct := fun _ _ => False } S5 ?_) (fun f s6 hsp => ?_) (fun _ _ z => z.elim)
      · refine ⟨.ref a, ?_, rfl, rfl⟩
        rw [List.getElem?_set_self (by rw [J.len]; exact (List.getElem?_eq_some_iff.mp hi).1)]
      · cases f with
        | next =>
          obtain ⟨σ6, H6, S6, e1, e2⟩ := hsp
          subst e1 e2
          have he6 := (S6.pin (a, oe4) (List.mem_append_left _ List.mem_cons_self)).1
          have new : X.s_0.heap.get? a = none := by
            cases z : X.s_0.heap.get? a with
            | none => rfl
            | some o0 =>
              obtain ⟨o1, z1⟩ := J.base.there a o0 z (by rw [hex]; exact List.not_mem_nil)
              have z2 := nb a o1 z1 nS
              rw [fl3.2.1] at z2
              cases z2
          have I6 : Inv X pins ((σ'.set i (some (.ref a))).set j (some (.ref a))) H6 s6 := S6.unsuite ok
          have I7 := I6.adopt (o := exV a C dd) he6 hd4 na new (fun p hq z => ?_) (exV_ok he6 hz4.1 hz4.2 hd4)
          · exact gone_ok I7 hN hi hln fun s7 J7 => ⟨_, _, J7, kq a na⟩
          · obtain ⟨y1, y2, y3, y4, _⟩ := J.pin p hq
            rw [z] at y1
            have z2 := nb a _ y1 nS
            rw [fl3.2.1] at z2
            cases z2
        | brk => exact hsp.elim fun _ z => z.elim fun _ z => z.2.elim
        | cont => exact hsp.elim fun _ z => z.elim fun _ z => z.2.elim
        | ret u => exact hsp.elim fun _ z => z.elim fun _ z => z.elim fun _ z => z.2.2.elim
    | false =>
      show wpAny _ X.A (handleBy (.ref a) X.env []) _ _ _
      refine wpAny_handleBy_nil ?_
      obtain ⟨k1, k2, k3, oe, vs, T, oT, ts', he, hz, hd, h1, hr⟩ := id fl5
      unfold PySem.passOn
      have fin : wpAny (model X.prog X.w) X.A (setFlight (.ref a) X.env.frame) (fun _ t4 => wpAny (model X.prog X.w) X.A (throw (.ref a) : Sem Flow) (SP X pins D) X.xe t4) X.xe { s' with heap := h3.push { cls := .type "tuple", data := .seq [Value.ref C1, .ref C2, .ref C3].toArray } } := by
        rw [hf]
        exact HandSPX.setFlight_upZ fl5 fun h4 hh4 up4 => wpAny_throw (tk _ _ ⟨a, B, sI, pins, σ', H', cls, d, rfl, J, nb, up5.trans up4, .inr (.inr (by rw [hs]; exact hh4)), na, os, ag, hno rfl⟩)
      refine wpAny_bind (wpAny_field he hd h1 ?_)
      rw [if_neg (show ¬ ((Value.ref T == Value.none) = true) from by simp)]
      first
        | exact wpAny_bind (wpAny_pure (wpAny_bind fin))
        | exact wpAny_bind fin
  refine wpAny_Try_except (wpAny_mono (B0.run [] s σ H D (I.toTry _) h) (fun f s1 hsp => ?_) (fun e s1 he => he))
  cases f with
  | next =>
    obtain ⟨σ2, H2, J2, q⟩ := hsp
    exact wpAny_execs_nil ⟨σ2, H2, J2.ofTry ok, q⟩
  | brk =>
    obtain ⟨σ2, H2, J2, q⟩ := hsp
    exact ⟨σ2, H2, J2.ofTry ok, q⟩
  | cont =>
    obtain ⟨σ2, H2, J2, q⟩ := hsp
    exact ⟨σ2, H2, J2.ofTry ok, q⟩
  | ret u =>
    obtain ⟨v, σ2, H2, J2, r, q⟩ := hsp
    exact ⟨v, σ2, H2, J2.ofTry ok, r, q⟩
end
end L2

set_option Elab.async false
set_option linter.all false
set_option maxRecDepth 100000
set_option maxHeartbeats 4000000
/-! VxU: raise C(v), C an error class of the program with its own __init__. -/
namespace L2
open PySem PySem.Spec PyProof.Rows
section
variable {X : Cx} {CX : CXT} {k : Nat} {C fI : Addr} {fd : FuncData} {ps : List Str} {sp : Sp} {x f : Str} {p pos : Pos} {e : Expr} {es : List Expr} {t : TA} {te : TE}
theorem run_xmk {pins : List (Addr × Obj)} {σ : St} {H : Hp} {s : Shared} {Q : XK} {us zs : List Value} {kw : List (Str × Value)} {vs : List V} (T : Xc X.K C) (iC : PySem.W.findIn X.K (.ref C) "__init__" = some (some (.ref fI))) (tI : PySem.W.typeIn X.K (.ref fI) = some (.type "function"))
    (F1 : FnOk X.prog X.w X.K X.mg X.base CX k fI fd ps sp) (hr : Room (k + 1) X.A) (hx : Passes CX X (fun _ _ _ => False)) (hz : us.length ≤ sizeLine)
    (hb : ∀ (s : Shared) (a : Addr), X.K.In s.heap → BindsTo s fd ⟨Value.ref a :: us, kw⟩ (ps.zip (Value.ref a :: zs))) (I : Inv X pins σ H s) (r : Vals vs zs)
    (h : ∀ a, H a = none → sp (.ref a :: vs) (upd H a (exo a C none)) (fun v H2 => v = .non ∧ ∃ (d : Addr) (fs : List (Str × V)), H2 a = some (exo a C (some d)) ∧ H2 d = some (exd d fs) ∧ H d = none ∧ Q (.ref C) (some d) (upd (del H2 a) d (.xd fs))) (fun _ _ _ => False)) :
    wpAny (model X.prog X.w) X.A (call (.ref C) us kw) (MkP X pins σ Q) X.xe s := by
  obtain ⟨nm, q, N, bs, bm, sn, sub, ab, col, dd, k0, k1, k2, k3, k5, B, newId, initId, bmB, hC, FB, hbm⟩ := T.cls
  have hT : ∀ Y : String, bm.contains (.type Y) = bmB.contains (.type Y) := fun Y => by
    have z := PySem.W.excTail_contains Y _ hbm.tail
    rw [List.contains_cons] at z
    have e : (Value.type Y == Value.ref C) = false := rfl
    rw [e, Bool.false_or] at z
    exact z
  obtain ⟨hp, g, dr, tk, os⟩ := s
  have lo : hp.objs.size ≤ hp.objs.size + 1 := Nat.le_succ _
  have hn : H (hp.objs.size + 1) = none := I.hok.fresh lo
  have hq := h (hp.objs.size + 1) hn
  let h2 : Heap := (hp.push (PySem.W.kdv_tup us)).push (PySem.HandSPX.excO C hp.objs.size)
  have kk : ∀ b o, hp.get? b = some o → h2.get? b = some o := fun b o e => Heap.get?_push_of_some _ (Heap.get?_push_of_some _ e)
  have hget : h2.get? (hp.objs.size + 1) = some (PySem.HandSPX.excO C hp.objs.size) := by heap_get
  have I2 : Inv X pins σ (upd H (hp.objs.size + 1) (exo (hp.objs.size + 1) C none)) ⟨h2, g, dr, tk, os⟩ :=
    I.laid (t' := tk) (o := exo (hp.objs.size + 1) C none) kk lo (exo_ok hget)
  have r2 : Vals (V.ref (hp.objs.size + 1) :: vs) (Value.ref (hp.objs.size + 1) :: zs) := .cons rfl r
  refine wpAny_call (VxS.call_K FB hT (I.kIn _ _ hC) (PySem.W.looks_findIn I.kIn iC) (fun self => PySem.W.bind_fn I.kIn self tI) hz
    (codeAny_mono (F1.run _ X.stack _ _ ⟨Value.ref (hp.objs.size + 1) :: us, kw⟩ (Value.ref (hp.objs.size + 1) :: zs) _ _ (fun _ _ _ => False) (hr.make C us kw) (I2.env0.make C us kw) (hb _ _ I2.kIn) r2 hq) fun r s' hq' => ?_))
  match r, hq' with
  | .error er, hq' => exact hx pins σ _ _ er s' I2 hq'
  | .ok (.ret u), hq' =>
    obtain ⟨v, H2, os2, bare2, un2, hok2, rv, ev, d, fs, ea, ed, hd1, q2⟩ := hq'
    subst ev
    obtain ⟨h3, g2, d2, t2, os'⟩ := s'
    exact ⟨rv, mk_end (raises_own T.exC T.tyC) I lo kk un2 hok2 os2 bare2 ea ed hd1 q2⟩
  | .ok .next, hq' => exact hq'.elim
  | .ok .brk, hq' => exact hq'.elim
  | .ok .cont, hq' => exact hq'.elim
/-- raise C(e): W is what is wished of the error -/
def tX1e (C : Addr) (f : Str) (te : TE) : St → Hp → XK → Prop := fun σ H Q => te σ H fun u H1 => ∃ v, [u] = [v] ∧ ∀ dd H', H1 dd = none → Same H1 H' → H' dd = some (.xd [(f, v)]) → Q (.ref C) (some dd) H'
theorem pmk_x1 (B : XK1 X.prog X.w X.K X.mg X.base x f C) (hr : Room 2 X.A) (hg : Gl X x) (he : PE X e te) (hdb : (x == ("__debug__" : Str)) = false := by decide) (hs : starEach [e] X.env = (false, eval e X.env) :: starEach [] X.env := by rfl) (hpl : (backTo pos (starEach [] X.env)).any (·.1) = false := by rfl) :
    PMk X (.Call (.Name x p) [e] [] pos) (tX1e C f te) := by
  obtain ⟨fI, fd, i1, i2, F, bd, _⟩ := B.ex
  intro pins s σ H Q I h
  refine wpAny_Call_Name_kw (ld_glob I hg B.hm ?_ hdb)
  refine PySem.W.callWith_K (h₀ := X.base) I.ok.mod.kin B.T.kC (thn ((pa_cons he pa_nil hs).run pos pins s σ H (fun vs H1 => ∃ v, vs = [v] ∧ ∀ dd H', H1 dd = none → Same H1 H' → H' dd = some (.xd [(f, v)]) → Q (.ref C) (some dd) H') I ?_) fun us s1 hh => ?_) hs hpl
  · exact h
  obtain ⟨vs, H1, I1, r1, v, rfl, q⟩ := hh
  have hl : us.length = 1 := r1.length.symm
  refine ⟨I1.kIn, run_xmk (us := us) (vs := [v]) B.T i1 i2 F hr pass0 (by rw [hl]; decide) (fun s a kin => ?_) I1 r1 fun a ha => ⟨a, v, rfl, upd_same, fun dx n ne => ⟨rfl, dx, [(f, v)], upd_same, (by rw [upd_ne ne, upd_same]), ?_, q dx _ ?_ (fun b o z => ?_) upd_same⟩⟩⟩
  · have z := bd s (Value.ref a :: us) kin (by rw [List.append_nil, List.length_cons, hl]; rfl)
    rw [List.append_nil] at z
    exact z
  · rw [← n, upd_ne ne]
  · rw [← n, upd_ne ne]
  · have hd : H1 dx = none := by rw [← n, upd_ne ne]
    rw [upd_ne (ne_of_none z hd), del_ne (ne_of_none z ha), upd_ne (ne_of_none z ha), upd_ne (ne_of_none z hd), upd_ne (ne_of_none z ha)]
    exact z
/-- raise C(e) -/
theorem ps_x1 {W : WX} {pos2 : Pos} (hc : X.calm = true) (tk : Takes X W) (B : XK1 X.prog X.w X.K X.mg X.base x f C) (hr : Room 2 X.A) (hg : Gl X x) (he : PE X e te) (hdb : (x == ("__debug__" : Str)) = false := by decide)
    (hs : starEach [e] X.env = (false, eval e X.env) :: starEach [] X.env := by rfl) (hpl : (backTo pos (starEach [] X.env)).any (·.1) = false := by rfl) :
    PS X (.Raise (some (.Call (.Name x p) [e] [] pos)) none pos2) (fun _ σ H => tX1e C f te σ H fun cls d H' => W cls d σ H') := ps_raise hc tk (pmk_x1 B hr hg he hdb hs hpl)
end
end L2

set_option Elab.async false
set_option linter.all false
set_option maxRecDepth 100000
set_option maxHeartbeats 4000000
/-! VxK: list.count of a truth value -/
namespace L2
open PySem PySem.Spec PyProof.Rows
def isB (b : Bool) (v : Value) : Bool := match v with
  | .bool c => c == b
  | _ => false
theorem isB_at {A : Around} {s : Shared} {b : Bool} : ∀ {bs : List Bool} {us : List Value}, Vals (bs.map V.bl) us → ∀ y ∈ us, SeqAt.EqAt A s y (.bool b) (isB b y)
  | [], _, r, y, hy => by
    cases r
    cases hy
  | c :: bs, _, r, y, hy => by
    cases r with
    | cons r1 r2 =>
      cases r1
      rcases List.mem_cons.mp hy with e | e
      · rw [e]
        exact SeqAt.EqAt.bool_bool c b
      · exact isB_at r2 y e
theorem isB_count {b : Bool} : ∀ {bs : List Bool} {us : List Value}, Vals (bs.map V.bl) us → us.countP (isB b) = bs.count b
  | [], _, r => by
    cases r
    rfl
  | c :: bs, _, r => by
    cases r with
    | cons r1 r2 =>
      cases r1
      rw [List.countP_cons, List.count_cons, isB_count r2] <;> rfl
def rCntB (K : PySem.W.Frag) : V → List V → Hp → VK → Prop := fun x xs H Q => ∃ (p : Addr) (bs : List Bool) (b : Bool), x = .ref p ∧ xs = [.bl b] ∧ SqL K H p (bs.map V.bl) ∧ Q (.int (bs.count b : Nat)) H
theorem mt_countB {X : Cx} : MtR X "list.count" (rCntB X.K) := by
  intro pins s σ H x xs v us Q I rx rxs h
  obtain ⟨p, bs, b, rfl, rfl, hs, q⟩ := h
  cases rx
  obtain ⟨u, rfl, ru⟩ := rxs.one
  cases ru
  obtain ⟨its, rv, ⟨o, n, ho, hc, hdn, hd⟩, hlen⟩ := I.list hs
  obtain ⟨cls, dd, data, sl⟩ := o
  dsimp only at hc hd
  subst hc hd
  refine call_meets PySem.F.slot_list_count ⟨_, ho, rfl⟩ PySem.F.entry_list_count (PySem.F.args_list_count_2 _ _)
    (SeqAt.list_countAt p its.toArray n dd sl (.bool b) (isB b)) ⟨ho, fun y hy => isB_at rv y (by simpa using hy), ?_⟩
  refine ⟨.int (bs.count b : Nat), H, I.tok _, ⟨s.toks, ?_⟩, q⟩
  have e : its.countP (isB b) = bs.count b := isB_count rv
  show Value.int ((its.toArray.toList.countP (isB b) : Nat) : Int) s.toks = _
  rw [show its.toArray.toList = its from rfl, e]
end L2

set_option Elab.async false
set_option linter.all false
set_option maxRecDepth 100000
set_option maxHeartbeats 2000000
/-! VxP: a value's type and what isinstance says of it, for values that are data. -/
namespace L2
open PySem PySem.Spec PyProof.Rows
def tyN : PyData → String
  | .none => "NoneType"
  | .bool _ => "bool"
  | .int _ => "int"
  | .str _ => "str"
  | .list _ => "list"
  | .tuple _ => "tuple"
  | .dict _ => "dict"
theorem ty_lst {K : PySem.W.Frag} {H : Hp} {a : Addr} {xs : List V} (h : SqL K H a xs) : TyX K H (.ref a) (.type "list") := by
  rcases h with h | ⟨o, its, n, e, c, _⟩
  · rcases h with h | ⟨o, h⟩
    · exact .base (.lst h)
    · exact .base (.frz h)
  · exact .kList e c
theorem ty_tup {K : PySem.W.Frag} {H : Hp} {a : Addr} {xs : List V} (h : SqT K H a xs) : TyX K H (.ref a) (.type "tuple") := by
  rcases h with h | ⟨o, its, n, e, c, _⟩
  · rcases h with h | ⟨o, h⟩
    · exact .base (.tup h)
    · exact .fTuple h
  · exact .kTuple e c
theorem Sd.ty {K : PySem.W.Frag} {H : Hp} {v : V} {d : PyData} (h : Sd K H v d) : TyX K H v (.type (tyN d)) := by
  cases h with
  | non => exact .base .non
  | bl b => exact .base (.bl b)
  | int i => exact .base (.int i)
  | str x => exact .base (.str x)
  | lst h _ => exact ty_lst h
  | tup h _ => exact ty_tup h
  | emp h => exact .base (.dK h)
  | one h _ => exact .base (.dK h)
/-- isinstance's answer -/
def isD (d : PyData) (t : String) : Bool := tyN d == t || (t == "int" && tyN d == "bool")
def plainT (t : String) : Bool := ["int", "bool", "str", "tuple", "list", "dict"].contains t
theorem kit_data {K : PySem.W.Frag} (d : PyData) {t : String} (h : plainT t = true) : PySem.W.kitOne K (.type (tyN d)) (.type t) = some (isD d t) := by
  have e : t = "int" ∨ t = "bool" ∨ t = "str" ∨ t = "tuple" ∨ t = "list" ∨ t = "dict" := by
    unfold plainT at h
    simpa using h
  have key : kitB (tyN d) t = some (isD d t) := by
    rcases e with rfl | rfl | rfl | rfl | rfl | rfl <;> cases d <;> first | decide +kernel | rfl
  exact kit_ty key
section
variable {X : Cx}
/-- isinstance(v, T) of data -/
def rIsD (K : PySem.W.Frag) : List V → Hp → VK → Prop := fun xs H Q => ∃ (v : V) (d : PyData) (t : String), xs = [v, .ty t] ∧ plainT t = true ∧ Sd K H v d ∧ Q (.bl (isD d t)) H
theorem call_isD : CallR X (.builtin "isinstance") (rIsD X.K) := by
  intro pins s σ H xs us Q I r h
  obtain ⟨v, d, t, rfl, ht, hv, q⟩ := h
  exact call_isi pins s σ H _ us Q I r ⟨v, .ty t, _, .type t, _, rfl, .ty t, hv.ty, kit_data d ht, q⟩
end
end L2

set_option Elab.async false
set_option linter.all false
set_option maxRecDepth 100000
/-! VxTy: != of built-in types. -/
namespace PySem.TypeEq
open Sem (wp)
theorem slot_type_ne : Slot "type" (cmpInfo .NotEq).2.1 "object.__ne__" :=
  .of (owner := "object") (n := "__ne__") (by rw [typeLookup_type, builtinLookup_eq_fast]; kernel_rfl) (by decide +kernel) (by decide +kernel) (by decide +kernel)
    (by first | exact .inl (by decide +kernel) | exact .inr (by decide +kernel)) (by rw [isSubtype_type]; kernel_rfl)
theorem slot_type_ne_refl : Slot "type" (cmpInfo .NotEq).2.2 "object.__ne__" :=
  .of (owner := "object") (n := "__ne__") (by rw [typeLookup_type, builtinLookup_eq_fast]; kernel_rfl) (by decide +kernel) (by decide +kernel) (by decide +kernel)
    (by first | exact .inl (by decide +kernel) | exact .inr (by decide +kernel)) (by rw [isSubtype_type]; kernel_rfl)
section
variable {prog : Program} {w : World} {A : Around} {E : Value → Shared → Prop} {s : Shared}
theorem ne_entry_same {X : String} (hX : ∀ s' : Shared, s'.TypeIs (.type X) "type") {Q : PySem.Fin → Shared → Prop} (q : Q (.done (.ret (.bool false))) s) : wpAny (model prog w) A (Builtin.«object.__ne__» ⟨[.type X, .type X], []⟩) Q E s := by
  unfold Builtin.«object.__ne__»
  repeat (first
    | with_reducible refine wpAny_cRoomFor_byValue rfl ?_
    | (refine wpAny_bind (m := callSpecialIfBound? (.type X) (Str.ofString "__eq__") [.type X])
        (wpAny_callSpecialIfBound?_slot (hX s) slot_type_eq (call_gives slot_type_eq (hX s) F.entry_object_eq (F.args_object_eq_2 _ _) (object_eq_same rfl (by simp)) ?_)))
    | wp_step)
  exact wpAny_bind (wpAny_truthy_bool (wpAny_pure q))
theorem ne_entry_other {X Y : String} (hX : ∀ s' : Shared, s'.TypeIs (.type X) "type") (hne : (Value.type X == Value.type Y) = false) {Q : PySem.Fin → Shared → Prop} (q : Q (.done (.ret .notImplemented)) s) : wpAny (model prog w) A (Builtin.«object.__ne__» ⟨[.type X, .type Y], []⟩) Q E s := by
  unfold Builtin.«object.__ne__»
  repeat (first
    | with_reducible refine wpAny_cRoomFor_byValue rfl ?_
    | (refine wpAny_bind (m := callSpecialIfBound? (.type X) (Str.ofString "__eq__") [.type Y])
        (wpAny_callSpecialIfBound?_slot (hX s) slot_type_eq (call_gives slot_type_eq (hX s) F.entry_object_eq (F.args_object_eq_2 _ _) (object_eq_other rfl hne) ?_)))
    | wp_step)
  exact wpAny_pure q
theorem ne_type_same {X : String} {Q : Value → Shared → Prop} (hX : ∀ s' : Shared, s'.TypeIs (.type X) "type") (h : Q (.bool false) s) : wpAny (model prog w) A (compareOp .NotEq (.type X) (.type X)) Q E s := by
  show wpAny _ A (richCompare .NotEq _ _) Q E s
  exact wpAny_richCompare_same (T := "type") (hX s) (hX s) slot_type_ne
    (wpAny_call_entry slot_type_ne (hX s) F.cmpEntry_ne (ne_entry_same hX ⟨_, rfl, (by intro e; cases e), h⟩) (F.cmpArgs_ne _ _))
theorem ne_type_other {X Y : String} {Q : Value → Shared → Prop} (hX : ∀ s' : Shared, s'.TypeIs (.type X) "type") (hY : ∀ s' : Shared, s'.TypeIs (.type Y) "type") (hne : (Value.type X == Value.type Y) = false) (h : Q (.bool true) s) : wpAny (model prog w) A (compareOp .NotEq (.type X) (.type Y)) Q E s := by
  have hne' : (Value.type Y == Value.type X) = false := by
    rw [Bool.eq_false_iff] at hne ⊢
    intro e
    exact hne (by rw [beq_iff_eq] at e ⊢; exact e.symm)
  show wpAny _ A (richCompare .NotEq _ _) Q E s
  simp only [richCompare, cmpInfo_NotEq, (hX s).oneThing_none]
  try with_reducible refine wpAny_holding ?_
  refine wpAny_bind (wpAny_cRoomFor_byValue rfl ?_)
  refine wpAny_bind (wpAny_typeOf (hX s) (wpAny_bind (wpAny_typeOf (hY s) ?_)))
  simp only [bne_self_eq_false, Bool.false_eq_true, if_false, pure_bind, Bool.not_false, if_true]
  refine wpAny_bind (wpAny_tryCompare_declines (hX s) slot_type_ne (wpAny_call_entry slot_type_ne (hX s) F.cmpEntry_ne (ne_entry_other hX hne ⟨_, rfl, rfl, ?_⟩) (F.cmpArgs_ne _ _)))
  refine wpAny_bind (wpAny_tryCompare_declines (hY s) slot_type_ne_refl (wpAny_call_entry slot_type_ne_refl (hY s) F.cmpEntry_ne (ne_entry_other hY hne' ⟨_, rfl, rfl, ?_⟩) (F.cmpArgs_ne _ _)))
  refine wpAny_bind (wpAny_rule (wpAny_bind (wpAny_of_eq (isSame_plain rfl) (wpAny_pure ?_))))
  rw [hne]
  exact h
end
end PySem.TypeEq

set_option Elab.async false
set_option linter.all false
set_option maxRecDepth 100000
set_option maxHeartbeats 2000000
/-! VxSt: type(v) of data, == and != of built-in types, set(t) of a tuple of integers, sorted of a set of any size. -/
namespace L2
open PySem PySem.Spec PyProof.Rows
/-- the heap has grown; nothing else is told of the two states -/
structure Grown (s s' : Shared) : Prop where
  old : ∀ b o, s.heap.get? b = some o → s'.heap.get? b = some o
  big : s.heap.objs.size ≤ s'.heap.objs.size
  gens : s'.gens = s.gens
  os : s'.os = s.os
section
variable {P : Program} {w : World} {A : Around} {E : Value → Shared → Prop} {s : Shared}
/-- sorted(x), where gathering x gives integers, however many -/
theorem sorted_gathered {x : Value} {ns : List Int} {Q : Value → Shared → Prop} (small : ns.length ≤ sizeLine)
    (gather : ∀ R : List Value → Shared → Prop, (∀ s1 vs ms, Grown s s1 → IntsAre vs ms → ms.Perm ns → R vs s1) → wpAny (model P w) A.in1 (collect x) R E s)
    (after : ∀ s' p out c ms, Grown s s' → s.heap.objs.size ≤ p → s'.heap.get? p = some (seqObj "list" (List.toArray out) c) → IntsAre out ms → ms.Perm ns → ms.Pairwise (· ≤ ·) → Q (.ref p) s') :
    wpAny (model P w) A (call (.builtin "sorted") [x]) Q E s := by
  apply Calls.call_function_entry kind_sorted plain_sorted entry_sorted (args_sorted1 x)
  unfold Builtin.«sorted»
  apply wpAny_bind
  apply wpAny_pure
  apply wpAny_bind
  apply gather
  intro s1 vs ms gr whole_ perm
  have room : vs.length ≤ sizeLine := by
    rw [whole_.length, perm.length_eq]
    exact small
  apply wpAny_bind
  refine wpAny_newList ?_ room
  have made : (s1.heap.push (seqObj "list" vs.toArray 0)).get? s1.heap.objs.size = some (seqObj "list" vs.toArray 0) := Heap.get?_push_size _ rfl
  apply wpAny_bind
  apply wpAny_holding
  refine wpAny_call_entry slot_list_sort ⟨_, made, rfl⟩ entry_list_sort ?_ (args_list_sort _)
  refine SrtO.list_sort_ord SrtO.swo_int made room (fun two => SrtO.ints_sortable whole_ two) fun out so st => ?_
  obtain ⟨i1, i2, i3⟩ := SrtO.ints_out whole_ so st
  obtain ⟨c, lies⟩ := sortedHeap_at (vs := vs) (out := out.toArray) made
  refine ⟨_, rfl, wpAny_pure ⟨_, rfl, after _ _ out c _ ⟨fun b u e => ?_, ?_, gr.gens, gr.os⟩ gr.big lies i1 (i2.trans perm) i3⟩⟩
  · have e1 := gr.old b u e
    have lt := Heap.lt_size e1
    have ne : b ≠ s1.heap.objs.size := Nat.ne_of_lt lt
    refine Eq.trans (sortedHeap_old ne ?_) (Heap.get?_push_of_some _ e1)
    rw [size_push']
    exact Nat.lt_succ_of_lt lt
  · exact Nat.le_trans gr.big (Nat.le_of_lt (Heap.lt_size lies))
theorem sorted_setN {a : Addr} {S : Int → Bool} {n : Nat} {Q : Value → Shared → Prop} (R : SetR w s.heap a S n) (hh : A.handled = none) (small : n ≤ sizeLine)
    (after : ∀ s' p out c (ms : List Int), Grown s s' → s.heap.objs.size ≤ p → s'.heap.get? p = some (seqObj "list" (List.toArray out) c) → IntsAre out ms → ms.Pairwise (· < ·) → (∀ k, k ∈ ms ↔ S k = true) → ms.length = n → Q (.ref p) s') :
    wpAny (model P w) A (call (.builtin "sorted") [.ref a]) Q E s := by
  obtain ⟨o, es, ep, t, at_, kind, data, keys, dis, mem, few, fit, count, ris, led⟩ := R
  have len : (es.toList.map keyOf).length = n := by
    rw [List.length_map, Array.length_toList]
    exact count
  refine sorted_gathered (ns := es.toList.map keyOf) (by rw [len]; exact small) (fun G more => ?_) fun s' p out c ms gr hp lies whole_ perm asc => ?_
  · refine collect_set (A := A.in1) hh ⟨o, at_, kind.1, data⟩ fit few ris led fun s1 vs keep big gens os perm => more s1 vs (vs.map Builtin.Re.reRawOf) ⟨keep, big, gens, os⟩ (ints_of vs fun v hv => ?_) ?_
    · obtain ⟨e, he, q⟩ := List.mem_map.mp (perm.mem_iff.mp hv)
      obtain ⟨k, tk, h1, _⟩ := keys e he
      exact ⟨k, tk, q ▸ h1⟩
    · have q := perm.map Builtin.Re.reRawOf
      rwa [List.map_map] at q
  · refine after s' p out c ms gr hp lies whole_ (lt_of_le_nodup _ asc (perm.nodup_iff.mpr dis)) (fun k => ?_) (perm.length_eq.trans len)
    rw [perm.mem_iff, ← mem k]
end
section
variable {X : Cx}
/-- set(t), a tuple of whole_ -/
def rSetT (K : PySem.W.Frag) (w : World) : List V → Hp → VK → Prop := fun vs H Q => ∃ (p : Addr) (ns : List Int), vs = [.ref p] ∧ SqT K H p (ns.map V.int) ∧ ns.length + 1 < scanBound ∧ ∀ a c, H a = none → c ≤ ns.length → Q (.ref a) (upd H a (SetO w a (fun j => decide (j ∈ ns)) c))
theorem cr_setT (hc : X.calm = true) : CallR X (.type "set") (rSetT X.K X.w) := by
  intro pins s σ H vs us Q I r h
  obtain ⟨p, ns, rfl, hq, hb, q⟩ := h
  rw [Vals.ref1 r]
  obtain ⟨its, rv, pt, hz⟩ := I.tuple hq
  refine call_set_tupI ns (I.ok.hd hc) (show s.heap.IsTuple p its.toArray from pt) (ints_of_vals rv) hb fun h' tk c R hcn k => ?_
  exact ⟨.ref _, upd H s.heap.objs.size (SetO X.w s.heap.objs.size (fun j => decide (j ∈ ns)) c), I.laid (t' := tk) k (Nat.le_refl _) (setO_new R), rfl, q _ c (I.hok.fresh (Nat.le_refl _)) hcn⟩
/-- sorted(found), a set of whole_ of any size -/
def rSortedSetN (w : World) : List V → Hp → VK → Prop := fun vs H Q => ∃ (a : Addr) (S : Int → Bool) (n : Nat), vs = [V.ref a] ∧ H a = some (SetO w a S n) ∧ n ≤ sizeLine ∧
  ∀ (ns : List Int) (p : Addr), ns.Pairwise (· < ·) → (∀ k : Int, k ∈ ns ↔ S k = true) → ns.length = n → H p = none → Q (.ref p) (upd H p (.lst (ns.map V.int)))
theorem cr_sortedSetN (hc : X.calm = true) : CallR X (.builtin "sorted") (rSortedSetN X.w) := by
  intro pins s σ H vs us Q I r h
  obtain ⟨a, S, n, rfl, ha, hz, q⟩ := h
  have R := setO_get I ha
  rw [Vals.ref1 r]
  refine sorted_setN R (I.ok.hd hc) hz fun s' p out c ns gr hp lies whole_ asc mem len => ?_
  have room : (ns.map V.int).length ≤ sizeLine := by
    rw [List.length_map, len]
    exact hz
  have fresh : H p = none := I.hok.fresh hp
  have whole : s' = { s with heap := s'.heap, gens := s'.gens, drawn := s'.drawn, toks := s'.toks } := by
    obtain ⟨_, _, _, _, os'⟩ := s'
    have eo : os' = s.os := gr.os
    rw [eo]
  rw [whole]
  refine ⟨.ref p, upd H p (.lst (ns.map V.int)), ?_, rfl, q ns p asc mem len fresh⟩
  exact I.call (ch := []) (Un.laid gr.old hp fresh) (I.hok.laid gr.old hp ⟨room, out, c, vals_of_ints whole_, lies⟩) (by rw [gr.gens]; exact I.bare) fun _ z => nomatch z
/-- type(v) of data -/
theorem sd_typeIs {pins : List (Addr × Obj)} {σ : L2.St} {H : Hp} {s : Shared} {v : V} {u : Value} {d : PyData} (I : Inv X pins σ H s) (r : RelV v u) (h : Sd X.K H v d) : s.TypeIs u (tyN d) := by
  cases h with
  | non => cases (show u = Value.none from r); exact rfl
  | bl b => cases (show u = Value.bool b from r); exact rfl
  | int i => obtain ⟨t, rfl⟩ := (show ∃ t, u = Value.int i t from r); exact rfl
  | str x => obtain ⟨t, rfl⟩ := (show ∃ t, u = Value.str x t from r); exact rfl
  | lst h _ =>
    obtain ⟨its, rv, hl, hz⟩ := I.list h
    obtain ⟨o, n, ho, hc, _⟩ := hl
    cases (show u = Value.ref _ from r)
    exact ⟨o, ho, hc⟩
  | tup h _ =>
    obtain ⟨its, rv, hl, hz⟩ := I.tuple h
    obtain ⟨o, ho, hc, _⟩ := hl
    cases (show u = Value.ref _ from r)
    exact ⟨o, ho, hc⟩
  | emp e =>
    cases (show u = Value.ref _ from r)
    obtain ⟨_, _, vs, _, o, es, ep, h1, h2, _⟩ := I.hok _ _ e
    exact ⟨o, h1, h2.1⟩
  | one e _ =>
    cases (show u = Value.ref _ from r)
    obtain ⟨_, _, vs, _, o, es, ep, h1, h2, _⟩ := I.hok _ _ e
    exact ⟨o, h1, h2.1⟩
def rTyD (K : PySem.W.Frag) : List V → Hp → VK → Prop := fun xs H Q => ∃ (v : V) (d : PyData), xs = [v] ∧ Sd K H v d ∧ Q (.ty (tyN d)) H
theorem call_tyD : CallR X (.type "type") (rTyD X.K) := by
  intro pins s σ H xs us Q I r h
  obtain ⟨v, d, rfl, hv, q⟩ := h
  obtain ⟨u, rfl, ru⟩ := vals1 r
  exact call_type_of (sd_typeIs I ru hv) (by cases d <;> simp only [tyN] <;> decide +kernel) ⟨.ty (tyN d), H, I, rfl, q⟩
/-- T != U of built-in types -/
def tyOk (t : String) : Bool := ["NoneType", "bool", "int", "str", "tuple", "list", "dict"].contains t
theorem meta_tyOk {t : String} (h : tyOk t = true) : ∀ s' : Shared, s'.TypeIs (.type t) "type" := by
  have e : t = "NoneType" ∨ t = "bool" ∨ t = "int" ∨ t = "str" ∨ t = "tuple" ∨ t = "list" ∨ t = "dict" := by
    unfold tyOk at h
    simpa using h
  rcases e with rfl | rfl | rfl | rfl | rfl | rfl | rfl
  · exact PySem.TypeEq.meta_NoneType
  · exact PySem.TypeEq.meta_bool
  · exact PySem.TypeEq.meta_int
  · exact PySem.TypeEq.meta_str
  · exact PySem.TypeEq.meta_tuple
  · exact PySem.TypeEq.meta_list
  · exact PySem.TypeEq.meta_dict
theorem tyN_ok (d : PyData) : tyOk (tyN d) = true := by cases d <;> simp only [tyN] <;> decide
def rNeTy : R2 := fun x y H Q => ∃ m n : String, x = .ty m ∧ y = .ty n ∧ tyOk m = true ∧ tyOk n = true ∧ Q (.bl (!decide (m = n))) H
theorem op_neTy : OpR X (compareOp .NotEq) rNeTy := by
  intro pins s σ H x y v u Q I rx ry h
  obtain ⟨m, n, rfl, rfl, hm, hn, q⟩ := h
  cases (show v = Value.type m from rx)
  cases (show u = Value.type n from ry)
  by_cases e : m = n
  · subst e
    exact PySem.TypeEq.ne_type_same (meta_tyOk hm) ⟨.bl false, H, I, rfl, by simpa using q⟩
  · exact PySem.TypeEq.ne_type_other (meta_tyOk hm) (meta_tyOk hn) (beq_eq_false_iff_ne.mpr fun z => e (Value.type.inj z)) ⟨.bl true, H, I, rfl, by simpa [e] using q⟩
end
end L2

set_option Elab.async false
set_option linter.all false
set_option maxRecDepth 100000
set_option maxHeartbeats 2000000
/-! VxKd: dicts of the written part (module-level constants) with keys that are integers or texts: in, not in, d[k], list(d). -/
namespace L2
open PySem PySem.Spec PyProof.Rows
inductive EntK (w : World) : List DictEntry → List (Key × V) → Prop
  | nil : EntK w [] []
  | cons {e : DictEntry} {k : Key} {v : V} {es : List DictEntry} {kvs : List (Key × V)} : RelV (kV k) e.key → e.hash = keyH w k → RelV v e.val → EntK w es kvs → EntK w (e :: es) ((k, v) :: kvs)
/-- a dict of the written part, its pairs -/
structure KdK (K : PySem.W.Frag) (w : World) (d : Addr) (kvs : List (Key × V)) : Prop where
  low : (d == sysModules) = false
  len : kvs.length ≤ sizeLine
  nd : (kvs.map (·.1)).Nodup
  at_ : ∃ es n, K.lookup d = some ⟨.type "dict", none, .dict es n, #[]⟩ ∧ EntK w es.toList kvs
def valsE : List DictEntry → List (Key × V) → List (Key × Value)
  | e :: es, kv :: kvs => (kv.1, e.val) :: valsE es kvs
  | _, _ => []
theorem entK_kv {w : World} : ∀ {es : List DictEntry} {kvs : List (Key × V)}, EntK w es kvs → KV kvs (valsE es kvs)
  | _, _, .nil => .nil
  | _, _, .cons _ _ r t => .cons ⟨rfl, r⟩ (entK_kv t)
theorem entK_pairs {P : Program} {w : World} : ∀ {es : List DictEntry} {kvs : List (Key × V)}, EntK w es kvs → Pairs (mixKind P w) es (valsE es kvs)
  | _, _, .nil => .nil
  | _, _, .cons k _ _ t => .cons (kV_is k) rfl (entK_pairs t)
theorem entK_keys {P : Program} {w : World} : ∀ {es : List DictEntry} {kvs : List (Key × V)}, EntK w es kvs → ∀ e ∈ es, ∃ k, (mixKind P w).is k e.key = true ∧ e.hash = (mixKind P w).hash k
  | _, _, .nil, e, m => nomatch m
  | _, _, .cons k h _ t, e, m => by
    rcases List.mem_cons.mp m with rfl | m
    · exact ⟨_, kV_is k, h⟩
    · exact entK_keys t e m
theorem kdk_of {P : Program} {K : PySem.W.Frag} {w : World} {h : Heap} {d : Addr} {kvs : List (Key × V)} (X : K.In h) (D : KdK K w d kvs) : ∃ vs, KV kvs vs ∧ h.DictOf (mixKind P w) d vs := by
  obtain ⟨es, n, hl, en⟩ := D.at_
  have kv := entK_kv en
  refine ⟨_, kv, _, es, n, X _ _ hl, ⟨rfl, rfl, rfl⟩, rfl, fun e m => entK_keys en e (Array.mem_toList_iff.mpr m), entK_pairs en, ?_⟩
  rw [← kv.keys]
  exact D.nd
section
variable {X : Cx}
/-- k in d, k not in d -/
def rInKd (K : PySem.W.Frag) (w : World) (neg : Bool) : R2 := fun x y H Q => ∃ (k : Key) (d : Addr) (kvs : List (Key × V)), x = kV k ∧ y = .ref d ∧ KdK K w d kvs ∧ Q (.bl (if neg then !(valV kvs k).isSome else (valV kvs k).isSome)) H
theorem op_inKd : OpR X (compareOp .In) (rInKd X.K X.w false) := by
  intro pins s σ H x y v u Q I rx ry h
  obtain ⟨k, d, kvs, rfl, rfl, D, q⟩ := h
  cases ry
  obtain ⟨vs, rel, dd⟩ := kdk_of (P := X.prog) I.kIn D
  refine wpAny_in_of (kV_is rx) D.low dd.mapOf ?_
  rw [← (rel.val k).isSome_eq]
  exact ⟨.bl _, H, I.tok _, rfl, q⟩
theorem op_notInKd : OpR X (compareOp .NotIn) (rInKd X.K X.w true) := by
  intro pins s σ H x y v u Q I rx ry h
  obtain ⟨k, d, kvs, rfl, rfl, D, q⟩ := h
  cases ry
  obtain ⟨vs, rel, dd⟩ := kdk_of (P := X.prog) I.kIn D
  refine wpAny_notIn_of (kV_is rx) D.low dd.mapOf ?_
  rw [← (rel.val k).isSome_eq]
  exact ⟨.bl _, H, I.tok _, rfl, q⟩
/-- d[k] -/
def rIxKd (K : PySem.W.Frag) (w : World) : R2 := fun x y H Q => ∃ (k : Key) (d : Addr) (kvs : List (Key × V)) (v : V), x = .ref d ∧ y = kV k ∧ KdK K w d kvs ∧ valV kvs k = some v ∧ Q v H
theorem ix_kd : IxR X (rIxKd X.K X.w) := by
  intro value slice pins s σ H x y v u Q I rx ry h hs
  obtain ⟨k, d, kvs, r, rfl, rfl, D, e, q⟩ := h
  obtain rfl : v = Value.ref d := rx
  obtain ⟨vs, rel, dd⟩ := kdk_of (P := X.prog) I.kIn D
  obtain ⟨w', hw, rw'⟩ := RelO.some_of (v := r) (o := valueAt vs k) (by rw [← e]; exact rel.val k)
  exact tail_any dd.typeIs slot_dict_getitem.lookup (wpAny_getItem_of (kV_is ry) dd.mapOf hw ⟨r, H, I.tok _, rw', q⟩) hs
/-- list(d) -/
def rListKd (K : PySem.W.Frag) (w : World) : List V → Hp → VK → Prop := fun xs H Q => ∃ (d : Addr) (kvs : List (Key × V)), xs = [.ref d] ∧ KdK K w d kvs ∧ ∀ p, H p = none → Q (.ref p) (upd H p (.lst (kvs.map fun kv => kV kv.1)))
theorem call_listKd (calm : X.calm = true) : CallR X (.type "list") (rListKd X.K X.w) := by
  intro pins s σ H xs us Q I r h
  obtain ⟨d, kvs, rfl, D, q⟩ := h
  rw [Vals.ref1 r]
  obtain ⟨vs, rel, dd⟩ := kdk_of (P := X.prog) I.kIn D
  obtain ⟨ep, stands⟩ := dd.dictAt
  have names : (kvs.map fun kv => kV kv.1) = vs.map fun kv => kV kv.1 := by
    have e := congrArg (List.map kV) rel.keys
    rw [List.map_map, List.map_map] at e
    exact e
  have many : vs.length ≤ sizeLine := by
    rw [← rel.length]
    exact D.len
  refine PySem.W.kdl_call (PySem.W.kdl_dict (knd := mixKind X.prog X.w) D.low) (I.ok.hd calm) stands many fun h' tk acc c keep lies found => ?_
  have got : Vals (kvs.map fun kv => kV kv.1) acc.toList := by
    rw [names]
    exact keys_at (by rw [Array.length_toList]; exact found.1) fun j v e => found.2 j v (by rwa [Array.getElem?_toList] at e)
  exact ⟨.ref _, upd H s.heap.objs.size (.lst (kvs.map fun kv => kV kv.1)), I.laid (t' := tk) keep (Nat.le_refl _) ⟨by rw [List.length_map]; exact D.len, acc.toList, c, got, by rw [Array.toArray_toList]; exact lies⟩, rfl, q _ (I.hok.fresh (Nat.le_refl _))⟩
end
end L2

set_option Elab.async false
set_option linter.all false
set_option maxRecDepth 100000
set_option maxHeartbeats 4000000
/-! VxLm: a law's end over defs that are promised where nothing is being shown, with the tables of code objects of the defs that make lambdas; the look at the head for it. -/
namespace LamX
open PySem PySem.Spec PyProof.Rows L2
/-- the tables, tracked as empty, beside H -/
def withTabs (T : List Addr) (H : Hp) : Hp := fun b => if b ∈ T then some (.tbl #[]) else H b
theorem withTabs_in {T : List Addr} {H : Hp} {b : Addr} (m : b ∈ T) : withTabs T H b = some (.tbl #[]) := if_pos m
theorem withTabs_off {T : List Addr} {H : Hp} {b : Addr} (m : b ∉ T) : withTabs T H b = H b := if_neg m
abbrev tabO : Obj := { cls := .none, data := .fields #[] }
/-- what is known of a def's code object and its table at the law's call -/
structure TabK (K : PySem.W.Frag) (h : Heap) (p : Addr × Addr) : Prop where
  code : PySem.W.CodeHd h p.1 p.2
  out : K.lookup p.2 = none
  emp : h.get? p.2 = some tabO
section
variable {P : Program} {w : World} {K : PySem.W.Frag} {mg mb : Str → Option Value} {k : Nat} {fa a : Addr} {fd : FuncData} {x : Str} {sp : Sp} {s₁ : Shared} {vs : List Value} {ns : List Int} {cs : List (Addr × Addr)}
/-- over a heap in which the script at most is tracked -/
theorem law_tabs (kin : K.In s₁.heap) (hns : s₁.heap.Ns mainGlobals mg) (hb : s₁.heap.Ns builtinsNs mb) (hbb : ∀ x : Str, x ≠ "__name__" → mb x = bootBuiltins x) (hlim : s₁.heap.NoLimit) (hg : s₁.gens = #[])
    (hbm : ∃ (bm : Addr) (ob : Obj), mg "__builtins__" = some (.ref bm) ∧ bm ≠ builtinsNs ∧ s₁.heap.get? bm = some ob ∧ ob.cls = .type "module" ∧ ob.dict = some builtinsNs ∧ ob.data = .plain)
    (tabs : ∀ p ∈ cs, TabK K s₁.heap p) (ha : s₁.heap.get? a = some { cls := .type "list", data := .seq vs.toArray }) (hr : Room k callerA)
    (F : ∀ base : Heap, K.In base → base.Ns mainGlobals mg → (∀ p ∈ cs, TabB base mg p.1 p.2) → FnG P w K mg base CX0 k fa fd [x] sp) (hbind : ∀ (s : Shared) (u : Value), BindsTo s fd ⟨[u], []⟩ [(x, u)])
    (H : Hp) (only : ∀ b, H b = none ∨ (b = a ∧ ∃ o xs, H b = some (.frz o (.lst xs)))) (hok : HOk P w H s₁.heap) (hK : H a ≠ none → K.lookup a = none)
    (hsp : sp [.ref a] (withTabs (cs.map (·.2)) H) (fun v _ => v = .bl true) fun _ _ _ => False) :
    codeAny (model P w) callerA (.call (.ref fa) ⟨[.ref a], []⟩) (fun r s' => r = .ok (.ret (.bool true)) ∧ OldK s₁.heap s'.heap ∧ s'.os = s₁.os ∧ AllBare s'.gens) s₁ := by
  have isT : ∀ b, b ∈ cs.map (·.2) → ∃ p ∈ cs, p.2 = b ∧ s₁.heap.get? b = some tabO := fun b m => by
    obtain ⟨p, hp, rfl⟩ := List.mem_map.mp m
    exact ⟨p, hp, rfl, (tabs p hp).emp⟩
  have aT : a ∉ cs.map (·.2) := fun m => by
    obtain ⟨_, _, _, z⟩ := isT a m
    rw [ha] at z
    exact nomatch congrArg Obj.data (Option.some.inj z)
  -- an object that is neither the script nor a table is untracked
  have off : ∀ {b : Addr} {o : Obj}, s₁.heap.get? b = some o → b ≠ a → o ≠ tabO → withTabs (cs.map (·.2)) H b = none := fun {b o} e n1 n2 => by
    have nT : b ∉ cs.map (·.2) := fun m => by
      obtain ⟨_, _, _, z⟩ := isT b m
      rw [e] at z
      exact n2 (Option.some.inj z)
    rw [withTabs_off nT]
    rcases only b with z | ⟨z, _⟩
    · exact z
    · exact absurd z n1
  have base_of : ∀ {b : Addr} {o : Obj}, s₁.heap.get? b = some o → b ≠ a → o ≠ tabO → (hidT s₁.heap (withTabs (cs.map (·.2)) H)).get? b = some o := fun e n1 n2 => hidT_get e (off e n1 n2)
  have notA : ∀ {b : Addr} {o : Obj}, s₁.heap.get? b = some o → (∀ xs n, o.data ≠ .seq xs n) → b ≠ a := fun {b o} e n z => by
    rw [z, ha] at e
    have q := congrArg Obj.data (Option.some.inj e)
    exact n _ _ q.symm
  have hokT : HOk P w (withTabs (cs.map (·.2)) H) s₁.heap := fun b u e => by
    by_cases m : b ∈ cs.map (·.2)
    · rw [withTabs_in m] at e
      obtain ⟨_, _, _, z⟩ := isT b m
      cases e
      exact z
    · rw [withTabs_off m] at e
      refine (hok b u e).stay (fun d v hd q => q) (fun d q => ?_) fun d xs q => ?_
      · have nm : d ∉ cs.map (·.2) := fun y => by
          rcases only d with z | ⟨z, _⟩
          · rw [z] at q
            cases q
          · exact aT (z ▸ y)
        rw [withTabs_off nm]
        exact q
      · have nm : d ∉ cs.map (·.2) := fun y => by
          rcases only d with z | ⟨z, _⟩
          · rw [z] at q
            cases q
          · exact aT (z ▸ y)
        rw [withTabs_off nm]
        exact q
  have nsK : ∀ {b : Addr} {m : Str → Option Value}, s₁.heap.Ns b m → (hidT s₁.heap (withTabs (cs.map (·.2)) H)).Ns b m := fun {b m} z => by
    obtain ⟨o, es, ep, e, d, r⟩ := z
    refine ⟨o, es, ep, base_of e (notA e fun xs n y => ?_) fun y => ?_, d, r⟩
    · rw [d] at y
      cases y
    · rw [y] at d
      cases d
  have kinB : K.In (hidT s₁.heap (withTabs (cs.map (·.2)) H)) := fun b o e => hidT_get (kin b o e) (by
    have nT : b ∉ cs.map (·.2) := fun m => by
      obtain ⟨p, hp, e2⟩ := List.mem_map.mp m
      have z := (tabs p hp).out
      rw [e2, e] at z
      cases z
    rw [withTabs_off nT]
    by_cases nb : b = a
    · cases q : H b with
      | none => rfl
      | some u =>
        have z := hK (by rw [← nb, q]; exact fun y => nomatch y)
        rw [← nb, e] at z
        cases z
    · rcases only b with z | ⟨z, _⟩
      · exact z
      · exact absurd z nb)
  have md : L2.Mod K mg (hidT s₁.heap (withTabs (cs.map (·.2)) H)) := ⟨kinB, nsK hns, ⟨mb, nsK hb, hbb⟩, by
    obtain ⟨mc, h1, h2⟩ := hlim
    exact ⟨mc, nsK h1, h2⟩⟩
  have tb : ∀ p ∈ cs, TabB (hidT s₁.heap (withTabs (cs.map (·.2)) H)) mg p.1 p.2 := fun p hp => by
    have tk := tabs p hp
    refine ⟨?_, ?_, fun z => ?_⟩
    · obtain ⟨o, us, f1, f2, f3, f4, f5, f6, f7, e, kind, data, at11, rest⟩ := tk.code
      refine ⟨o, us, f1, f2, f3, f4, f5, f6, f7, base_of e (notA e fun xs n y => ?_) fun y => ?_, kind, data, at11, rest⟩
      · rw [data] at y
        cases y
      · rw [y] at kind
        cases kind
    · obtain ⟨bm, ob, b1, b2, b3, b4, b5, b6⟩ := hbm
      refine ⟨bm, ob, b1, b2, fun z => ?_, fun z => ?_, base_of b3 (notA b3 fun xs n y => ?_) fun y => ?_, b4, b5, b6⟩
      · obtain ⟨o, es, ep, e, d, _⟩ := hns
        rw [← z, b3] at e
        rw [← Option.some.inj e, b6] at d
        cases d
      · have e := tk.emp
        rw [← z, b3] at e
        rw [Option.some.inj e] at b6
        cases b6
      · rw [b6] at y
        cases y
      · rw [y] at b6
        cases b6
    · obtain ⟨o, es, ep, e, d, _⟩ := hns
      rw [z, tk.emp] at e
      rw [← Option.some.inj e] at d
      cases d
  have e0 : Env0 P w K mg (hidT s₁.heap (withTabs (cs.map (·.2)) H)) callerA [] s₁ (withTabs (cs.map (·.2)) H) := ⟨rfl, md, fun b o e => of_hidT e, Nat.le_of_eq (hidT_size _ _), trivial, fun b z => (List.not_mem_nil z).elim, hokT, .of_eq hg⟩
  refine codeAny_mono ((F _ kinB (nsK hns) tb).run callerA rfl hr [] s₁ _ ⟨[.ref a], []⟩ [.ref a] [.ref a] _ _ e0 (hbind s₁ (.ref a)) (.cons rfl .nil) hsp) fun r s' h => ?_
  cases r with
  | error e => exact False.elim h
  | ok fl =>
    cases fl with
    | next => exact False.elim h
    | brk => exact False.elim h
    | cont => exact False.elim h
    | ret u =>
      obtain ⟨v, H', os, bare, un, hok', r', q⟩ := h
      have ev : v = .bl true := q
      rw [ev] at r'
      have eu : u = Value.bool true := r'
      rw [eu]
      have same : ∀ b o, b ∉ cs.map (·.2) → s₁.heap.get? b = some o → s'.heap.get? b = some o := fun b o nb e => by
        rcases only b with z | ⟨_, ob, xs, z⟩
        · exact un.keep b o e (by rw [withTabs_off nb]; exact z) (fun y => (List.not_mem_nil y).elim) fun y => (List.not_mem_nil y).elim
        · have z2 : withTabs (cs.map (·.2)) H b = some (.frz ob (.lst xs)) := by rw [withTabs_off nb]; exact z
          have e1 := (hokT b _ z2).1
          rw [e] at e1
          rw [Option.some.inj e1]
          exact (hok' b _ (un.frzs b ob _ z2)).1
      have grown : ∀ b, b ∈ cs.map (·.2) → ∃ more : Array Value, s'.heap.get? b = some { cls := .none, data := .fields more } := fun b m => by
        obtain ⟨more, z⟩ := un.tbls b #[] (withTabs_in m)
        exact ⟨_, hok' b _ z⟩
      refine ⟨rfl, ⟨fun b o e => ?_, fun b o e => ?_⟩, os, bare⟩
      · by_cases m : b ∈ cs.map (·.2)
        · obtain ⟨p, hp, e2, z⟩ := isT b m
          obtain ⟨more, hm⟩ := grown b m
          subst e2
          rw [z] at e
          cases e
          have tk := tabs p hp
          exact .inr (.inl ⟨(tk.code.tab tk.emp).isCodeTable, rfl, #[], more, rfl, by rw [Array.empty_append]; exact hm⟩)
        · exact .inl (same b o m e)
      · by_cases m : b ∈ cs.map (·.2)
        · obtain ⟨more, hm⟩ := grown b m
          exact ⟨_, hm⟩
        · exact ⟨o, same b o m e⟩
theorem law_callTG (kin : K.In s₁.heap) (hns : s₁.heap.Ns mainGlobals mg) (hb : s₁.heap.Ns builtinsNs mb) (hbb : ∀ x : Str, x ≠ "__name__" → mb x = bootBuiltins x) (hlim : s₁.heap.NoLimit) (hg : s₁.gens = #[])
    (hbm : ∃ (bm : Addr) (ob : Obj), mg "__builtins__" = some (.ref bm) ∧ bm ≠ builtinsNs ∧ s₁.heap.get? bm = some ob ∧ ob.cls = .type "module" ∧ ob.dict = some builtinsNs ∧ ob.data = .plain)
    (tabs : ∀ p ∈ cs, TabK K s₁.heap p) (ha : s₁.heap.get? a = some { cls := .type "list", data := .seq vs.toArray }) (hi : IntsAre vs ns) (hl : ns.length ≤ sizeLine) (hr : Room k callerA)
    (F : ∀ base : Heap, K.In base → base.Ns mainGlobals mg → (∀ p ∈ cs, TabB base mg p.1 p.2) → FnG P w K mg base CX0 k fa fd [x] sp) (hbind : ∀ (s : Shared) (u : Value), BindsTo s fd ⟨[u], []⟩ [(x, u)])
    (hsp : ∀ H : Hp, (∀ p ∈ cs, H p.2 = some (.tbl #[])) → SqL K H a (ns.map V.int) → sp [.ref a] H (fun v _ => v = .bl true) fun _ _ _ => False) :
    codeAny (model P w) callerA (.call (.ref fa) ⟨[.ref a], []⟩) (fun r s' => r = .ok (.ret (.bool true)) ∧ OldK s₁.heap s'.heap ∧ s'.os = s₁.os ∧ AllBare s'.gens) s₁ := by
  have rv : Vals (ns.map V.int) vs := vals_ints hi
  have here : ∀ H : Hp, ∀ p ∈ cs, withTabs (cs.map (·.2)) H p.2 = some (.tbl #[]) := fun H p hp => withTabs_in (List.mem_map.mpr ⟨p, hp, rfl⟩)
  have aT : a ∉ cs.map (·.2) := fun m => by
    obtain ⟨p, hp, e⟩ := List.mem_map.mp m
    have z := (tabs p hp).emp
    rw [e, ha] at z
    exact nomatch congrArg Obj.data (Option.some.inj z)
  cases hk : K.lookup a with
  | some o =>
    have e := kin a o hk
    rw [ha] at e
    have eo := Option.some.inj e
    exact law_tabs kin hns hb hbb hlim hg hbm tabs ha hr F hbind (fun _ => none) (fun _ => .inl rfl) (fun b u z => nomatch (show (none : Option HO) = some u from z)) (fun z => absurd rfl z)
      (hsp _ (here _) (.inr ⟨o, vs.toArray, _, hk, by rw [← eo], by rw [← eo], by rw [← eo], by rw [List.size_toArray, hi.length]; exact hl, by simpa using rv⟩))
  | none =>
    have at_ : onlyAt a { cls := .type "list", data := .seq vs.toArray } (ns.map V.int) a = some (.frz { cls := .type "list", data := .seq vs.toArray } (.lst (ns.map V.int))) := if_pos rfl
    have off : ∀ b, b ≠ a → onlyAt a { cls := .type "list", data := .seq vs.toArray } (ns.map V.int) b = none := fun b nb => if_neg nb
    refine law_tabs kin hns hb hbb hlim hg hbm tabs ha hr F hbind (onlyAt a { cls := .type "list", data := .seq vs.toArray } (ns.map V.int)) (fun b => ?_) (fun b u z => ?_) (fun _ => hk) (hsp _ (here _) (.inl (.inr ⟨{ cls := .type "list", data := .seq vs.toArray }, ?_⟩)))
    · by_cases nb : b = a
      · exact .inr ⟨nb, _, _, by rw [nb]; exact at_⟩
      · exact .inl (off b nb)
    · by_cases nb : b = a
      · subst nb
        rw [at_] at z
        have ez := Option.some.inj z
        subst ez
        exact ⟨ha, by rw [List.length_map]; exact hl, vs, _, rv, ha⟩
      · rw [off b nb] at z
        cases z
    · rw [withTabs_off aT]
      exact at_
end
theorem walk_ofTG {l : PySem.W.OpenLaw} {n k : Nat} {q : Program} {loose : List Str} {XP : (Str → Option Value) → Heap → Prop} {YP : World → Heap → Prop} {d : DefRec} {x : Str}
    (hn : l.most = some n) (hn2 : n ≤ sizeLine) (hdf : d.params.defaults = []) (hr : Room k callerA)
    (F : ∀ (w : World) (mg : Str → Option Value) (fa : Addr) (h : Heap), YP w h → h.Ns mainGlobals mg → mg d.name = some (.ref fa) →
      ∃ (K : PySem.W.Frag) (fd : FuncData) (sp : Sp) (cs : List (Addr × Addr)), K.In h ∧ (∀ p ∈ cs, TabK K h p) ∧ (∀ (s : Shared) (u : Value), BindsTo s fd ⟨[u], []⟩ [(x, u)]) ∧
        (∀ (H : Hp) (a : Addr) (ns : List Int), ns.length ≤ n → (∀ p ∈ cs, H p.2 = some (.tbl #[])) → SqL K H a (ns.map V.int) → sp [.ref a] H (fun v _ => v = .bl true) fun _ _ _ => False) ∧
        ∀ base : Heap, K.In base → base.Ns mainGlobals mg → (∀ p ∈ cs, TabB base mg p.1 p.2) → FnG l.prog w K mg base CX0 k fa fd [x] sp) :
    PySem.W.WalkO q loose XP YP l.row.toRowW d [] (fun f vs => PySem.call f vs) :=
  Att.attach_call hn hdf fun w s₀ s₁ mg mb fa o pm cd doc a vs ns G Y ho hd hcd hmg hobj hints hlen hg => by
    obtain ⟨K, fd, sp, cs, kin, tabs, hb, hsp, hF⟩ := F w mg fa _ Y G.T.g hmg
    exact law_callTG kin G.T.g G.T.b G.T.builtins G.T.nolimit hg G.T.bmain tabs hobj hints (Nat.le_trans hlen hn2) hr hF hb fun H hT hS => hsp H a ns hlen hT hS
end LamX
namespace He
open PySem PySem.Spec PyProof.Rows L2
/-! ### the look at the head: sys.modules beside the module's names, defs at any address, dicts with text keys, one Bool more, empty tables left out -/
abbrev AlL : Type := (AlD × Bool) × List (Option (List (Option (Str × Int))))
def frL (g : Addr → Option Obj) (n : Nat) : PySem.W.Frag := frT g (sysModules :: He5.asA g n)
def obsL (n : Nat) (fa : List Fa) (fn : List He5.DefA) (ts : List Tab) (tf : List Defn) (chk : PySem.W.Frag → Bool) (g : Addr → Option Obj) : AlL :=
  ((He5.obsA fa fn (frL g n), chk (frL g n) && tabsB g tf (frL g n)), ts.map fun t => dicW (frL g n) (t.1 (frL g n)))
structure SaysL (fa : List Fa) (fn : List He5.DefA) (ts : List Tab) (tf : List Defn) (chk : PySem.W.Frag → Bool) (w : World) (h : Heap) (K : PySem.W.Frag) : Prop where
  says : He5.SaysA fa fn K
  chk : chk K = true
  dic : ∀ t ∈ ts, dicW K (t.1 K) = some (keysIn w.params t.2)
  tabs : ∀ p ∈ tf, LamX.TabK K h (cT K p)
theorem map_all {α β : Type} {f g : α → β} : ∀ {l : List α}, l.map f = l.map g → ∀ t ∈ l, f t = g t
  | [], _, _, m => nomatch m
  | x :: r, e, t, m => by
    rw [List.map_cons, List.map_cons] at e
    injection e with e1 e2
    rcases List.mem_cons.mp m with rfl | m
    · exact e1
    · exact map_all e2 t m
theorem saysL_of {n : Nat} {fa : List Fa} {fn : List He5.DefA} {ts : List Tab} {tf : List Defn} {chk : PySem.W.Frag → Bool} {w : World} {h : Heap}
    (e : obsL n fa fn ts tf chk h.get? = ((He5.valA fn, true), ts.map fun t => some (keysIn w.params t.2))) : SaysL fa fn ts tf chk w h (frL h.get? n) := by
  injection e with e1 e2
  injection e1 with e3 e4
  obtain ⟨h1, h2⟩ := ba e4
  refine ⟨e3, h1, map_all e2, fun p hp => ?_⟩
  obtain ⟨h3, h4⟩ := ba (List.all_eq_true.mp h2 p hp)
  cases q : h.get? (cT (frL h.get? n) p).2 with
  | none =>
    rw [q] at h4
    cases h4
  | some o =>
    rw [q] at h4
    exact ⟨PySem.W.codeHd_of_K frT_in h3, frT_none q h4, by rw [q, emptyTab_eq h4]⟩
def hookL (n : Nat) (fa : List Fa) (fn : List He5.DefA) (ts : List Tab) (tf : List Defn) (chk : PySem.W.Frag → Bool) : PySem.W.Hook where
  α := AlL
  obs := fun s => obsL n fa fn ts tf chk s.heap.get?
  val := fun w => ((He5.valA fn, true), ts.map fun t => some (keysIn w.params t.2))
  says := fun w h => ∃ K : PySem.W.Frag, K.In h ∧ SaysL fa fn ts tf chk w h K
  of := fun _ _ e => ⟨_, frT_in, saysL_of e⟩
  keeps := fun _ _ _ ⟨K, hK, c⟩ k => ⟨K, PySem.W.Frag.In.keeps hK k, c.says, c.chk, c.dic, fun p hp => ⟨(c.tabs p hp).code.keeps k, (c.tabs p hp).out, k _ _ (c.tabs p hp).emp⟩⟩
theorem obsL_eq {n : Nat} {fa : List Fa} {fn : List He5.DefA} {ts : List Tab} {tf : List Defn} {chk : PySem.W.Frag → Bool} {g : Addr → Option Obj} {s : Shared} (h : ∀ a, g a = s.heap.get? a) : obsL n fa fn ts tf chk g = (hookL n fa fn ts tf chk).obs s := by
  have e : g = s.heap.get? := funext h
  rw [e] <;> rfl
end He

set_option Elab.async false
set_option linter.all false
set_option maxRecDepth 100000
set_option maxHeartbeats 2000000
/-! VxHd: the look at the head as VxLm's, its part of the heap found with a mask of the addresses seen (in the kernel far cheaper than lists without doubles). -/
namespace He
open PySem PySem.Spec PyProof.Rows L2
def bitT (m a : Nat) : Bool := Nat.beq (Nat.land (Nat.shiftRight m a) 1) 1
def putB (m a : Nat) : Nat := Nat.lor m (Nat.shiftLeft 1 a)
/-- what of the list is new, put ahead; the mask with it -/
def newOf : List Addr → Nat → List Addr → (Nat → List Addr → List Addr) → List Addr
  | [], m, acc, k => k m acc
  | b :: r, m, acc, k => match bitT m b with
    | true => newOf r m acc k
    | false => HandSHeadRun.frNat b fun b => HandSHeadRun.frNat (putB m b) fun m => newOf r m (b :: acc) k
def oneUp (g : Addr → Option Obj) : List Addr → Nat → List Addr → (Nat → List Addr → List Addr) → List Addr
  | [], m, acc, k => k m acc
  | a :: r, m, acc, k => match g a with
    | some o => newOf (refsD o) m acc fun m acc => oneUp g r m acc k
    | none => oneUp g r m acc k
/-- what is reached in n steps, the nearest ahead -/
def asM (g : Addr → Option Obj) : Nat → List Addr → Nat → List Addr
  | 0, f, _ => f
  | n + 1, f, m => f ++ oneUp g f m [] fun m f => asM g n f m
def frM (g : Addr → Option Obj) (n : Nat) : PySem.W.Frag := frT g (asM g n [mainGlobals] (putB 0 mainGlobals) ++ [sysModules, cStatics])
def obsM (n : Nat) (fa : List Fa) (fn : List He5.DefA) (ts : List Tab) (tf : List Defn) (chk : PySem.W.Frag → Bool) (g : Addr → Option Obj) : AlL :=
  ((He5.obsA fa fn (frM g n), chk (frM g n) && tabsB g tf (frM g n)), ts.map fun t => dicW (frM g n) (t.1 (frM g n)))
theorem saysM_of {n : Nat} {fa : List Fa} {fn : List He5.DefA} {ts : List Tab} {tf : List Defn} {chk : PySem.W.Frag → Bool} {w : World} {h : Heap}
    (e : obsM n fa fn ts tf chk h.get? = ((He5.valA fn, true), ts.map fun t => some (keysIn w.params t.2))) : SaysL fa fn ts tf chk w h (frM h.get? n) := by
  injection e with e1 e2
  injection e1 with e3 e4
  obtain ⟨h1, h2⟩ := ba e4
  refine ⟨e3, h1, map_all e2, fun p hp => ?_⟩
  obtain ⟨h3, h4⟩ := ba (List.all_eq_true.mp h2 p hp)
  cases q : h.get? (cT (frM h.get? n) p).2 with
  | none =>
    rw [q] at h4
    cases h4
  | some o =>
    rw [q] at h4
    exact ⟨PySem.W.codeHd_of_K frT_in h3, frT_none q h4, by rw [q, emptyTab_eq h4]⟩
def hookM (n : Nat) (fa : List Fa) (fn : List He5.DefA) (ts : List Tab) (tf : List Defn) (chk : PySem.W.Frag → Bool) : PySem.W.Hook where
  α := AlL
  obs := fun s => obsM n fa fn ts tf chk s.heap.get?
  val := fun w => ((He5.valA fn, true), ts.map fun t => some (keysIn w.params t.2))
  says := fun w h => ∃ K : PySem.W.Frag, K.In h ∧ SaysL fa fn ts tf chk w h K
  of := fun _ _ e => ⟨_, frT_in, saysM_of e⟩
  keeps := fun _ _ _ ⟨K, hK, c⟩ k => ⟨K, PySem.W.Frag.In.keeps hK k, c.says, c.chk, c.dic, fun p hp => ⟨(c.tabs p hp).code.keeps k, (c.tabs p hp).out, k _ _ (c.tabs p hp).emp⟩⟩
theorem obsM_eq {n : Nat} {fa : List Fa} {fn : List He5.DefA} {ts : List Tab} {tf : List Defn} {chk : PySem.W.Frag → Bool} {g : Addr → Option Obj} {s : Shared} (h : ∀ a, g a = s.heap.get? a) : obsM n fa fn ts tf chk g = (hookM n fa fn ts tf chk).obs s := by
  have e : g = s.heap.get? := funext h
  rw [e] <;> rfl
end He

set_option Elab.async false
set_option linter.all false
set_option maxRecDepth 100000
set_option maxHeartbeats 2000000
namespace Kx
open PySem PySem.Spec PyProof.Rows L2
def top (i : Nat) : Stmt := PySem.Challenge.pw_brinejar_k59_hexes.main.body.getD i (.Pass ⟨0, 0, 0, 0⟩)
abbrev gC (K : PySem.W.Frag) (x : Str) : Addr := He.ga K x
def HEXD : Str := "0123456789abcdef"
abbrev dH (K : PySem.W.Frag) : Addr := gC K "HEX_VALUES"
/-- a digit's sign as a text -/
def sg (i : Nat) : Str := ⟨#[HEXD.cps.getD i 0]⟩
def hexKv : List (Key × V) := (List.range 16).map fun i => (.inr (sg i), .int (i : Nat))
end Kx

set_option Elab.async false
set_option linter.all false
set_option maxRecDepth 100000
set_option maxHeartbeats 4000000
namespace Kx
open PySem PySem.Spec PyProof.Rows L2
/-! a written dict, seen entry by entry -/
def entB : List DictEntry → List (Key × V) → Bool
  | [], [] => true
  | e :: es, kv :: kvs => He.relB (kV kv.1) e.key && (He.relB kv.2 e.val && entB es kvs)
  | _, _ => false
def entI : List DictEntry → List (Key × V) → Bool
  | [], [] => true
  | e :: es, (.inl z, v) :: kvs => He.relB (.int z) e.key && (decide (e.hash = hashInt z) && (He.relB v e.val && entI es kvs))
  | _, _ => false
theorem entK_txt {w : World} : ∀ {es : List DictEntry} {kvs : List (Key × V)}, PySem.W.KeysLit w.params es → entB es kvs = true → (∀ kv ∈ kvs, ∃ x, kv.1 = .inr x) → EntK w es kvs
  | [], [], _, _, _ => .nil
  | e :: es, (k, v) :: kvs, ⟨⟨x, t, e1, e2⟩, r⟩, h, a => by
    obtain ⟨h1, h2⟩ := band h
    obtain ⟨h3, h4⟩ := band h2
    obtain ⟨y, ey⟩ := a _ (.head _)
    have ey : k = .inr y := ey
    subst ey
    have rk : RelV (.str y) e.key := He.relB_ok h1
    have exy : y = x := by
      rw [e1] at rk
      obtain ⟨u, q⟩ := rk
      injection q with q1
      exact q1.symm
    refine .cons rk ?_ (He.relB_ok h3) (entK_txt r h4 fun kv m => a kv (.tail _ m))
    rw [e2, exy]
    rfl
  | [], _ :: _, _, h, _ => nomatch h
  | _ :: _, [], _, h, _ => nomatch h
theorem entK_int {w : World} : ∀ {es : List DictEntry} {kvs : List (Key × V)}, entI es kvs = true → EntK w es kvs
  | [], [], _ => .nil
  | e :: es, (.inl z, v) :: kvs, h => by
    obtain ⟨h1, h2⟩ := band h
    obtain ⟨h3, h4⟩ := band h2
    obtain ⟨h5, h6⟩ := band h4
    exact .cons (He.relB_ok h1) (of_decide_eq_true h3) (He.relB_ok h5) (entK_int h6)
  | [], _ :: _, h => nomatch h
  | _ :: _, [], h => nomatch h
  | _ :: _, (.inr _, _) :: _, h => nomatch h
def relsB : List V → List Value → Bool
  | [], [] => true
  | v :: vs, u :: us => He.relB v u && relsB vs us
  | _, _ => false
theorem relsB_ok : ∀ {vs : List V} {us : List Value}, relsB vs us = true → Vals vs us
  | [], [], _ => .nil
  | _ :: _, _ :: _, h => by
    obtain ⟨h1, h2⟩ := band h
    exact .cons (He.relB_ok h1) (relsB_ok h2)
  | [], _ :: _, h => nomatch h
  | _ :: _, [], h => nomatch h
/-- a tuple of the written part -/
def tupB (K : PySem.W.Frag) (a : Addr) (vs : List V) : Bool := match K.lookup a with
  | some ⟨.type c, _, .seq its _, _⟩ => decide (c = "tuple") && relsB vs its.toList
  | _ => false
theorem tupB_ok {K : PySem.W.Frag} {a : Addr} {vs : List V} (h : tupB K a vs = true) (hl : vs.length ≤ sizeLine) (H : Hp) : SqT K H a vs := by
  unfold tupB at h
  split at h
  · rename_i c od its n sl e
    obtain ⟨h1, h2⟩ := band h
    have r := relsB_ok h2
    refine .inr ⟨_, its, n, e, by rw [of_decide_eq_true h1], rfl, ?_, r⟩
    rw [← Array.length_toList, ← r.length]
    exact hl
  · cases h
/-- a dict of the written part whose keys are integers -/
def dictI (K : PySem.W.Frag) (a : Addr) (kvs : List (Key × V)) : Bool := match K.lookup a with
  | some ⟨.type c, none, .dict es _, sl⟩ => decide (c = "dict") && (sl.isEmpty && (!(a == sysModules) && entI es.toList kvs))
  | _ => false
theorem dictI_ok {K : PySem.W.Frag} {w : World} {a : Addr} {kvs : List (Key × V)} (h : dictI K a kvs = true) (hl : kvs.length ≤ sizeLine) (nd : (kvs.map (·.1)).Nodup) : KdK K w a kvs := by
  unfold dictI at h
  split at h
  · rename_i c es n sl e
    obtain ⟨h1, h2⟩ := band h
    obtain ⟨h3, h4⟩ := band h2
    obtain ⟨h5, h6⟩ := band h4
    refine ⟨?_, hl, nd, es, n, ?_, entK_int h6⟩
    · cases q : a == sysModules with
      | false => rfl
      | true =>
        rw [q] at h5
        cases h5
    · rw [e, of_decide_eq_true h1, Array.isEmpty_iff.mp h3]
  · cases h
/-- a dict of the written part whose keys are texts: its keys and their hashes are told apart -/
def dictT (K : PySem.W.Frag) (a : Addr) (kvs : List (Key × V)) : Bool := match K.lookup a with
  | some ⟨_, _, .dict es _, _⟩ => entB es.toList kvs
  | _ => false
theorem dictT_ok {K : PySem.W.Frag} {w : World} {a : Addr} {es : Array DictEntry} {n : Nat} {kvs : List (Key × V)} (D : KDict K w a es n) (h : dictT K a kvs = true) (hl : kvs.length ≤ sizeLine) (nd : (kvs.map (·.1)).Nodup) (tx : ∀ kv ∈ kvs, ∃ x, kv.1 = .inr x) : KdK K w a kvs := by
  unfold dictT at h
  rw [D.at_] at h
  exact ⟨D.low, hl, nd, es, n, D.at_, entK_txt D.lit h tx⟩
end Kx
namespace Kx
open PySem PySem.Spec PyProof.Rows L2
def gAt (x : Str) : PySem.W.Frag → Addr := fun K => He.ga K x
def mAt (C m : Str) : PySem.W.Frag → Addr := fun K => He.ma K (He.ga K C) m
def dF (x : Str) (i : Nat) : He5.DefA := ⟨gAt x, x, x, defArgs (top i), defBody (top i), defScope (top i), [], []⟩
def dM (a : PySem.W.Frag → Addr) (x qual : Str) (st : Stmt) (ds : List He.Dv) : He5.DefA := ⟨a, x, qual, defArgs st, defBody st, defScope st, ds, []⟩
def fn : List He5.DefA := [dF "is_integer" 11, dF "are_octets" 12, dF "require_stream" 15, dF "hex_text" 7, dF "numbers_of" 8, dF "stream_text" 17, dF "read_stream" 18, dF "_law_begin" 20, dF "_law_mixed" 21, dF "_law_next" 22, dF "_law_read" 23, dF "_law_due" 24, dF "_law_refused" 25, dF "_law_bent" 26, dF "_law_by_hand_right" 27, dF "law" 28, dM (mAt "InvalidStream" "__init__") "__init__" "InvalidStream.__init__" (inClass (top 2) 0) [], dM (mAt "InvalidText" "__init__") "__init__" "InvalidText.__init__" (inClass (top 3) 0) []]
def fa : List He.Fa := ([.glo "is_integer", .glo "are_octets", .glo "require_stream", .glo "hex_text", .glo "numbers_of", .glo "stream_text", .glo "read_stream", .glo "_law_begin", .glo "_law_mixed", .glo "_law_next", .glo "_law_read", .glo "_law_due", .glo "_law_refused", .glo "_law_bent", .glo "_law_by_hand_right", .glo "law", .glo "JarError", .glo "InvalidStream", .glo "InvalidText", .glo "HEX_VALUES"] : List He.Fa) ++ ([.free "isinstance", .free "int", .free "bool", .free "str", .free "tuple", .free "type", .free "len", .free "all", .free "sorted", .free "set", .free "repr", .free "range", .free "zip", .free "enumerate", .str "HEX_DIGITS" HEXD, .int "OCTET_LIMIT" 256, .int "STREAM_LIMIT" 50000] : List He.Fa)
def errB (K : PySem.W.Frag) (x fld : Str) : Bool :=
  decide (PySem.W.findIn K (.ref (gC K x)) "__init__" = some (some (.ref (mAt x "__init__" K)))) && (decide (PySem.W.typeIn K (.ref (mAt x "__init__" K)) = some (.type "function")) && (decide (PySem.W.findIn K (.ref (gC K x)) fld = some none) &&
  (decide (PySem.W.kitOne K (.ref (gC K x)) (.ref (gC K x)) = some true) && decide (PySem.W.exmOne K (.ref (gC K x)) (.ref (gC K "JarError")) = some true))))
def chk (K : PySem.W.Frag) : Bool := sysB K && (xcB K (gC K "InvalidStream") bmVE "ValueError.__new__" && (xcB K (gC K "InvalidText") bmVE "ValueError.__new__" && (errB K "InvalidStream" "value" && (errB K "InvalidText" "offset" && dictT K (dH K) hexKv))))
def ts : List He.Tab := [(dH, (List.range 16).map sg)]
end Kx

set_option Elab.async false
set_option linter.all false
set_option maxRecDepth 100000
set_option maxHeartbeats 0
namespace Kx
open PySem PySem.Spec PyProof.Rows L2
abbrev R : PySem.W.OpenRow := PySem.W.OpenLaw.row PySem.Challenge.rw_brinejar_k59_hexes
abbrev hk : PySem.W.Hook := He.hookM 6 fa fn ts [] chk
def ob (s : PySem.W.SharedT) : He.AlL := He.obsM 6 fa fn ts [] chk (HandSHeadRun.getT s)
theorem ob_eq (s : PySem.W.SharedT) : ob s = hk.obs s.abs := He.obsM_eq (HandSHeadRun.getT_eq s)
def loose : List Str := (["__name__", "JarError", "InvalidStream", "InvalidText", "HEX_DIGITS", "HEX_VALUES", "hex_text", "numbers_of", "OCTET_LIMIT", "is_integer", "are_octets", "STREAM_LIMIT", "require_stream", "stream_text", "read_stream", "_law_begin", "_law_mixed", "_law_next", "_law_read", "_law_due", "_law_refused", "_law_bent", "_law_by_hand_right"] : List Str)
theorem run_f (w : World) : HandSHeadRun.RunEq R (PySem.W.view R.prog [28]) hk ob 12000 loose (w.withFollow "special-get-raises" false) := by
  intro os
  kernel_rfl
theorem run_t (w : World) : HandSHeadRun.RunEq R (PySem.W.view R.prog [28]) hk ob 12000 loose (w.withFollow "special-get-raises" true) := by
  intro os
  kernel_rfl
theorem run (w : World) : HandSHeadRun.RunEq R (PySem.W.view R.prog [28]) hk ob 12000 loose w :=
  PySem.W.byRow2 "special-get-raises" (P := fun w => HandSHeadRun.RunEq R (PySem.W.view R.prog [28]) hk ob 12000 loose w) run_f run_t w
end Kx

set_option Elab.async false
set_option linter.all false
set_option maxRecDepth 100000
set_option maxHeartbeats 2000000
/-! VxFm: f'{n:02x}' of an octet. -/
namespace L2
open PySem PySem.Spec PyProof.Rows Builtin Builtin.Str Builtin.Int Builtin.Float
def sp02x : Str := "02x"
def fX : FormatSpec := match parseFormatSpec sp02x.cps.toList "int" 62 with
  | .ok f => f
  | .error _ => { align := 0 }
theorem fX_ok : parseFormatSpec sp02x.cps.toList "int" 62 = .ok fX := by kernel_rfl
def gX (n : Nat) : Str := intField' fX (decide ((n : Int) < 0)) [] ((Nat.toDigits 16 (n : Int).natAbs).map fun c => (if (120 : Nat) == 88 then c.toUpper else c).toNat) [] 4
def hxS : Str := "0123456789abcdef"
/-- a digit's sign -/
def hx1 (n : Nat) : Nat := hxS.cps.getD n 0
def hx2 (n : Nat) : Str := ⟨#[hx1 (n / 16), hx1 (n % 16)]⟩
theorem gX_all : ((List.range 256).all fun n => decide (gX n = hx2 n)) = true := by decide +kernel
theorem gX_eq {n : Nat} (h : n < 256) : gX n = hx2 n := of_decide_eq_true (List.all_eq_true.mp gX_all n (List.mem_range.mpr h))
theorem gives_02x (n : Nat) (t u : Tok) : Gives («int.__format__» ⟨[.int (n : Int) t, .str sp02x u], []⟩) (.str (gX n)) := fun prog w A R s hq => by
  have hne : (sp02x.length == 0) = false := by decide
  have hasc : ((sp02x.cps.toList.drop 1).any (· ≥ 128) || (sp02x.cps.getD 0 0 ≥ 128 && !([60, 62, 61, 94] : List Nat).contains (sp02x.cps.getD 1 0))) = false := by decide
  unfold Builtin.«int.__format__»
  simp only [selfAndOne, noKeywords, Int.intOfSelf, asInt?, asStr?, List.isEmpty_nil, if_true, pure_bind, bind_pure, bind_assoc, hne, hasc, Bool.false_eq_true, if_false, show (Value.str sp02x u == Value.none) = false from rfl]
  refine wpAny_bind (wpAny_typeNameOf (T := "str") (typeIs_str _ _ _) (by decide) fun _ => ?_)
  refine wpAny_bind (wpAny_typeNameOfCut_int ?_)
  simp only [fX_ok]
  exact (show Gives _ (.str (gX n)) from .of_eq rfl) prog w A R s hq
section
variable {X : Cx} {e : Expr} {te : TE} {p1 p2 pos : Pos} {k : Nat}
def tFx (te : TE) : TE := fun σ H Q => te σ H fun x H1 => ∃ n : Nat, x = .int (n : Int) ∧ n < 256 ∧ Q (.str (hx2 n)) H1
theorem pe_fmtX (he : PE X e te) : PE X (.FormattedValue e (-1) (some (.JoinedStr [.Constant (.str sp02x) k p1] p2)) pos) (tFx te) := by
  refine ⟨fun pins s σ H Q I h => ?_⟩
  refine wpAny_FormattedValue_spec (thn (he.run pins s σ H _ I h) fun v s1 hv => ?_)
  obtain ⟨x, H1, I1, r1, n, rfl, hn, q⟩ := hv
  obtain ⟨t, rfl⟩ := r1
  refine thn ((pe_fs1 (X := X) (pos := p2) (pe_str (X := X) (x := sp02x))).run pins s1 σ H1 (fun y H2 => y = .str sp02x ∧ H2 = H1) I1 ⟨rfl, rfl⟩) fun r s2 hr => ?_
  obtain ⟨y, H2, I2, r2, rfl, rfl⟩ := hr
  obtain ⟨u, rfl⟩ := r2
  refine ⟨sp02x, u, rfl, ?_⟩
  refine wpAny_formatField_spec (by decide) (fun s' => typeIs_int s' _ _) F.slot_int_format F.entry_int_format F.args_int_format_2 (fun u => gives_02x n t u) ?_ (by decide) (by rw [gX_eq hn]; show 2 ≤ sizeLine; decide)
  rw [gX_eq hn]
  exact ⟨.str _, _, I2.tok _, ⟨_, rfl⟩, q⟩
end
end L2

set_option Elab.async false
set_option linter.all false
set_option maxRecDepth 100000
set_option maxHeartbeats 1000000
/-! VxI: == of objects of the program's classes without an own __eq__: the same object or not. -/
namespace VxS
open PySem PySem.W
section
variable {prog : Program} {w : World} {K : Frag} {A : Around} {E : Value → Shared → Prop} {s : Shared} {C D x y : Addr} {ox oy : Obj}
/-- what of the text a class must have -/
structure EqC (K : Frag) (C : Addr) : Prop where
  eq : findIn K (.ref C) "__eq__" = some (some (.builtin "object.__eq__"))
  top : mroIn K C (.type "object") = some true
theorem eq_check (X : K.In s.heap) (T : EqC K C) (hx : s.heap.get? x = some ox) (hc : ox.cls = .ref C) {b : Value} {Q : Unit → Shared → Prop} (q : Q () s) : wpAny (model prog w) A (checkBuiltinCall "object.__eq__" ⟨[.ref x, b], []⟩) Q E s := by
  simp only [checkBuiltinCall, F.cmpKind_eq, F.cmpSplit_eq]
  refine wpAny_bind ?_
  unfold isInstance
  refine wpAny_bind (wpAny_typeOf_ref hx ?_)
  rw [hc]
  refine (looks_mroIn X T.top).here ?_
  cases hsig : Manifest.signature? "object.__eq__" with
  | none => exact wpAny_pure q
  | some sig =>
    have ha := F.cmpArgs_eq (.ref x) b
    simp only [argsOk, hsig] at ha
    have h2 : Bind.checkArgs "object.__eq__" sig ⟨[.ref x, b], []⟩ = pure () := ha
    show wpAny _ A (Bind.checkArgs "object.__eq__" sig ⟨[.ref x, b], []⟩) Q E _
    rw [h2]
    exact wpAny_pure q
theorem F.objEq_other {M : Model} (hx : s.heap.get? x = some ox) (hy : s.heap.get? y = some oy) (hc : ox.cls = .ref C) (hxy : x ≠ y) {Q : Fin → Shared → Prop} (hq : Q (.done (.ret .notImplemented)) s) : wpAny M A (Builtin.«object.__eq__» ⟨[.ref x, .ref y], []⟩) Q E s :=
  objEq_entry_other hxy hx hy (by rw [hc]; exact fun z => nomatch z) hq
theorem eq_try (X : K.In s.heap) (T : EqC K C) (hx : s.heap.get? x = some ox) (hc : ox.cls = .ref C) (hy : s.heap.get? y = some oy) (hxy : x ≠ y) {Q : Option Value → Shared → Prop} (q : Q none s) : wpAny (model prog w) A (tryCompare (.ref x) "__eq__" (.ref y)) Q E s := by
  simp only [tryCompare, callSpecialIfBound?, bindSpecialIfBound?, specialOf]
  refine wpAny_bind (wpAny_holding (wpAny_bind (wpAny_bind (wpAny_bind (wpAny_typeOf_ref hx ?_)))))
  rw [hc]
  refine (looks_findIn X T.eq).here ?_
  have call_ : ∀ {Q : Value → Shared → Prop}, Q .notImplemented s → wpAny (model prog w) A (call (.builtin "object.__eq__") [.ref x, .ref y]) Q E s := fun {Q} q =>
    wpAny_call (codeAny_call_builtin F.cmp_object.eq.plain F.cmpEntry_eq (eq_check X T hx hc (F.objEq_other hx hy hc hxy q)))
  have bs : bindSpecial (.builtin "object.__eq__") (.ref x) = pure (.builtin "object.__eq__", [.ref x]) := F.cmp_object.eq.bind _
  dsimp only
  rw [bs]
  have fin : wpAny (model prog w) A (call (.builtin "object.__eq__") ([.ref x] ++ [.ref y]) >>= fun v => pure (some v)) (fun a s' => wpAny (model prog w) A (match a with
      | some Value.notImplemented => (pure none : Sem (Option Value))
      | none => pure none
      | some v => pure (some v)) Q E s') E s := wpAny_bind (call_ (wpAny_pure (wpAny_pure q)))
  refine wpAny_bind (wpAny_askSetting (wpAny_ite ?_))
  split
  · exact wpAny_bind (wpAny_pure (wpAny_pure fin))
  · exact wpAny_tryCatch (wpAny_bind (wpAny_pure (wpAny_pure fin)))
/-- x == y, two objects -/
theorem eq_other (hu : A.units < cLine) (X : K.In s.heap) (T : EqC K C) (U : EqC K D) {b : Bool} (sub : mroIn K D (.ref C) = some b) (hx : s.heap.get? x = some ox) (hc : ox.cls = .ref C) (hy : s.heap.get? y = some oy) (hd : oy.cls = .ref D) (hxy : x ≠ y) {Q : Value → Shared → Prop} (q : Q (.bool false) s) :
    wpAny (model prog w) A (compareOp .Eq (.ref x) (.ref y)) Q E s := by
  show wpAny _ _ (richCompare .Eq (.ref x) (.ref y)) _ _ _
  simp only [richCompare, cmpInfo_Eq, oneThing_ref]
  have nt : ox.cls ≠ .type "tuple" := by rw [hc]; exact fun z => nomatch z
  have t1 : ∀ {Q : Option Value → Shared → Prop}, Q none s → wpAny (model prog w) A (tryCompare (.ref x) "__eq__" (.ref y)) Q E s := fun {Q} q => eq_try X T hx hc hy hxy q
  have t2 : ∀ {Q : Option Value → Shared → Prop}, Q none s → wpAny (model prog w) A (tryCompare (.ref y) "__eq__" (.ref x)) Q E s := fun {Q} q => eq_try X U hy hd hx hxy.symm q
  have last : wpAny (model prog w) A (rule "compare.eq-identity" >>= fun _ => isSame (.ref x) (.ref y) >>= fun r => pure (Value.bool r)) Q E s := wpAny_bind (wpAny_rule (wpAny_bind (wpAny_isSame_ref_other hxy hx hy nt (wpAny_pure q))))
  refine wpAny_holding (wpAny_bind (wpAny_cRoomFor hu (wpAny_bind (wpAny_typeOf_ref hx ?_))))
  rw [hc]
  refine wpAny_bind (wpAny_typeOf_ref hy ?_)
  rw [hd]
  split
  · refine wpAny_bind ((looks_mroIn X sub).here ?_)
    cases b with
    | true => exact wpAny_bind (t2 (wpAny_bind (t1 last)))
    | false =>
      rw [if_neg Bool.false_ne_true]
      exact wpAny_bind (t1 (wpAny_bind (t2 last)))
  · refine wpAny_bind (wpAny_pure ?_)
    rw [if_neg Bool.false_ne_true]
    exact wpAny_bind (t1 (wpAny_bind (t2 last)))
theorem eq_same (hu : A.units < cLine) (X : K.In s.heap) (T : EqC K C) (hx : s.heap.get? x = some ox) (hc : ox.cls = .ref C) {Q : Value → Shared → Prop} (q : Q (.bool true) s) : wpAny (model prog w) A (compareOp .Eq (.ref x) (.ref x)) Q E s := by
  show wpAny _ _ (richCompare .Eq (.ref x) (.ref x)) _ _ _
  have call_ : ∀ {Q : Value → Shared → Prop}, Q (.bool true) s → wpAny (model prog w) A (call (.builtin "object.__eq__") [.ref x, .ref x]) Q E s := fun {Q} q =>
    wpAny_call (codeAny_call_builtin F.cmp_object.eq.plain F.cmpEntry_eq (eq_check X T hx hc (objEq_entry_same q)))
  have bs : bindSpecial (.builtin "object.__eq__") (.ref x) = pure (.builtin "object.__eq__", [.ref x]) := F.cmp_object.eq.bind _
  have t1 : wpAny (model prog w) A (tryCompare (.ref x) "__eq__" (.ref x)) (fun r s' => r = some (.bool true) ∧ s' = s) E s := by
    simp only [tryCompare, callSpecialIfBound?, bindSpecialIfBound?, specialOf]
    refine wpAny_bind (wpAny_holding (wpAny_bind (wpAny_bind (wpAny_bind (wpAny_typeOf_ref hx ?_)))))
    rw [hc]
    refine (looks_findIn X T.eq).here ?_
    dsimp only
    rw [bs]
    have fin : wpAny (model prog w) A (call (.builtin "object.__eq__") ([.ref x] ++ [.ref x]) >>= fun v => pure (some v)) (fun a s' => wpAny (model prog w) A (match a with
        | some Value.notImplemented => (pure none : Sem (Option Value))
        | none => pure none
        | some v => pure (some v)) (fun r s' => r = some (.bool true) ∧ s' = s) E s') E s := wpAny_bind (call_ (wpAny_pure (wpAny_pure ⟨rfl, rfl⟩)))
    refine wpAny_bind (wpAny_askSetting (wpAny_ite ?_))
    split
    · exact wpAny_bind (wpAny_pure (wpAny_pure fin))
    · exact wpAny_tryCatch (wpAny_bind (wpAny_pure (wpAny_pure fin)))
  simp only [richCompare, cmpInfo_Eq, oneThing_ref]
  refine wpAny_holding (wpAny_bind (wpAny_cRoomFor hu (wpAny_bind (wpAny_typeOf_ref hx ?_))))
  rw [hc]
  refine wpAny_bind (wpAny_typeOf_ref hx ?_)
  rw [hc, if_neg (by simp)]
  refine wpAny_bind (wpAny_pure (wpAny_bind (wpAny_mono t1 (fun r s' z => ?_) fun _ _ e => e)))
  obtain ⟨rfl, rfl⟩ := z
  exact wpAny_pure q
end
end VxS
namespace L2
open PySem PySem.Spec PyProof.Rows
/-- x == y, objects of the program's classes without __eq__ -/
def rEqO (K : PySem.W.Frag) : R2 := fun x y H Q => ∃ (a b C D da db : Addr) (fa fb : List (Str × V)) (r : Bool), x = .ref a ∧ y = .ref b ∧ H a = some (.ins C da fa) ∧ H b = some (.ins D db fb) ∧ VxS.EqC K C ∧ VxS.EqC K D ∧ PySem.W.mroIn K D (.ref C) = some r ∧ Q (.bl (decide (a = b))) H
theorem op_eqO {X : Cx} (hu : X.A.units < cLine) : OpR X (compareOp .Eq) (rEqO X.K) := by
  intro pins s σ H x y v u Q I rx ry h
  obtain ⟨a, b, C, D, da, db, fa, fb, r, rfl, rfl, ha, hb, T, U, sub, q⟩ := h
  cases rx
  cases ry
  obtain ⟨_, _, _, e1, _⟩ := I.hok a _ ha
  obtain ⟨_, _, _, e2, _⟩ := I.hok b _ hb
  by_cases z : a = b
  · subst z
    rw [decide_eq_true rfl] at q
    exact VxS.eq_same hu I.kIn T e1 rfl ⟨.bl true, H, I, rfl, q⟩
  · rw [decide_eq_false z] at q
    exact VxS.eq_other hu I.kIn T U sub e1 rfl e2 rfl z ⟨.bl false, H, I, rfl, q⟩
end L2

set_option Elab.async false
set_option linter.all false
set_option maxRecDepth 100000
set_option maxHeartbeats 1000000
/-! VxN: a generator method called; cls(*e), cls a local name of a class. -/
namespace L2
open PySem PySem.Spec PyProof.Rows StX
section
variable {X : Cx} {k i : Nat} {f C : Addr} {fd : FuncData} {ps : List Str} {sp : SpY} {x m : Str} {p pos apos : Pos} {o e : Expr} {ta te : TE} {E : XK}
/-- o.m() of a generator method -/
def tMethY (C : Addr) (m : Str) (sp : SpY) (E : XK) (ta : TE) : TYg := fun σ H xs Q => ta σ H fun y H1 => ∃ a dx fs, y = .ref a ∧ H1 a = some (.ins C dx fs) ∧ fs.lookup m = none ∧ sp [y] H1 xs Q E
theorem py_meth0 {pl : Sem Bool} (he : PE X o ta) (c : Cls X.K C) (hm : Meth X.K C m f) (F : YDef X.prog X.w X.K X.mg X.base k f fd ps sp) (hr : Room k X.A) (hb : Binds X.K fd ps [])
    (ht : eval (.Call (.Attribute o m apos) [] [] pos) X.env = (do
      let ov ← eval o X.env
      standAt apos.atName
      let (f, first) ← holding [ov] (getMethod ov m pl)
      callWith pos f first (backTo pos (starEach [] X.env)) (backToKw pos (keywordEach [] X.env))) := by rfl) :
    PY X k (.Call (.Attribute o m apos) [] [] pos) (tMethY C m sp E ta) E := by
  refine ⟨fun pins s σ H xs Q I h => PySem.W.methodCall_KW (pl := pl) (thn (he.run pins s σ H _ I h) fun u s1 hh => ?_) ht⟩
  obtain ⟨y, H1, I1, rx, a, dx, fs, rfl, ea, l, q⟩ := hh
  obtain rfl : u = Value.ref a := rx
  have hl : ([Value.ref a] ++ ([] : List Value)).length = ps.length := by
    have z := F.len _ _ _ _ _ q
    exact z
  refine getmeth_ok I1 ea c hm l (PySem.W.callWith_K0 (first := [.ref a]) I1.kIn hm.kp (wpAny_call (codeAny_mono (F.run X.A X.stack s1 H1 ⟨[.ref a], []⟩ [.ref a] [.ref a] xs Q E hr I1.env0 (hb s1 [.ref a] I1.kIn hl) (.cons rfl .nil) q) fun r s' hq => ?_)))
  cases r with
  | error e => exact False.elim hq
  | ok fl =>
    cases fl with
    | ret u => exact ⟨H1, s1, I1, hq⟩
    | next => exact False.elim hq
    | brk => exact False.elim hq
    | cont => exact False.elim hq
end
section
variable {X : Cx} {CX : CXT} {k i : Nat} {f C : Addr} {sp : Sp} {x : Str} {p spos pos : Pos} {e : Expr} {te : TE} {E : XK}
/-- cls(*e) -/
theorem pe_makeVS (M : Mk X.K C f) (F : FnR X.prog X.w X.K X.mg X.base CX k f sp) (hr : Room (k + 1) X.A) (hN : X.N[i]? = some x) (hv : Vis X.env.scope x) (hx : Passes CX X E) (he : PE X e te) (hd : (x == ("__debug__" : Str)) = false := by decide) (hcd : (x == ("__classdict__" : Str)) = false := by decide)
    (hst : starEach [.Starred e spos] X.env = [(true, eval e X.env)] := by rfl) :
    PE X (.Call (.Name x p) [.Starred e spos] [] pos) (fun σ H Q => σ[i]? = some (some (.ref C)) ∧ te σ H fun y H1 => ∃ a xs, y = V.ref a ∧ (SqT X.K H1 a xs ∨ SqL X.K H1 a xs) ∧
      ∀ n dx, H1 n = none → H1 dx = none → dx ≠ n → sp (V.ref n :: xs) (upd (upd H1 dx (.own n)) n (.ins C dx [])) (fun v H2 => v = .non ∧ Q (.ref n) H2) E) := by
  refine ⟨fun pins s σ H Q I h => ?_⟩
  obtain ⟨ec, h⟩ := h
  refine wpAny_Call_Name_kw (thn ((pe_var (pos := p) hN hv hd hcd).run pins s σ H (fun v H1 => v = .ref C ∧ H1 = H) I ⟨_, ec, rfl, rfl⟩) fun u s0 hh => ?_)
  obtain ⟨v, H0, I0, r0, rfl, rfl⟩ := hh
  obtain rfl : u = Value.ref C := r0
  refine PySem.W.callWith_S (h₀ := X.base) I.ok.mod.kin M.kp (thn (he.run pins s0 σ H0 _ I0 h) fun v s1 hh => ?_) hst
  obtain ⟨y, H1, I1, ry, a, xs, rfl, hxs, q⟩ := hh
  obtain rfl : v = Value.ref a := ry
  exact star_any I1 hxs fun us s2 I2 rv => ⟨I2.kIn, run_makeR M F hr hx I2 rv q⟩
end
end L2

set_option Elab.async false
set_option linter.all false
set_option maxRecDepth 100000
set_option maxHeartbeats 1000000
/-! VxM: ** of large ints, a text times an int, C() of a class whose __init__ has star parameters. -/
namespace L2
open PySem PySem.Spec PyProof.Rows StX ClX
theorem size_repA (a : Array Nat) : ∀ (n : Nat) (b : Array Nat), ((List.replicate n a).foldl (· ++ ·) b).size = b.size + n * a.size
  | 0, b => by simp
  | n + 1, b => by
    rw [List.replicate_succ, List.foldl_cons, size_repA a n, Array.size_append, Nat.add_mul]
    omega
theorem size_repM (a : Array Nat) (n : Nat) : ((List.replicate n a).foldl (· ++ ·) #[]).size = n * a.size := by
  rw [size_repA]
  simp
section
variable {X : Cx}
def CPowW (i j : Int) : Prop := 0 ≤ j ∧ (Builtin.Int.intBits i : Int) * j ≤ 2 ^ 27
theorem op_powW : OpR X (binaryOp .Pow) (rI CPowW fun i j => .int (i ^ j.toNat)) := opI fun _ _ _ _ _ _ _ hc q => pow_int hc.1 hc.2 q
/-- a text times an int of at least 2 -/
def rMulS : R2 := fun x y H Q => ∃ (z : Str) (k : Nat), x = .str z ∧ y = .int (k : Int) ∧ 2 ≤ k ∧ 0 < z.length ∧ z.length * k ≤ 1000000 ∧ Q (.str ⟨(List.replicate k z.cps).foldl (· ++ ·) #[]⟩) H
theorem op_mulS : OpR X (binaryOp .Mult) rMulS := by
  intro pins s σ H x y v u Q I rx ry h
  obtain ⟨z, k, rfl, rfl, h2, h0, hl, q⟩ := h
  obtain ⟨t, rfl⟩ := rx
  obtain ⟨t', rfl⟩ := ry
  have kb : (k : Int) ≤ 1000000 := by
    have : 1 * k ≤ z.length * k := Nat.mul_le_mul_right k h0
    omega
  refine PySem.P.mul_str ?_ (fun _ _ => ?_) (fun _ _ => ?_) ?_
  · rw [decide_eq_false (by omega), decide_eq_false (by omega)]
    rfl
  · have d : (z.length : Int) ≤ (2 ^ 63 - 1) / (k : Int) := by
      refine Int.le_ediv_of_mul_le (by omega) ?_
      have q2 : ((z.length * k : Nat) : Int) ≤ 1000000 := Int.ofNat_le.mpr hl
      rw [Int.natCast_mul] at q2
      omega
    omega
  · have e : (k : Int).toNat = k := rfl
    rw [e]
    exact decide_eq_false (by have q : (1000000 : Nat) ≤ sizeLine := by decide
                              omega)
  · rw [if_neg (by omega)]
    have e : ((k : Int) == 1 || z.length == 0) = false := by
      rw [Bool.or_eq_false_iff]
      exact ⟨beq_eq_false_iff_ne.mpr (by omega), beq_eq_false_iff_ne.mpr (by omega)⟩
    rw [e, if_neg Bool.false_ne_true]
    refine ⟨?_, .str _, H, I.tok _, ⟨_, rfl⟩, q⟩
    show Array.size _ ≤ sizeLine
    have e2 : ((k : Int).toNat) = k := rfl
    rw [e2, size_repM]
    have q3 : (1000000 : Nat) ≤ sizeLine := by decide
    have q4 : k * z.cps.size = z.length * k := Nat.mul_comm _ _
    omega
end
section
variable {X : Cx} {CX : CXT} {k : Nat} {f C p g : Addr} {fd : FuncData} {ps ks : List Str} {sp : Sp} {x m : Str} {np pos apos : Pos} {o : Expr} {kws : List Keyword} {ta : TE} {tk : TA} {E : XK} {mc : Value}
/-- C() -/
theorem pe_makeR0 (M : Mk X.K C f) (F : FnR X.prog X.w X.K X.mg X.base CX k f sp) (hr : Room (k + 1) X.A) (hg : Gl X x) (hm : X.mg x = some (.ref C)) (hx : Passes CX X E) (hdb : (x == ("__debug__" : Str)) = false := by decide) :
    PE X (.Call (.Name x np) [] [] pos) (fun _ H Q => ∀ n dx, H n = none → H dx = none → dx ≠ n → sp [V.ref n] (upd (upd H dx (.own n)) n (.ins C dx [])) (fun v H2 => v = .non ∧ Q (.ref n) H2) E) :=
  ⟨fun pins s σ H Q I h => wpAny_Call_Name_kw (ld_glob I hg hm (PySem.W.callWith_K0 (first := []) I.kIn M.kp (run_makeR (us := []) (vs := []) M F hr hx I .nil h)) hdb)⟩
/-- C.m(k = v, ..), m a classmethod -/
theorem pe_cmethK {pl : Sem Bool} {gv : List Value → List Value} {gV : List V → List V} (he : PE X o ta) (r : CRead X.K C mc) (c : CMet X.K C mc m p g) (F : FnOk X.prog X.w X.K X.mg X.base CX k g fd ps sp) (hr : Room k X.A) (hx : Passes CX X E)
    (hbd : ∀ (s : Shared) (ws : List Value), X.K.In s.heap → ws.length = ks.length → BindsTo s fd ⟨[Value.ref C], ks.zip ws⟩ (ps.zip (Value.ref C :: gv ws))) (rel : ∀ {zs : List V} {ws : List Value}, Vals zs ws → Vals (gV zs) (gv ws)) (hkw : PK X kws tk)
    (hall : (backToKw pos (keywordEach kws X.env)).all (·.1.isSome) = true := by rfl) (hks : (backToKw pos (keywordEach kws X.env)).filterMap (·.1) = ks := by rfl)
    (hpl : ((backTo pos (starEach [] X.env)).any (·.1) || (backToKw pos (keywordEach kws X.env)).any (·.1.isNone)) = false := by rfl)
    (ht : eval (.Call (.Attribute o m apos) [] kws pos) X.env = (do
      let ov ← eval o X.env
      standAt apos.atName
      let (f, first) ← holding [ov] (getMethod ov m pl)
      callWith pos f first (backTo pos (starEach [] X.env)) (backToKw pos (keywordEach kws X.env))) := by rfl) :
    PE X (.Call (.Attribute o m apos) [] kws pos) (fun σ H Q => ta σ H fun y H1 => y = .ref C ∧ tk σ H1 fun zs H2 => zs.length = ks.length ∧ sp (.ref C :: gV zs) H2 Q E) := by
  refine ⟨fun pins s σ H Q I h => PySem.W.methodCall_KW (pl := pl) (thn (he.run pins s σ H _ I h) fun u s1 hh => ?_) ht⟩
  obtain ⟨y, H1, I1, rx, rfl, q⟩ := hh
  obtain rfl : u = Value.ref C := rx
  refine getmethcm_ok I1 r c fun s2 I2 => ?_
  refine PySem.W.callWith_of hpl (PySem.W.keeps_M (K := X.K) (self := .ref C) c.fi) (evalArgs_kw2_nil hall (thn (hkw.run pos _ s2 σ H1 _ I2 q) fun ws s3 hh => ?_))
  obtain ⟨zs, H2, I3, rz, hl, q2⟩ := hh
  refine ⟨⟨pin_at I3, I3.kIn⟩, ?_⟩
  rw [hks]
  have z : wpAny (model X.prog X.w) X.A (call (.ref s1.heap.objs.size) ([] ++ []) (ks.zip ws)) (EP X ((s1.heap.objs.size, PySem.W.methodObj (.ref g) (.ref C)) :: pins) σ Q) X.xe s3 := by
    refine wpAny_call (PySem.W.method_call (pin_at I3) (codeAny_mono (F.run X.A X.stack s3 H2 ⟨[.ref C], ks.zip ws⟩ (.ref C :: gv ws) (.ref C :: gV zs) Q E hr I3.env0 (hbd s3 ws I3.kIn (by rw [← rz.length]; exact hl)) (.cons rfl (rel rz)) q2) fun rs s' hq => ?_))
    cases rs with
    | error er => exact hx _ σ H2 s3 er s' I3 hq
    | ok fl =>
      cases fl with
      | ret u => exact I3.after hq
      | next => exact hq.elim
      | brk => exact hq.elim
      | cont => exact hq.elim
  exact thn z fun _ _ y => unpinE y
end
end L2

set_option Elab.async false
set_option linter.all false
set_option maxRecDepth 100000
set_option maxHeartbeats 1000000
/-! VxJ: within a try whose clause looks at the slots: C(e, ..) and C.m(e, ..), what they let out told at the slots of the call. -/
namespace L2
open PySem PySem.Spec PyProof.Rows StX ClX
section
variable {X : Cx} {CX : CXT} {k : Nat} {f C p g : Addr} {mc : Value} {fd : FuncData} {ps : List Str} {sp : Sp} {dvs : List V} {ds : List Value} {E : St → XK} {x m : Str} {pp pos apos : Pos} {e o : Expr} {es : List Expr} {ta : TE} {t : TA}
theorem run_makeS {pins : List (Addr × Obj)} {σ : St} {H : Hp} {s : Shared} {Q : VK} {us : List Value} {vs : List V} {E : XK} (M : Mk X.K C f) (F : FnOk X.prog X.w X.K X.mg X.base CX k f fd ps sp) (hr : Room (k + 1) X.A) (hb : Binds X.K fd ps ds) (hd : Vals dvs ds)
    (hx : PassesAt CX X σ E) (I : Inv X pins σ H s) (r : Vals vs us)
    (h : ∀ x dx, H x = none → H dx = none → dx ≠ x → sp (.ref x :: (vs ++ dvs)) (upd (upd H dx (.own x)) x (.ins C dx [])) (fun v H2 => v = .non ∧ Q (.ref x) H2) E) :
    wpAny (model X.prog X.w) X.A (call (.ref C) us) (EP X pins σ Q) X.xe s := by
  have hq := h (s.heap.objs.size + 1) s.heap.objs.size (I.hok.fresh (Nat.le_succ _)) (I.hok.fresh (Nat.le_refl _)) (Nat.ne_of_lt (Nat.lt_succ_self _))
  have J := Inv.made (C := C) I
  have rr : Vals (V.ref (s.heap.objs.size + 1) :: (vs ++ dvs)) (Value.ref (s.heap.objs.size + 1) :: (us ++ ds)) := .cons rfl (r.append hd)
  have hl : (Value.ref (s.heap.objs.size + 1) :: us ++ ds).length = ps.length := by
    have z := rr.length
    rw [F.len _ _ _ _ hq] at z
    exact z.symm
  refine wpAny_call (make_map (f := f) I.kIn M.makes M.init (beq_iff_eq.mp M.fn) (codeAny_mono (F.run _ X.stack _ _ ⟨Value.ref (s.heap.objs.size + 1) :: us, []⟩ (Value.ref (s.heap.objs.size + 1) :: (us ++ ds)) _ _ E (hr.make C us [])
    (J.env0.make C us []) (hb _ (Value.ref (s.heap.objs.size + 1) :: us) J.kIn hl) rr hq) fun rs s' z => ?_))
  cases rs with
  | error er => exact hx pins _ _ er s' J z
  | ok fl =>
    cases fl with
    | ret u =>
      obtain ⟨v, H', J2, rv, ev, q⟩ := J.after z
      subst ev
      exact ⟨rv, ⟨V.ref (s.heap.objs.size + 1), H', J2, rfl, q⟩⟩
    | next => exact z.elim
    | brk => exact z.elim
    | cont => exact z.elim
/-- C(e, ..) -/
theorem pe_makeSg (M : Mk X.K C f) (F : FnOk X.prog X.w X.K X.mg X.base CX k f fd ps sp) (hr : Room (k + 1) X.A) (hg : Gl X x) (hm : X.mg x = some (.ref C)) (hb : Binds X.K fd ps ds) (hd : Vals dvs ds) (hx : ∀ σ, PassesAt CX X σ (E σ))
    (ha : PA X (e :: es) t) (hdb : (x == ("__debug__" : Str)) = false := by decide) (he : starEach (e :: es) X.env = (false, eval e X.env) :: starEach es X.env := by rfl) (hpl : (backTo pos (starEach es X.env)).any (·.1) = false := by rfl) :
    PE X (.Call (.Name x pp) (e :: es) [] pos) (fun σ H Q => tMake C sp dvs (E σ) t σ H Q) :=
  ⟨fun pins s σ H Q I h => wpAny_Call_Name_kw (ld_glob I hg hm (PySem.W.callWith_K (h₀ := X.base) I.ok.mod.kin M.kp (thn (ha.run pos pins s σ H _ I h) fun us s1 z => by
    obtain ⟨vs, H1, J, r, q⟩ := z
    exact ⟨J.kIn, run_makeS M F hr hb hd (hx σ) J r q⟩) he hpl) hdb)⟩
/-- C.m(e, ..), m a classmethod -/
theorem pe_cmethSg {pl : Sem Bool} (he : PE X o ta) (r : CRead X.K C mc) (c : CMet X.K C mc m p g) (F : FnOk X.prog X.w X.K X.mg X.base CX k g fd ps sp) (hr : Room k X.A) (hb : Binds X.K fd ps []) (hx : ∀ σ, PassesAt CX X σ (E σ)) (ha : PA X (e :: es) t)
    (hst : starEach (e :: es) X.env = (false, eval e X.env) :: starEach es X.env := by rfl) (hpl : (backTo pos (starEach es X.env)).any (·.1) = false := by rfl)
    (ht : eval (.Call (.Attribute o m apos) (e :: es) [] pos) X.env = (do
      let ov ← eval o X.env
      standAt apos.atName
      let (f, first) ← holding [ov] (getMethod ov m pl)
      callWith pos f first (backTo pos (starEach (e :: es) X.env)) (backToKw pos (keywordEach [] X.env))) := by rfl) :
    PE X (.Call (.Attribute o m apos) (e :: es) [] pos) (fun σ H Q => tCMeth C sp (E σ) ta t σ H Q) := by
  refine ⟨fun pins s σ H Q I h => PySem.W.methodCall_KW (pl := pl) (thn (he.run pins s σ H _ I h) fun u s1 hh => ?_) ht⟩
  obtain ⟨y, H1, I1, rx, rfl, q⟩ := hh
  obtain rfl : u = Value.ref C := rx
  refine getmethcm_ok I1 r c fun s2 I2 => ?_
  refine callwith_cm I2 (base_none I1 (Nat.le_refl _)) c.fi (thn (ha.run pos _ s2 σ H1 _ I2 q) fun us s3 hh => ?_) hst hpl
  obtain ⟨vs, H2, I3, rv, q2⟩ := hh
  refine ⟨⟨pin_at I3, I3.kIn⟩, ?_⟩
  have b := hb s3 (Value.ref C :: us) I3.kIn (by
    have l := F.len _ _ _ _ q2
    have l2 := rv.length
    rw [List.append_nil, List.length_cons, ← l2]
    exact l)
  rw [List.append_nil] at b
  have z : wpAny (model X.prog X.w) X.A (call (.ref s1.heap.objs.size) us) (EP X ((s1.heap.objs.size, PySem.W.methodObj (.ref g) (.ref C)) :: pins) σ Q) X.xe s3 := by
    refine wpAny_call (PySem.W.method_call (pin_at I3) (codeAny_mono (F.run X.A X.stack s3 H2 ⟨.ref C :: us, []⟩ (.ref C :: us) (.ref C :: vs) Q (E σ) hr I3.env0 b (.cons rfl rv) q2) fun rs s' hq => ?_))
    cases rs with
    | error er => exact hx σ _ H2 s3 er s' I3 hq
    | ok fl =>
      cases fl with
      | ret u => exact I3.after hq
      | next => exact hq.elim
      | brk => exact hq.elim
      | cont => exact hq.elim
  exact thn z fun _ _ y => unpinE y
end
end L2

set_option Elab.async false
set_option linter.all false
set_option maxRecDepth 100000
set_option maxHeartbeats 1000000
/-! VxMs: within a try: o.m(e, ..) with what it lets out told at the slots; cls() of a local name of a class. -/
namespace L2
open PySem PySem.Spec PyProof.Rows StX
section
variable {X : Cx} {CX : CXT} {k i : Nat} {f C : Addr} {fd : FuncData} {ps : List Str} {sp : Sp} {E : L2.St → XK} {m x : Str} {p pos apos : Pos} {e o : Expr} {es : List Expr} {ta : TE} {t : TA}
/-- o.m(e, ..) -/
theorem pe_methSg {pl : Sem Bool} (he : PE X o ta) (c : Cls X.K C) (hm : Meth X.K C m f) (F : FnOk X.prog X.w X.K X.mg X.base CX k f fd ps sp) (hr : Room k X.A) (hb : Binds X.K fd ps []) (hx : ∀ σ, PassesAt CX X σ (E σ)) (ha : PA X (e :: es) t)
    (hst : starEach (e :: es) X.env = (false, eval e X.env) :: starEach es X.env := by rfl) (hpl : (backTo pos (starEach es X.env)).any (·.1) = false := by rfl)
    (ht : eval (.Call (.Attribute o m apos) (e :: es) [] pos) X.env = (do
      let ov ← eval o X.env
      standAt apos.atName
      let (f, first) ← holding [ov] (getMethod ov m pl)
      callWith pos f first (backTo pos (starEach (e :: es) X.env)) (backToKw pos (keywordEach [] X.env))) := by rfl) :
    PE X (.Call (.Attribute o m apos) (e :: es) [] pos) (fun σ H Q => ta σ H fun y H1 => ∃ a dx fs, y = .ref a ∧ H1 a = some (.ins C dx fs) ∧ fs.lookup m = none ∧ t σ H1 fun vs H2 => sp (y :: vs) H2 Q (E σ)) := by
  refine ⟨fun pins s σ H Q I h => PySem.W.methodCall_KW (pl := pl) (thn (he.run pins s σ H _ I h) fun u s1 hh => ?_) ht⟩
  obtain ⟨y, H1, I1, rx, a, dx, fs, rfl, ea, l, q⟩ := hh
  obtain rfl : u = Value.ref a := rx
  refine getmeth_ok I1 ea c hm l (PySem.W.callWith_K (first := [.ref a]) (h₀ := X.base) I.ok.mod.kin hm.kp (thn (ha.run pos pins s1 σ H1 _ I1 q) fun us s2 z => ?_) hst hpl)
  obtain ⟨vs, H2, I2, r, q2⟩ := z
  exact ⟨I2.kIn, run_fnS (us := .ref a :: us) (vs := .ref a :: vs) F hr hb (hx σ) I2 (.cons rfl r) q2⟩
/-- cls() -/
theorem pe_makeV0 {E : XK} {dvs : List V} {ds : List Value} (M : Mk X.K C f) (F : FnOk X.prog X.w X.K X.mg X.base CX k f fd ps sp) (hr : Room (k + 1) X.A) (hN : X.N[i]? = some x) (hv : Vis X.env.scope x) (hb : Binds X.K fd ps ds) (hd : Vals dvs ds) (hx : Passes CX X E) (hdd : (x == ("__debug__" : Str)) = false := by decide) (hcd : (x == ("__classdict__" : Str)) = false := by decide) :
    PE X (.Call (.Name x p) [] [] pos) (fun σ H Q => σ[i]? = some (some (.ref C)) ∧ tMake C sp dvs E tNil σ H Q) := by
  refine ⟨fun pins s σ H Q I h => ?_⟩
  obtain ⟨ec, h⟩ := h
  refine wpAny_Call_Name_kw (thn ((pe_var (pos := p) hN hv hdd hcd).run pins s σ H (fun v H1 => v = .ref C ∧ H1 = H) I ⟨_, ec, rfl, rfl⟩) fun u s0 hh => ?_)
  obtain ⟨v, H0, I0, r0, rfl, rfl⟩ := hh
  obtain rfl : u = Value.ref C := r0
  exact PySem.W.callWith_K0 I0.kIn M.kp (run_make (us := []) M F hr hb hd hx I0 .nil h)
end
end L2

set_option Elab.async false
set_option linter.all false
set_option maxRecDepth 100000
set_option maxHeartbeats 2000000
/-! VxLn: g(lambda: e), where g calls what it got within a try whose clause looks at the slots. -/
namespace LamX
open PySem PySem.Spec PyProof.Rows L2
/-- the lambda's function object, made in X's frame -/
abbrev lamO (X : Cx) (params : Arguments) (body : Expr) (scope : Scope) (pm : Value) (c' : Addr) (ctv : Value) : Obj :=
  PySem.W.kla_obj "<lambda>" (X.env.qual ++ "<lambda>") params body scope (cloFrom X.env.cells scope.names []) pm c' ctv
section
variable {X : Cx} {pins : List (Addr × Obj)} {σ : L2.St} {H HZ : Hp} {s s1 : Shared} {f c' : Addr} {pm ctv : Value} {params : Arguments} {body : Expr} {scope : Scope} {k : Nat} {tb : TE} {E : XK} {Q : VK}
/-- the lambda's call, wherever it is called from -/
theorem lam_code {A : Around} {outer : List Env} (I : Inv X pins σ H s) (L : LamS X.env.scope scope) (lies : s1.heap.get? f = some (lamO X params body scope pm c' ctv))
    (noargs : bindArgs (PySem.W.kla_fn "<lambda>" (X.env.qual ++ "<lambda>") params body scope (cloFrom X.env.cells scope.names []) pm (.ref c') ctv) ⟨[], []⟩ = pure [])
    (e0 : Env0 X.prog X.w X.K X.mg X.base A outer s1 HZ) (lim : s1.heap.NoLimit) (un : Un (frs X.stack) [] H HZ s.heap s1.heap) (code : HZ c' = some (CodeO c' (X.env.qual ++ "<lambda>"))) (hr : Room (k + 1) A)
    (run : ∀ s2, Room k (A.deeper (lamEnv X scope s1.heap.objs.size f c')) → PE (lamCx X A outer s1 s2 E scope f c') body tb) (h : tb σ HZ Q) :
    codeAny (model X.prog X.w) A (.call (.ref f) ⟨[], []⟩) (CR (L2.CX X.prog X.w) outer X.prog X.w HZ s1 Q E) s1 := by
  obtain ⟨⟨oc, us, t, at_, data, name⟩, _, _⟩ := e0.hok c' _ code
  refine PySem.W.kla_callFunE hr.depth lies rfl L.co L.gen rfl ⟨c', oc, us, t, rfl, at_, data, name⟩ ?_
  rw [noargs]
  apply wpAny_pure
  refine wpAny_newFunctionEnv (fun y hy => (L.own y hy).2) (fun y hy => nomatch hy) (fun h₁ ns ext => ⟨lim.fresh _ ext, ?_⟩) L.kind
  have more : ∀ b o, s1.heap.get? b = some o → h₁.get? b = some o := fun b o e => by
    refine ext.extBut b o (fun z => ?_) (Heap.get?_push_of_some _ e)
    have lt := Heap.lt_size e
    rw [z] at lt
    exact Nat.lt_irrefl _ lt
  have J := lam_start2 (f := f) (c' := c') (E := E) (tk := s1.toks + ([] : List (Str × Value)).length) I L e0 hr.hd un ns more
  refine PySem.W.kla_codeExpr (wpAny_mono ((run HZ (hr.deeper _)).run [] _ _ HZ Q J h) (fun v s' z => ?_) fun _ _ z => z)
  obtain ⟨w', H', J', rv, q⟩ := z
  exact ⟨w', H', J'.os, J'.bare, J'.base, J'.hok, rv, q⟩
end
/-- the def g at its start, within a try -/
abbrev gCx (X : Cx) (Ng : List Str) (x : Str) (sg : Scope) (g : Addr) (cdg : Value) (s : Shared) (H : Hp) (pn : List (Addr × Obj)) (xe : Value → Shared → Prop) : Cx :=
  (cxOf C8.CX0 X.prog X.w X.K X.mg X.base Ng x sg g cdg X.A X.stack s H C8.E0).tr pn xe
section
variable {X : Cx} {pins : List (Addr × Obj)} {σ : L2.St} {H : Hp} {s : Shared} {f c' g : Addr} {pm ctv cdg : Value} {params : Arguments} {body : Expr} {scope sg : Scope} {k : Nat} {Ng : List Str} {x a : Str} {pn : List (Addr × Obj)} {xe : Value → Shared → Prop} {W : WX} {t : XK → TE} {p1 p2 : Pos}
theorem pe_actS (I : Inv X pins σ H s) (L : LamS X.env.scope scope) (lies : s.heap.get? f = some (lamO X params body scope pm c' ctv)) (hfn : H f = none) (hfr : f ∉ frs X.stack)
    (noargs : bindArgs (PySem.W.kla_fn "<lambda>" (X.env.qual ++ "<lambda>") params body scope (cloFrom X.env.cells scope.names []) pm (.ref c') ctv) ⟨[], []⟩ = pure [])
    (tk : Takes (gCx X Ng x sg g cdg s H pn xe) W) (hr : Room (k + 1) (X.A.deeper (envOfC x sg s.heap.objs.size g cdg)))
    (run : ∀ (A : Around) (outer : List Env) (s : Shared) (H : Hp) (E : XK), Room k (A.deeper (lamEnv X scope s.heap.objs.size f c')) → PE (lamCx X A outer s H E scope f c') body (t E))
    (hN : Ng[0]? = some a) (hv : Vis sg a) (hd : (a == ("__debug__" : Str)) = false) (hcd : (a == ("__classdict__" : Str)) = false) :
    PE (gCx X Ng x sg g cdg s H pn xe) (.Call (.Name a p1) [] [] p2) (fun σZ HZ Q => σZ[0]? = some (some (.ref f)) ∧ HZ c' = some (CodeO c' (X.env.qual ++ "<lambda>")) ∧ t (WE W σZ) σ HZ Q) := by
  refine ⟨fun pinsZ sZ σZ HZ Q IZ h => ?_⟩
  obtain ⟨slot, code, h⟩ := h
  have name := (pe_var (X := gCx X Ng x sg g cdg s H pn xe) (pos := p1) (i := 0) hN hv hd hcd).run pinsZ sZ σZ HZ (fun v H1 => v = .ref f ∧ H1 = HZ) IZ ⟨.ref f, slot, rfl, rfl⟩
  refine wpAny_Call_Name_kw (thn name fun u s1 z => ?_)
  obtain ⟨v, H1, I1, rv, ev, eH⟩ := z
  subst ev eH
  obtain rfl : u = Value.ref f := rv
  have still : s1.heap.get? f = some (lamO X params body scope pm c' ctv) := I1.base.keep f _ lies hfn hfr fun z => nomatch (show f ∈ ([] : List Addr) from z)
  have rc : codeAny (model X.prog X.w) (X.A.deeper (envOfC x sg s.heap.objs.size g cdg)) (.call (.ref f) ⟨[], []⟩) (CR (L2.CX X.prog X.w) (envOfC x sg s.heap.objs.size g cdg :: X.stack) X.prog X.w H1 s1 Q (WE W σZ)) s1 :=
    lam_code (X := X) (A := X.A.deeper (envOfC x sg s.heap.objs.size g cdg)) (outer := envOfC x sg s.heap.objs.size g cdg :: X.stack) I L still noargs I1.env0 I1.nolimit I1.base code hr (fun H2 r => run _ _ _ _ _ r) h
  refine PySem.W.callWith_F0 ⟨_, _, _, _, still⟩ (wpAny_call (codeAny_mono rc fun r s' q => ?_))
  cases r with
  | error e => exact passAt tk σZ pinsZ H1 s1 e s' I1 q
  | ok fl =>
    cases fl with
    | ret u => exact I1.after q
    | next => exact q.elim
    | brk => exact q.elim
    | cont => exact q.elim
/-- what g makes of a lambda's reading -/
def GivesS (X : Cx) (Ng : List Str) (x : Str) (sg : Scope) (g : Addr) (cdg : Value) (bg : List Stmt) (a : Str) (q : Str) (TT : (XK → Hp → VK → Prop) → Hp → VK → Prop) : Prop :=
  ∀ (f c' : Addr) (s : Shared) (H : Hp) (Q : VK) (tl : XK → Hp → VK → Prop),
    (∀ (W : WX) (pn : List (Addr × Obj)) (xe : Value → Shared → Prop) (p1 p2 : Pos), Takes (gCx X Ng x sg g cdg s H pn xe) W →
      PE (gCx X Ng x sg g cdg s H pn xe) (.Call (.Name a p1) [] [] p2) (fun σZ HZ Q => σZ[0]? = some (some (.ref f)) ∧ HZ c' = some (CodeO c' q) ∧ tl (WE W σZ) HZ Q)) →
    H c' = some (CodeO c' q) → TT tl H Q →
    ∃ t, PSs (cxOf C8.CX0 X.prog X.w X.K X.mg X.base Ng x sg g cdg X.A X.stack s H C8.E0).nox bg t ∧ t { nx := fun _ H' => Q .non H', rt := Q } (L2.start Ng [.ref f]) H
/-- g(lambda: e) -/
theorem pe_lamS {T : List (Addr × Str)} {TT : (XK → Hp → VK → Prop) → Hp → VK → Prop} {c P : Addr} {pg : Arguments} {bg : List Stmt} {fd : FuncData} {p lpos pos : Pos} (hg : Gl X x) (hm : X.mg x = some (.ref g)) (hk : PySem.W.keepIn X.K (.ref g) = true)
    (F : L2.FunD X.K x x pg bg sg [] [] g fd) (hb : L2.Binds X.K fd [a] []) (Sg : FnScope Ng [a] sg) (hNg : Ng[0]? = some a) (hva : Vis sg a) (hG : ∀ cdv, GivesS X Ng x sg g cdv bg a (X.env.qual ++ "<lambda>") TT)
    (TB : TabB X.base X.mg c P) (hcode : X.env.code = .ref c) (hmT : (P, X.env.qual ++ "<lambda>") ∈ T) (hu : ∀ p ∈ T, p.1 = P → p.2 = X.env.qual ++ "<lambda>") (hr : Room (k + 2) X.A) (L : LamS X.env.scope scope) (hdef : defaultsOf params X.env = ([], []))
    (noargs : ∀ (q : Str) (cl : List (Str × Addr)) (pm cv ctv : Value), bindArgs (PySem.W.kla_fn "<lambda>" q params body scope cl pm cv ctv) ⟨[], []⟩ = pure [])
    (run : ∀ (A : Around) (outer : List Env) (s : Shared) (H : Hp) (E : XK) (f c' : Addr), Room k (A.deeper (lamEnv X scope s.heap.objs.size f c')) → PE (lamCx X A outer s H E scope f c') body (t E))
    (hdb : (x == ("__debug__" : Str)) = false := by decide) (hd : (a == ("__debug__" : Str)) = false := by decide) (hcd : (a == ("__classdict__" : Str)) = false := by decide) :
    PE X (.Call (.Name x p) [.Lambda params body scope lpos] [] pos) (tLam T TT t) := by
  obtain ⟨oc, od, dV, kV, doc, pm, an, cdv, ct, osl, rfl, lk, hcg, _, _⟩ := F.ex
  refine ⟨fun pins s σ H Q I h => wpAny_Call_Name_kw (ld_glob I hg hm (PySem.W.callWith_K (h₀ := X.base) I.ok.mod.kin hk ?_ rfl rfl) hdb)⟩
  obtain ⟨hT, h⟩ := h
  show wpAny _ _ (spliced ((false, eval (.Lambda params body scope lpos) X.env) :: backTo pos (starEach [] X.env))) _ _ s
  refine Calls.spliced_cons (lam_make2 I TB hcode hmT hu hT hdef (L.has I.ok) fun f c' pm' ctv H1 s' I1 eN T1 lies hfn hfr code => Calls.spliced_nil ⟨I1.kIn, ?_⟩)
  refine wpAny_call (codeAny_mono (run_ofS (CX := C8.CX0) (Q := Q) (E := C8.E0) (N := Ng) (ps := [a]) (us := [.ref f]) (vs := [.ref f]) lk hcg Sg hr I1.env0 (hb s' [.ref f] I1.kIn rfl) (.cons rfl .nil) rfl fun hr' => ?_) fun r s2 q => ?_)
  · obtain ⟨t', ht', hq'⟩ := hG cdv f c' s' H1 Q (fun E H' Q' => t E σ H' Q') (fun W pn xe p1 p2 tk => pe_actS I1 L lies hfn hfr (noargs _ _ _ _ _) tk hr' (fun A outer s H E r => run A outer s H E f c' r) hNg hva hd hcd) code (h H1 eN T1)
    exact ⟨t', ht'.nox, hq'⟩
  · cases r with
    | error e => exact (show False from q).elim
    | ok fl =>
      cases fl with
      | ret u => exact I1.after q
      | next => exact q.elim
      | brk => exact q.elim
      | cont => exact q.elim
end
end LamX

set_option Elab.async false
set_option linter.all false
set_option maxRecDepth 100000
set_option maxHeartbeats 1000000
/-! VxTk: a statement behind which a token is surely out (x = [.., a written text, ..]), and x = e for a term that wants one. -/
namespace L2
open PySem PySem.Spec PyProof.Rows
/-- behind the expressions a token is out -/
def PAU (X : Cx) (es : List Expr) (t : TA) : Prop :=
  ∀ (pos : Pos) (pins : List (Addr × Obj)) (s : Shared) (σ : St) (H : Hp) (Q : List V → Hp → Prop), Inv X pins σ H s → t σ H Q → wpAny (model X.prog X.w) X.A (spliced (backTo pos (starEach es X.env))) (fun us s1 => 1 ≤ s1.toks ∧ AP X pins σ Q us s1) X.xe s
def PEU (X : Cx) (e : Expr) (t : TE) : Prop :=
  ∀ (pins : List (Addr × Obj)) (s : Shared) (σ : St) (H : Hp) (Q : VK), Inv X pins σ H s → t σ H Q → wpAny (model X.prog X.w) X.A (eval e X.env) (fun v s1 => 1 ≤ s1.toks ∧ EP X pins σ Q v s1) X.xe s
section
variable {X : Cx} {e : Expr} {es : List Expr} {te : TE} {ta : TA}
/-- a written text at the front -/
theorem pau_here {c : Str} {j : Nat} {cp : Pos} (hr : PA X es ta) (hs : starEach (.Constant (.str c) j cp :: es) X.env = (false, eval (.Constant (.str c) j cp) X.env) :: starEach es X.env := by rfl) : PAU X (.Constant (.str c) j cp :: es) (tCons (tC (.str c)) ta) := by
  intro pos pins s σ H Q I h
  rw [hs]
  show wpAny _ _ (spliced ((false, eval (.Constant (.str c) j cp) X.env) :: backTo pos (starEach es X.env))) _ _ s
  refine Calls.spliced_cons (Calls.Constant_str (wpAny_mono (PySem.wpAny_toks (hr.run pos pins _ σ H _ (I.tok (s.toks + 1)) h)) (fun us s1 z => ?_) fun _ _ z => z.2))
  obtain ⟨up, xs, H1, I1, r, q⟩ := z
  exact ⟨Nat.le_trans (Nat.le_add_left 1 s.toks) up, .str c :: xs, H1, I1, .cons ⟨_, rfl⟩ r, q⟩
theorem pau_next (he : PE X e te) (hr : PAU X es ta) (hs : starEach (e :: es) X.env = (false, eval e X.env) :: starEach es X.env := by rfl) : PAU X (e :: es) (tCons te ta) := by
  intro pos pins s σ H Q I h
  rw [hs]
  show wpAny _ _ (spliced ((false, eval e X.env) :: backTo pos (starEach es X.env))) _ _ s
  refine Calls.spliced_cons (thn (he.run pins s σ H _ I h) fun v s1 z => ?_)
  obtain ⟨x, H1, I1, r1, q1⟩ := z
  refine wpAny_mono (hr pos pins s1 σ H1 _ I1 q1) (fun us s2 z => ?_) fun _ _ z => z
  obtain ⟨up, xs, H2, I2, r2, q2⟩ := z
  exact ⟨up, x :: xs, H2, I2, .cons r1 r2, q2⟩
theorem peu_lst {pos : Pos} (h : PAU X es ta) : PEU X (.List es pos) (tLst ta) := by
  intro pins s σ H Q I q
  refine wpAny_List_spliced (wpAny_mono (h pos pins s σ H _ I q) (fun us s1 z => ?_) fun _ _ z => z)
  obtain ⟨up, xs, H1, I1, r, many, q1⟩ := z
  refine ⟨by rw [← r.length]; exact many, up, .ref s1.heap.objs.size, upd H1 s1.heap.objs.size (.lst xs), I1.laid (t' := s1.toks) (fun b u e => Heap.get?_push_of_some _ e) (Nat.le_refl _) ⟨many, us, 0, r, Heap.get?_push_size _ rfl⟩, rfl, q1 _ (I1.hok.fresh (Nat.le_refl _))⟩
variable {i : Nat} {x : Str} {pos' pos : Pos} {rest : List Stmt} {u : TS}
/-- x = e, behind which a token is out -/
theorem pss_setU (hN : X.N.Nodup) (hi : X.N[i]? = some x) (hx : Loc X.env.scope x) (he : PEU X e te) (h2 : PSsT X rest u) (hs : swapsWith e (some (.Name x pos')) pos.line X.env = pure false := by rfl) (hf : X.fn x = true ∨ X.env.scope.names.lookup x = some .local := by first | exact .inl rfl | exact .inr rfl | assumption) :
    PSs X (.Assign [.Name x pos'] e pos :: rest) (tSeq (tAsg te (gName i)) u) := by
  refine ⟨fun pins s σ H D I h => wpAny_execs_cons (wpAny_Assign_Name (wpAny_mono (he pins s σ H _ I h) (fun v s1 z => ?_) fun _ _ z => z) hs)⟩
  obtain ⟨up, y, H1, I1, r1, q1⟩ := z
  refine wpAny_mono (PySem.wpAny_toks (store_ok (Q := fun _ s2 => Inv X pins (σ.set i (some y)) H1 s2) I1 hN hi hx r1 (fun _ I2 => I2) hf)) (fun _ s2 z => ?_) fun _ _ z => z.2
  exact h2 pins s2 _ H1 D (Nat.le_trans up z.1) z.2 q1
/-- x = e, where one is -/
theorem pst_set (hN : X.N.Nodup) (hi : X.N[i]? = some x) (hx : Loc X.env.scope x) (he : PET X e te) (hs : swapsWith e (some (.Name x pos')) pos.line X.env = pure false := by rfl) (hf : X.fn x = true ∨ X.env.scope.names.lookup x = some .local := by first | exact .inl rfl | exact .inr rfl | assumption) :
    PST X (.Assign [.Name x pos'] e pos) (tAsg te (gName i)) := by
  intro pins s σ H D h0 I h
  refine wpAny_Assign_Name (thn (he pins s σ H _ h0 I h) fun v s1 z => ?_) hs
  obtain ⟨y, H1, I1, r1, q1⟩ := z
  exact store_ok I1 hN hi hx r1 (fun s2 I2 => ⟨_, H1, I2, q1⟩) hf
end
end L2

set_option Elab.async false
set_option linter.all false
set_option maxRecDepth 100000
set_option maxHeartbeats 2000000
/-! VxLo: f(k = v, ..) without positional ones; a def's body with its code object told; what stands under the tables' growth. -/
namespace L2
open PySem PySem.Spec PyProof.Rows LamX
section
variable {X : Cx} {CX : CXT} {k : Nat} {f : Addr} {fd : FuncData} {ps ks : List Str} {sp : Sp} {E : XK} {x : Str} {p pos : Pos} {kws : List Keyword} {tk : TA} {g : List Value → List Value → List Value} {gV : List V → List V → List V}
theorem pe_callK0 (F : FnOk X.prog X.w X.K X.mg X.base CX k f fd ps sp) (hr : Room k X.A) (hg : Gl X x) (hm : X.mg x = some (.ref f)) (keep : PySem.W.keepIn X.K (.ref f) = true) (hb : KBinds X.K fd ps ks g gV) (hx : Passes CX X E) (hkw : PK X kws tk)
    (hall : (backToKw pos (keywordEach kws X.env)).all (·.1.isSome) = true := by rfl) (names : (backToKw pos (keywordEach kws X.env)).filterMap (·.1) = ks := by rfl) (hdb : (x == ("__debug__" : Str)) = false := by decide)
    (hpl : ((backTo pos (starEach [] X.env)).any (·.1) || (backToKw pos (keywordEach kws X.env)).any (·.1.isNone)) = false := by rfl) :
    PE X (.Call (.Name x p) [] kws pos) (fun σ H Q => tk σ H fun zs H1 => sp (gV [] zs) H1 Q E) := by
  refine ⟨fun pins s σ H Q I h => wpAny_Call_Name_kw (ld_glob I hg hm (PySem.W.callWith_KW0 (h₀ := X.base) I.ok.mod.kin keep hall (thn (hkw.run pos pins s σ H _ I h) fun ws s2 z => ?_) hpl) hdb)⟩
  obtain ⟨zs, H2, I2, rz, q2⟩ := z
  rw [names]
  exact ⟨I2.kIn, run_fnk (us := []) (vs := []) F hr hb hx I2 .nil rz q2⟩
end
section
variable {P : Program} {w : World} {K : PySem.W.Frag} {mg : Str → Option Value} {base : Heap} {CX : CXT} {k : Nat} {f : Addr} {fd : FuncData} {N ps : List Str} {sp : Sp}
/-- a def promised where nothing is being shown, by its body; its code object is told -/
theorem FunD.okGc {x qual : Str} {params : Arguments} {body : List Stmt} {scope : Scope} {dvs : List V} {kws : List (Str × V)} (F : FunD K x qual params body scope dvs kws f fd) (S : FnScope N ps scope) (len : ∀ vs H Q E, sp vs H Q E → vs.length = ps.length)
    (hbody : ∀ (cdv : Value) (A : Around) (outer : List Env) (s : Shared) (H : Hp) (vs : List V) (Q : VK) (E : XK), PySem.W.codeIn K cdv qual = true → (∃ oc od fd' osl, K.lookup f = some ⟨oc, od, .func fd', osl⟩ ∧ fd'.code = cdv) →
      (A.deeper (envOfC qual scope s.heap.objs.size f cdv)).guards = some [] → Room k (A.deeper (envOfC qual scope s.heap.objs.size f cdv)) → sp vs H Q E →
      ∃ t, PSs (cxOf CX P w K mg base N qual scope f cdv A outer s H E) body t ∧ t { nx := fun _ H' => Q .non H', rt := Q } (start N vs) H) : FnG P w K mg base CX (k + 1) f fd ps sp := by
  obtain ⟨oc, od, dV, kV, doc, pm, an, cdv, ct, osl, rfl, lk, hcd, _, _⟩ := F.ex
  refine ⟨len, fun A hgu hr outer s H args us vs Q E e0 hb r hsp => ?_⟩
  have kin : K.In s.heap := e0.mod.kin.keeps fun b o e => (e0.bs b o e).1
  have par : ∀ y ∈ ps.zip us, scope.names.lookup y.1 = some .local ∨ (scope.names.lookup y.1 = some .cell ∧ ((cellsFrom (s.heap.objs.size + 1) scope.names []).lookup y.1).isSome = true) := by
    intro y hy
    obtain ⟨n, v⟩ := y
    exact (S.par n (List.of_mem_zip hy).1).imp id fun q => ⟨q, PySem.W.cellsFrom_some _ _ _ (.inl q)⟩
  refine codeAny_call_function hr.depth (kin _ _ lk) rfl S.co S.gen rfl (PySem.W.codeRec_of kin hcd) (hb _ _ _ _ (wpAny_newFunctionEnv_cells S.kind par fun env he s1 x => ?_))
  subst he
  refine ⟨(e0.mod.nolimit.keeps fun b o e => (e0.bs b o e).1).keeps x.toInCall.keep, codeAny_func ?_⟩
  obtain ⟨t, ht, hq⟩ := hbody cdv A outer s H vs Q E hcd ⟨_, _, _, _, lk, rfl⟩ hgu (hr.deeper _) hsp
  refine wpAny_mono (ht.run [] s1 (start N vs) H _ (inv_start S hr.hd e0 (len _ _ _ _ hsp) r x) hq) (fun fl s' hs => ?_) fun _ _ hs => hs
  cases fl with
  | ret u =>
    obtain ⟨v, _, H', J, rv, q⟩ := hs
    exact ⟨v, H', J.os, J.bare, J.base, J.hok, rv, q⟩
  | next =>
    obtain ⟨_, H', J, q⟩ := hs
    exact ⟨V.non, H', J.os, J.bare, J.base, J.hok, rfl, q⟩
  | brk => exact hs.elim fun _ z => z.elim fun _ z => z.2.elim
  | cont => exact hs.elim fun _ z => z.elim fun _ z => z.2.elim
end
/-! ### under the tables' growth -/
section
variable {K : PySem.W.Frag} {H H' : Hp}
theorem sqL_ext {a : Addr} {xs : List V} (e : ExtN H H') (h : SqL K H a xs) : SqL K H' a xs := by
  rcases h with h | h
  · rcases h with h | ⟨o, h⟩
    · exact .inl (.inl (e _ _ h fun _ z => nomatch z))
    · exact .inl (.inr ⟨o, e _ _ h fun _ z => nomatch z⟩)
  · exact .inr h
theorem sqT_ext {a : Addr} {xs : List V} (e : ExtN H H') (h : SqT K H a xs) : SqT K H' a xs := by
  rcases h with h | h
  · rcases h with h | ⟨o, h⟩
    · exact .inl (.inl (e _ _ h fun _ z => nomatch z))
    · exact .inl (.inr ⟨o, e _ _ h fun _ z => nomatch z⟩)
  · exact .inr h
mutual
theorem sd_ext (e : ExtN H H') : ∀ {v : V} {d : PyData}, Sd K H v d → Sd K H' v d
  | _, _, .non => .non
  | _, _, .bl b => .bl b
  | _, _, .int i => .int i
  | _, _, .str x => .str x
  | _, _, .lst h a => .lst (sqL_ext e h) (sdall_ext e a)
  | _, _, .tup h a => .tup (sqT_ext e h) (sdall_ext e a)
  | _, _, .emp h => .emp (e _ _ h fun _ z => nomatch z)
  | _, _, .one h a => .one (e _ _ h fun _ z => nomatch z) (sd_ext e a)
theorem sdall_ext (e : ExtN H H') : ∀ {vs : List V} {ds : List PyData}, SdAll K H vs ds → SdAll K H' vs ds
  | _, _, .nil => .nil
  | _, _, .cons h r => .cons (sd_ext e h) (sdall_ext e r)
end
theorem DrawAt.ext {p : Addr} {N : Nat} (d : DrawAt H p N) (e : ExtN H H') : DrawAt H' p N := by
  obtain ⟨l, cs, a, b, c, h1, h2, r⟩ := d
  exact ⟨l, cs, a, b, c, e _ _ h1 (fun _ z => nomatch z), e _ _ h2 (fun _ z => nomatch z), r⟩
end
end L2

set_option Elab.async false
set_option linter.all false
set_option maxRecDepth 100000
set_option maxHeartbeats 2000000
/-! VxCo: x in o, x not in o, len(o): the program's own __contains__ and __len__. -/
namespace L2
open PySem PySem.Spec PyProof.Rows
section
variable {X : Cx} {CX : CXT} {k : Nat} {C f : Addr} {fd : FuncData} {ps : List Str} {sp : Sp} {E : XK}
/-- a def run somewhere below the body, where there is room -/
theorem run_fnA {A1 : Around} {pins : List (Addr × Obj)} {σ : St} {H : Hp} {s : Shared} {Q : VK} {us : List Value} {vs : List V} (F : FnOk X.prog X.w X.K X.mg X.base CX k f fd ps sp) (sb : Sub X k A1) (hb : Binds X.K fd ps []) (hx : Passes CX X E)
    (I : Inv X pins σ H s) (r : Vals vs us) (h : sp vs H Q E) : wpAny (model X.prog X.w) A1 (call (.ref f) us) (EP X pins σ Q) X.xe s := by
  have hl : (us ++ []).length = ps.length := by rw [List.append_nil, ← r.length]; exact F.len _ _ _ _ h
  have e0 : Env0 X.prog X.w X.K X.mg X.base A1 X.stack s H := by
    have e := I.env0
    exact ⟨by rw [sb.fr]; exact e.frames, e.mod, e.bs, e.bsz, e.funs, e.frf, e.hok, e.bare⟩
  refine wpAny_call (codeAny_mono (F.run A1 X.stack s H ⟨us, []⟩ us vs Q E sb.room e0 (by
    have z := hb s us I.kIn hl
    rw [List.append_nil] at z
    exact z) r h) fun r s' hq => ?_)
  cases r with
  | error e => exact hx pins σ H s e s' I hq
  | ok fl =>
    cases fl with
    | ret u => exact I.after hq
    | next => exact False.elim hq
    | brk => exact False.elim hq
    | cont => exact False.elim hq
/-- x in o -/
def rInO (C : Addr) (sp : Sp) (E : XK) (neg : Bool) : R2 := fun x y H Q => ∃ (a dx : Addr) (fs : List (Str × V)), y = .ref a ∧ H a = some (.ins C dx fs) ∧ sp [.ref a, x] H (fun v H' => ∃ b, v = .bl b ∧ Q (.bl (if neg then !b else b)) H') E
theorem op_inO (F : FnOk X.prog X.w X.K X.mg X.base CX k f fd ps sp) (hr : Room k X.A) (hb : Binds X.K fd ps []) (hx : Passes CX X E) (hs : PySem.W.findIn X.K (.ref C) "__contains__" = some (some (.ref f))) (hf : PySem.W.isFn X.K (.ref f) = true) : OpR X (compareOp .In) (rInO C sp E false) := by
  intro pins s σ H x y v u Q I rx ry h
  obtain ⟨a, dx, fs, rfl, ha, h⟩ := h
  obtain rfl : u = Value.ref a := ry
  obtain ⟨mA, J, _⟩ := ins_get I.hok ha
  obtain ⟨od, J, _⟩ := J.look
  obtain ⟨m, hF⟩ := I.fr
  refine PySem.W.in_K hF I.ok.mod.kin J hs hf (wpAny_mono (run_fnA F ⟨hr, rfl⟩ hb hx I (vs := [.ref a, x]) (.cons rfl (.cons rx .nil)) h) (fun r s' hq => ?_) fun _ _ z => z)
  obtain ⟨z, H', I', rz, b, rfl, q⟩ := hq
  obtain rfl : r = Value.bool b := rz
  exact wpAny_truthy_bool ⟨.bl b, H', I', rfl, q⟩
theorem op_notInO (F : FnOk X.prog X.w X.K X.mg X.base CX k f fd ps sp) (hr : Room k X.A) (hb : Binds X.K fd ps []) (hx : Passes CX X E) (hs : PySem.W.findIn X.K (.ref C) "__contains__" = some (some (.ref f))) (hf : PySem.W.isFn X.K (.ref f) = true) : OpR X (compareOp .NotIn) (rInO C sp E true) := by
  intro pins s σ H x y v u Q I rx ry h
  obtain ⟨a, dx, fs, rfl, ha, h⟩ := h
  obtain rfl : u = Value.ref a := ry
  obtain ⟨mA, J, _⟩ := ins_get I.hok ha
  obtain ⟨od, J, _⟩ := J.look
  obtain ⟨m, hF⟩ := I.fr
  refine PySem.W.notIn_K hF I.ok.mod.kin J hs hf (wpAny_mono (run_fnA F ⟨hr, rfl⟩ hb hx I (vs := [.ref a, x]) (.cons rfl (.cons rx .nil)) h) (fun r s' hq => ?_) fun _ _ z => z)
  obtain ⟨z, H', I', rz, b, rfl, q⟩ := hq
  obtain rfl : r = Value.bool b := rz
  exact wpAny_truthy_bool ⟨.bl (!b), H', I', rfl, q⟩
/-- len(o) -/
def rLenO (C : Addr) (sp : Sp) (E : XK) : List V → Hp → VK → Prop := fun xs H Q => ∃ (a dx : Addr) (fs : List (Str × V)), xs = [.ref a] ∧ H a = some (.ins C dx fs) ∧ sp [.ref a] H (fun v H' => ∃ n : Int, v = .int n ∧ (0 ≤ n ∧ n < 2 ^ 63) ∧ Q (.int n) H') E
theorem call_lenO (F : FnOk X.prog X.w X.K X.mg X.base CX k f fd ps sp) (hr : Room (k + 1) X.A) (hb : Binds X.K fd ps []) (hx : Passes CX X E) (hs : PySem.W.findIn X.K (.ref C) "__len__" = some (some (.ref f))) (hf : PySem.W.isFn X.K (.ref f) = true) : CallR X (.builtin "len") (rLenO C sp E) := by
  intro pins s σ H xs us Q I r h
  obtain ⟨a, dx, fs, rfl, ha, h⟩ := h
  rw [Vals.ref1 r]
  obtain ⟨mA, J, _⟩ := ins_get I.hok ha
  obtain ⟨od, J, _⟩ := J.look
  obtain ⟨m, hF⟩ := I.fr
  refine PySem.W.len_K hF I.ok.mod.kin J hs hf (wpAny_mono (run_fnA F (Sub.in1 ⟨hr, rfl⟩) hb hx I (vs := [.ref a]) (.cons rfl .nil) h) (fun r s' hq => ?_) fun _ _ z => z)
  obtain ⟨z, H', I', rz, n, rfl, hn, q⟩ := hq
  obtain ⟨t, rfl⟩ : ∃ t, r = Value.int n t := rz
  exact ⟨hn, .int n, H', I'.tok _, ⟨_, rfl⟩, q⟩
end
end L2

set_option Elab.async false
set_option linter.all false
set_option maxRecDepth 100000
set_option maxHeartbeats 2000000
/-! VxBa: C() of a class without an __init__ of its own. -/
namespace L2
open PySem PySem.Spec PyProof.Rows
structure Bare (K : PySem.W.Frag) (C : Addr) : Prop where
  makes : PySem.W.makesIn K C = true
  init : PySem.W.findIn K (.ref C) "__init__" = some (some (.builtin "object.__init__"))
  kp : PySem.W.keepIn K (.ref C) = true
  top : PySem.W.mroIn K C (.type "object") = some true
section
variable {X : Cx} {C : Addr} {pins : List (Addr × Obj)} {σ : St} {H : Hp} {s : Shared} {Q : VK} {x : Str} {p pos : Pos}
open NwA PySem.W PySem.Calls in
theorem run_bare (B : Bare X.K C) (I : Inv X pins σ H s) (h : ∀ x dx, H x = Option.none → H dx = Option.none → dx ≠ x → Q (V.ref x) (upd (upd H dx (.own x)) x (.ins C dx []))) :
    wpAny (model X.prog X.w) X.A (call (.ref C) []) (EP X pins σ Q) X.xe s := by
  have hq := h (s.heap.objs.size + 1) s.heap.objs.size (I.hok.fresh (Nat.le_succ _)) (I.hok.fresh (Nat.le_refl _)) (Nat.ne_of_lt (Nat.lt_succ_self _))
  have I2 := Inv.made (C := C) I
  refine wpAny_call (make_map0 I.kIn B.makes B.init (fun self => PySem.W.Looks.of_pure (oi_bind _)) ?_)
  have obj : ((s.heap.push PySem.W.emptyDict).push (PySem.W.instObj C s.heap.objs.size)).get? (s.heap.objs.size + 1) = some (PySem.W.instObj C s.heap.objs.size) := by heap_get
  have t1 : PySem.W.Looks (model X.prog X.w) ((s.heap.push PySem.W.emptyDict).push (PySem.W.instObj C s.heap.objs.size)) (typeOf (.ref (s.heap.objs.size + 1))) (.ref C) := type_at obj rfl
  have t2 : PySem.W.Looks (model X.prog X.w) ((s.heap.push PySem.W.emptyDict).push (PySem.W.instObj C s.heap.objs.size)) (isInstance (.ref (s.heap.objs.size + 1)) (.type "object")) true := t1.andThen (PySem.W.looks_mroIn I2.kIn B.top)
  refine codeAny_call_builtin oi_plain entry_oi (@check_slot (model X.prog X.w) _ _ _ "object.__init__" "object" "__init__" (.ref (s.heap.objs.size + 1)) [] [] _ oi_kind oi_split t2 (oi_args_any _ [] []) ?_)
  rw [oi_run]
  exact wpAny_pure (And.intro rfl ⟨V.ref _, _, I2, rfl, hq⟩)
/-- C() -/
theorem pe_bare (B : Bare X.K C) (hg : Gl X x) (hm : X.mg x = some (.ref C)) (hdb : (x == ("__debug__" : Str)) = false := by decide) :
    PE X (.Call (.Name x p) [] [] pos) (fun _ H Q => ∀ n dx, H n = none → H dx = none → dx ≠ n → Q (V.ref n) (upd (upd H dx (.own n)) n (.ins C dx []))) :=
  ⟨fun pins s σ H Q I h => wpAny_Call_Name_kw (ld_glob I hg hm (PySem.W.callWith_K0 (first := []) I.kIn B.kp (run_bare B I h)) hdb)⟩
end
end L2

set_option Elab.async false
set_option linter.all false
set_option maxRecDepth 100000
set_option maxHeartbeats 1000000
/-! VxL: a list of anything == [] and != []. -/
namespace L2
open PySem PySem.Spec PyProof.Rows
section
variable {X : Cx}
def rEqN (K : PySem.W.Frag) : R2 := fun x y H Q => ∃ (a b : Addr) (xs : List V), x = .ref a ∧ y = .ref b ∧ SqL K H a xs ∧ SqL K H b [] ∧ Q (.bl xs.isEmpty) H
theorem op_eqN (hu : X.A.units < cLine) : OpR X (compareOp .Eq) (rEqN X.K) := by
  intro pins s σ H x y v u Q I rx ry h
  obtain ⟨a, b, xs, rfl, rfl, ha, hb, q⟩ := h
  cases rx
  cases ry
  obtain ⟨us, r1, p1, _⟩ := I.list ha
  obtain ⟨ws, r2, p2, _⟩ := I.list hb
  cases r2
  by_cases z : xs = []
  · subst z
    cases r1
    refine SeqAt.eq_listAt (e := fun _ => true) p1.isList p2.isList rfl hu ?_ ?_
    · intro j h1
      simp at h1
    · exact ⟨.bl true, H, I, rfl, q⟩
  · refine SeqAt.eq_list_lengthsAt p1.isList p2.isList ?_ hu ?_
    · have e : us ≠ [] := fun w => z (by
        subst w
        cases r1
        rfl)
      cases us with
      | nil => exact absurd rfl e
      | cons _ _ => simp
    · cases xs with
      | nil => exact absurd rfl z
      | cons _ _ => exact ⟨.bl false, H, I, rfl, q⟩
def rNeN (K : PySem.W.Frag) : R2 := fun x y H Q => ∃ (a b : Addr) (xs : List V), x = .ref a ∧ y = .ref b ∧ SqL K H a xs ∧ SqL K H b [] ∧ Q (.bl !xs.isEmpty) H
theorem op_neN (hu : X.A.units < cLine) : OpR X (compareOp .NotEq) (rNeN X.K) := by
  intro pins s σ H x y v u Q I rx ry h
  obtain ⟨a, b, xs, rfl, rfl, ha, hb, q⟩ := h
  cases rx
  cases ry
  obtain ⟨us, r1, p1, _⟩ := I.list ha
  obtain ⟨ws, r2, p2, _⟩ := I.list hb
  cases r2
  by_cases z : xs = []
  · subst z
    cases r1
    refine SeqAt.RcNeAt.lists (e := fun _ => true) p1.isList p2.isList rfl hu ?_ X.prog X.w _ _ ?_
    · intro j h1
      simp at h1
    · exact ⟨.bl false, H, I, rfl, q⟩
  · refine SeqAt.RcNeAt.lists_lengths p1.isList p2.isList ?_ hu X.prog X.w _ _ ?_
    · have e : us ≠ [] := fun w => z (by
        subst w
        cases r1
        rfl)
      cases us with
      | nil => exact absurd rfl e
      | cons _ _ => simp
    · cases xs with
      | nil => exact absurd rfl z
      | cons _ _ => exact ⟨.bl true, H, I, rfl, q⟩
end
end L2

set_option Elab.async false
set_option linter.all false
set_option maxRecDepth 100000
set_option maxHeartbeats 2000000
/-! VxO: things: data, or objects of the program's own classes; isinstance of both. -/
namespace L2
open PySem PySem.Spec PyProof.Rows
/-- what of the text a node's class must have; CN: the class above all of them -/
structure NodC (K : PySem.W.Frag) (CN C : Addr) : Prop where
  cls : Cls K C
  ha : PySem.W.findIn K (.ref C) "__class__" = some (some (.builtin "object.__class__"))
  hn : PySem.W.specialIn K (.builtin "object.__class__") "__get__" = some (some (.builtin "getset_descriptor.__get__"))
  htk : PySem.W.takesIn K (.builtin "object.__class__") = some true
  eqc : VxS.EqC K C
  kit : ∀ t ∈ ["int", "bool", "str", "tuple", "list", "dict"], PySem.W.kitOne K (.ref C) (.type t) = some false
  kitN : PySem.W.kitOne K (.ref C) (.ref CN) = some true
  mro : PySem.W.mroIn K C (.ref C) = some true
/-- no datum is a node -/
def DatN (K : PySem.W.Frag) (CN : Addr) : Prop := ∀ t ∈ ["NoneType", "bool", "int", "str", "list", "tuple", "dict"], PySem.W.kitOne K (.type t) (.ref CN) = some false
inductive Tk where
  | dat (d : PyData)
  | nod (C : Addr)
def Tv (K : PySem.W.Frag) (CN : Addr) (H : Hp) (v : V) : Tk → Prop
  | .dat d => Sd K H v d
  | .nod C => NodC K CN C ∧ ∃ a dx fs, v = .ref a ∧ H a = some (.ins C dx fs)
def isTk : Tk → String → Bool
  | .dat d, t => isD d t
  | .nod _, _ => false
def isNod : Tk → Bool
  | .dat _ => false
  | .nod _ => true
theorem NodC.ty {K : PySem.W.Frag} {CN C a dx : Addr} {fs : List (Str × V)} {H : Hp} (n : NodC K CN C) (e : H a = some (.ins C dx fs)) : TyX K H (.ref a) (.ref C) := .base (.ins e n.cls n.ha n.hn n.htk n.eqc.top)
theorem plain_mem {t : String} (h : plainT t = true) : t ∈ ["int", "bool", "str", "tuple", "list", "dict"] := by
  unfold plainT at h
  simpa using h
theorem tyN_mem (d : PyData) : tyN d ∈ ["NoneType", "bool", "int", "str", "list", "tuple", "dict"] := by cases d <;> simp [tyN]
section
variable {X : Cx}
def rIsTk (K : PySem.W.Frag) (CN : Addr) : List V → Hp → VK → Prop := fun xs H Q => ∃ (v : V) (k : Tk) (t : String), xs = [v, .ty t] ∧ plainT t = true ∧ Tv K CN H v k ∧ Q (.bl (isTk k t)) H
theorem call_isTk {CN : Addr} : CallR X (.builtin "isinstance") (rIsTk X.K CN) := by
  intro pins s σ H xs us Q I r h
  obtain ⟨v, k, t, rfl, ht, hv, q⟩ := h
  cases k with
  | dat d => exact call_isD pins s σ H _ us Q I r ⟨v, d, t, rfl, ht, hv, q⟩
  | nod C =>
    obtain ⟨n, a, dx, fs, rfl, e⟩ := hv
    exact call_isi pins s σ H _ us Q I r ⟨.ref a, .ty t, _, .type t, _, rfl, .ty t, n.ty e, n.kit t (plain_mem ht), q⟩
def rIsN (K : PySem.W.Frag) (CN : Addr) : List V → Hp → VK → Prop := fun xs H Q => ∃ (v : V) (k : Tk), xs = [v, .ref CN] ∧ Tv K CN H v k ∧ Q (.bl (isNod k)) H
theorem call_isN {CN : Addr} (D : DatN X.K CN) : CallR X (.builtin "isinstance") (rIsN X.K CN) := by
  intro pins s σ H xs us Q I r h
  obtain ⟨v, k, rfl, hv, q⟩ := h
  cases k with
  | dat d => exact call_isi pins s σ H _ us Q I r ⟨v, .ref CN, _, .ref CN, _, rfl, .own CN, (show Sd X.K H v d from hv).ty, D _ (tyN_mem d), q⟩
  | nod C =>
    obtain ⟨n, a, dx, fs, rfl, e⟩ := hv
    exact call_isi pins s σ H _ us Q I r ⟨.ref a, .ref CN, _, .ref CN, _, rfl, .own CN, n.ty e, n.kitN, q⟩
/-- isinstance(v, tuple), v a sequence of anything or a datum -/
def rIsTup (K : PySem.W.Frag) : List V → Hp → VK → Prop := fun xs H Q => ∃ (v : V) (t : String) (b : Bool), xs = [v, .ty "tuple"] ∧ TyX K H v (.type t) ∧ b = (t == "tuple") ∧ t ∈ ["NoneType", "bool", "int", "str", "list", "tuple", "dict"] ∧ Q (.bl b) H
theorem call_isTup : CallR X (.builtin "isinstance") (rIsTup X.K) := by
  intro pins s σ H xs us Q I r h
  obtain ⟨v, t, b, rfl, ty, rfl, m, q⟩ := h
  refine call_isi pins s σ H _ us Q I r ⟨v, .ty "tuple", _, .type "tuple", _, rfl, .ty "tuple", ty, ?_, q⟩
  simp only [List.mem_cons, List.not_mem_nil, or_false] at m
  rcases m with rfl | rfl | rfl | rfl | rfl | rfl | rfl
  · exact kit_data .none rfl
  · exact kit_data (.bool true) rfl
  · exact kit_data (.int 0) rfl
  · exact kit_data (.str "") rfl
  · exact kit_data (.list []) rfl
  · exact kit_data (.tuple []) rfl
  · exact kit_data (.dict []) rfl
end
end L2

set_option Elab.async false
set_option linter.all false
set_option maxRecDepth 100000
set_option maxHeartbeats 1000000
/-! VxH: within a try whose clause looks at the slots: C.m(k = e, ..) and o.m(k = e, ..). -/
namespace L2
open PySem PySem.Spec PyProof.Rows StX ClX
section
variable {X : Cx} {CX : CXT} {k : Nat} {f C p g : Addr} {fd : FuncData} {ps ks : List Str} {sp : Sp} {x m : Str} {np pos apos : Pos} {o : Expr} {kws : List Keyword} {ta : TE} {tk : TA} {E : L2.St → XK} {mc : Value}
/-- C.m(k = v, ..), m a classmethod -/
theorem pe_cmethKSg {pl : Sem Bool} {gv : List Value → List Value} {gV : List V → List V} (he : PE X o ta) (r : CRead X.K C mc) (c : CMet X.K C mc m p g) (F : FnOk X.prog X.w X.K X.mg X.base CX k g fd ps sp) (hr : Room k X.A) (hx : ∀ σ, PassesAt CX X σ (E σ))
    (hbd : ∀ (s : Shared) (ws : List Value), X.K.In s.heap → ws.length = ks.length → BindsTo s fd ⟨[Value.ref C], ks.zip ws⟩ (ps.zip (Value.ref C :: gv ws))) (rel : ∀ {zs : List V} {ws : List Value}, Vals zs ws → Vals (gV zs) (gv ws)) (hkw : PK X kws tk)
    (hall : (backToKw pos (keywordEach kws X.env)).all (·.1.isSome) = true := by rfl) (hks : (backToKw pos (keywordEach kws X.env)).filterMap (·.1) = ks := by rfl)
    (hpl : ((backTo pos (starEach [] X.env)).any (·.1) || (backToKw pos (keywordEach kws X.env)).any (·.1.isNone)) = false := by rfl)
    (ht : eval (.Call (.Attribute o m apos) [] kws pos) X.env = (do
      let ov ← eval o X.env
      standAt apos.atName
      let (f, first) ← holding [ov] (getMethod ov m pl)
      callWith pos f first (backTo pos (starEach [] X.env)) (backToKw pos (keywordEach kws X.env))) := by rfl) :
    PE X (.Call (.Attribute o m apos) [] kws pos) (fun σ H Q => ta σ H fun y H1 => y = .ref C ∧ tk σ H1 fun zs H2 => zs.length = ks.length ∧ sp (.ref C :: gV zs) H2 Q (E σ)) := by
  refine ⟨fun pins s σ H Q I h => PySem.W.methodCall_KW (pl := pl) (thn (he.run pins s σ H _ I h) fun u s1 hh => ?_) ht⟩
  obtain ⟨y, H1, I1, rx, rfl, q⟩ := hh
  obtain rfl : u = Value.ref C := rx
  refine getmethcm_ok I1 r c fun s2 I2 => ?_
  refine PySem.W.callWith_of hpl (PySem.W.keeps_M (K := X.K) (self := .ref C) c.fi) (evalArgs_kw2_nil hall (thn (hkw.run pos _ s2 σ H1 _ I2 q) fun ws s3 hh => ?_))
  obtain ⟨zs, H2, I3, rz, hl, q2⟩ := hh
  refine ⟨⟨pin_at I3, I3.kIn⟩, ?_⟩
  rw [hks]
  have z : wpAny (model X.prog X.w) X.A (call (.ref s1.heap.objs.size) ([] ++ []) (ks.zip ws)) (EP X ((s1.heap.objs.size, PySem.W.methodObj (.ref g) (.ref C)) :: pins) σ Q) X.xe s3 := by
    refine wpAny_call (PySem.W.method_call (pin_at I3) (codeAny_mono (F.run X.A X.stack s3 H2 ⟨[.ref C], ks.zip ws⟩ (.ref C :: gv ws) (.ref C :: gV zs) Q (E σ) hr I3.env0 (hbd s3 ws I3.kIn (by rw [← rz.length]; exact hl)) (.cons rfl (rel rz)) q2) fun rs s' hq => ?_))
    cases rs with
    | error er => exact hx σ _ H2 s3 er s' I3 hq
    | ok fl =>
      cases fl with
      | ret u => exact I3.after hq
      | next => exact hq.elim
      | brk => exact hq.elim
      | cont => exact hq.elim
  exact thn z fun _ _ y => unpinE y
/-- o.m(k = v, ..) -/
theorem pe_methKSg {pl : Sem Bool} {gv : List Value → List Value} {gV : List V → List V} (he : PE X o ta) (c : Cls X.K C) (hm : Meth X.K C m f) (F : FnOk X.prog X.w X.K X.mg X.base CX k f fd ps sp) (hr : Room k X.A) (hx : ∀ σ, PassesAt CX X σ (E σ))
    (hbd : ∀ (s : Shared) (a : Addr) (ws : List Value), X.K.In s.heap → ws.length = ks.length → BindsTo s fd ⟨[Value.ref a], ks.zip ws⟩ (ps.zip (Value.ref a :: gv ws))) (rel : ∀ {zs : List V} {ws : List Value}, Vals zs ws → Vals (gV zs) (gv ws)) (hkw : PK X kws tk)
    (hall : (backToKw pos (keywordEach kws X.env)).all (·.1.isSome) = true := by rfl) (hks : (backToKw pos (keywordEach kws X.env)).filterMap (·.1) = ks := by rfl)
    (hpl : ((backTo pos (starEach [] X.env)).any (·.1) || (backToKw pos (keywordEach kws X.env)).any (·.1.isNone)) = false := by rfl)
    (ht : eval (.Call (.Attribute o m apos) [] kws pos) X.env = (do
      let ov ← eval o X.env
      standAt apos.atName
      let (f, first) ← holding [ov] (getMethod ov m pl)
      callWith pos f first (backTo pos (starEach [] X.env)) (backToKw pos (keywordEach kws X.env))) := by rfl) :
    PE X (.Call (.Attribute o m apos) [] kws pos) (fun σ H Q => ta σ H fun y H1 => ∃ a dx fs, y = .ref a ∧ H1 a = some (.ins C dx fs) ∧ fs.lookup m = none ∧ tk σ H1 fun zs H2 => zs.length = ks.length ∧ sp (.ref a :: gV zs) H2 Q (E σ)) := by
  refine ⟨fun pins s σ H Q I h => PySem.W.methodCall_KW (pl := pl) (thn (he.run pins s σ H _ I h) fun u s1 hh => ?_) ht⟩
  obtain ⟨y, H1, I1, rx, a, dx, fs, rfl, ea, l, q⟩ := hh
  obtain rfl : u = Value.ref a := rx
  refine getmeth_ok I1 ea c hm l ?_
  refine PySem.W.callWith_of hpl (PySem.W.keeps_K (K := X.K) hm.kp) (evalArgs_kw2_nil hall (thn (hkw.run pos _ s1 σ H1 _ I1 q) fun ws s3 hh => ?_))
  obtain ⟨zs, H2, I3, rz, hl, q2⟩ := hh
  refine ⟨I3.kIn, ?_⟩
  rw [hks]
  refine wpAny_call (codeAny_mono (F.run X.A X.stack s3 H2 ⟨[.ref a], ks.zip ws⟩ (.ref a :: gv ws) (.ref a :: gV zs) Q (E σ) hr I3.env0 (hbd s3 a ws I3.kIn (by rw [← rz.length]; exact hl)) (.cons rfl (rel rz)) q2) fun rs s' hq => ?_)
  cases rs with
  | error er => exact hx σ _ H2 s3 er s' I3 hq
  | ok fl =>
    cases fl with
    | ret u => exact I3.after hq
    | next => exact hq.elim
    | brk => exact hq.elim
    | cont => exact hq.elim
end
end L2

set_option Elab.async false
set_option linter.all false
set_option maxRecDepth 100000
set_option maxHeartbeats 2000000
/-! VxKw: o.m(e, .., k = v, ..), what it lets out told at the slots. -/
namespace L2
open PySem PySem.Spec PyProof.Rows StX ClX
/-- a def without defaults, called by keywords too: by position, then by the last parameters' names -/
theorem FunD.kbindsP {K : PySem.W.Frag} {x qual : Str} {params : Arguments} {body : List Stmt} {scope : Scope} {kws : List (Str × V)} {f : Addr} {fd : FuncData} {ps ks : List Str} (F : FunD K x qual params body scope [] kws f fd)
    (h : ∀ (kV doc pm : Value) (an : Option Addr) (cdv ct : Value) (us ws : List Value), ws.length = ks.length → us.length + ws.length = ps.length → bindArgs (PySem.W.fnOf x qual params body scope .none kV doc pm an cdv ct) ⟨us, ks.zip ws⟩ = pure (ps.zip (us ++ ws))) (s : Shared) (us ws : List Value) (l1 : ws.length = ks.length) (l2 : us.length + ws.length = ps.length) : BindsTo s fd ⟨us, ks.zip ws⟩ (ps.zip (us ++ ws)) := by
  obtain ⟨oc, od, dV, kV, doc, pm, an, cdv, ct, osl, rfl, lk, hcd, hD, hK⟩ := F.ex
  rcases hD with ⟨_, rfl⟩ | ⟨e, _⟩
  · exact .of_eq (h kV doc pm an cdv ct us ws l1 l2)
  · exact absurd rfl e
section
variable {X : Cx} {CX : CXT} {k n : Nat} {f C : Addr} {fd : FuncData} {ps ks : List Str} {sp : Sp} {m : Str} {pos apos : Pos} {o e : Expr} {es : List Expr} {kws : List Keyword} {ta : TE} {t tk : TA} {E : L2.St → XK} {g : List Value → List Value → List Value} {gV : List V → List V → List V}
/-- o.m(e, .., k = v, ..) -/
theorem pe_methKNg {pl : Sem Bool} (he : PE X o ta) (c : Cls X.K C) (hm : Meth X.K C m f) (F : FnOk X.prog X.w X.K X.mg X.base CX k f fd ps sp) (hr : Room k X.A) (hx : ∀ σ, PassesAt CX X σ (E σ)) (hb : KBn X.K fd ps (n + 1) ks g gV) (ha : PA X (e :: es) t) (hkw : PK X kws tk)
    (hall : (backToKw pos (keywordEach kws X.env)).all (·.1.isSome) = true := by rfl) (hks : (backToKw pos (keywordEach kws X.env)).filterMap (·.1) = ks := by rfl)
    (hst : starEach (e :: es) X.env = (false, eval e X.env) :: starEach es X.env := by rfl)
    (hpl : ((backTo pos (starEach (e :: es) X.env)).any (·.1) || (backToKw pos (keywordEach kws X.env)).any (·.1.isNone)) = false := by rfl)
    (ht : eval (.Call (.Attribute o m apos) (e :: es) kws pos) X.env = (do
      let ov ← eval o X.env
      standAt apos.atName
      let (f, first) ← holding [ov] (getMethod ov m pl)
      callWith pos f first (backTo pos (starEach (e :: es) X.env)) (backToKw pos (keywordEach kws X.env))) := by rfl) :
    PE X (.Call (.Attribute o m apos) (e :: es) kws pos) (fun σ H Q => ta σ H fun y H1 => ∃ a dx fs, y = .ref a ∧ H1 a = some (.ins C dx fs) ∧ fs.lookup m = none ∧ t σ H1 fun vs H2 => tk σ H2 fun zs H3 => vs.length = n ∧ zs.length = ks.length ∧ sp (gV (y :: vs) zs) H3 Q (E σ)) := by
  refine ⟨fun pins s σ H Q I h => PySem.W.methodCall_KW (pl := pl) (thn (he.run pins s σ H _ I h) fun u s1 hh => ?_) ht⟩
  obtain ⟨y, H1, I1, rx, a, dx, fs, rfl, ea, l, q⟩ := hh
  obtain rfl : u = Value.ref a := rx
  refine getmeth_ok I1 ea c hm l (PySem.W.callWith_KW (first := [.ref a]) (h₀ := X.base) I.ok.mod.kin hm.kp hall (thn (ha.run pos pins s1 σ H1 _ I1 q) fun us s2 z => ?_) hpl hst)
  obtain ⟨vs, H2, I2, r, q2⟩ := z
  refine thn (hkw.run pos pins s2 σ H2 _ I2 q2) fun ws s3 z => ?_
  obtain ⟨zs, H3, I3, rz, l1, l2, q3⟩ := z
  refine ⟨I3.kIn, ?_⟩
  rw [hks]
  have r2 : Vals (V.ref a :: vs) (Value.ref a :: us) := .cons rfl r
  refine wpAny_call (codeAny_mono (F.run X.A X.stack s3 H3 ⟨Value.ref a :: us, ks.zip ws⟩ (g (Value.ref a :: us) ws) (gV (V.ref a :: vs) zs) Q (E σ) hr I3.env0 (hb.to s3 _ ws I3.kIn (by rw [List.length_cons, ← r.length, l1]) (by rw [← rz.length]; exact l2)) (hb.rel r2 rz) q3) fun rs s' hq => ?_)
  cases rs with
  | error er => exact hx σ _ H3 s3 er s' I3 hq
  | ok fl =>
    cases fl with
    | ret u => exact I3.after hq
    | next => exact hq.elim
    | brk => exact hq.elim
    | cont => exact hq.elim
end
end L2

set_option Elab.async false
set_option linter.all false
set_option maxRecDepth 100000
set_option maxHeartbeats 2000000
/-! VxHk: o(e, ..) and o(k = v, ..): a local's object, by its class's own __call__. -/
namespace L2
open PySem PySem.Spec PyProof.Rows StX ClX
theorem FunD.fnI {K : PySem.W.Frag} {x qual : Str} {params : Arguments} {body : List Stmt} {scope : Scope} {dvs : List V} {kws : List (Str × V)} {f : Addr} {fd : FuncData} (F : FunD K x qual params body scope dvs kws f fd) : PySem.W.fnIn K f = true := by
  obtain ⟨oc, od, dV, kV, doc, pm, an, cdv, ct, osl, rfl, lk, hcd, hD, hK⟩ := F.ex
  unfold PySem.W.fnIn
  rw [lk]
section
variable {M : Model} {A : Around} {E : Value → Shared → Prop} {s : Shared} {K : PySem.W.Frag} {pos : Pos} {x C : Addr} {Q : Value → Shared → Prop}
/-- the arguments first, then the object is looked at as it then stands -/
theorem own_call {args : List (Bool × Sem Value)} {kws : List (Option Str × Sem Value)} (hp : (args.any (·.1) || kws.any (·.1.isNone)) = false)
    (h : wpAny M A (evalArgs (.ref x) true args kws) (fun a s₁ => (∃ dx od, PySem.W.InstAt s₁.heap x (PySem.W.instObj C dx) C od) ∧ wpAny M A (call (.ref x) a.pos a.kw) Q E s₁) E s) : wpAny M A (callWith pos (.ref x) [] args kws) Q E s := by
  unfold callWith
  refine wpAny_bind (wpAny_holding (thn h fun a s₁ z => wpAny_bind (wpAny_standAt ?_)))
  obtain ⟨⟨dx, od, J⟩, z⟩ := z
  have L := PySem.W.kco_keeper (M := M) J rfl
  simp only [hp]
  refine wpAny_bind (L.here ?_)
  have tl : ∀ {t : Sem Value}, wpAny M A t Q E s₁ → wpAny M A (t >>= fun r => holding [r] point >>= fun _ => pure r) Q E s₁ := fun g => wpAny_bind (thn g fun r s₂ q => wpAny_bind (wpAny_holding (wpAny_point (wpAny_pure q))))
  exact tl (wpAny_operateT z)
end
section
variable {X : Cx} {CX : CXT} {k : Nat} {C f : Addr} {fd : FuncData} {ps ks : List Str} {sp : Sp} {x : Str} {p pos : Pos} {e : Expr} {es : List Expr} {kws : List Keyword} {ta : TE} {t tk : TA} {E : XK} {g : List Value → List Value → List Value} {gV : List V → List V → List V}
/-- the object's def runs -/
theorem own_run {pins : List (Addr × Obj)} {σ : St} {H : Hp} {s : Shared} {Q : VK} {a dx : Addr} {fs : List (Str × V)} {us us' : List Value} {kw : List (Str × Value)} {vs : List V} (hm : Meth X.K C "__call__" f) (fi : PySem.W.fnIn X.K f = true) (F : FnOk X.prog X.w X.K X.mg X.base CX k f fd ps sp) (hr : Room k X.A) (hx : Passes CX X E)
    (I : Inv X pins σ H s) (ha : H a = some (.ins C dx fs)) (hb : BindsTo s fd ⟨.ref a :: us, kw⟩ (ps.zip us')) (r : Vals vs us') (h : sp vs H Q E) : wpAny (model X.prog X.w) X.A (call (.ref a) us kw) (EP X pins σ Q) X.xe s := by
  obtain ⟨mA, J, _⟩ := ins_get I.hok ha
  obtain ⟨od, J, _⟩ := J.look
  refine wpAny_call (PySem.W.kco_code I.kIn J rfl hm.at_ hm.fn fi (codeAny_mono (F.run X.A X.stack s H ⟨.ref a :: us, kw⟩ us' vs Q E hr I.env0 hb r h) fun rs s' hq => ?_))
  cases rs with
  | error er => exact hx pins σ H s er s' I hq
  | ok fl =>
    cases fl with
    | ret u => exact I.after hq
    | next => exact hq.elim
    | brk => exact hq.elim
    | cont => exact hq.elim
theorem inst_of {pins : List (Addr × Obj)} {σ : St} {H : Hp} {s : Shared} {a dx : Addr} {fs : List (Str × V)} (I : Inv X pins σ H s) (ha : H a = some (.ins C dx fs)) : ∃ dx od, PySem.W.InstAt s.heap a (PySem.W.instObj C dx) C od := by
  obtain ⟨mA, J, _⟩ := ins_get I.hok ha
  obtain ⟨od, J, _⟩ := J.look
  exact ⟨_, _, J⟩
theorem r2 (a : Addr) {vs : List V} {us : List Value} (r : Vals vs us) : Vals (.ref a :: vs) (.ref a :: us) := .cons rfl r
/-- o(e, ..) -/
theorem pe_hook (hm : Meth X.K C "__call__" f) (fi : PySem.W.fnIn X.K f = true) (F : FnOk X.prog X.w X.K X.mg X.base CX k f fd ps sp) (hr : Room k X.A) (hb : Binds X.K fd ps []) (hx : Passes CX X E) (he : PE X (.Name x p) ta) (ha : PA X (e :: es) t)
    (hst : starEach (e :: es) X.env = (false, eval e X.env) :: starEach es X.env := by rfl) (hpl : (backTo pos (starEach es X.env)).any (·.1) = false := by rfl) :
    PE X (.Call (.Name x p) (e :: es) [] pos) (fun σ H Q => ta σ H fun y H0 => ∃ a, y = .ref a ∧ t σ H0 fun vs H1 => ∃ dx fs, H1 a = some (.ins C dx fs) ∧ sp (.ref a :: vs) H1 Q E) := by
  refine ⟨fun pins s σ H Q I h => wpAny_Call_Name_kw (thn (he.run pins s σ H _ I h) fun u s1 hh => ?_)⟩
  obtain ⟨y, H0, I0, r0, a, rfl, q⟩ := hh
  obtain rfl : u = Value.ref a := r0
  have z := ha.run pos pins s1 σ H0 _ I0 q
  rw [hst] at z ⊢
  refine own_call (C := C) (by show ((false || (backTo pos (starEach es X.env)).any (·.1)) || false) = false; rw [hpl]; rfl) (Calls.evalArgs_plain (thn z fun us s2 hh => ?_))
  obtain ⟨vs, H1, I1, r1, dx, fs, e1, q1⟩ := hh
  refine ⟨inst_of I1 e1, ?_⟩
  have hl : (Value.ref a :: us).length = ps.length := by rw [List.length_cons, ← r1.length]; exact F.len _ _ _ _ q1
  refine own_run hm fi F hr hx I1 e1 ?_ (r2 a r1) q1
  have w := hb s2 (.ref a :: us) I1.kIn (by rw [List.append_nil]; exact hl)
  rw [List.append_nil] at w
  exact w
/-- o(k = v, ..) -/
theorem pe_hookK (hm : Meth X.K C "__call__" f) (fi : PySem.W.fnIn X.K f = true) (F : FnOk X.prog X.w X.K X.mg X.base CX k f fd ps sp) (hr : Room k X.A) (hb : KBn X.K fd ps 1 ks g gV) (hx : Passes CX X E) (he : PE X (.Name x p) ta) (hkw : PK X kws tk)
    (hall : (backToKw pos (keywordEach kws X.env)).all (·.1.isSome) = true := by rfl) (hks : (backToKw pos (keywordEach kws X.env)).filterMap (·.1) = ks := by rfl)
    (hpl : ((backTo pos (starEach [] X.env)).any (·.1) || (backToKw pos (keywordEach kws X.env)).any (·.1.isNone)) = false := by rfl) :
    PE X (.Call (.Name x p) [] kws pos) (fun σ H Q => ta σ H fun y H0 => ∃ a, y = .ref a ∧ tk σ H0 fun zs H1 => ∃ dx fs, H1 a = some (.ins C dx fs) ∧ zs.length = ks.length ∧ sp (gV [.ref a] zs) H1 Q E) := by
  refine ⟨fun pins s σ H Q I h => wpAny_Call_Name_kw (thn (he.run pins s σ H _ I h) fun u s1 hh => ?_)⟩
  obtain ⟨y, H0, I0, r0, a, rfl, q⟩ := hh
  obtain rfl : u = Value.ref a := r0
  refine own_call (C := C) hpl (evalArgs_kw2_nil hall (thn (hkw.run pos pins s1 σ H0 _ I0 q) fun ws s2 hh => ?_))
  obtain ⟨zs, H1, I1, rz, dx, fs, e1, hl, q1⟩ := hh
  refine ⟨inst_of I1 e1, ?_⟩
  rw [hks]
  exact own_run hm fi F hr hx I1 e1 (hb.to s2 [.ref a] ws I1.kIn rfl (by rw [← rz.length]; exact hl)) (hb.rel (r2 a .nil) rz) q1
end
end L2

set_option Elab.async false
set_option linter.all false
set_option maxRecDepth 100000
set_option maxHeartbeats 2000000
/-! VxRv: xs[::-1]; a, b = a list; o != o'; [o, ..] != [o, ..] of the same. -/
namespace L2
open PySem PySem.Spec PyProof.Rows
theorem pick_back (its : List Value) : slicePick its.toArray none none (some (-1)) = its.reverse.toArray := by
  unfold slicePick
  have e1 : (sliceBounds none none (some (-1)) its.toArray.size) = ((its.length : Int) - 1, -1, -1) := by
    rw [List.size_toArray]
    rfl
  rw [e1]
  congr 1
  show ((sliceRange ((its.length : Int) - 1) (-1) (-1)).filterMap (its.toArray[·]?)) = its.reverse
  have e2 : sliceRange ((its.length : Int) - 1) (-1) (-1) = (List.range its.length).map fun k => its.length - 1 - k := by
    unfold sliceRange
    have c : (if (-1 : Int) > 0 then (if (its.length : Int) - 1 < -1 then ((-1 : Int) - ((its.length : Int) - 1) + -1 - 1) / -1 else 0) else (if (its.length : Int) - 1 > -1 then ((its.length : Int) - 1 - -1 - -1 - 1) / (- -1) else 0)) = (its.length : Int) := by
      rw [if_neg (by decide)]
      by_cases z : (its.length : Int) - 1 > -1
      · rw [if_pos z]
        have : (- (-1 : Int)) = 1 := by decide
        rw [this, Int.ediv_one]
        omega
      · rw [if_neg z]
        omega
    simp only [c, Int.toNat_natCast]
    apply List.map_congr_left
    intro k hk
    have := List.mem_range.mp hk
    omega
  rw [e2, List.filterMap_map]
  have e3 : ∀ i ∈ List.range its.length, ((its.toArray[·]?) ∘ fun k => its.length - 1 - k) i = its.reverse[i]? := by
    intro i hi
    have h := List.mem_range.mp hi
    show its.toArray[its.length - 1 - i]? = _
    rw [List.getElem?_reverse h]
    simp
  have e4 : (List.range its.length).filterMap ((its.toArray[·]?) ∘ fun k => its.length - 1 - k) = (List.range its.length).filterMap fun i => its.reverse[i]? := by
    generalize List.range its.length = l at e3
    clear e2 e1
    induction l with
    | nil => rfl
    | cons j l ih =>
      rw [List.filterMap_cons, List.filterMap_cons, e3 j (List.mem_cons_self ..), ih fun i hi => e3 i (List.mem_cons_of_mem _ hi)]
  rw [e4]
  have e5 : its.length = its.reverse.length := by simp
  rw [e5]
  generalize its.reverse = ys
  apply List.ext_getElem?
  intro i
  have : (List.range ys.length).filterMap (fun i => ys[i]?) = ys := by
    clear e5
    induction ys with
    | nil => rfl
    | cons y ys ih =>
      rw [List.length_cons, List.range_succ_eq_map, List.filterMap_cons]
      show y :: _ = _
      rw [List.filterMap_map]
      congr 1
  rw [this]
theorem vals_rv : ∀ {xs : List V} {us : List Value}, Vals xs us → Vals xs.reverse us.reverse
  | _, _, .nil => .nil
  | _ :: _, _ :: _, .cons a r => by
    rw [List.reverse_cons, List.reverse_cons]
    exact (vals_rv r).append (.cons a .nil)
section
variable {X : Cx} {e m : Expr} {te tm : TE} {p2 pos : Pos}
/-- xs[::m], m is -1 -/
theorem pe_back (he : PE X e te) (hm : PE X m tm) : PE X (.Subscript e (.Slice none none (some m) p2) pos) (fun σ H Q => te σ H fun x H1 => tm σ H1 fun y H2 => y = .int (-1) ∧ ∃ a xs, x = .ref a ∧ SqL X.K H2 a xs ∧ ∀ p, H2 p = none → Q (.ref p) (upd H2 p (.lst xs.reverse))) := by
  refine ⟨fun pins s σ H Q I h => ?_⟩
  refine Subscript_ (thn (he.run pins s σ H _ I h) fun v s1 hh => ?_)
  obtain ⟨x, H1, I1, r1, q1⟩ := hh
  refine wpAny_Slice ?_
  rw [evalPart_none, evalPart_some]
  refine wpAny_pure (wpAny_pure (thn (hm.run pins s1 σ H1 _ I1 q1) fun vs s2 hh => ?_))
  obtain ⟨y, H2, I2, r2, rfl, a, xs, rfl, hx, q⟩ := hh
  obtain ⟨t, rfl⟩ : ∃ t, vs = Value.int (-1) t := r2
  obtain rfl : v = Value.ref a := r1
  have I4 : Inv X pins σ H2 { s2 with heap := s2.heap.push { cls := .type "slice", data := .fields #[.none, .none, .int (-1) t] } } := I2.kept (t' := s2.toks) fun b ob q => Heap.get?_push_of_some _ q
  obtain ⟨its, r, ht, hz⟩ := I4.list hx
  refine tail_any (ops := [.ref a, .ref s2.heap.objs.size]) ht.isList.typeIs slot_list_getitem.lookup ?_ (by with_unfolding_all rfl)
  refine wpAny_getItem_list_slice ht.isList (Heap.IsSliceOf.new ..) .none .none (.int (-1) t) (by simp) ?_ (by rw [List.size_toArray, ← r.length]; exact hz)
  rw [pick_back]
  refine ⟨.ref _, _, I4.laid (t' := s2.toks) (o := .lst xs.reverse) (fun b ob q => Heap.get?_push_of_some _ q) (Nat.le_refl _) ?_, rfl, q _ (I4.hok.fresh (Nat.le_refl _))⟩
  refine ⟨by rw [List.length_reverse]; exact hz, _, 0, ?_, Heap.get?_push_size _ rfl⟩
  exact vals_rv r
end
end L2

set_option Elab.async false
set_option linter.all false
set_option maxRecDepth 100000
set_option maxHeartbeats 2000000
/-! VxSp: x[::2], x[1::2] of a text and of a list. -/
namespace L2
open PySem PySem.Spec PyProof.Rows
/-- every second from the c-th -/
def evN {α : Type} (c : Nat) (xs : List α) : List α := (List.range ((xs.length + 1 - c) / 2)).filterMap fun k => xs[c + 2 * k]?
def evS (c : Nat) (z : Str) : Str := ⟨(evN c z.cps.toList).toArray⟩
theorem fm_all {α β : Type} {f : α → Option β} : ∀ {l : List α}, (∀ a ∈ l, (f a).isSome = true) → ∀ k : Nat, (l.filterMap f)[k]? = l[k]?.bind f
  | [], _, _ => rfl
  | a :: l, h, k => by
    obtain ⟨b, e⟩ := Option.isSome_iff_exists.mp (h a (List.mem_cons_self ..))
    rw [List.filterMap_cons, e]
    cases k with
    | zero => show some b = (some a).bind f; rw [Option.bind_some, e]
    | succ k => exact fm_all (fun x m => h x (List.mem_cons_of_mem _ m)) k
theorem ev_some {α : Type} {c : Nat} {xs : List α} (hc : c ≤ 1) : ∀ k ∈ List.range ((xs.length + 1 - c) / 2), (xs[c + 2 * k]?).isSome = true := fun k m => by
  have h := List.mem_range.mp m
  have : c + 2 * k < xs.length := by omega
  rw [List.getElem?_eq_getElem this]
  rfl
theorem ev_get {α : Type} {c : Nat} {xs : List α} (hc : c ≤ 1) {k : Nat} (h : k < (xs.length + 1 - c) / 2) : (evN c xs)[k]? = xs[c + 2 * k]? := by
  unfold evN
  rw [fm_all (ev_some hc), List.getElem?_range h]
  rfl
theorem ev_len {α : Type} {c : Nat} {xs : List α} (hc : c ≤ 1) : (evN c xs).length = (xs.length + 1 - c) / 2 := by
  unfold evN
  have e : ∀ (l : List Nat), (∀ a ∈ l, (xs[c + 2 * a]?).isSome = true) → (l.filterMap fun k => xs[c + 2 * k]?).length = l.length := by
    intro l
    induction l with
    | nil => intro _; rfl
    | cons a l ih =>
      intro h
      obtain ⟨b, e⟩ := Option.isSome_iff_exists.mp (h a (List.mem_cons_self ..))
      rw [List.filterMap_cons, e, List.length_cons, List.length_cons, ih fun x m => h x (List.mem_cons_of_mem _ m)]
  rw [e _ (ev_some hc), List.length_range]
theorem rng2 {c n : Nat} (hc : c ≤ 1) {b : Int} (hb : b = if c = 0 then 0 else max 0 (min 1 (n : Int))) : sliceRange b (n : Int) 2 = (List.range ((n + 1 - c) / 2)).map fun k => c + 2 * k := by
  unfold sliceRange
  have c1 : ((if (2 : Int) > 0 then (if b < (n : Int) then ((n : Int) - b + 2 - 1) / 2 else 0) else (if b > (n : Int) then (b - (n : Int) - 2 - 1) / (-2) else 0)) : Int).toNat = (n + 1 - c) / 2 := by
    rw [if_pos (by decide)]
    subst hb
    by_cases z : c = 0
    · subst z
      rw [if_pos rfl]
      split <;> omega
    · rw [if_neg z]
      have : c = 1 := by omega
      subst this
      split <;> omega
  simp only [c1]
  refine List.map_congr_left fun k hk => ?_
  have h := List.mem_range.mp hk
  subst hb
  by_cases z : c = 0
  · subst z
    rw [if_pos rfl]
    omega
  · rw [if_neg z]
    have : c = 1 := by omega
    subst this
    omega
/-- where a slice's first bound is -/
def Low (l : Option Int) (c : Nat) : Prop := (l = none ∧ c = 0) ∨ (l = some 1 ∧ c = 1)
theorem Low.le {l : Option Int} {c : Nat} (h : Low l c) : c ≤ 1 := by
  rcases h with ⟨_, h⟩ | ⟨_, h⟩ <;> omega
theorem pick_ev {α : Type} {c : Nat} (a : Array α) : ((List.range ((a.size + 1 - c) / 2)).map fun k => c + 2 * k).filterMap (a[·]?) = evN c a.toList := by
  unfold evN
  rw [List.filterMap_map, Array.length_toList]
  congr 1
  funext k
  show a[c + 2 * k]? = a.toList[c + 2 * k]?
  rw [Array.getElem?_toList]
theorem idx_ev {l : Option Int} {c n : Nat} (h : Low l c) : Builtin.Str.strSliceIndices l none 2 n = (List.range ((n + 1 - c) / 2)).map fun k => c + 2 * k := by
  rcases h with ⟨rfl, rfl⟩ | ⟨rfl, rfl⟩
  · exact rng2 (b := 0) (by decide) rfl
  · exact rng2 (c := 1) (b := max 0 (min 1 (n : Int))) (by decide) (by rw [if_neg (by decide)])
theorem pickL_ev {l : Option Int} {c : Nat} (h : Low l c) (its : List Value) : slicePick its.toArray l none (some 2) = (evN c its).toArray := by
  unfold slicePick
  have e : sliceRange (sliceBounds l none (some 2) its.toArray.size).1 (sliceBounds l none (some 2) its.toArray.size).2.1 (sliceBounds l none (some 2) its.toArray.size).2.2 = (List.range ((its.toArray.size + 1 - c) / 2)).map fun k => c + 2 * k := by
    rcases h with ⟨rfl, rfl⟩ | ⟨rfl, rfl⟩
    · exact rng2 (b := 0) (by decide) rfl
    · exact rng2 (c := 1) (b := max 0 (min 1 (its.toArray.size : Int))) (by decide) (by rw [if_neg (by decide)])
  rw [e, pick_ev]
theorem vals_get2 : ∀ {xs : List V} {us : List Value}, Vals xs us → ∀ i : Nat, (xs[i]? = none ∧ us[i]? = none) ∨ ∃ x u, xs[i]? = some x ∧ us[i]? = some u ∧ RelV x u
  | _, _, .nil, _ => .inl ⟨rfl, rfl⟩
  | _ :: _, _ :: _, .cons a r, 0 => .inr ⟨_, _, rfl, rfl, a⟩
  | _ :: _, _ :: _, .cons a r, i + 1 => vals_get2 r i
theorem vals_ev {c : Nat} {xs : List V} {us : List Value} (h : Vals xs us) : Vals (evN c xs) (evN c us) := by
  unfold evN
  rw [h.length]
  generalize List.range ((us.length + 1 - c) / 2) = l
  induction l with
  | nil => exact .nil
  | cons k l ih =>
    rw [List.filterMap_cons, List.filterMap_cons]
    rcases vals_get2 h (c + 2 * k) with ⟨e1, e2⟩ | ⟨x, u, e1, e2, r⟩
    · rw [e1, e2]
      exact ih
    · rw [e1, e2]
      exact .cons r ih
section
variable {X : Cx} {e m : Expr} {te tm : TE} {lo : Option Expr} {tl : TO} {p2 pos : Pos}
/-- z[lo::m], m is 2, lo none or 1 -/
theorem pe_evS (he : PE X e te) (hl : PO X lo tl) (hm : PE X m tm) : PE X (.Subscript e (.Slice lo none (some m) p2) pos) (fun σ H Q => te σ H fun x H1 => tl σ H1 fun l H2 => tm σ H2 fun y H3 => y = .int 2 ∧ ∃ z c, x = .str z ∧ z.length ≤ sizeLine ∧ Low l c ∧ Q (.str (evS c z)) H3) := by
  refine ⟨fun pins s σ H Q I h => ?_⟩
  refine Subscript_ (thn (he.run pins s σ H _ I h) fun v s1 hh => ?_)
  obtain ⟨x, H1, I1, r1, q1⟩ := hh
  refine wpAny_Slice (thn (hl.run pins s1 σ H1 _ I1 q1) fun vl s2 hh => ?_)
  obtain ⟨l, H2, I2, pl, q2⟩ := hh
  rw [evalPart_none, evalPart_some]
  refine wpAny_pure (thn (hm.run pins s2 σ H2 _ I2 q2) fun vs s3 hh => ?_)
  obtain ⟨y, H3, I3, r3, rfl, z, c, rfl, hz, lw, q⟩ := hh
  obtain ⟨t2, rfl⟩ : ∃ t, vs = Value.int 2 t := r3
  obtain ⟨t, rfl⟩ : ∃ t, v = Value.str z t := r1
  obtain ⟨lp, rfl, rfl⟩ := IsPart.raw pl
  have I4 : Inv X pins σ H3 { s3 with heap := s3.heap.push { cls := .type "slice", data := .fields #[partValue lp, .none, .int 2 t2] } } := I3.kept (t' := s3.toks) fun b ob q => Heap.get?_push_of_some _ q
  refine tail_any (ops := [.str z t, .ref s3.heap.objs.size]) (T := "str") (typeIs_str _ _ _) F.slot_str_getitem.lookup ?_ (by with_unfolding_all rfl)
  refine wpAny_getItem_str_slice (l := lp) (u := none) (st := some (2, t2)) ⟨_, Heap.get?_push_size _ rfl, rfl, rfl⟩ rfl ?_
  have e1 : slicePicked z lp none (some (2, t2)) = (List.range ((z.length + 1 - c) / 2)).map fun k => c + 2 * k := idx_ev lw
  unfold sliceMade
  rw [e1]
  have e2 : ((((some ((2 : Int), t2)).map (·.1)).getD 1 == 1) && (((List.range ((z.length + 1 - c) / 2)).map fun k => c + 2 * k).length == z.length)) = false := rfl
  rw [if_neg (by rw [e2]; exact Bool.false_ne_true)]
  have e3 : ((List.range ((z.length + 1 - c) / 2)).map fun k => c + 2 * k).filterMap (z.cps[·]?) = evN c z.cps.toList := pick_ev z.cps
  rw [e3]
  have le : (evS c z).length ≤ sizeLine := by
    show (evN c z.cps.toList).toArray.size ≤ sizeLine
    rw [List.size_toArray, ev_len lw.le, Array.length_toList]
    have : z.cps.size ≤ sizeLine := hz
    omega
  exact ⟨le, .str _, H3, I4.tok _, ⟨_, rfl⟩, q⟩
/-- xs[lo::m], m is 2, lo none or 1 -/
theorem pe_evL (he : PE X e te) (hl : PO X lo tl) (hm : PE X m tm) : PE X (.Subscript e (.Slice lo none (some m) p2) pos) (fun σ H Q => te σ H fun x H1 => tl σ H1 fun l H2 => tm σ H2 fun y H3 => y = .int 2 ∧ ∃ a xs c, x = .ref a ∧ SqL X.K H3 a xs ∧ Low l c ∧ ∀ p, H3 p = none → Q (.ref p) (upd H3 p (.lst (evN c xs)))) := by
  refine ⟨fun pins s σ H Q I h => ?_⟩
  refine Subscript_ (thn (he.run pins s σ H _ I h) fun v s1 hh => ?_)
  obtain ⟨x, H1, I1, r1, q1⟩ := hh
  refine wpAny_Slice (thn (hl.run pins s1 σ H1 _ I1 q1) fun vl s2 hh => ?_)
  obtain ⟨l, H2, I2, pl, q2⟩ := hh
  rw [evalPart_none, evalPart_some]
  refine wpAny_pure (thn (hm.run pins s2 σ H2 _ I2 q2) fun vs s3 hh => ?_)
  obtain ⟨y, H3, I3, r3, rfl, a, xs, c, rfl, hx, lw, q⟩ := hh
  obtain ⟨t2, rfl⟩ : ∃ t, vs = Value.int 2 t := r3
  obtain rfl : v = Value.ref a := r1
  have I4 : Inv X pins σ H3 { s3 with heap := s3.heap.push { cls := .type "slice", data := .fields #[vl, .none, .int 2 t2] } } := I3.kept (t' := s3.toks) fun b ob q => Heap.get?_push_of_some _ q
  obtain ⟨its, r, ht, hz⟩ := I4.list hx
  refine tail_any (ops := [.ref a, .ref s3.heap.objs.size]) ht.isList.typeIs slot_list_getitem.lookup ?_ (by with_unfolding_all rfl)
  refine wpAny_getItem_list_slice ht.isList (Heap.IsSliceOf.new ..) pl .none (.int 2 t2) (by simp) ?_ (by rw [List.size_toArray, ← r.length]; exact hz)
  rw [pickL_ev lw]
  refine ⟨.ref _, _, I4.laid (t' := s3.toks) (o := .lst (evN c xs)) (fun b ob q => Heap.get?_push_of_some _ q) (Nat.le_refl _) ?_, rfl, q _ (I4.hok.fresh (Nat.le_refl _))⟩
  refine ⟨by rw [ev_len lw.le]; have := hz; omega, _, 0, ?_, Heap.get?_push_size _ rfl⟩
  exact vals_ev r
end
end L2

set_option Elab.async false
set_option linter.all false
set_option maxRecDepth 100000
set_option maxHeartbeats 1000000
/-! VxF: v != v, one and the same: data, a list of anything, a dict of flat data. -/
namespace L2
open PySem PySem.Spec PyProof.Rows
section
variable {X : Cx}
def rNeL (K : PySem.W.Frag) : R2 := fun x y H Q => ∃ (a : Addr) (xs : List V), x = .ref a ∧ y = .ref a ∧ SqL K H a xs ∧ Q (.bl false) H
theorem op_neL (hu : X.A.units < cLine) : OpR X (compareOp .NotEq) (rNeL X.K) := by
  intro pins s σ H x y v u Q I rx ry h
  obtain ⟨a, xs, rfl, rfl, ha, q⟩ := h
  cases rx
  cases ry
  obtain ⟨us, r1, p1, _⟩ := I.list ha
  have z := SeqAt.RcNeAt.lists (A := X.A) (s := s) (e := fun _ => true) p1.isList p1.isList rfl hu (fun j h1 h2 => SeqAt.EqAt.same _) X.prog X.w X.xe (EP X pins σ Q)
  refine z ?_
  have e : (List.range us.toArray.size).all (fun _ => true) = true := by simp
  rw [e]
  exact ⟨.bl false, H, I, rfl, q⟩
def rNeS (K : PySem.W.Frag) : R2 := fun x y H Q => rNeD K x y H Q ∨ rNeL K x y H Q ∨ rNeDA x y H Q
theorem op_neS (h64 : X.A.units + 64 < cLine) : OpR X (compareOp .NotEq) (rNeS X.K) := by
  intro pins s σ H x y v u Q I rx ry h
  have hu : X.A.units < cLine := by omega
  rcases h with h | h | h
  · exact op_neD h64 pins s σ H x y v u Q I rx ry h
  · exact op_neL hu pins s σ H x y v u Q I rx ry h
  · exact op_ne_dictA hu pins s σ H x y v u Q I rx ry h
end
end L2

set_option Elab.async false
set_option linter.all false
set_option maxRecDepth 100000
set_option maxHeartbeats 2000000
/-! VxV: tuple(d.items()). -/
namespace PySem
open AutoSeq1 (wpAny_loadPart')
theorem tuple_new_itemsV {prog : Program} {w : World} {K : Type} [DecidableEq K] (knd : KeyKind prog w K) (r d : Addr) (kvs : List (K × Value)) (ep : Nat) (hn : kvs.length ≤ sizeLine) :
    MeetsIn prog w (Builtin.«tuple.__new__» ⟨[.type "tuple", .ref r], []⟩) (fun A R s => A.handled = none ∧ s.heap.IsItemsView r d ∧ s.heap.DictAt knd d kvs ep ∧
      ∀ (h' : Heap) (tk : Nat) (as : List Addr), (∀ b o, s.heap.get? b = some o → h'.get? b = some o) → as.length = kvs.length → PySem.W.KdxG knd kvs s.heap.objs.size h' as →
        R (.ok (.ret (.ref h'.objs.size))) { s with heap := h'.push { cls := .type "tuple", data := .seq (as.map Value.ref).toArray }, toks := tk }) :=
  .of_wp fun A R s h => by
    obtain ⟨hp, g, dr, tk0, os⟩ := s
    obtain ⟨hh, hv, hm, h⟩ := h
    have hsub := sub_tuple_self
    have hinit := init_tuple_lookup
    have hmh := madeHere_tuple
    obtain ⟨o, ho, hc, hd⟩ := hv
    have hT : Shared.TypeIs ⟨hp, g, dr, tk0, os⟩ (.ref r) "dict_items" := ⟨o, ho, hc⟩
    have hh1 : A.in1.handled = none := hh
    have key : ∀ {R' : List Value → Shared → Prop} {E' : Value → Shared → Prop}, (∀ (h' : Heap) (tk : Nat) (as : List Addr), (∀ b o, hp.get? b = some o → h'.get? b = some o) → as.length = kvs.length → PySem.W.KdxG knd kvs hp.objs.size h' as → R' (as.map Value.ref) ⟨h', g, dr, tk, os⟩) →
        wpAny (model prog w) A.in1 (collect (.ref r)) R' E' ⟨hp, g, dr, tk0, os⟩ := fun h => PySem.W.kdx_collect (s := ⟨hp, g, dr, tk0, os⟩) (knd := knd) (kvs := kvs) (ep := ep) hh1 ⟨o, ho, hc, hd⟩ hm hn h
    wp_walk using wpAny_typeOf hT, key
    intro h' tk as hk hl hG
    show wpAny _ _ (Builtin.Tuple.tupleExact (as.map Value.ref).toArray >>= fun v => ret v) _ _ _
    unfold Builtin.Tuple.tupleExact
    refine wpAny_bind (wpAny_newObj_type ?_ (by show (as.map Value.ref).toArray.size ≤ sizeLine; rw [List.size_toArray, List.length_map, hl]; exact hn))
    exact wpAny_pure ⟨_, rfl, h h' tk as hk hl hG⟩
theorem call_tuple_itemsV {prog : Program} {w : World} {A : Around} {E : Value → Shared → Prop} {s : Shared} {K : Type} [DecidableEq K] (knd : KeyKind prog w K) {r d : Addr} {kvs : List (K × Value)} {ep : Nat} {Q : Value → Shared → Prop} (hn : kvs.length ≤ sizeLine)
    (hh : A.handled = none) (hv : s.heap.IsItemsView r d) (hm : s.heap.DictAt knd d kvs ep)
    (h : ∀ (h' : Heap) (tk : Nat) (as : List Addr), (∀ b o, s.heap.get? b = some o → h'.get? b = some o) → as.length = kvs.length → PySem.W.KdxG knd kvs s.heap.objs.size h' as → Q (.ref h'.objs.size) { s with heap := h'.push { cls := .type "tuple", data := .seq (as.map Value.ref).toArray }, toks := tk }) :
    wpAny (model prog w) A (call (.type "tuple") [.ref r]) Q E s :=
  callType_newIn F.called_tuple (by decide) (F.typeCall_tuple_1 _) (F.newCall_tuple_1 _) (fun obj => F.args_object_init_2 obj _) F.entry_tuple_new
    (tuple_new_itemsV knd r d kvs ep hn) ⟨hh, hv, hm, fun h' tk as hk hl hG => ⟨⟨_, Heap.get?_push_size _ rfl, rfl⟩, h h' tk as hk hl hG⟩⟩
end PySem
namespace L2
open PySem PySem.Spec PyProof.Rows LiI
def rItemsTu : V → Hp → VK → Prop := fun x H Q => ∃ (d : Addr) (kvs : List (Key × V)), x = .ref d ∧ H d = some (.dK kvs) ∧
  ∀ (H' : Hp) (p : Addr) (ts : List Addr), Same H H' → H p = none → (∀ t ∈ ts, H t = none) → H' p = some (.tup (ts.map V.ref)) → Paired (fun (t : Addr) (q : Key × V) => H' t = some (.tup [kV q.1, q.2])) ts kvs → Q (.ref p) H'
def tTupItems (te : TE) : TE := fun σ H Q => te σ H fun x H1 => rItemsTu x H1 Q
section
variable {X : Cx} {e : Expr} {te : TE} {p apos cpos pos : Pos}
theorem items_laidT {pins : List (Addr × Obj)} {σ : L2.St} {H : Hp} {s : Shared} {h' : Heap} {tk : Nat} {kvs : List (Key × V)} {vs : List (Key × Value)} {as : List Addr} (I : Inv X pins σ H s) (hz : kvs.length ≤ sizeLine) (kv : KV kvs vs)
    (hk : ∀ b o, s.heap.get? b = some o → h'.get? b = some o) (hl : as.length = vs.length) (hG : PySem.W.KdxG (mixKind X.prog X.w) vs s.heap.objs.size h' as) (le : s.heap.objs.size ≤ h'.objs.size) :
    ∃ H' : Hp, Same H H' ∧ H h'.objs.size = none ∧ (∀ t ∈ as, H t = none) ∧ H' h'.objs.size = some (.tup (as.map V.ref)) ∧ Paired (fun (t : Addr) (q : Key × V) => H' t = some (.tup [kV q.1, q.2])) as kvs ∧
      Inv X pins σ H' { s with heap := h'.push { cls := .type "tuple", data := .seq (as.map Value.ref).toArray }, toks := tk } := by
  have lk : kvs.length = vs.length := Paired.length kv
  have hSn : h'.objs.size ∉ as := fun z => Nat.lt_irrefl _ (hG.there z)
  have nd : as.Nodup := List.Pairwise.imp (fun {a b} (h : a < b) => Nat.ne_of_lt h) hG.rise
  have new : ∀ t ∈ as, H t = none := fun t ht => I.hok.fresh (Nat.le_of_lt (hG.above t ht))
  have newS : H h'.objs.size = none := I.hok.fresh le
  have atP := putT_at as kvs (upd H h'.objs.size (.tup (as.map V.ref))) (by omega) nd
  have off : ∀ b, b ∉ as → b ≠ h'.objs.size → putT (upd H h'.objs.size (.tup (as.map V.ref))) as kvs b = H b := fun b h1 h2 => by rw [putT_off as kvs _ h1, upd_ne h2]
  have low : ∀ b o, s.heap.get? b = some o → b ∉ as ∧ b ≠ h'.objs.size := fun b o e => ⟨fun z => absurd (Heap.lt_size e) (Nat.not_lt.mpr (Nat.le_of_lt (hG.above b z))), fun z => absurd (Heap.lt_size e) (Nat.not_lt.mpr (by rw [z]; exact le))⟩
  have kp : ∀ b u, H b = some u → (putT (upd H h'.objs.size (.tup (as.map V.ref))) as kvs) b = some u := fun b u e => by
    rw [off b (fun z => by rw [new b z] at e; cases e) (fun z => by rw [z, newS] at e; cases e)]
    exact e
  have eS : putT (upd H h'.objs.size (.tup (as.map V.ref))) as kvs h'.objs.size = some (.tup (as.map V.ref)) := by rw [putT_off as kvs _ hSn, upd_same]
  have hk2 : ∀ b o, s.heap.get? b = some o → (h'.push { cls := .type "tuple", data := .seq (as.map Value.ref).toArray }).get? b = some o := fun b o e => Heap.get?_push_of_some _ (hk b o e)
  refine ⟨putT (upd H h'.objs.size (.tup (as.map V.ref))) as kvs, kp, newS, new, eS, atP, ?_⟩
  refine I.call' (ch := []) rfl ⟨fun b o q _ _ _ => hk2 b o q, fun b o q _ _ _ => ⟨o.slots, hk2 b o q⟩, fun b o q n _ => ?_, fun b o q _ => ⟨o, hk2 b o q⟩, fun b xs q => kp b _ q, fun b o u q => kp b _ q, fun b ps q => ⟨#[], by rw [kp b _ q]; simp⟩⟩ (fun b u q => ?_) I.bare fun b z => by simp at z
  · obtain ⟨z1, z2⟩ := low b o q
    rw [off b z1 z2]
    exact n
  · by_cases hb : b ∈ as
    · obtain ⟨j, pk, e1, e2, e3⟩ := paired_ix atP hb
      rw [e3] at q
      cases q
      obtain ⟨key, k, x, f1, f2, f3⟩ := hG.pairs j b e1
      obtain ⟨qv, g1, g2, g3⟩ := paired_get kv e2
      rw [f1] at g1
      cases g1
      have rk : RelV (kV pk.1) key := by
        rw [g2]
        exact relV_key (show keyIs k key = true from f2)
      exact ⟨by show 2 ≤ sizeLine; decide, [key, x], .cons rk (.cons g3 .nil), ⟨_, Heap.get?_push_of_some _ f3, rfl, _, rfl⟩⟩
    · by_cases hb2 : b = h'.objs.size
      · rw [hb2] at q ⊢
        rw [eS] at q
        cases q
        refine ⟨by rw [List.length_map]; omega, as.map Value.ref, vals_refs as, ?_⟩
        exact ⟨_, Heap.get?_push_size _ rfl, rfl, _, rfl⟩
      · rw [off b hb hb2] at q
        exact (I.hok b u q).stay (fun d v _ y => hk2 d v y) (fun d y => kp d _ y) fun d xs y => kp d _ y
/-- tuple(e.items()) -/
theorem pe_tupItems (hc : X.calm = true) (he : PE X e te) (hg : Gl X "tuple") (hm : X.mg "tuple" = none) (hv : bootBuiltins "tuple" = some (.type "tuple")) (hbase : attributeBase e "items" X.env (eval e X.env) = eval e X.env := by rfl) (hline : (apos.endLine == cpos.line) = true := by rfl)
    (hs : starEach [.Call (.Attribute e "items" apos) [] [] cpos] X.env = (false, eval (.Call (.Attribute e "items" apos) [] [] cpos) X.env) :: starEach [] X.env := by rfl) :
    PE X (.Call (.Name "tuple" p) [.Call (.Attribute e "items" apos) [] [] cpos] [] pos) (tTupItems te) := by
  refine ⟨fun pins s σ H Q I hq => ?_⟩
  refine wpAny_Call_Name_kw (ld_blt I hg hm hv ?_)
  refine PyProof.Rows.callWith_type1 ?_ hs rfl
  rw [hs]
  show wpAny _ _ (spliced ((false, eval (.Call (.Attribute e "items" apos) [] [] cpos) X.env) :: backTo pos (starEach [] X.env))) _ _ s
  refine Calls.spliced_cons ?_
  refine wpAny_Call_method (T := "dict") (id := "dict.items") hbase rfl hline F.plainAttrs_dict F.slot_dict_items F.type_dict_items (thn (he.run pins s σ H _ I hq) fun u s1 ⟨x, H1, I1, rx, d, kvs, ex, hd, q⟩ => ?_)
  subst ex
  obtain rfl : u = Value.ref d := rx
  obtain ⟨hz, hs0, vs, kv, hdo⟩ := I1.hok d _ hd
  obtain ⟨ep, hat⟩ := hdo.dictAt
  have lk : kvs.length = vs.length := Paired.length kv
  have I2 : Inv X pins σ H1 { s1 with heap := s1.heap.push { cls := .type "dict_items", data := .fields #[.ref d] } } := I1.kept (t' := s1.toks) fun b ob q => Heap.get?_push_of_some _ q
  refine ⟨hdo.typeIs, hdo.mapOf.noDict, ?_⟩
  show wpAny _ _ (callWith cpos (.builtin "dict.items") [.ref d] [] []) _ X.xe s1
  refine method_meetsIn F.slot_dict_items F.entry_dict_items rfl (PySem.evalArgs_none ⟨rfl, hdo.typeIs, F.args_dict_items_1 _, _, meets_dict_items (mixKind X.prog X.w) d hs0, ⟨vs, hdo⟩, ?_⟩)
  refine Calls.spliced_nil ?_
  refine PySem.call_tuple_itemsV (mixKind X.prog X.w) (kvs := vs) (ep := ep) (by omega) (I1.ok.hd hc) ⟨_, Heap.get?_push_size _ rfl, rfl, rfl⟩ (hat.push _) fun h' tk as hk hl hG => ?_
  obtain ⟨H', k1, k2, k3, k4, k5, J⟩ := items_laidT (tk := tk) I2 hz kv hk hl hG (by show (s1.heap.push _).objs.size ≤ _; rw [Heap.size_push]; exact Heap.lt_size (hk _ _ (Heap.get?_push_size _ rfl)))
  exact ⟨.ref _, H', J, rfl, q H' _ as k1 k2 k3 k4 k5⟩
end
end L2

set_option Elab.async false
set_option linter.all false
set_option maxRecDepth 100000
set_option maxHeartbeats 2000000
/-! VxW: a walk over enumerate(text). -/
namespace L2
open PySem PySem.Spec PyProof.Rows
/-- the signs of x, each in a new pair -/
def Itns (x : Str) : It :=
  ⟨fun i _ => i < x.cps.size, fun i H v H' => ∃ T c, v = .ref T ∧ H T = none ∧ H' = upd H T (.tup [.int (i : Nat), .str ⟨#[c]⟩]) ∧ x.cps[i]? = some c, fun i _ => i = x.cps.size⟩
theorem turn_enumS {P : Program} {w : World} {K : PySem.W.Frag} {elts : List Expr} {kk : Nat} {tpos : Pos} (x : Str) (t : Tok) (e it : Addr) :
    Turn P w K (.Tuple elts kk tpos) (Itns x) [e, it] e (fun i h => (∃ old, IsEnum h e it ((i : Nat) : Int) old) ∧ h.IsStrIter it (strIterType x) x t i ∧ e ≠ it) where
  mem := by simp
  obj := fun i h st b hb => by
    obtain ⟨⟨old, he⟩, ⟨o, ho, hc, hd⟩, _⟩ := st
    have e' : b = e ∨ b = it := by simpa using hb
    rcases e' with z | z
    · rw [z]; exact ⟨_, he, fun v q => nomatch q⟩
    · rw [z]; exact ⟨o, ho, fun v q => by rw [hd] at q; cases q⟩
  keep := fun i h h' st k => let ⟨⟨old, he⟩, ⟨o, ho, r⟩, hne⟩ := st; ⟨⟨old, k e (by simp) _ he⟩, ⟨o, k it (by simp) o ho, r⟩, hne⟩
  item := by
    intro X hP hw hK hc i pins s σ H E I hf st hg
    subst hP hw hK
    obtain ⟨⟨old, he⟩, hit, hne⟩ := st
    have hel : e < s.heap.objs.size := Heap.lt_size he
    have hil : it < s.heap.objs.size := by obtain ⟨_, q, _⟩ := hit; exact Heap.lt_size q
    have hh1 : X.A.in1.handled = none := I.ok.hd hc
    refine wpAny_pyNext_enum_itemD (Draws.text (prog := X.prog) (w := X.w) hh1 it x t) he hit hg hne (by simpa using hne) fun v h' tk hv ho hit' hT hsz hk => ?_
    obtain ⟨c, u, hcx, rfl⟩ := hv
    refine ⟨_, rfl, wpAny_letOwnedTupleGo_enum (s := { s with heap := h', toks := tk + 1 }) ho fun h'' he' sb => ?_⟩
    have hT2 : h''.get? s.heap.objs.size = some { cls := .type "tuple", data := .seq #[.int i tk, .str ⟨#[c]⟩ u] } := (sb.2 _ (Nat.ne_of_gt hel)).trans hT
    have new : ObjOk X.prog X.w (upd H s.heap.objs.size (.tup [.int (i : Nat), .str ⟨#[c]⟩])) h'' s.heap.objs.size (.tup [.int (i : Nat), .str ⟨#[c]⟩]) :=
      ⟨by show 2 ≤ sizeLine; decide, [.int i tk, .str ⟨#[c]⟩ u], .cons ⟨_, rfl⟩ (.cons ⟨_, rfl⟩ .nil), ⟨_, hT2, rfl, _, rfl⟩⟩
    have I1 : Inv X pins σ (upd H s.heap.objs.size (.tup [.int (i : Nat), .str ⟨#[c]⟩])) { s with heap := h'', toks := tk + 1 } :=
      I.turnedNew (ch := [e, it]) (fun b ob hb q => (sb.2 b (fun z => hb (by simp [z]))).trans (hk b ob (fun z => hb (by simp [z])) (fun z => hb (by simp [z])) q)) hf (Nat.le_refl _) new
    refine ⟨.ref s.heap.objs.size, _, I1, rfl, ⟨_, c, rfl, I.hok.fresh (Nat.le_refl _), rfl, hcx⟩, ⟨⟨.str ⟨#[c]⟩ u, ?_⟩, ?_, hne⟩, fun b hb => ?_⟩
    · have e1 : ((i + 1 : Nat) : Int) = (i : Int) + 1 := by omega
      rw [e1]; exact he'
    · obtain ⟨o, ho2, r⟩ := hit'
      exact ⟨o, (sb.2 it (Ne.symm hne)).trans ho2, r⟩
    · have hb' : b < s.heap.objs.size := by
        have e' : b = e ∨ b = it := by simpa using hb
        rcases e' with z | z
        · rw [z]; exact hel
        · rw [z]; exact hil
      rw [upd_ne (Nat.ne_of_lt hb')]
      exact (hf b hb).1
  done := by
    intro X hP hw hK hc i pins s σ H E I hf st hg
    subst hP hw hK
    obtain ⟨⟨old, he⟩, hit, hne⟩ := st
    obtain ⟨f0, f1, f2, f3, f4, f5⟩ := hf it (by simp)
    have hh1 : X.A.in1.handled = none := I.ok.hd hc
    have D0 := Draws.text (prog := X.prog) (w := X.w) hh1 it x t
    have hg' : i = x.cps.size := hg
    subst hg'
    exact wpAny_pyNext_enum_endD D0 he hit fun h' eb => ⟨rfl, I.turned (t' := s.toks) (fun b o hb q => eb b o hb q) f0 f1 f3 f4 f5⟩
  self := fun A i s Q E st h => let ⟨⟨_, he⟩, _⟩ := st; wpAny_pyIter_enum he h
/-- it goes once for each sign -/
theorem walk_enumS {x : Str} : Walk (Itns x) x.cps.size (fun _ => True) (fun i H v H' => ∃ T c, v = .ref T ∧ H T = none ∧ H' = upd H T (.tup [.int (i : Nat), .str ⟨#[c]⟩]) ∧ x.cps[i]? = some c) :=
  ⟨fun _ _ hi _ => hi, fun _ _ => rfl, fun _ _ _ _ _ _ y => y⟩
def iEnumS (ta : TA) : TI := fun σ H R => ta σ H fun vs H1 => ∃ x, vs = [.str x] ∧ R (Itns x) H1
theorem pi_enumS {X : Cx} {e : Expr} {ta : TA} {p pos tpos : Pos} {elts : List Expr} {kk : Nat} (hg : Gl X "enumerate") (hm : X.mg "enumerate" = none) (ha : PA X [e] ta) (hs : starEach [e] X.env = [(false, eval e X.env)] := by rfl) :
    PI X (.Tuple elts kk tpos) (.Call (.Name "enumerate" p) [e] [] pos) (iEnumS ta) := by
  refine ⟨fun pins s σ H R I h => ?_⟩
  refine Call_ (ld_blt I hg hm boot_enumerate (PyProof.Rows.callWith_type1 (thn (ha.run pos pins s σ H _ I h) fun us s1 ⟨vs, H1, I1, r1, q1⟩ => ?_) hs rfl))
  obtain ⟨x, ex, q⟩ := q1
  subst ex
  cases r1 with
  | cons r rr =>
    cases rr
    obtain ⟨t, rfl⟩ := r
    refine call_enumerate_str fun h' he hit hsz hk => wpAny_pyIter_enum he ?_
    have I2 : Inv X pins σ H1 { s1 with heap := h' } := I1.kept (t' := s1.toks) hk
    refine ⟨s1.heap.objs.size + 1, [s1.heap.objs.size + 1, s1.heap.objs.size], _, _, H1, rfl, I2, turn_enumS x t (s1.heap.objs.size + 1) s1.heap.objs.size, ⟨⟨.none, he⟩, hit, Nat.succ_ne_self _⟩, fun b hb => ?_, q⟩
    have e' : b = s1.heap.objs.size + 1 ∨ b = s1.heap.objs.size := by simpa using hb
    have hle : s1.heap.objs.size ≤ b := by
      rcases e' with z | z
      · rw [z]; exact Nat.le_add_right _ _
      · rw [z]; exact Nat.le_refl _
    exact I1.fpOk hle (I1.hok.fresh hle)
end L2

set_option Elab.async false
set_option linter.all false
set_option maxRecDepth 100000
set_option maxHeartbeats 2000000
/-! VxZs: a walk over zip(t, u) of two texts of one length. -/
namespace L2
open PySem PySem.Spec PyProof.Rows
/-- the signs of x and y, each two in a new pair -/
def Itzs (x y : Str) : It :=
  ⟨fun i _ => i < x.cps.size ∧ i < y.cps.size, fun i H v H' => ∃ T c d, v = .ref T ∧ H T = none ∧ H' = upd H T (.tup [.str ⟨#[c]⟩, .str ⟨#[d]⟩]) ∧ x.cps[i]? = some c ∧ y.cps[i]? = some d, fun i _ => i = x.cps.size ∧ i = y.cps.size⟩
theorem turn_zipS {P : Program} {w : World} {K : PySem.W.Frag} {elts : List Expr} {kk : Nat} {tpos : Pos} (x y : Str) (t u : Tok) {z TI TO i1 i2 : Addr} (S : ZipSep2 z TI TO i1 i2 [i1] [i2]) :
    Turn P w K (.Tuple elts kk tpos) (Itzs x y) [z, TI, TO, i1, i2] z (fun i h => IsZip h z TI TO .none ∧ IsTupOf2 h TI (.ref i1) (.ref i2) ∧ (∃ a b, IsTupOf2 h TO a b) ∧ h.IsStrIter i1 (strIterType x) x t i ∧ h.IsStrIter i2 (strIterType y) y u i) where
  mem := by simp
  obj := fun i h st c hc => by
    obtain ⟨hz, hTI, ⟨a, b, hTO⟩, ⟨o1, e1, _, d1⟩, ⟨o2, e2, _, d2⟩⟩ := st
    have e' : c = z ∨ c = TI ∨ c = TO ∨ c = i1 ∨ c = i2 := by simpa using hc
    rcases e' with q | q | q | q | q
    · rw [q]; exact ⟨_, hz, fun v q => nomatch q⟩
    · rw [q]; exact ⟨_, hTI, fun v q => nomatch q⟩
    · rw [q]; exact ⟨_, hTO, fun v q => nomatch q⟩
    · rw [q]; exact ⟨o1, e1, fun v q => by rw [d1] at q; cases q⟩
    · rw [q]; exact ⟨o2, e2, fun v q => by rw [d2] at q; cases q⟩
  keep := fun i h h' st k => by
    obtain ⟨hz, hTI, ⟨a, b, hTO⟩, ⟨o1, e1, r1⟩, ⟨o2, e2, r2⟩⟩ := st
    exact ⟨k z (by simp) _ hz, k TI (by simp) _ hTI, ⟨a, b, k TO (by simp) _ hTO⟩, ⟨o1, k i1 (by simp) o1 e1, r1⟩, ⟨o2, k i2 (by simp) o2 e2, r2⟩⟩
  item := by
    intro X hP hw hK hc i pins s σ H E I hf st hg
    subst hP hw hK
    obtain ⟨hz, hTI, ⟨a, b, hTO⟩, h1, h2⟩ := st
    have hzl : z < s.heap.objs.size := Heap.lt_size hz
    have hh1 : X.A.in1.handled = none := I.ok.hd hc
    refine wpAny_pyNext_zipD2_item S (Draws.text (prog := X.prog) (w := X.w) hh1 i1 x t) (Draws.text (prog := X.prog) (w := X.w) hh1 i2 y u) hz hTI hTO h1 h2 hg.1 hg.2 fun v1 v2 h' tk p1 p2 z' TO' h1' h2' hT hsz hk => ?_
    obtain ⟨c, t1, hcx, rfl⟩ := p1
    obtain ⟨d, t2, hdy, rfl⟩ := p2
    refine ⟨_, rfl, wpAny_letOwnedTupleGo_zip (s := { s with heap := h', toks := tk }) z' fun h'' z'' sb => ?_⟩
    have hT2 : h''.get? s.heap.objs.size = some { cls := .type "tuple", data := .seq #[.str ⟨#[c]⟩ t1, .str ⟨#[d]⟩ t2] } := (sb.2 _ (Nat.ne_of_gt hzl)).trans hT
    have new : ObjOk X.prog X.w (upd H s.heap.objs.size (.tup [.str ⟨#[c]⟩, .str ⟨#[d]⟩])) h'' s.heap.objs.size (.tup [.str ⟨#[c]⟩, .str ⟨#[d]⟩]) :=
      ⟨by show 2 ≤ sizeLine; decide, [.str ⟨#[c]⟩ t1, .str ⟨#[d]⟩ t2], .cons ⟨_, rfl⟩ (.cons ⟨_, rfl⟩ .nil), ⟨_, hT2, rfl, _, rfl⟩⟩
    have I1 : Inv X pins σ (upd H s.heap.objs.size (.tup [.str ⟨#[c]⟩, .str ⟨#[d]⟩])) { s with heap := h'', toks := tk } :=
      I.turnedNew (ch := [z, TI, TO, i1, i2]) (fun c o hb q => (sb.2 c (fun q' => hb (by simp [q']))).trans (hk c o (fun q' => hb (by simp [q'])) (fun q' => hb (by simp [q'])) (fun q' => hb (by simp [q'])) (fun q' => hb (by simp [q'])) q)) hf (Nat.le_refl _) new
    have lt1 : i1 < s.heap.objs.size := by obtain ⟨_, e1, _⟩ := h1; exact Heap.lt_size e1
    have lt2 : i2 < s.heap.objs.size := by obtain ⟨_, e2, _⟩ := h2; exact Heap.lt_size e2
    refine ⟨.ref s.heap.objs.size, _, I1, rfl, ⟨_, c, d, rfl, I.hok.fresh (Nat.le_refl _), rfl, hcx, hdy⟩, ⟨z'', ?_, ⟨.str ⟨#[c]⟩ t1, .str ⟨#[d]⟩ t2, ?_⟩, ?_, ?_⟩, fun c hcm => ?_⟩
    · exact (sb.2 _ S.TIz).trans (hk _ _ S.TIz S.TITO S.TIi1 S.TIi2 hTI)
    · exact (sb.2 _ S.TOz).trans TO'
    · obtain ⟨o, ho, r⟩ := h1'
      exact ⟨o, (sb.2 _ S.zi1.symm).trans ho, r⟩
    · obtain ⟨o, ho, r⟩ := h2'
      exact ⟨o, (sb.2 _ S.zi2.symm).trans ho, r⟩
    · have hlt : c < s.heap.objs.size := by
        have e' : c = z ∨ c = TI ∨ c = TO ∨ c = i1 ∨ c = i2 := by simpa using hcm
        rcases e' with q | q | q | q | q
        · rw [q]; exact hzl
        · rw [q]; exact Heap.lt_size hTI
        · rw [q]; exact Heap.lt_size hTO
        · rw [q]; exact lt1
        · rw [q]; exact lt2
      rw [upd_ne (Nat.ne_of_lt hlt)]
      exact (hf c hcm).1
  done := by
    intro X hP hw hK hc i pins s σ H E I hf st hg
    subst hP hw hK
    obtain ⟨hz, hTI, ⟨a, b, hTO⟩, h1, h2⟩ := st
    have hh1 : X.A.in1.handled = none := I.ok.hd hc
    exact wpAny_pyNext_zipD2_end S (Draws.text (prog := X.prog) (w := X.w) hh1 i1 x t) (Draws.text (prog := X.prog) (w := X.w) hh1 i2 y u) hz hTI hTO h1 h2 (Nat.le_of_eq hg.1) (Nat.le_of_eq hg.2) (.inl hg.1) fun h' tk hk => ⟨rfl, I.turnedL (t' := tk) (ch := [z, TI, TO, i1, i2]) (fun c o hb q =>
      hk c o (fun q' => hb (by simp [q'])) (fun q' => hb (by simp [q'])) (fun q' => hb (by simp [q'])) (fun q' => hb (by simp [q'])) q) hf⟩
  self := fun A i s Q E st h => wpAny_pyIter_zip st.1 h
theorem walk_zipS {x y : Str} (hl : x.cps.size = y.cps.size) : Walk (Itzs x y) x.cps.size (fun _ => True) (fun i H v H' => ∃ T c d, v = .ref T ∧ H T = none ∧ H' = upd H T (.tup [.str ⟨#[c]⟩, .str ⟨#[d]⟩]) ∧ x.cps[i]? = some c ∧ y.cps[i]? = some d) :=
  ⟨fun _ _ hi _ => ⟨hi, by rw [← hl]; exact hi⟩, fun _ _ => ⟨rfl, hl⟩, fun _ _ _ _ _ _ y => y⟩
def iZipS (ta : TA) : TI := fun σ H R => ta σ H fun vs H1 => ∃ x y, vs = [.str x, .str y] ∧ R (Itzs x y) H1
theorem pi_zipS {X : Cx} {e e2 : Expr} {ta : TA} {p pos tpos : Pos} {elts : List Expr} {kk : Nat} (hg : Gl X "zip") (hm : X.mg "zip" = none) (ha : PA X [e, e2] ta)
    (hs : starEach [e, e2] X.env = (false, eval e X.env) :: starEach [e2] X.env := by rfl) (hpl : (backTo pos (starEach [e2] X.env)).any (·.1) = false := by rfl) :
    PI X (.Tuple elts kk tpos) (.Call (.Name "zip" p) [e, e2] [] pos) (iZipS ta) := by
  refine ⟨fun pins s σ H R I h => ?_⟩
  refine Call_ (ld_blt I hg hm PyProof.Rows.boot_zip (PyProof.Rows.callWith_type1 (thn (ha.run pos pins s σ H _ I h) fun us s1 ⟨vs, H1, I1, r1, q1⟩ => ?_) hs hpl))
  obtain ⟨x, y, ex, q⟩ := q1
  subst ex
  cases r1 with
  | cons r rr =>
    cases rr with
    | cons r' rr =>
      cases rr
      obtain ⟨t, rfl⟩ := r
      obtain ⟨u, rfl⟩ := r'
      have fresh5 : ∀ c, c ∈ [s1.heap.objs.size + 4, s1.heap.objs.size + 2, s1.heap.objs.size + 3, s1.heap.objs.size, s1.heap.objs.size + 1] → FpOk X pins H1 c := fun c hcm => by
        have e' : c = s1.heap.objs.size + 4 ∨ c = s1.heap.objs.size + 2 ∨ c = s1.heap.objs.size + 3 ∨ c = s1.heap.objs.size ∨ c = s1.heap.objs.size + 1 := by simpa using hcm
        have hle : s1.heap.objs.size ≤ c := by omega
        exact I1.fpOk hle (I1.hok.fresh hle)
      have na : ∀ i j : Nat, i ≠ j → (s1.heap.objs.size + i : Nat) ≠ s1.heap.objs.size + j := fun i j h e => h (Nat.add_left_cancel e)
      refine zip_begins2 (begins_text x t) (begins_text y u) trivial trivial fun h' hz hTI hTO g1 g2 hsz hk => wpAny_pyIter_zip hz ?_
      have I2 : Inv X pins σ H1 { s1 with heap := h' } := I1.kept (t' := s1.toks) hk
      exact ⟨s1.heap.objs.size + 4, [s1.heap.objs.size + 4, s1.heap.objs.size + 2, s1.heap.objs.size + 3, s1.heap.objs.size, s1.heap.objs.size + 1], _, _, H1, rfl, I2,
        turn_zipS x y t u ⟨na 2 4 (by decide), na 3 4 (by decide), na 2 3 (by decide), na 2 0 (by decide), by simp, by simp, by simp, na 2 1 (by decide), by simp, by simp, by simp, by simp, by simp⟩, ⟨hz, hTI, ⟨_, _, hTO⟩, ⟨_, g1, rfl, rfl⟩, ⟨_, g2, rfl, rfl⟩⟩, fresh5, q⟩
end L2

set_option Elab.async false
set_option linter.all false
set_option maxRecDepth 100000
set_option maxHeartbeats 4000000
/-! VxSe: set(t) of a tuple of many integers of few kinds. -/
namespace L2
open PySem PySem.Spec PyProof.Rows
/-- a set of ints that are all among ks is no greater -/
theorem setR_le {w : World} {h : Heap} {a : Addr} {S : Int → Bool} {n : Nat} (R : SetR w h a S n) (ks : List Int) (hk : ∀ k, S k = true → k ∈ ks) : n ≤ ks.length := by
  obtain ⟨o, es, ep, t, _, _, _, _, nd, mem, _, _, count, _⟩ := R
  have z := List.Nodup.length_le_of_subset nd (l₂ := ks) fun k m => hk k ((mem k).mpr m)
  rw [List.length_map, Array.length_toList] at z
  omega
abbrev noSet (w : World) : Obj := { cls := .type "set", dict := none, data := .set #[] 0 (.fresh 0 0 (!w.params.followText "set-order")) }
section
variable {P : Program} {w : World} {A : Around} {E : Value → Shared → Prop} {s : Shared}
/-- the walk that fills the set -/
theorem fill_few {I : Addr} {fp wr : List Addr} {G : Array GenState → Array GenState → Prop} {n : Nat} {Pv : Nat → Value → Prop} {St : Nat → Shared → Prop} {R : Result → Shared → Prop}
    (W : WalksS P w A.in1 I fp wr G n Pv St) {D : Addr} (hD : D ∉ fp) {ns ks : List Int} (hn : n = ns.length) (hk : ∀ x ∈ ns, x ∈ ks) (hb : ks.length + 1 < scanBound) (hv : ∀ i v, Pv i v → ∃ k t, ns[i]? = some k ∧ v = .int k t)
    (hR : ∀ s0 s' c, s' = s' → Moved (D :: wr) G s0 s' → SetR w s'.heap D (fun j => decide (j ∈ ns)) c → s0 = s → R (.ok (.ret .none)) s') :
    ∀ (m i : Nat) (s1 : Shared), n - i = m → i ≤ n → St i s1 → (∃ c, SetR w s1.heap D (fun j => decide (j ∈ ns.take i)) c) → (∀ s', Moved (D :: wr) G s1 s' → Moved (D :: wr) G s s') →
      codeAny (model P w) A (.builtin "set.update.loop" ⟨[.ref D, .ref I], []⟩) R s1 := by
  have sub : ∀ b ∈ wr, b ∈ D :: wr := fun b hb => List.mem_cons_of_mem _ hb
  have nw : D ∉ wr := fun h => hD (W.sub _ h)
  have small : ∀ {i : Nat} {h : Heap} {c : Nat}, SetR w h D (fun j => decide (j ∈ ns.take i)) c → c + 1 < scanBound := fun R => by
    have z := setR_le R ks fun k h => hk k (List.mem_of_mem_take (of_decide_eq_true h))
    omega
  intro m
  induction m with
  | zero =>
    intro i s1 hm hi st ⟨c, hS⟩ mv
    obtain rfl : i = n := by omega
    refine codeAny_builtin F.entry_set_update_loop ?_
    rw [Around.under_plainId F.plain_set_update_loop _]
    show wpAny _ A.in1 (pyNext (.ref I) >>= _) _ _ s1
    refine wpAny_bind (W.done s1 _ _ st fun s' hm' => ?_)
    show wpAny _ A.in1 (ret Value.none) _ _ s'
    rw [List.take_of_length_le (Nat.le_of_eq hn.symm)] at hS
    exact wpAny_pure (hR s s' c rfl (mv s' (hm'.mono sub)) (hS.at fun o e => hm'.heap D o nw e) rfl)
  | succ m ih =>
    intro i s1 hm hi st ⟨c, hS⟩ mv
    have lt : i < n := by omega
    refine codeAny_builtin F.entry_set_update_loop ?_
    rw [Around.under_plainId F.plain_set_update_loop _]
    show wpAny _ A.in1 (pyNext (.ref I) >>= _) _ _ s1
    refine wpAny_bind (W.item i s1 _ _ lt st fun v s2 hP st2 hm' => ?_)
    obtain ⟨x, t, hx, rfl⟩ := hv i v hP
    have hS2 : SetR w s2.heap D (fun j => decide (j ∈ ns.take i)) c := hS.at fun o e => hm'.heap D o nw e
    show wpAny _ A.in1 (holding [Value.int x t] (setAdd D (.int x t)) >>= _) _ _ s2
    refine wpAny_bind (wpAny_holding ?_)
    unfold setAdd
    refine wpAny_holding (wpAny_bind ((intKind P w).pyHash (k := x) (intKind_is _ _ _ _) ?_))
    refine setR_add_hashed (s := { s2 with toks := s2.toks + 1 }) hS2 (small hS2) fun h' sb hS3 => ?_
    have hS4 : SetR w h' D (fun j => decide (j ∈ ns.take (i + 1))) (if decide (x ∈ ns.take i) = true then c else c + 1) := hS3.congr fun j => by
      rw [List.take_add_one, hx]
      simp [List.mem_append]
    refine wpAny_pure ⟨plainId_quiet F.plain_set_update_loop _, ih (i + 1) _ (by omega) lt (W.frame _ s2 _ _ st2 (Nat.le_succ _) fun b hb o e => ?_) ⟨_, hS4⟩ fun s' q => mv s' (Moved.trans W.gtrans ((hm'.mono sub).then_heap (Nat.le_succ _) fun b o hb e => ?_) q)⟩
    · rw [sb.2 b (fun h : b = D => hD (by rw [← h]; exact hb))]
      exact e
    · rw [sb.2 b (fun h : b = D => hb (by rw [h]; exact List.mem_cons_self))]
      exact e
set_option maxHeartbeats 8000000 in
theorem call_set_few {l : Addr} {items : Array Value} {ns ks : List Int} {Q : Value → Shared → Prop} (hh : A.handled = none) (hl : s.heap.IsTuple l items) (hit : IntsAre items.toList ns) (hk : ∀ x ∈ ns, x ∈ ks) (hb : ks.length + 1 < scanBound)
    (h : ∀ (h' : Heap) (tk c : Nat), SetR w h' s.heap.objs.size (fun j => decide (j ∈ ns)) c → c ≤ ks.length → (∀ b o, s.heap.get? b = some o → h'.get? b = some o) → Q (.ref s.heap.objs.size) { s with heap := h', toks := tk }) :
    wpAny (model P w) A (call (.type "set") [.ref l]) Q E s := by
  have len : items.size = ns.length := by
    have q := IntsAre.length hit
    rw [Array.length_toList] at q
    exact q
  obtain ⟨c, tl, hmro⟩ := F.called_set.mro
  have hmade := F.called_set.made
  have hsub := F.called_set.sub
  refine wpAny_call (codeAny_of_tree ?_)
  show wpAny _ _ (callAny (.type "set") _) _ _ _
  refine wpAny_pure ⟨Code.quiet_builtin _ (by decide +kernel), codeAny_builtin F.entry_type_call ?_⟩
  rw [Around.under_plain (weight_type_call_type "set" [.ref l] []) rfl]
  have h1 := F.called_set.notType
  have h2 := F.called_set.canCreate
  have hct := F.typeCall_set_1 (.ref l)
  repeat (any_goals (first | assumption | wp_step))
  refine codeAny_mono (code_set_led1 (.ref l) (E := E) (Q₁ := fun obj s₁ => obj = .ref s.heap.objs.size ∧ s₁ = { s with heap := s.heap.push (noSet w) }) ⟨rfl, rfl⟩) fun r s₁ hr => ?_
  cases r with
  | error e => exact hr
  | ok fl =>
    cases fl with
    | next => exact hr.elim
    | brk => exact hr.elim
    | cont => exact hr.elim
    | ret obj =>
      obtain ⟨rfl, rfl⟩ := hr
      have hS : (s.heap.push (noSet w)).get? s.heap.objs.size = some (noSet w) := Heap.get?_push_size _ rfl
      have hT : Shared.TypeIs { s with heap := s.heap.push (noSet w) } (.ref s.heap.objs.size) "set" := ⟨_, hS, rfl⟩
      have hli := F.called_set.init.lookup
      have hbi := F.called_set.init.bind (.ref s.heap.objs.size)
      repeat (any_goals (first | assumption | wp_step))
      refine codeAny_mono (codeAny_call_builtin (R := wants (fun r s₂ => r = .none ∧ ∃ h' tk c, s₂ = { s with heap := h', toks := tk } ∧ SetR w h' s.heap.objs.size (fun j => decide (j ∈ ns)) c ∧
          (∀ b o, s.heap.get? b = some o → h'.get? b = some o)) E) F.called_set.init.plain F.entry_set_init (check_set_init_1 hT ?_)) fun r₂ s₂ hr₂ => ?_
      · obtain ⟨⟨ocls, odict, odata, oslots⟩, hol, hcl, nl, hdl⟩ := hl
        simp only at hcl hdl
        subst hcl; subst hdl
        have hsls := F.sub_tuple_set
        have hslf := F.sub_tuple_frozenset
        have hne : (Value.type "tuple" == Value.type "dict") = false := by decide
        have hol' : (s.heap.push (noSet w)).get? l = some { cls := .type "tuple", dict := odict, data := .seq items nl, slots := oslots } := Heap.get?_push_of_some _ hol
        have hl1 : (s.heap.push (noSet w)).IsTuple l items := ⟨_, hol', rfl, nl, rfl⟩
        unfold Builtin.«set.__init__» noKeywords Builtin.Frozenset.updateFrom
        generalize hPI : pyIter = PI
        wp_walk
        subst hPI
        refine wpAny_pyIter_tuple hl1 ?_
        refine wpAny_bind (wpAny_runValue ?_)
        have lt : l < s.heap.objs.size := Heap.lt_size hol
        have hh3 : A.in1.in1.in1.handled = none := by simp [hh]
        have sz : (s.heap.push (noSet w)).objs.size = s.heap.objs.size + 1 := Heap.size_push ..
        have ne1 : l ≠ (s.heap.push (noSet w)).objs.size := by
          rw [sz]; exact Nat.ne_of_lt (Nat.lt_succ_of_lt lt)
        have off : s.heap.objs.size ∉ [(s.heap.push (noSet w)).objs.size, l] := by
          rw [sz]; simp only [List.mem_cons, List.mem_singleton, List.not_mem_nil, or_false, not_or]
          exact ⟨Nat.ne_of_lt (Nat.lt_succ_self _), Nat.ne_of_gt lt⟩
        have val : ∀ (i : Nat) (v : Value), items[i]? = some v → ∃ k t, ns[i]? = some k ∧ v = .int k t := fun i v hv => by
          have hi : i < ns.length := by rw [← len]; exact (Array.getElem?_eq_some_iff.mp hv).1
          obtain ⟨t, e⟩ := PyProof.Rows.IntsAre.int_at hit i v (by rw [Array.getElem?_toList]; exact hv)
          refine ⟨ns[i], t, List.getElem?_eq_getElem hi, ?_⟩
          rw [e, List.getD_eq_getElem?_getD, List.getElem?_eq_getElem hi] <;> rfl
        refine fill_few ((Walks.tuple hh3 _ l ne1 items).toS) off len hk hb val (fun s0 s' c' _ hm hS' e0 => ?hR) (items.size - 0) 0 _ (by omega) (Nat.zero_le _) ⟨⟨_, Heap.get?_push_size _ rfl, rfl, rfl⟩, (hl1.push _)⟩ ⟨0, setR_new_at (Heap.get?_push_of_some _ hS)⟩ fun _ q => q
        subst e0
        obtain ⟨h', g2, d', tk', os'⟩ := s'
        have eg : g2 = s.gens := hm.gens
        have ed : d' = s.drawn := hm.drawn
        have eo : os' = s.os := hm.os
        subst eg; subst ed; subst eo
        show wpAny _ _ _ _ _ _
        refine wpAny_pure ?_
        show wpAny _ _ (ret Value.none) _ _ _
        refine wpAny_pure ⟨rfl, h', tk', c', rfl, hS', fun b o e => ?_⟩
        have b0 : b < s.heap.objs.size := Heap.lt_size e
        have b2 : b ≠ (s.heap.push (noSet w)).objs.size := by
          rw [sz]; exact Nat.ne_of_lt (Nat.lt_succ_of_lt b0)
        exact hm.heap b o (by simp only [List.mem_cons, List.mem_singleton, List.not_mem_nil, or_false, not_or]; exact ⟨Nat.ne_of_lt b0, b2⟩) (Heap.get?_push_of_some _ (Heap.get?_push_of_some _ e))
      · cases r₂ with
        | error e => exact hr₂
        | ok fl₂ =>
          cases fl₂ with
          | next => exact hr₂.elim
          | brk => exact hr₂.elim
          | cont => exact hr₂.elim
          | ret r =>
            obtain ⟨rfl, h', tk, c', rfl, hS', hk'⟩ := hr₂
            repeat (any_goals (first | assumption | wp_step))
            exact h _ _ _ hS' (setR_le hS' ks fun k m => hk k (of_decide_eq_true m)) hk'
end
section
variable {X : Cx}
/-- set(t), a tuple of integers that are all among ks -/
def rSetF (K : PySem.W.Frag) (w : World) : List V → Hp → VK → Prop := fun vs H Q => ∃ (p : Addr) (ns ks : List Int), vs = [.ref p] ∧ SqT K H p (ns.map V.int) ∧ (∀ x ∈ ns, x ∈ ks) ∧ ks.length + 1 < scanBound ∧ ∀ a c, H a = none → c ≤ ks.length → Q (.ref a) (upd H a (SetO w a (fun j => decide (j ∈ ns)) c))
theorem cr_setF (hc : X.calm = true) : CallR X (.type "set") (rSetF X.K X.w) := by
  intro pins s σ H vs us Q I r h
  obtain ⟨p, ns, ks, rfl, hq, hk, hb, q⟩ := h
  rw [Vals.ref1 r]
  obtain ⟨its, rv, pt, hz⟩ := I.tuple hq
  refine call_set_few (I.ok.hd hc) (show s.heap.IsTuple p its.toArray from pt) (ints_of_vals rv) hk hb fun h' tk c R hcn k => ?_
  exact ⟨.ref _, upd H s.heap.objs.size (SetO X.w s.heap.objs.size (fun j => decide (j ∈ ns)) c), I.laid (t' := tk) k (Nat.le_refl _) (setO_new R), rfl, q _ c (I.hok.fresh (Nat.le_refl _)) hcn⟩
end
end L2

set_option Elab.async false
set_option linter.all false
set_option maxRecDepth 100000
set_option maxHeartbeats 2000000
/-! VxRp: (x,) * k, up to 100,000 items. -/
namespace L2
open PySem PySem.Spec PyProof.Rows
/-- (x,) * k -/
def rRep1 (K : PySem.W.Frag) : R2 := fun x y H Q => ∃ (l : Addr) (k : Nat) (a : V), x = .ref l ∧ y = .int (k : Int) ∧ SqT K H l [a] ∧ 2 ≤ k ∧ k ≤ 100000 ∧ ∀ p, H p = none → Q (.ref p) (upd H p (.tup (List.replicate k a)))
theorem flat_one {α : Type} (b : α) : ∀ k : Nat, (List.replicate k [b]).flatten = List.replicate k b
  | 0 => rfl
  | k + 1 => by
    rw [List.replicate_succ, List.flatten_cons, flat_one b k, List.replicate_succ]
    rfl
theorem vals_rep {a : V} {b : Value} (r : RelV a b) : ∀ k : Nat, Vals (List.replicate k a) (List.replicate k b)
  | 0 => .nil
  | k + 1 => .cons r (vals_rep r k)
section
variable {X : Cx}
theorem op_rep1 : OpR X (binaryOp .Mult) (rRep1 X.K) := by
  intro pins s σ H x y v u Q I rx ry h
  obtain ⟨l, k, a, rfl, rfl, hT, h1, h2, q⟩ := h
  cases rx
  obtain ⟨t, rfl⟩ := ry
  obtain ⟨its, r, ⟨⟨cls, dd, data, sl⟩, ho, hc, n, hd⟩, hs⟩ := I.tuple hT
  simp only at hc hd
  subst hc hd
  cases r with
  | cons ra rr =>
  cases rr
  rename_i b
  have sz : (([b] : List Value).toArray.size : Nat) = 1 := rfl
  have em : ([b] : List Value).toArray.isEmpty = false := rfl
  have e0 : ((k : Int)).toNat = k := rfl
  have line : (16777216 : Nat) = sizeLine := by rw [sizeLine_eq]
  have fl : (List.foldl (fun x1 x2 => x1 ++ x2) #[] (List.replicate ((k : Int)).toNat ([b] : List Value).toArray)) = (List.replicate k b).toArray := by
    rw [size_rep, e0, flat_one]
  have flen : (List.foldl (fun x1 x2 => x1 ++ x2) #[] (List.replicate ((k : Int)).toNat ([b] : List Value).toArray)).size ≤ sizeLine := by
    rw [fl, List.size_toArray, List.length_replicate, ← line]
    omega
  have c0 : (decide ((k : Int) < -(2 ^ 63)) || decide ((k : Int) ≥ 2 ^ 63)) = false := by
    rw [decide_eq_false (by omega), decide_eq_false (by omega)] <;> rfl
  have c1 : (([b] : List Value).toArray.isEmpty || (k : Int) == 1) = false := by
    rw [em, Bool.false_or]
    exact beq_eq_false_iff_ne.mpr (by omega)
  have c2 : (decide ((k : Int) ≤ 0) || ([b] : List Value).toArray.isEmpty) = false := by
    rw [em, Bool.or_false]
    exact decide_eq_false (by omega)
  have c3 : ¬ (((([b] : List Value).toArray.size : Nat) : Int) * (k : Int) > (2 ^ 63 - 1) / 8) := by
    rw [sz]
    omega
  have c4 : Builtin.Tuple.tupleTooMany (((([b] : List Value).toArray.size : Nat) : Int) * (k : Int)) = false := by
    unfold Builtin.Tuple.tupleTooMany
    rw [sz, ← line]
    exact decide_eq_false (by omega)
  refine wpAny_binaryOp_repeat_ref (T := "tuple") (U := "int") (by decide) ⟨_, ho, rfl⟩ (fun s' => typeIs_int s' k t) noFill_tuple_mul F.fills_int_mul F.slot_int_rmul repeat_tuple F.slot_int_index.lookup
    (call_meets F.slot_int_rmul (typeIs_int s k t) F.entry_int_rmul (F.args_int_rmul_2 _ _) (int_rmul_tuple k t l _ n dd sl)
      ⟨ho, rfl, ⟨_, ho, rfl⟩, call_meets F.slot_tuple_mul ⟨_, ho, rfl⟩ F.entry_tuple_mul (F.args_tuple_mul_2 _ _) (tuple_mulW l _ n dd sl k t c0 c1 c2 c3 c4 flen) ⟨ho, ?_⟩⟩)
  rw [fl]
  refine ⟨.ref _, _, I.laid (t' := s.toks) (o := .tup (List.replicate k a)) (fun b ob q => Heap.get?_push_of_some _ q) (Nat.le_refl _) ?_, rfl, q _ (I.hok.fresh (Nat.le_refl _))⟩
  refine ⟨by rw [List.length_replicate, ← line]; omega, _, vals_rep ra k, ⟨_, Heap.get?_push_size _ rfl, rfl, _, rfl⟩⟩
end
end L2

set_option Elab.async false
set_option linter.all false
set_option maxRecDepth 100000
set_option maxHeartbeats 2000000
namespace Kx
open PySem PySem.Spec PyProof.Rows L2 StX
abbrev FnP (K : PySem.W.Frag) (x : Str) (st : Stmt) (f : Addr) (fd : FuncData) : Prop := FunD K x x (defArgs st) (defBody st) (defScope st) [] [] f fd
theorem yesT {σ : L2.St} {H : Hp} {A B : Hp → Prop} (h : A H) : tYes σ H fun b H3 => if b = true then A H3 else B H3 := @iteT (A H) (B H) h
theorem same_updN {H H' : Hp} {p : Addr} {o : HO} (s : Same H H') (n : H p = none) : Same H (upd H' p o) := fun b u e => by
  rw [upd_ne (ne_of_none e n)]
  exact s b u e
theorem none_of {H H' : Hp} {b : Addr} (s : Same H H') (n : H' b = none) : H b = none := by
  cases e : H b with
  | none => rfl
  | some o =>
    rw [s _ _ e] at n
    cases n
theorem sqT_to {K : PySem.W.Frag} {H H' : Hp} {a : Addr} {xs : List V} (s : Same H H') (h : SqT K H a xs) : SqT K H' a xs := by
  rcases h with h | h
  · rcases h with h | ⟨o, h⟩
    · exact .inl (.inl (s _ _ h))
    · exact .inl (.inr ⟨o, s _ _ h⟩)
  · exact .inr h
/-! ### digits -/
def isHex (c : Nat) : Bool := decide (c ∈ HEXD.cps.toList)
/-- a sign's number -/
def dig (c : Nat) : Nat := (HEXD.cps.toList.findIdx? (· == c)).getD 0
theorem dig_all : (HEXD.cps.toList.all fun c => decide (dig c < 16) && decide (HEXD.cps.getD (dig c) 0 = c)) = true := by decide +kernel
theorem dig_lt {c : Nat} (h : isHex c = true) : dig c < 16 ∧ HEXD.cps.getD (dig c) 0 = c := by
  have z := List.all_eq_true.mp dig_all c (of_decide_eq_true h)
  obtain ⟨z1, z2⟩ := band z
  exact ⟨of_decide_eq_true z1, of_decide_eq_true z2⟩
theorem sg_all : ((List.range 16).all fun i => isHex (HEXD.cps.getD i 0) && decide (dig (HEXD.cps.getD i 0) = i)) = true := by decide +kernel
theorem sg_hex {i : Nat} (h : i < 16) : isHex (HEXD.cps.getD i 0) = true ∧ dig (HEXD.cps.getD i 0) = i := by
  have z := List.all_eq_true.mp sg_all i (List.mem_range.mpr h)
  obtain ⟨z1, z2⟩ := band z
  exact ⟨z1, of_decide_eq_true z2⟩
/-- the signs of octets -/
def hexC (ns : List Nat) : List Nat := ns.flatMap fun n => [hx1 (n / 16), hx1 (n % 16)]
def hexT (ns : List Nat) : Str := ⟨(hexC ns).toArray⟩
theorem join_hex : ∀ ns : List Nat, Str.join ⟨#[]⟩ (ns.map hx2) = hexT ns
  | [] => rfl
  | n :: ns => by
    rw [List.map_cons, join_nil_cons, join_hex ns]
    refine Str.ext' ?_
    rw [Str.cps_append]
    show #[hx1 (n / 16), hx1 (n % 16)] ++ (hexC ns).toArray = (hexC (n :: ns)).toArray
    show #[hx1 (n / 16), hx1 (n % 16)] ++ (hexC ns).toArray = ([hx1 (n / 16), hx1 (n % 16)] ++ hexC ns).toArray
    simp
theorem hexC_len : ∀ ns : List Nat, (hexC ns).length = 2 * ns.length
  | [] => rfl
  | n :: ns => by
    show ([hx1 (n / 16), hx1 (n % 16)] ++ hexC ns).length = 2 * (ns.length + 1)
    rw [List.length_append, hexC_len ns]
    show 2 + 2 * ns.length = _
    omega
theorem sum_hex : ∀ ns : List Nat, ((ns.map hx2).map (·.length)).sum = 2 * ns.length
  | [] => rfl
  | n :: ns => by
    show 2 + ((ns.map hx2).map (·.length)).sum = 2 * (ns.length + 1)
    rw [sum_hex ns]
    omega
/-- the octets that a text of digits tells -/
def numT (z : Str) : List Nat := (List.range (z.length / 2)).map fun k => 16 * dig (z.cps.getD (2 * k) 0) + dig (z.cps.getD (2 * k + 1) 0)
structure Nm (mg : Str → Option Value) : Prop where
  isi : mg "isinstance" = none
  int : mg "int" = none
  bool : mg "bool" = none
  str : mg "str" = none
  tuple : mg "tuple" = none
  type : mg "type" = none
  len : mg "len" = none
  all : mg "all" = none
  sorted : mg "sorted" = none
  set : mg "set" = none
  repr : mg "repr" = none
  rng : mg "range" = none
  zip : mg "zip" = none
  enu : mg "enumerate" = none
  hexd : ∃ t, mg "HEX_DIGITS" = some (.str HEXD t)
  octl : ∃ t, mg "OCTET_LIMIT" = some (.int 256 t)
  strl : ∃ t, mg "STREAM_LIMIT" = some (.int 50000 t)
structure Dc (K : PySem.W.Frag) (w : World) (mg : Str → Option Value) : Prop where
  hex : KdK K w (dH K) hexKv
  mH : mg "HEX_VALUES" = some (.ref (dH K))
theorem hex_at : ∀ {i : Nat}, i < 16 → valV hexKv (.inr (sg i)) = some (.int (i : Nat)) := fun {i} h => by
  have z : ((List.range 16).all fun i => match valV hexKv (.inr (sg i)) with
    | some (.int j) => decide (j = (i : Nat))
    | _ => false) = true := by decide +kernel
  have y := List.all_eq_true.mp z i (List.mem_range.mpr h)
  cases q : valV hexKv (.inr (sg i)) with
  | none => rw [q] at y; cases y
  | some v =>
    rw [q] at y
    cases v with
    | int j => rw [of_decide_eq_true y]
    | _ => cases y
theorem hex_val {c : Nat} (h : isHex c = true) : valV hexKv (.inr ⟨#[c]⟩) = some (.int (dig c : Nat)) := by
  obtain ⟨h1, h2⟩ := dig_lt h
  have z := hex_at h1
  unfold sg at z
  rw [h2] at z
  exact z
section
variable {P : Program} {w : World} {K : PySem.W.Frag} {mg : Str → Option Value} {base : Heap}
abbrev sHex : Stmt := top 7
abbrev sNum : Stmt := top 8
theorem scHex : FnScope ["numbers", "number"] ["numbers"] (defScope sHex) := ⟨rfl, rfl, rfl, by decide +kernel, rfl, by decide +kernel, by decide +kernel⟩
theorem scNum : FnScope ["text", "high", "low"] ["text"] (defScope sNum) := ⟨rfl, rfl, rfl, by decide +kernel, rfl, by decide +kernel, by decide +kernel⟩
def nV (ns : List Nat) : List V := ns.map fun (n : Nat) => V.int (n : Int)
def spHex (K : PySem.W.Frag) : Sp := fun vs H Q _ => ∃ (p : Addr) (ns : List Nat), vs = [.ref p] ∧ SqT K H p (nV ns) ∧ (∀ n ∈ ns, n < 256) ∧ ns.length ≤ 50000 ∧ ∀ H', Same H H' → Q (.str (hexT ns)) H'
def spNum (K : PySem.W.Frag) : Sp := fun vs H Q _ => ∃ (z : Str), vs = [.str z] ∧ z.length % 2 = 0 ∧ z.length ≤ 100000 ∧ (∀ c ∈ z.cps.toList, isHex c = true) ∧ ∀ p H', Same H H' → SqT K H' p (nV (numT z)) → Q (.ref p) H'
theorem ok_hex {f : Addr} {fd : FuncData} (F : FnP K "hex_text" sHex f fd) (N : Nm mg) : FnOk P w K mg base CX0 1 f fd ["numbers"] (spHex K) := by
  refine F.ok scHex (fun vs H Q E h => ?_) (fun cdv A outer s H vs Q E hr h => ?_)
  · obtain ⟨p, ns, rfl, _⟩ := h
    rfl
  · refine ⟨_, PSs.nox (pss_one (ps_ret (pe_bm PySem.F.plainAttrs_str PySem.F.slot_str_join PySem.F.type_str_join mt_join pe_str (pa_cons (pe_lc (own := [("number", 1)]) (g := gName 1) (tt := tYes) rfl scHex.nd (pi_tup (pv 0)) (blkOk_by (own := [("number", 1)]) (N := ["numbers", "number"]) (sc := defScope sHex) (by decide +kernel))
        (fun _ _ _ _ _ => pg_name (i := 1) scHex.nd rfl (Or.inl rfl)) (fun _ _ _ _ _ => pts_nil) (fun _ _ _ _ _ => pe_fs1 (pe_fmtX (pv 1)))) pa_nil)))), ?_⟩
    obtain ⟨p, ns, rfl, hp, hn, hl, k⟩ := h
    refine ⟨rfl, _, rfl, p, rfl, ⟨_, hp⟩, fun D nD => lc_it (walk_tup (xs := nV ns)) (fun i H' => Same H H' ∧ H' D = some (.lst ((((ns.take i)).map hx2).map V.str))) ⟨same_new nD, upd_same⟩ (fun i H' _ z => sqT_to z.1 hp) ?_ ?_⟩
    · rintro i y H' H'' hi ⟨s1, hD⟩ ⟨rfl, hx⟩
      unfold nV at hx
      rw [List.getElem?_map] at hx
      obtain ⟨n, en, rfl⟩ := Option.map_eq_some_iff.mp hx
      refine ⟨rfl, yesT ⟨_, rfl, n, rfl, hn n (List.mem_of_getElem? en), _, hD, ?_, same_updN s1 nD, ?_⟩⟩
      · rw [List.length_map, List.length_map, List.length_take]
        exact Nat.lt_of_le_of_lt (Nat.le_trans (Nat.min_le_right _ _) hl) (by decide)
      · rw [upd_same, List.take_add_one, en, List.map_append, List.map_append]
        rfl
    · rintro H' ⟨s1, hD⟩
      have e : (nV ns).length = ns.length := List.length_map _
      rw [e, List.take_length] at hD
      refine ⟨_, D, ns.map hx2, rfl, rfl, .inl (SqL.of hD), ?_, ?_⟩
      · rw [sum_hex]
        show 2 * ns.length + _ * 0 ≤ _
        omega
      · have ej : Txt.join ("" : Str) (ns.map hx2) = hexT ns := (eq_of_beq (join_plain_closes _ _)).trans (join_hex ns)
        rw [ej]
        exact k H' s1
theorem takeWhile_all {α : Type} {p : α → Bool} : ∀ {l : List α}, (∀ a ∈ l, p a = true) → l.takeWhile p = l
  | [], _ => rfl
  | a :: l, h => by rw [List.takeWhile_cons, if_pos (h a (List.mem_cons_self ..)), takeWhile_all fun x m => h x (List.mem_cons_of_mem _ m)]
theorem has_of {c : Nat} (h : isHex c = true) : HEXD.cps.contains c = true := by
  have m : c ∈ HEXD.cps.toList := of_decide_eq_true h
  rw [Array.contains_iff_mem]
  exact Array.mem_toList_iff.mp m
theorem lo_all {z : Str} (h : ∀ c ∈ z.cps.toList, isHex c = true) : (z.cps.toList.takeWhile HEXD.cps.contains).length = z.length := by
  have e : z.cps.toList.takeWhile HEXD.cps.contains = z.cps.toList := takeWhile_all fun c m => has_of (h c m)
  rw [e]
  exact Array.length_toList
theorem strip_all {z : Str} (h : ∀ c ∈ z.cps.toList, isHex c = true) : (Txt.stripChars z HEXD).length = 0 := by
  unfold Txt.stripChars
  rw [stripBy_eq]
  have e : stripLo HEXD.cps.contains true z = z.length := lo_all h
  rw [e]
  show (z.cps.extract z.length _).size = 0
  rw [Array.size_extract]
  have : z.length = z.cps.size := rfl
  omega
theorem hex_get {z : Str} (h : ∀ c ∈ z.cps.toList, isHex c = true) {i : Nat} (hi : i < z.length) : isHex (z.cps.getD i 0) = true := by
  refine h _ ?_
  have hi' : i < z.cps.size := hi
  rw [Array.getD_eq_getD_getElem?, Array.getElem?_eq_getElem hi']
  exact Array.mem_toList_iff.mpr (Array.getElem_mem hi')
theorem ev_at {z : Str} {c k : Nat} (hc : c ≤ 1) (h : k < (z.length + 1 - c) / 2) : (evS c z).cps[k]? = some (z.cps.getD (c + 2 * k) 0) := by
  have hl : z.length = z.cps.toList.length := Array.length_toList.symm
  have e : (evS c z).cps[k]? = (evN c z.cps.toList)[k]? := by
    show (evN c z.cps.toList).toArray[k]? = _
    rw [List.getElem?_toArray]
  rw [e, ev_get hc (by rw [← hl]; exact h)]
  have hi : c + 2 * k < z.cps.size := by
    have : z.length = z.cps.size := rfl
    omega
  rw [Array.getElem?_toList, Array.getD_eq_getD_getElem?, Array.getElem?_eq_getElem hi]
  rfl
theorem evS_size {z : Str} {c : Nat} (hc : c ≤ 1) : (evS c z).cps.size = (z.length + 1 - c) / 2 := by
  show (evN c z.cps.toList).toArray.size = _
  rw [List.size_toArray, ev_len hc, Array.length_toList]
  rfl
theorem ok_num {f : Addr} {fd : FuncData} (F : FnP K "numbers_of" sNum f fd) (N : Nm mg) (D_ : Dc K w mg) : FnOk P w K mg base CX0 1 f fd ["text"] (spNum K) := by
  obtain ⟨th, gh⟩ := N.hexd
  refine F.ok scNum (fun vs H Q E h => ?_) (fun cdv A outer s H vs Q E hr h => ?_)
  · obtain ⟨z, rfl, _⟩ := h
    rfl
  · refine ⟨_, PSs.nox (pss_cons (ps_if (PW.pt (pw_or (pt_cmpR op_eq (pe_op op_mod (pe_callB call_len (by rfl) N.len PySem.boot_len (pa_cons (pv 0) pa_nil)) pe_int) pe_int (nomark _))
          (pw_or1 (pt_truth (pe_bm PySem.F.plainAttrs_str PySem.F.slot_str_strip PySem.F.type_str_strip mt_stripChars (pv 0) (pa_cons (pe_glob (v := .str HEXD) (by rfl) gh ⟨_, rfl⟩) pa_nil)) (fun _ => rfl))))) (pss_one (ps_ret pe_non)) pss_nil)
      (pss_one (ps_ret (pe_callTy call_tuple_of (by rfl) N.tuple (by decide +kernel) (pa_cons (pe_lc (own := [("high", 1), ("low", 2)]) (g := gTup K 2 (gCons (gName 1) (gCons (gName 2) gNil))) (tt := tYes) rfl scNum.nd
          (pi_zipS (by rfl) N.zip (pa_cons (pe_evS (pv 0) po_none pe_int) (pa_cons (pe_evS (pv 0) (po_some pe_int) pe_int) pa_nil))) (blkOk_by (own := [("high", 1), ("low", 2)]) (N := ["text", "high", "low"]) (sc := defScope sNum) (by decide +kernel))
          (fun _ _ _ _ _ => pg_tup rfl (pgs_cons (pg_name (i := 1) scNum.nd rfl (Or.inl rfl)) (pgs_cons (pg_name (i := 2) scNum.nd rfl (Or.inl rfl)) pgs_nil))) (fun _ _ _ _ _ => pts_nil)
          (fun _ _ _ _ _ => pe_op op_add (pe_op op_mul pe_int (pe_ix (show IxR _ (rIxKd K w) from ix_kd) (pe_glob (v := .ref (dH K)) (by rfl) D_.mH rfl) (pv 1) (fun _ _ => rfl))) (pe_ix (show IxR _ (rIxKd K w) from ix_kd) (pe_glob (v := .ref (dH K)) (by rfl) D_.mH rfl) (pv 2) (fun _ _ => rfl)))) pa_nil))))), ?_⟩
    obtain ⟨z, rfl, hev, hl, hx, k⟩ := h
    have zs : z.length ≤ sizeLine := Nat.le_trans hl (by decide)
    have sl := strip_all hx
    refine ⟨_, rfl, _, z.length, rfl, ⟨zs, rfl⟩, _, _, rfl, rfl, (by show (0 : Int) < 2; decide), rfl, _, rfl, ?_⟩
    have e1 : decide (V.int ((z.length : Int) % 2) = V.int 1) = false := decide_eq_false fun y => by
      injection y with y
      omega
    rw [e1]
    refine iteF ⟨_, rfl, rfl, z, HEXD, rfl, rfl, zs, false, ⟨by rw [sl]; exact Nat.zero_le _, by rw [sl]; rfl⟩, iteF ?_⟩
    refine ⟨_, rfl, rfl, z, 0, rfl, zs, .inl ⟨rfl, rfl⟩, _, rfl, ⟨_, rfl, rfl, z, 1, rfl, zs, .inr ⟨rfl, rfl⟩, ?_⟩⟩
    have h0 : (evS 0 z).cps.size = z.length / 2 := by rw [evS_size (by decide)]; omega
    have h1 : (evS 1 z).cps.size = z.length / 2 := by rw [evS_size (by decide)]; omega
    have lN : (numT z).length = z.length / 2 := by
      unfold numT
      rw [List.length_map, List.length_range]
    refine ⟨_, _, rfl, fun D nD => lc_it (walk_zipS (x := evS 0 z) (y := evS 1 z) (h0.trans h1.symm)) (fun i H' => Same H H' ∧ H' D = some (.lst (nV ((numT z).take i)))) ⟨same_new nD, upd_same⟩ (fun i H' _ _ => True.intro) ?_ ?_⟩
    · rintro i y H' H'' hi ⟨s1, hD⟩ ⟨T, c, d, rfl, nT, rfl, ec, ed⟩
      rw [h0] at hi
      rw [ev_at (by decide) (by omega)] at ec ed
      cases ec
      cases ed
      have s2 := s1.tr (same_new (o := .tup [.str ⟨#[z.cps.getD (0 + 2 * i) 0]⟩, .str ⟨#[z.cps.getD (1 + 2 * i) 0]⟩]) nT)
      have nTD : T ≠ D := fun y => by rw [y, hD] at nT; cases nT
      have g0 := hex_get hx (i := 0 + 2 * i) (by omega)
      have g1 := hex_get hx (i := 1 + 2 * i) (by omega)
      have a0 := (dig_lt g0).1
      have eN : (numT z)[i]? = some (16 * dig (z.cps.getD (0 + 2 * i) 0) + dig (z.cps.getD (1 + 2 * i) 0)) := by
        unfold numT
        rw [List.getElem?_map, List.getElem?_range hi, Nat.zero_add, Nat.add_comm 1]
        rfl
      refine ⟨T, _, rfl, SqT.of upd_same, rfl, _, _, rfl, _, _, rfl, rfl, rfl, yesT ?_⟩
      refine ⟨_, rfl, .inr _, dH K, hexKv, _, rfl, rfl, D_.hex, hex_val g0, _, _, rfl, rfl, ?_, _, rfl, .inr _, dH K, hexKv, _, rfl, rfl, D_.hex, hex_val g1, _, _, rfl, rfl, _, (by rw [upd_ne nTD.symm]; exact hD), ?_, same_updN s2 nD, ?_⟩
      · exact .inl ⟨by decide, by decide⟩
      · show ((nV ((numT z).take i))).length < sizeLine
        unfold nV
        rw [List.length_map, List.length_take, lN]
        exact Nat.lt_of_le_of_lt (Nat.le_trans (Nat.min_le_right _ _) (show z.length / 2 ≤ 50000 by omega)) (by decide)
      · rw [upd_same, List.take_add_one, eN]
        unfold nV
        rw [List.map_append]
        rfl
    · rintro H' ⟨s1, hD⟩
      rw [h0, ← lN, List.take_length] at hD
      exact ⟨D, _, rfl, .inl ⟨SqL.of hD, fun t nt => k t _ (s1.tr (same_new nt)) (SqT.of upd_same)⟩⟩
end
end Kx

set_option Elab.async false
set_option linter.all false
set_option maxRecDepth 100000
set_option maxHeartbeats 4000000
namespace Kx
open PySem PySem.Spec PyProof.Rows L2 StX
theorem sdall_len {K : PySem.W.Frag} {H : Hp} : ∀ {xs : List V} {ds : List PyData}, SdAll K H xs ds → xs.length = ds.length
  | _, _, .nil => rfl
  | _, _, .cons _ h => by rw [List.length_cons, List.length_cons, sdall_len h]
theorem sdall_get {K : PySem.W.Frag} {H : Hp} : ∀ {xs : List V} {ds : List PyData} {i : Nat} {x : V}, SdAll K H xs ds → xs[i]? = some x → ∃ d, ds[i]? = some d ∧ Sd K H x d
  | _, _, 0, _, .cons h _, e => by
    cases e
    exact ⟨_, rfl, h⟩
  | _, _, i + 1, _, .cons _ h, e => sdall_get (i := i) h e
theorem sdall_snoc {K : PySem.W.Frag} {H : Hp} : ∀ {xs : List V} {ds : List PyData} {x : V} {d : PyData}, SdAll K H xs ds → Sd K H x d → SdAll K H (xs ++ [x]) (ds ++ [d])
  | _, _, _, _, .nil, h => .cons h .nil
  | _, _, _, _, .cons a r, h => .cons a (sdall_snoc r h)
theorem sd_to {K : PySem.W.Frag} {H H' : Hp} {v : V} {d : PyData} (h : Sd K H v d) (s : Same H H') : Sd K H' v d := Sd.same s (fun z => sqT_to s z) h
theorem sdall_to {K : PySem.W.Frag} {H H' : Hp} {xs : List V} {ds : List PyData} (h : SdAll K H xs ds) (s : Same H H') : SdAll K H' xs ds := SdAll.same s (fun z => sqT_to s z) h
/-- the error with the object, to be raised at a heap that has grown -/
def Err (C : Addr) (fld : Str) (v : V) (H : Hp) (E : XK) : Prop := ∀ dd H', H dd = none → Same H H' → H' dd = some (.xd [(fld, v)]) → E (.ref C) (some dd) H'
theorem err_to {C : Addr} {f : Str} {v : V} {H H' : Hp} {E : XK} (s : Same H H') (h : Err C f v H E) : Err C f v H' E := fun dd H2 n s2 x => h dd H2 (none_of s n) (s.tr s2) x
def isI : PyData → Bool
  | .int _ => true
  | _ => false
def isOct : PyData → Bool
  | .int i => decide (0 ≤ i) && decide (i < 256)
  | _ => false
def isStm : PyData → Bool
  | .tuple ds => decide (ds.length ≤ 50000) && ds.all isOct
  | _ => false
/-- few kinds of integers -/
def few (d : PyData) : Prop := ∀ ds, d = .tuple ds → ∃ ks : List Int, ks.length ≤ 300 ∧ ∀ i : Int, PyData.int i ∈ ds → i ∈ ks
def notI (d : PyData) : Bool := !isI d
theorem tyN_int (d : PyData) : (!decide (tyN d = "int")) = notI d := by
  cases d <;> simp only [tyN] <;> rfl
theorem all_ints : ∀ {K : PySem.W.Frag} {H : Hp} {xs : List V} {ds : List PyData}, SdAll K H xs ds → ds.filter notI = [] → ∃ ns : List Int, xs = ns.map V.int ∧ ds = ns.map PyData.int
  | _, _, _, _, .nil, _ => ⟨[], rfl, rfl⟩
  | _, _, _, _, .cons (d := d) a r, h => by
    cases d with
    | int i =>
      have h2 := h
      rw [List.filter_cons_of_neg (by simp [notI, isI])] at h2
      obtain ⟨ns, e1, e2⟩ := all_ints r h2
      cases a
      exact ⟨i :: ns, by rw [e1]; rfl, by rw [e2]; rfl⟩
    | _ => rw [List.filter_cons_of_pos rfl] at h; cases h
theorem nums_others {ds : List PyData} (h : ds.filter notI ≠ []) : ds.all isOct = false := by
  obtain ⟨d, hd⟩ := List.exists_mem_of_ne_nil _ h
  obtain ⟨m, e⟩ := List.mem_filter.mp hd
  rw [List.all_eq_false]
  refine ⟨d, m, ?_⟩
  cases d with
  | int i => cases e
  | _ => simp [isOct]
theorem nums_ints {ns out : List Int} (h : ∀ k, k ∈ out ↔ k ∈ ns) : (out.map fun z => decide (0 ≤ z) && decide (z < 256)).all id = (ns.map PyData.int).all isOct := by
  rw [Bool.eq_iff_iff, List.all_eq_true, List.all_eq_true]
  constructor
  · intro a d hd
    obtain ⟨z, hz, rfl⟩ := List.mem_map.mp hd
    exact a _ (List.mem_map.mpr ⟨z, (h z).mpr hz, rfl⟩)
  · intro a b hb
    obtain ⟨z, hz, rfl⟩ := List.mem_map.mp hb
    exact a (.int z) (List.mem_map.mpr ⟨z, (h z).mp hz, rfl⟩)
theorem others_all {es : List PyData} (h : ∀ e ∈ es, notI e = true) : (es.map isI).all id = es.isEmpty := by
  cases es with
  | nil => rfl
  | cons e r =>
    have z := h e List.mem_cons_self
    have z2 : isI e = false := by
      unfold notI at z
      simpa using z
    simp [z2]
def spTest (K : PySem.W.Frag) (t : PyData → Bool) : Sp := fun vs H Q _ => ∃ (v : V) (d : PyData), vs = [v] ∧ Sd K H v d ∧ Q (.bl (t d)) H
def spOcts (K : PySem.W.Frag) : Sp := fun vs H Q _ => ∃ (v : V) (d : PyData), vs = [v, .int 50000] ∧ Sd K H v d ∧ few d ∧ ∀ H', Same H H' → Q (.bl (isStm d)) H'
abbrev CS (K : PySem.W.Frag) : Addr := gC K "InvalidStream"
abbrev CT (K : PySem.W.Frag) : Addr := gC K "InvalidText"
def spReq (K : PySem.W.Frag) : Sp := fun vs H Q E => ∃ (v : V) (d : PyData), vs = [v] ∧ Sd K H v d ∧ few d ∧ (isStm d = true → ∀ H', Same H H' → Q .non H') ∧ (isStm d = false → Err (CS K) "value" v H E)
section
variable {P : Program} {w : World} {K : PySem.W.Frag} {mg : Str → Option Value} {base : Heap}
abbrev sIsInt : Stmt := top 11
abbrev sOcts : Stmt := top 12
abbrev sReq : Stmt := top 15
theorem scIsInt : FnScope ["thing"] ["thing"] (defScope sIsInt) := ⟨rfl, rfl, rfl, by decide +kernel, rfl, by decide +kernel, by decide +kernel⟩
theorem scOcts : FnScope ["thing", "limit", "others", "item"] ["thing", "limit"] (defScope sOcts) := ⟨rfl, rfl, rfl, by decide +kernel, rfl, by decide +kernel, by decide +kernel⟩
theorem scReq : FnScope ["stream"] ["stream"] (defScope sReq) := ⟨rfl, rfl, rfl, by decide +kernel, rfl, by decide +kernel, by decide +kernel⟩
/-- the error classes -/
structure Es (P : Program) (w : World) (K : PySem.W.Frag) (mg : Str → Option Value) (base : Heap) : Prop where
  stm : XK1 P w K mg base "InvalidStream" "value" (CS K)
  txt : XK1 P w K mg base "InvalidText" "offset" (CT K)
theorem ok_isInt {f : Addr} {fd : FuncData} (F : FnP K "is_integer" sIsInt f fd) (N : Nm mg) : FnOk P w K mg base CX0 1 f fd ["thing"] (spTest K isI) := by
  refine F.ok scIsInt (fun vs H Q E h => ?_) (fun cdv A outer s H vs Q E hr h => ?_)
  · obtain ⟨v, d, rfl, _⟩ := h
    rfl
  · refine ⟨_, PSs.nox (pss_one (ps_ret (pe_and (pe_callB call_isD (by rfl) N.isi (by decide +kernel) (pa_cons (pv 0) (pa_cons (pe_bltn (v := .ty "int") (by rfl) N.int (by decide +kernel) rfl) pa_nil)))
      (pe_one (pe_not (pe_callB call_isD (by rfl) N.isi (by decide +kernel) (pa_cons (pv 0) (pa_cons (pe_bltn (v := .ty "bool") (by rfl) N.bool (by decide +kernel) rfl) pa_nil)))))))), ?_⟩
    obtain ⟨v, d, rfl, hv, k⟩ := h
    refine ⟨_, rfl, v, d, "int", rfl, rfl, hv, _, rfl, ?_⟩
    cases d with
    | int i => exact ⟨_, rfl, v, _, "bool", rfl, rfl, hv, _, rfl, k⟩
    | bool b => exact ⟨_, rfl, v, _, "bool", rfl, rfl, hv, _, rfl, k⟩
    | none => exact k
    | str _ => exact k
    | list _ => exact k
    | tuple _ => exact k
    | dict _ => exact k
theorem ok_octs {f : Addr} {fd : FuncData} (F : FnP K "are_octets" sOcts f fd) (N : Nm mg) (TI : ∃ f fd, FnP K "is_integer" sIsInt f fd ∧ mg "is_integer" = some (.ref f)) : FnOk P w K mg base CX0 2 f fd ["thing", "limit"] (spOcts K) := by
  obtain ⟨fi, di, FI, gI⟩ := TI
  obtain ⟨tn, gn⟩ := N.octl
  have GI : FnOk P w K mg base CX0 1 fi di ["thing"] (spTest K isI) := ok_isInt FI N
  have bI : Binds K di ["thing"] [] := FI.bindsN fun _ _ _ _ _ _ us hl => match us, hl with | [_], _ => rfl
  refine F.ok scOcts (fun vs H Q E h => ?_) (fun cdv A outer s H vs Q E hr h => ?_)
  · obtain ⟨v, d, rfl, _⟩ := h
    rfl
  · refine ⟨_, PSs.nox (pss_cons (ps_if (PW.pt (pw_or (pt_not (pt_val (pe_callB call_isD (by rfl) N.isi (by decide +kernel) (pa_cons (pv 0) (pa_cons (pe_bltn (v := .ty "tuple") (by rfl) N.tuple (by decide +kernel) rfl) pa_nil)))))
        (pw_or1 (pt_cmpR op_gt (pe_callB call_len (by rfl) N.len PySem.boot_len (pa_cons (pv 0) pa_nil)) (pv 1) (nomark _))))) (pss_one (ps_ret pe_bl)) pss_nil)
      (pss_cons (ps_setLc (i := 2) (own := [("item", 3)]) (g := gName 3) rfl scOcts.nd rfl rfl (sw_true rfl rfl rfl rfl) (pi_tup (pv 0)) (blkOk_by (own := [("item", 3)]) (N := ["thing", "limit", "others", "item"]) (sc := defScope sOcts) (by decide +kernel))
        (fun _ _ _ _ _ => pg_name (i := 3) scOcts.nd rfl (Or.inl rfl)) (fun _ _ _ _ _ => pts_one (pt_cmpR op_neTy (pe_callTy (show CallR _ (.type "type") (rTyD K) from call_tyD) (by rfl) N.type (by decide +kernel) (pa_cons (pv 3) pa_nil)) (pe_bltn (v := .ty "int") (by rfl) N.int (by decide +kernel) rfl) (nomark _)))
        (fun _ _ _ _ _ => pv 3))
      (pss_one (ps_ret (pe_and (pe_callB (cr_all rfl) (by rfl) N.all (by decide +kernel) (pa_cons (pe_lc (own := [("item", 3)]) (g := gName 3) (tt := tYes) rfl scOcts.nd (pi_list (pv 2)) (blkOk_by (own := [("item", 3)]) (N := ["thing", "limit", "others", "item"]) (sc := defScope sOcts) (by decide +kernel))
          (fun _ _ _ _ _ => pg_name (i := 3) scOcts.nd rfl (Or.inl rfl)) (fun _ _ _ _ _ => pts_nil) (fun _ _ _ _ _ => pe_call GI hr (by rfl) gI FI.kp bI .nil pass0 (pa_cons (pv 3) pa_nil))) pa_nil))
        (pe_one (pe_callB (cr_all rfl) (by rfl) N.all (by decide +kernel) (pa_cons (pe_lc (own := [("item", 3)]) (g := gName 3) (tt := tYes) rfl scOcts.nd
          (pi_list (pe_callB (cr_sortedSetN rfl) (by rfl) N.sorted (by decide +kernel) (pa_cons (pe_callTy (cr_setF rfl) (by rfl) N.set (by decide +kernel) (pa_cons (pv 0) pa_nil)) pa_nil)))
          (blkOk_by (own := [("item", 3)]) (N := ["thing", "limit", "others", "item"]) (sc := defScope sOcts) (by decide +kernel))
          (fun _ _ _ _ _ => pg_name (i := 3) scOcts.nd rfl (Or.inl rfl)) (fun _ _ _ _ _ => pts_nil) (fun _ _ _ _ _ => pe_chain op_le op_lt pe_int (pv 3) (pe_glob (v := .int 256) (by rfl) gn ⟨_, rfl⟩))) pa_nil)))))))), ?_⟩
    obtain ⟨v, d, rfl, hv, hfw, k⟩ := h
    refine ⟨_, rfl, v, d, "tuple", rfl, rfl, hv, _, rfl, ?_⟩
    cases d with
    | none => exact iteT (iteT (k _ Same.refl'))
    | bool b => exact iteT (iteT (k _ Same.refl'))
    | int b => exact iteT (iteT (k _ Same.refl'))
    | str b => exact iteT (iteT (k _ Same.refl'))
    | list b => exact iteT (iteT (k _ Same.refl'))
    | dict b => exact iteT (iteT (k _ Same.refl'))
    | tuple ds =>
      refine iteF ?_
      cases hv with
      | @tup a xs _ hq ha =>
        have hl := sdall_len ha
        refine ⟨_, rfl, _, xs.length, rfl, .inr ⟨xs, hq, rfl⟩, _, rfl, _, _, rfl, rfl, _, rfl, ?_⟩
        by_cases big : (50000 : Int) < (xs.length : Int)
        · rw [decide_eq_true big]
          have e : isStm (.tuple ds) = false := by
            show (decide (ds.length ≤ 50000) && ds.all isOct) = false
            rw [decide_eq_false (by omega), Bool.false_and]
          rw [e] at k
          exact iteT (k _ Same.refl')
        · rw [decide_eq_false big]
          refine iteF ?_
          have small : ds.length ≤ 50000 := by omega
          have sm2 : 50000 < sizeLine := by decide
          have eN : isStm (.tuple ds) = ds.all isOct := by
            show (decide (ds.length ≤ 50000) && ds.all isOct) = _
            rw [decide_eq_true small, Bool.true_and]
          rw [eN] at k
          refine ⟨_, rfl, a, rfl, ⟨xs, hq⟩, fun D nD => lc_it walk_tup (fun i H' => Same H H' ∧ ∃ ys, SdAll K H ys ((ds.take i).filter notI) ∧ H' D = some (.lst ys)) ⟨same_new nD, [], .nil, upd_same⟩ (fun i H' _ z => sqT_to z.1 hq) ?_ ?_⟩
          · rintro i x H' H'' hi ⟨s1, ys, hys, hD⟩ ⟨rfl, hx⟩
            obtain ⟨e, he, hxe⟩ := sdall_get ha hx
            refine ⟨rfl, ?_⟩
            refine ⟨_, rfl, x, e, rfl, sd_to hxe s1, _, _, rfl, rfl, tyN_ok e, rfl, _, rfl, ?_⟩
            rw [tyN_int e]
            have et : (ds.take (i + 1)).filter notI = (ds.take i).filter notI ++ (if notI e = true then [e] else []) := by
              rw [List.take_add_one, he, List.filter_append]
              congr 1
              show List.filter notI [e] = _
              cases z : notI e <;> simp [z]
            have hlen : ys.length < sizeLine := by
              rw [sdall_len hys]
              refine Nat.lt_of_le_of_lt (List.length_filter_le _ _) (Nat.lt_of_le_of_lt ?_ sm2)
              rw [List.length_take]
              exact Nat.le_trans (Nat.min_le_right _ _) small
            cases z : notI e with
            | true =>
              rw [z] at et
              refine iteT ⟨_, rfl, _, hD, hlen, same_updN s1 nD, ys ++ [x], ?_, upd_same⟩
              rw [et]
              exact sdall_snoc hys hxe
            | false =>
              rw [z] at et
              refine iteF ⟨s1, ys, ?_, hD⟩
              rw [et]
              simpa using hys
          · rintro H1 ⟨s1, ys, hys, hD⟩
            rw [hl, List.take_length] at hys
            have hyl := sdall_len hys
            have hys1 : ys.length ≤ 50000 := by
              rw [hyl]
              exact Nat.le_trans (List.length_filter_le _ _) small
            refine ⟨_, rfl, D, rfl, ⟨ys, SqL.of hD⟩, fun D2 nD2 => lc_it walk_list (fun i H' => Same H1 H' ∧ H' D2 = some (.lst ((((ds.filter notI).take i).map isI).map V.bl))) ⟨same_new nD2, upd_same⟩ (fun i H' _ z => SqL.of (z.1 _ _ hD)) ?_ ?_⟩
            · rintro i x H' H'' hi ⟨s2, hD2⟩ ⟨rfl, hx⟩
              obtain ⟨e, he, hxe⟩ := sdall_get hys hx
              refine ⟨rfl, ?_⟩
              refine yesT ?_
              refine ⟨_, rfl, x, e, rfl, sd_to hxe (s1.tr s2), _, hD2, ?_, same_updN s2 nD2, ?_⟩
              · rw [List.length_map, List.length_map, List.length_take]
                exact Nat.lt_of_le_of_lt (Nat.min_le_left _ _) (by omega)
              · rw [upd_same, List.take_add_one, he, List.map_append, List.map_append]
                rfl
            · rintro H2 ⟨s2, hD2⟩
              rw [hyl, List.take_length] at hD2
              refine ⟨D2, (ds.filter notI).map isI, rfl, SqL.of hD2, ?_⟩
              have eo := others_all (es := ds.filter notI) fun e m => (List.mem_filter.mp m).2
              refine ⟨_, rfl, ?_⟩
              rw [eo]
              cases z : (ds.filter notI).isEmpty with
              | false =>
                refine iteF ?_
                have z2 : ds.filter notI ≠ [] := fun y => by
                  rw [y] at z
                  cases z
                rw [nums_others z2] at k
                exact k _ (s1.tr s2)
              | true =>
                refine iteT ?_
                obtain ⟨ns, e1, e2⟩ := all_ints ha (List.isEmpty_iff.mp z)
                subst e1
                subst e2
                obtain ⟨ks, kl, km⟩ := hfw _ rfl
                have sb : scanBound = 4096 := rfl
                refine ⟨_, rfl, a, ns, ks, rfl, sqT_to (s1.tr s2) hq, fun x m => km x (List.mem_map.mpr ⟨x, m, rfl⟩), by rw [sb]; omega, fun S c nS hc => ?_⟩
                refine ⟨S, _, c, rfl, upd_same, Nat.le_trans (Nat.le_trans hc kl) (by decide), fun out p pw mem ol np => ?_⟩
                have s3 := same_new (o := SetO w S (fun j => decide (j ∈ ns)) c) nS
                have s4 := same_new (o := .lst (out.map V.int)) np
                have mem2 : ∀ k, k ∈ out ↔ k ∈ ns := fun k => by rw [mem k, decide_eq_true_eq]
                refine ⟨p, rfl, ⟨out.map V.int, SqL.of upd_same⟩, fun D3 nD3 => lc_it walk_list (fun i H' => Same (upd (upd H2 S (SetO w S (fun j => decide (j ∈ ns)) c)) p (.lst (out.map V.int))) H' ∧ H' D3 = some (.lst (((out.take i).map fun z => decide (0 ≤ z) && decide (z < 256)).map V.bl))) ⟨same_new nD3, upd_same⟩ (fun i H' _ z => SqL.of (z.1 _ _ upd_same)) ?_ ?_⟩
                · rintro i x H' H'' hi ⟨s5, hD3⟩ ⟨rfl, hx⟩
                  rw [List.getElem?_map] at hx
                  obtain ⟨z, ez, rfl⟩ := Option.map_eq_some_iff.mp hx
                  refine ⟨rfl, ?_⟩
                  refine yesT ?_
                  have ollen : ((((out.take i).map fun z => decide (0 ≤ z) && decide (z < 256)).map V.bl)).length < sizeLine := by
                    rw [List.length_map, List.length_map, List.length_take]
                    exact Nat.lt_of_le_of_lt (Nat.min_le_right _ _) (by omega)
                  refine ⟨_, rfl, _, _, rfl, rfl, _, rfl, ?_⟩
                  by_cases c0 : 0 ≤ z
                  · rw [decide_eq_true c0]
                    refine iteT ⟨_, _, rfl, rfl, _, hD3, ollen, same_updN s5 nD3, ?_⟩
                    rw [upd_same, List.take_add_one, ez, List.map_append, List.map_append]
                    simp [c0]
                  · rw [decide_eq_false c0]
                    refine iteF ⟨_, hD3, ollen, same_updN s5 nD3, ?_⟩
                    rw [upd_same, List.take_add_one, ez, List.map_append, List.map_append]
                    simp [c0]
                · rintro H4 ⟨s5, hD3⟩
                  rw [List.length_map, List.take_length] at hD3
                  refine ⟨D3, _, rfl, SqL.of hD3, ?_⟩
                  rw [nums_ints mem2]
                  exact k _ ((s1.tr s2).tr (s3.tr (s4.tr s5)))
theorem ok_req {f : Addr} {fd : FuncData} (F : FnP K "require_stream" sReq f fd) (N : Nm mg) (S : Es P w K mg base) (TI : ∃ f fd, FnP K "is_integer" sIsInt f fd ∧ mg "is_integer" = some (.ref f)) (TO : ∃ f fd, FnP K "are_octets" sOcts f fd ∧ mg "are_octets" = some (.ref f)) : FnOk P w K mg base (L2.CX P w) 3 f fd ["stream"] (spReq K) := by
  obtain ⟨fo, do_, FO, gO⟩ := TO
  obtain ⟨tn, gn⟩ := N.strl
  have GO : FnOk P w K mg base CX0 2 fo do_ ["thing", "limit"] (spOcts K) := ok_octs FO N TI
  have bO : Binds K do_ ["thing", "limit"] [] := FO.bindsN fun _ _ _ _ _ _ us hl => match us, hl with | [_, _], _ => rfl
  refine F.ok scReq (fun vs H Q E h => ?_) (fun cdv A outer s H vs Q E hr h => ?_)
  · obtain ⟨v, d, rfl, _⟩ := h
    rfl
  · refine ⟨_, pss_one (ps_if (pt_not (pt_val (pe_call GO hr (by rfl) gO FO.kp bO .nil pass0 (pa_cons (pv 0) (pa_cons (pe_glob (v := .int 50000) (by rfl) gn ⟨_, rfl⟩) pa_nil))))) (pss_one (ps_x1 rfl (takes_of rfl rfl rfl rfl) S.stm (hr.mono (by decide)) (by rfl) (pv 0))) pss_nil), ?_⟩
    obtain ⟨v, d, rfl, hv, hf, k1, k2⟩ := h
    refine ⟨_, rfl, v, d, rfl, hv, hf, fun H1 s1 => ⟨_, rfl, ?_⟩⟩
    cases e : isStm d with
    | true => exact iteF (k1 e _ s1)
    | false => exact iteT ⟨_, rfl, v, rfl, fun dd H' n s x => err_to s1 (k2 e) dd H' n s x⟩
end
end Kx

set_option Elab.async false
set_option linter.all false
set_option maxRecDepth 100000
set_option maxHeartbeats 4000000
namespace Kx
open PySem PySem.Spec PyProof.Rows L2 StX
/-- how many digits a text begins with -/
def lo (z : Str) : Nat := (z.cps.toList.takeWhile isHex).length
/-- where a text is refused -/
def offT (z : Str) : Option Nat := if lo z < z.length then some (lo z) else if z.length % 2 = 1 then some z.length else if 100000 < z.length then some 100000 else none
theorem isHex_fun : (HEXD.cps.contains : Nat → Bool) = isHex := by
  funext c
  rw [Bool.eq_iff_iff]
  constructor
  · intro h
    rw [Array.contains_iff_mem] at h
    exact decide_eq_true (Array.mem_toList_iff.mpr h)
  · exact has_of
theorem lo_le (z : Str) : lo z ≤ z.length := by
  have h : (z.cps.toList.takeWhile isHex).length ≤ z.cps.toList.length := (List.takeWhile_sublist _).length_le
  rw [Array.length_toList] at h
  exact h
theorem lstrip_len (z : Str) : (Txt.lstripChars z HEXD).length = z.length - lo z := by
  unfold Txt.lstripChars
  rw [stripBy_eq]
  have e : stripLo HEXD.cps.contains true z = lo z := by
    unfold stripLo lo
    rw [if_pos rfl, isHex_fun]
  rw [e]
  show (z.cps.extract (lo z) z.length).size = _
  rw [Array.size_extract]
  have : z.length = z.cps.size := rfl
  omega
theorem takeWhile_full {α : Type} {p : α → Bool} : ∀ {l : List α}, (l.takeWhile p).length = l.length → ∀ a ∈ l, p a = true
  | [], _, _, m => nomatch m
  | b :: l, h, a, m => by
    rw [List.takeWhile_cons] at h
    by_cases c : p b = true
    · rw [if_pos c, List.length_cons, List.length_cons] at h
      rcases List.mem_cons.mp m with rfl | m
      · exact c
      · exact takeWhile_full (Nat.succ.inj h) a m
    · rw [if_neg c, List.length_cons] at h
      cases h
theorem lo_full {z : Str} (h : ¬ lo z < z.length) : ∀ c ∈ z.cps.toList, isHex c = true := by
  refine takeWhile_full ?_
  have h1 := lo_le z
  have h2 : z.cps.toList.length = z.length := Array.length_toList
  have h3 : (z.cps.toList.takeWhile isHex).length = lo z := rfl
  omega
theorem stm_ns {d : PyData} (h : isStm d = true) : ∃ ns : List Nat, d = .tuple (ns.map fun (n : Nat) => .int (n : Int)) ∧ (∀ n ∈ ns, n < 256) ∧ ns.length ≤ 50000 := by
  cases d with
  | tuple ds =>
    obtain ⟨h1, h2⟩ := band h
    have l := of_decide_eq_true h1
    clear h h1
    have key : ∀ ds : List PyData, ds.all isOct = true → ∃ ns : List Nat, ds = (ns.map fun (n : Nat) => PyData.int (n : Int)) ∧ (∀ n ∈ ns, n < 256) := by
      intro ds
      induction ds with
      | nil => exact fun _ => ⟨[], rfl, fun _ m => nomatch m⟩
      | cons d ds ih =>
        intro h
        rw [List.all_cons] at h
        obtain ⟨h1, h2⟩ := band h
        obtain ⟨ns, e, b⟩ := ih h2
        cases d with
        | int i =>
          obtain ⟨h3, h4⟩ := band h1
          have h3 := of_decide_eq_true h3
          have h4 := of_decide_eq_true h4
          obtain ⟨n, rfl⟩ := Int.eq_ofNat_of_zero_le h3
          refine ⟨n :: ns, by rw [e]; rfl, fun m mm => ?_⟩
          rcases List.mem_cons.mp mm with rfl | mm
          · omega
          · exact b m mm
        | _ => cases h1
    obtain ⟨ns, e, b⟩ := key ds h2
    subst e
    exact ⟨ns, rfl, b, by rw [List.length_map] at l; exact l⟩
  | _ => cases h
theorem sdall_nV {K : PySem.W.Frag} {H : Hp} : ∀ {ns : List Nat} {xs : List V}, SdAll K H xs (ns.map fun (n : Nat) => PyData.int (n : Int)) → xs = nV ns
  | [], _, .nil => rfl
  | n :: ns, _, .cons a r => by
    cases a
    rw [sdall_nV r]
    rfl
theorem nV_sdall {K : PySem.W.Frag} {H : Hp} : ∀ {ns : List Nat}, SdAll K H (nV ns) (ns.map fun (n : Nat) => PyData.int (n : Int))
  | [] => .nil
  | n :: ns => .cons (.int _) nV_sdall
def isStr : PyData → Bool
  | .str _ => true
  | _ => false
def spST (K : PySem.W.Frag) : Sp := fun vs H Q E => ∃ (v : V) (d : PyData), vs = [v] ∧ Sd K H v d ∧ few d ∧ (∀ ns : List Nat, d = .tuple (ns.map fun (n : Nat) => .int (n : Int)) → (∀ n ∈ ns, n < 256) → ns.length ≤ 50000 → ∀ H', Same H H' → Q (.str (hexT ns)) H') ∧ (isStm d = false → Err (CS K) "value" v H E)
def spRS (K : PySem.W.Frag) : Sp := fun vs H Q E => ∃ (v : V) (d : PyData), vs = [v] ∧ Sd K H v d ∧ (∀ z, d = .str z → z.length ≤ 1000000) ∧ (∀ z, d = .str z → offT z = none → ∀ p H', Same H H' → SqT K H' p (nV (numT z)) → Q (.ref p) H') ∧
  (∀ z o, d = .str z → offT z = some o → Err (CT K) "offset" (.int (o : Nat)) H E) ∧ (isStr d = false → Err (CT K) "offset" .non H E)
/-- the package's defs -/
structure Pk (K : PySem.W.Frag) (mg : Str → Option Value) : Prop where
  isI : ∃ f fd, FnP K "is_integer" sIsInt f fd ∧ mg "is_integer" = some (.ref f)
  octs : ∃ f fd, FnP K "are_octets" sOcts f fd ∧ mg "are_octets" = some (.ref f)
  req : ∃ f fd, FnP K "require_stream" sReq f fd ∧ mg "require_stream" = some (.ref f)
  hex : ∃ f fd, FnP K "hex_text" sHex f fd ∧ mg "hex_text" = some (.ref f)
  num : ∃ f fd, FnP K "numbers_of" sNum f fd ∧ mg "numbers_of" = some (.ref f)
section
variable {P : Program} {w : World} {K : PySem.W.Frag} {mg : Str → Option Value} {base : Heap}
abbrev sST : Stmt := top 17
abbrev sRS : Stmt := top 18
theorem scST : FnScope ["stream"] ["stream"] (defScope sST) := ⟨rfl, rfl, rfl, by decide +kernel, rfl, by decide +kernel, by decide +kernel⟩
theorem scRS : FnScope ["text", "rest"] ["text"] (defScope sRS) := ⟨rfl, rfl, rfl, by decide +kernel, rfl, by decide +kernel, by decide +kernel⟩
theorem ok_st {f : Addr} {fd : FuncData} (F : FnP K "stream_text" sST f fd) (N : Nm mg) (S : Es P w K mg base) (B : Pk K mg) : FnOk P w K mg base (L2.CX P w) 4 f fd ["stream"] (spST K) := by
  obtain ⟨fq, dq, FQ, gQ⟩ := B.req
  obtain ⟨fh, dh, FH, gH⟩ := B.hex
  have GQ : FnOk P w K mg base (L2.CX P w) 3 fq dq ["stream"] (spReq K) := ok_req FQ N S B.isI B.octs
  have bQ : Binds K dq ["stream"] [] := FQ.bindsN fun _ _ _ _ _ _ us hl => match us, hl with | [_], _ => rfl
  have GH : FnOk P w K mg base CX0 1 fh dh ["numbers"] (spHex K) := ok_hex FH N
  have bH : Binds K dh ["numbers"] [] := FH.bindsN fun _ _ _ _ _ _ us hl => match us, hl with | [_], _ => rfl
  refine F.ok scST (fun vs H Q E h => ?_) (fun cdv A outer s H vs Q E hr h => ?_)
  · obtain ⟨v, d, rfl, _⟩ := h
    rfl
  · refine ⟨_, pss_cons (ps_expr (pe_callS GQ hr (by rfl) gQ FQ.kp bQ (fun σ => passAt (takes_of rfl rfl rfl rfl) σ) (pa_cons (pv 0) pa_nil)))
      (pss_one (ps_ret (pe_call GH (hr.mono (by decide)) (by rfl) gH FH.kp bH .nil pass0 (pa_cons (pv 0) pa_nil)))), ?_⟩
    obtain ⟨v, d, rfl, hv, hf, k1, k2⟩ := h
    refine ⟨_, rfl, v, d, rfl, hv, hf, fun e H1 s1 => ?_, fun e => k2 e⟩
    obtain ⟨ns, rfl, b, l⟩ := stm_ns e
    have hv1 := sd_to hv s1
    cases hv1 with
    | @tup a xs _ hq ha =>
      have ex := sdall_nV ha
      subst ex
      exact ⟨_, rfl, a, ns, rfl, hq, b, l, fun H2 s2 => k1 ns rfl b l H2 (s1.tr s2)⟩
theorem ok_rs {f : Addr} {fd : FuncData} (F : FnP K "read_stream" sRS f fd) (N : Nm mg) (S : Es P w K mg base) (B : Pk K mg) (D_ : Dc K w mg) : FnOk P w K mg base (L2.CX P w) 4 f fd ["text"] (spRS K) := by
  obtain ⟨fn, dn, FN, gN⟩ := B.num
  obtain ⟨th, gh⟩ := N.hexd
  obtain ⟨tl, gl⟩ := N.strl
  have GN : FnOk P w K mg base CX0 1 fn dn ["text"] (spNum K) := ok_num FN N D_
  have bN : Binds K dn ["text"] [] := FN.bindsN fun _ _ _ _ _ _ us hl => match us, hl with | [_], _ => rfl
  refine F.ok scRS (fun vs H Q E h => ?_) (fun cdv A outer s H vs Q E hr h => ?_)
  · obtain ⟨v, d, rfl, _⟩ := h
    rfl
  · refine ⟨_, pss_cons (ps_if (pt_not (pt_val (pe_callB call_isD (by rfl) N.isi (by decide +kernel) (pa_cons (pv 0) (pa_cons (pe_bltn (v := .ty "str") (by rfl) N.str (by decide +kernel) rfl) pa_nil))))) (pss_one (ps_x1 rfl (takes_of rfl rfl rfl rfl) S.txt (hr.mono (by decide)) (by rfl) pe_non)) pss_nil)
      (pss_cons (ps_set (i := 1) scRS.nd rfl (Or.inl rfl) (pe_bm PySem.F.plainAttrs_str PySem.F.slot_str_lstrip PySem.F.type_str_lstrip mt_lstripChars (pv 0) (pa_cons (pe_glob (v := .str HEXD) (by rfl) gh ⟨_, rfl⟩) pa_nil)))
      (pss_cons (ps_if (pt_truth (pv 1) (fun _ => rfl)) (pss_one (ps_x1 rfl (takes_of rfl rfl rfl rfl) S.txt (hr.mono (by decide)) (by rfl) (pe_op op_sub (pe_callB call_len (by rfl) N.len PySem.boot_len (pa_cons (pv 0) pa_nil)) (pe_callB call_len (by rfl) N.len PySem.boot_len (pa_cons (pv 1) pa_nil))))) pss_nil)
      (pss_cons (ps_if (pt_cmpR op_eq (pe_op op_mod (pe_callB call_len (by rfl) N.len PySem.boot_len (pa_cons (pv 0) pa_nil)) pe_int) pe_int (nomark _)) (pss_one (ps_x1 rfl (takes_of rfl rfl rfl rfl) S.txt (hr.mono (by decide)) (by rfl) (pe_callB call_len (by rfl) N.len PySem.boot_len (pa_cons (pv 0) pa_nil)))) pss_nil)
      (pss_cons (ps_if (pt_cmpR op_gt (pe_callB call_len (by rfl) N.len PySem.boot_len (pa_cons (pv 0) pa_nil)) (pe_op op_mul pe_int (pe_glob (v := .int 50000) (by rfl) gl ⟨_, rfl⟩)) (nomark _)) (pss_one (ps_x1 rfl (takes_of rfl rfl rfl rfl) S.txt (hr.mono (by decide)) (by rfl) (pe_op op_mul pe_int (pe_glob (v := .int 50000) (by rfl) gl ⟨_, rfl⟩)))) pss_nil)
      (pss_one (ps_ret (pe_call GN (hr.mono (by decide)) (by rfl) gN FN.kp bN .nil pass0 (pa_cons (pv 0) pa_nil)))))))), ?_⟩
    obtain ⟨v, d, rfl, hv, hz, k1, k2, k3⟩ := h
    refine ⟨_, rfl, v, d, "str", rfl, rfl, hv, _, rfl, ?_⟩
    cases d with
    | none => exact iteT ⟨_, rfl, fun dd H' n s x => k3 rfl dd H' n s x⟩
    | bool b => exact iteT ⟨_, rfl, fun dd H' n s x => k3 rfl dd H' n s x⟩
    | int b => exact iteT ⟨_, rfl, fun dd H' n s x => k3 rfl dd H' n s x⟩
    | tuple b => exact iteT ⟨_, rfl, fun dd H' n s x => k3 rfl dd H' n s x⟩
    | list b => exact iteT ⟨_, rfl, fun dd H' n s x => k3 rfl dd H' n s x⟩
    | dict b => exact iteT ⟨_, rfl, fun dd H' n s x => k3 rfl dd H' n s x⟩
    | str z =>
      cases hv
      have zl := hz z rfl
      have zs : z.length ≤ sizeLine := Nat.le_trans zl (by decide)
      have l0 := lo_le z
      have rl := lstrip_len z
      refine iteF ⟨_, rfl, rfl, z, HEXD, rfl, rfl, zs, ?_⟩
      have rs : (Txt.lstripChars z HEXD).length ≤ sizeLine := by rw [rl]; omega
      refine ⟨_, rfl, _, ⟨rs, rfl⟩, ?_⟩
      by_cases c1 : lo z < z.length
      · have e1 : (((Txt.lstripChars z HEXD).length : Int) != 0) = true := by
          rw [rl]
          exact bne_iff_ne.mpr (by omega)
        rw [e1]
        refine iteT ⟨_, rfl, _, z.length, rfl, ⟨zs, rfl⟩, _, rfl, _, _, rfl, ⟨rs, rfl⟩, _, _, rfl, rfl, _, rfl, ?_⟩
        have e2 : (z.length : Int) - ((Txt.lstripChars z HEXD).length : Int) = ((lo z : Nat) : Int) := by
          rw [rl]
          omega
        exact fun dd H' n s x => k2 z (lo z) rfl (by unfold offT; rw [if_pos c1]) dd H' n s (by
          have y : H' dd = some (.xd [("offset", .int ((z.length : Int) - ((Txt.lstripChars z HEXD).length : Int)))]) := x
          rw [e2] at y
          exact y)
      have e1 : (((Txt.lstripChars z HEXD).length : Int) != 0) = false := by
        rw [rl]
        exact bne_eq_false_iff_eq.mpr (by omega)
      rw [e1]
      refine iteF ⟨_, rfl, _, z.length, rfl, ⟨zs, rfl⟩, _, _, rfl, rfl, (by show (0 : Int) < 2; decide), rfl, _, rfl, ?_⟩
      by_cases c2 : z.length % 2 = 1
      · have e2 : decide (V.int ((z.length : Int) % 2) = V.int 1) = true := decide_eq_true (by congr 1; omega)
        rw [e2]
        refine iteT ⟨_, rfl, _, z.length, rfl, ⟨zs, rfl⟩, _, rfl, ?_⟩
        exact fun dd H' n s x => k2 z z.length rfl (by unfold offT; rw [if_neg c1, if_pos c2]) dd H' n s x
      have e2 : decide (V.int ((z.length : Int) % 2) = V.int 1) = false := decide_eq_false fun y => by
        injection y with y
        omega
      rw [e2]
      refine iteF ⟨_, rfl, _, z.length, rfl, ⟨zs, rfl⟩, _, _, rfl, rfl, .inl ⟨by decide, by decide⟩, _, _, rfl, rfl, _, rfl, ?_⟩
      by_cases c3 : 100000 < z.length
      · have e3 : decide (((2 : Int) * 50000) < (z.length : Int)) = true := decide_eq_true (by omega)
        rw [e3]
        refine iteT ⟨_, _, rfl, rfl, .inl ⟨by decide, by decide⟩, _, rfl, ?_⟩
        exact fun dd H' n s x => k2 z 100000 rfl (by unfold offT; rw [if_neg c1, if_neg c2, if_pos c3]) dd H' n s x
      have e3 : decide (((2 : Int) * 50000) < (z.length : Int)) = false := decide_eq_false (by omega)
      rw [e3]
      refine iteF ⟨_, rfl, z, rfl, by omega, by omega, lo_full c1, fun p H1 s1 hp => ?_⟩
      exact k1 z rfl (by unfold offT; rw [if_neg c1, if_neg c2, if_neg c3]) p H1 s1 hp
end
end Kx

set_option Elab.async false
set_option linter.all false
set_option maxRecDepth 100000
set_option maxHeartbeats 4000000
/-! VxTn: try: .. except C as e: caught = e, the error being a tracked value behind it. -/
namespace L2
open PySem PySem.Spec PyProof.Rows
/-- what such a clause wishes of an error of the body: slot i is the clause's name, slot j the kept one -/
def wKept1 (K : PySem.W.Frag) (c : Value) (i j : Nat) (Wout : WX) (D : Ends) : WX := fun cls d σ H =>
  ∃ b, PySem.W.exmOne K cls c = some b ∧ (b = true → ∃ C dd : Addr, cls = .ref C ∧ d = some dd ∧ ∀ a, H a = none → D.nx (((σ.set i (some (.ref a))).set j (some (.ref a))).set i none) (upd H a (exV a C dd))) ∧ (b = false → Wout cls d σ H)
section
variable {X : Cx} {x1 n m : Str} {C1 : Addr} {i j : Nat} {body : List Stmt} {p1 pa pb pc pos pos' : Pos} {tb : WX → TS} {Wout : WX}
theorem ps_try_kept1 (hs : X.stack = X.env :: X.outer) (hf : X.env.frame = some X.env.locals) (hex : X.ex = []) (hN : X.N.Nodup) (hi : X.N[i]? = some n) (hj : X.N[j]? = some m) (hln : X.env.kindOf n = some .local) (hlm : X.env.kindOf m = some .local)
    (g1 : Gl X x1) (m1 : X.mg x1 = some (.ref C1)) (tk : Takes X Wout)
    (hb : ∀ (W : WX) (pn : List (Addr × Obj)) (xe : Value → Shared → Prop), Takes (X.tr pn xe) W → PassesOwn (model X.prog X.w) X.A X.env xe → PSs (X.tr pn xe) body (tb W))
    (hij : i ≠ j := by decide) (d1 : (x1 == ("__debug__" : Str)) = false := by decide)
    (hn1 : (n == ("__debug__" : Str)) = false := by decide) (hn2 : (n == ("__classdict__" : Str)) = false := by decide)
    (hsw : swapsWith (.Name n pc) (some (.Name m pb)) pa.line X.env = pure false := by rfl)
    : PS X (.Try body [.ExceptHandler (some (.Name x1 p1)) (some n) [.Assign [.Name m pb] (.Name n pc) pa] pos'] [] [] pos) (fun D σ H => tb (wKept1 X.K (.ref C1) i j Wout D) D σ H) := by
  refine ⟨fun pins s σ H D I h => ?_⟩
  have ok := I.ok
  have frs_eq : X.A.frames = some (X.env :: X.outer) := by
    rw [ok.frames, hs]
  let hd1 : ExceptHandler := .ExceptHandler (some (.Name x1 p1)) (some n) [.Assign [.Name m pb] (.Name n pc) pa] pos'
  let xe2 : Value → Shared → Prop := fun e t1 => wpAny (model X.prog X.w) X.A (noteFrame e X.env) (fun _ t2 => wpAny (model X.prog X.w) X.A (setFlight e none) (fun _ t3 => wpAny (model X.prog X.w) X.A (handleBy e X.env [hd1]) (SP X pins D) X.xe t3) X.xe t2) X.xe t1
  have B0 : PSs (X.tr (X.pn ++ pins) xe2) body (tb (wKept1 X.K (.ref C1) i j Wout D)) := hb _ _ xe2 (fun u s' xx => ?caught) PassesOwn.looking
  case caught =>
    obtain ⟨a, B, sI, pins', σ', H', cls, d, rfl, JT, nb, up, sky, na, os, ag, b, hx, hyes, hno⟩ := xx
    have J : Inv X pins σ' H' sI := JT.ofTry ok
    have sky2 : Sky B (X.env :: X.outer) a (Zc cls d) X.env.locals s'.heap := by
      rw [← hs]
      exact sky
    show wpAny (model X.prog X.w) X.A (noteFrame (.ref a) X.env) _ _ _
    refine Sky.land Zc.steady frs_eq hf sky2 fun h3 fl3 up3 => ?_
    have out : ∀ {h : Heap} {o : Obj} {vs : Array Value}, HandSPX.FlyingZ B (X.env :: X.outer) a (Zc cls d) h → h.get? a = some o → o.data = .fields vs → a ≠ X.env.locals ∧ a ∉ X.fs ∧ a ∉ frs X.stack := by
      intro h o vs fl e dd
      have no : a ∉ frs (X.env :: X.outer) := fun hm => by
        obtain ⟨_, o2, e2, hnf⟩ := fl.2.2.1.mem hm
        rw [e] at e2
        cases e2
        exact hnf _ dd
      refine ⟨fun z => no (List.mem_filterMap.mpr ⟨X.env, List.mem_cons_self, ?_⟩), fun hm => ?_, ?_⟩
      · rw [hf, z]
      · obtain ⟨en, he, q⟩ := List.mem_filterMap.mp hm
        exact no (List.mem_filterMap.mpr ⟨en, List.mem_cons_of_mem _ he, q⟩)
      · rw [hs]
        exact no
    obtain ⟨oe3, vs3, he3, hz3, hd3⟩ := fl3.there
    obtain ⟨nL, nF, nS⟩ := out fl3 he3 hd3
    have J3 : Inv X pins σ' H' { s' with heap := h3 } := J.landed nb fl3.1 (up.trans up3) os ag
    have S3 := J3.suite he3 hd3 na nL nF
    refine wpAny_handleBy_cons (codeAny_handlers_test ?_) (fun q => by cases q)
    have LT : PySem.W.Looks (model X.prog X.w) h3 (typeOf (.ref a)) cls := fun A Q E t k q => wpAny_typeOf_ref (k _ _ he3) (by rw [hz3.1]; exact q)
    refine ld_glob (X := X.suite a ((a, oe3) :: (X.pn ++ pins))) S3 g1 m1 ((PySem.W.exm_one (M := model X.prog X.w) J3.kIn LT hx).here ?_) d1
    have fl5 := fl3
    have up5 := up.trans up3
    cases b with
    | true =>
      obtain ⟨C, dd, rfl, rfl, kq⟩ := hyes rfl
      refine codeAny_handlers_suite_as ?_
      refine HandSPX.lands_againZ fl5 fun h4 fl4 up4 => ?_
      obtain ⟨oe4, vs4, he4, hz4, hd4⟩ := fl4.there
      have J4 : Inv X pins σ' H' { s' with heap := h4 } := J.landed nb fl4.1 (up5.trans up4) os ag
      have S4 := J4.suite he4 hd4 na nL nF
      refine store_ok (X := X.suite a ((a, oe4) :: (X.pn ++ pins))) (v := .ref a) S4 hN hi (.inl hln) rfl (fun s5 S5 => ?_) (.inr hln)
      have PA5 : PSs (X.suite a ((a, oe4) :: (X.pn ++ pins))) [.Assign [.Name m pb] (.Name n pc) pa] (tSeq (tAsg (tVar i) (gName j)) tNext) := pss_cons (ps_set hN hj (.inl hlm) (pe_var hi (.inl hln) hn1 hn2) hsw (.inr hlm)) pss_nil
      refine wpAny_mono (PA5.run [] s5 _ H' { nx := fun σ6 H6 => σ6 = (σ'.set i (some (.ref a))).set j (some (.ref a)) ∧ H6 = H', rt := fun _ _ => False, bk := fun _ _ => False, ct := fun _ _ => False } S5 ?_) (fun f s6 hsp => ?_) (fun _ _ z => z.elim)
      · refine ⟨.ref a, ?_, rfl, rfl⟩
        rw [List.getElem?_set_self (by rw [J.len]; exact (List.getElem?_eq_some_iff.mp hi).1)]
      · cases f with
        | next =>
          obtain ⟨σ6, H6, S6, e1, e2⟩ := hsp
          subst e1 e2
          have he6 := (S6.pin (a, oe4) (List.mem_append_left _ List.mem_cons_self)).1
          have new : X.s_0.heap.get? a = none := by
            cases z : X.s_0.heap.get? a with
            | none => rfl
            | some o0 =>
              obtain ⟨o1, z1⟩ := J.base.there a o0 z (by rw [hex]; exact List.not_mem_nil)
              have z2 := nb a o1 z1 nS
              rw [fl3.2.1] at z2
              cases z2
          have I6 : Inv X pins ((σ'.set i (some (.ref a))).set j (some (.ref a))) H6 s6 := S6.unsuite ok
          have I7 := I6.adopt (o := exV a C dd) he6 hd4 na new (fun p hq z => ?_) (exV_ok he6 hz4.1 hz4.2 hd4)
          · exact gone_ok I7 hN hi hln fun s7 J7 => ⟨_, _, J7, kq a na⟩
          · obtain ⟨y1, y2, y3, y4, _⟩ := J.pin p hq
            rw [z] at y1
            have z2 := nb a _ y1 nS
            rw [fl3.2.1] at z2
            cases z2
        | brk => exact hsp.elim fun _ z => z.elim fun _ z => z.2.elim
        | cont => exact hsp.elim fun _ z => z.elim fun _ z => z.2.elim
        | ret u => exact hsp.elim fun _ z => z.elim fun _ z => z.elim fun _ z => z.2.2.elim
    | false =>
      show wpAny _ X.A (handleBy (.ref a) X.env []) _ _ _
      refine wpAny_handleBy_nil ?_
      obtain ⟨k1, k2, k3, oe, vs, T, oT, ts', he, hz, hd, h1, hr⟩ := id fl5
      unfold PySem.passOn
      have fin : wpAny (model X.prog X.w) X.A (setFlight (.ref a) X.env.frame) (fun _ t4 => wpAny (model X.prog X.w) X.A (throw (.ref a) : Sem Flow) (SP X pins D) X.xe t4) X.xe { s' with heap := h3 } := by
        rw [hf]
        exact HandSPX.setFlight_upZ fl5 fun h4 hh4 up4 => wpAny_throw (tk _ _ ⟨a, B, sI, pins, σ', H', cls, d, rfl, J, nb, up5.trans up4, .inr (.inr (by rw [hs]; exact hh4)), na, os, ag, hno rfl⟩)
      refine wpAny_bind (wpAny_field he hd h1 ?_)
      rw [if_neg (show ¬ ((Value.ref T == Value.none) = true) from by simp)]
      first
        | exact wpAny_bind (wpAny_pure (wpAny_bind fin))
        | exact wpAny_bind fin
  refine wpAny_Try_except (wpAny_mono (B0.run [] s σ H D (I.toTry _) h) (fun f s1 hsp => ?_) (fun e s1 he => he))
  cases f with
  | next =>
    obtain ⟨σ2, H2, J2, q⟩ := hsp
    exact wpAny_execs_nil ⟨σ2, H2, J2.ofTry ok, q⟩
  | brk =>
    obtain ⟨σ2, H2, J2, q⟩ := hsp
    exact ⟨σ2, H2, J2.ofTry ok, q⟩
  | cont =>
    obtain ⟨σ2, H2, J2, q⟩ := hsp
    exact ⟨σ2, H2, J2.ofTry ok, q⟩
  | ret u =>
    obtain ⟨v, σ2, H2, J2, r, q⟩ := hsp
    exact ⟨v, σ2, H2, J2.ofTry ok, r, q⟩
end
end L2

set_option Elab.async false
set_option linter.all false
set_option maxRecDepth 100000
set_option maxHeartbeats 4000000
namespace Kx
open PySem PySem.Spec PyProof.Rows L2 StX
/-- an error class that the law catches -/
structure CatchF (K : PySem.W.Frag) (mg : Str → Option Value) (C : Addr) (x fld : Str) : Prop where
  mJ : mg "JarError" = some (.ref (gC K "JarError"))
  exm : PySem.W.exmOne K (.ref C) (.ref (gC K "JarError")) = some true
  xc : Xc K C
  no : PySem.W.findIn K (.ref C) fld = some none
  nm : mg x = some (.ref C)
  kit : PySem.W.kitOne K (.ref C) (.ref C) = some true
/-- octets as data -/
def nD (ns : List Nat) : PyData := .tuple (ns.map fun (n : Nat) => .int (n : Int))
/-- what reading gives -/
def resD : PyData → PyData
  | .str z => (match offT z with
    | some o => .list [.int (o : Nat)]
    | none => nD (numT z))
  | _ => .list [.none]
def spLR (K : PySem.W.Frag) : Sp := fun vs H Q _ => ∃ (v : V) (d : PyData), vs = [v] ∧ Sd K H v d ∧ (∀ z, d = .str z → z.length ≤ 1000000) ∧ ∀ r H', Same H H' → Sd K H' r (resD d) → Q r H'
def spLX (K : PySem.W.Frag) : Sp := fun vs H Q _ => ∃ (v : V) (d : PyData), vs = [v] ∧ Sd K H v d ∧ few d ∧ isStm d = false ∧ d.showable = true ∧ d.depth ≤ 40 ∧ d.shown.length ≤ sizeLine ∧ ∀ H', Same H H' → Q (.bl true) H'
theorem sz (n : Nat) (h : n ≤ sizeLine) : n ≤ sizeLine := h
section
variable {P : Program} {w : World} {K : PySem.W.Frag} {mg : Str → Option Value} {base : Heap}
abbrev sLR : Stmt := top 23
abbrev sLX : Stmt := top 25
abbrev NLR : List Str := ["thing", "error", "found", "e"]
abbrev NLX : List Str := ["thing", "error", "e"]
theorem scLR : FnScope NLR ["thing"] (defScope sLR) := ⟨rfl, rfl, rfl, by decide +kernel, rfl, by decide +kernel, by decide +kernel⟩
theorem scLX : FnScope NLX ["thing"] (defScope sLX) := ⟨rfl, rfl, rfl, by decide +kernel, rfl, by decide +kernel, by decide +kernel⟩
theorem ok_lr {f : Addr} {fd : FuncData} (F : FnP K "_law_read" sLR f fd) (N : Nm mg) (S : Es P w K mg base) (B : Pk K mg) (D_ : Dc K w mg) (RS : ∃ f fd, FnP K "read_stream" sRS f fd ∧ mg "read_stream" = some (.ref f)) (C : CatchF K mg (CT K) "InvalidText" "offset") : FnOk P w K mg base CX0 5 f fd ["thing"] (spLR K) := by
  obtain ⟨fr, dr, FR, gR⟩ := RS
  have GR : FnOk P w K mg base (L2.CX P w) 4 fr dr ["text"] (spRS K) := ok_rs FR N S B D_
  have bR : Binds K dr ["text"] [] := FR.bindsN fun _ _ _ _ _ _ us hl => match us, hl with | [_], _ => rfl
  refine F.ok scLR (fun vs H Q E h => ?_) (fun cdv A outer s H vs Q E hr h => ?_)
  · obtain ⟨v, d, rfl, _⟩ := h
    rfl
  · refine ⟨_, pss_cons (ps_set (i := 1) scLR.nd rfl (Or.inl rfl) pe_non) (pss_cons (ps_set (i := 2) scLR.nd rfl (Or.inl rfl) pe_non)
      (pss_cons (ps_try_kept1 (i := 3) (j := 1) (Wout := fun _ _ _ _ => False) rfl rfl rfl scLR.nd rfl rfl rfl rfl (by rfl) C.mJ (fun u s' z => by obtain ⟨_, _, _, _, _, _, _, _, _, _, _, _, _, _, _, _, z⟩ := z; exact z.elim)
        (fun W pn xe tk' _ => pss_one (ps_set (i := 2) scLR.nd rfl (Or.inl rfl) (pe_callS GR (hr.mono (by decide)) (by rfl) gR FR.kp bR (fun σ => passAt tk' σ) (pa_cons (pv 0) pa_nil)))))
      (pss_cons (ps_if (pt_cmp (pc_isN (pv 1))) (pss_one (ps_ret (pv 2))) pss_nil)
      (pss_one (ps_ret (pe_ifExp (pt_val (pe_callB call_isX (by rfl) N.isi (by decide +kernel) (pa_cons (pv 1) (pa_cons (pe_glob (v := .ref (CT K)) (by rfl) C.nm rfl) pa_nil))))
        (pe_lst (pa_cons (pe_xfd (pv 1)) pa_nil)) pe_str)))))), ?_⟩
    obtain ⟨v, d, rfl, hv, hz, k⟩ := h
    -- an error with x at its offset
    have err : ∀ (x : V) (u : PyData), (∀ H', Sd K H' x u) → resD d = .list [u] → ∀ (dd : Addr) (H1 : Hp), H dd = none → Same H H1 → H1 dd = some (.xd [("offset", x)]) → ∀ (a : Addr), H1 a = none → True := fun _ _ _ _ _ _ _ _ _ _ _ => True.intro
    refine ⟨_, rfl, v, d, rfl, hv, hz, fun z ez eo p H1 s1 hp => ?_, fun z o ez eo dd H1 nd s1 hx => ⟨true, C.exm, fun _ => ⟨_, dd, rfl, rfl, fun a na => ?_⟩, fun z => by cases z⟩, fun en dd H1 nd s1 hx => ⟨true, C.exm, fun _ => ⟨_, dd, rfl, rfl, fun a na => ?_⟩, fun z => by cases z⟩⟩
    · refine ⟨_, rfl, true, rfl, iteT ⟨_, rfl, k _ H1 s1 ?_⟩⟩
      subst ez
      show Sd K H1 _ (match offT z with
        | some o => .list [.int (o : Nat)]
        | none => nD (numT z))
      rw [eo]
      exact .tup hp nV_sdall
    · have s3 := same_new (o := exV a (CT K) dd) na
      have ex : ExAt (upd H1 a (exV a (CT K) dd)) a (CT K) [("offset", .int (o : Nat))] := ⟨dd, upd_same, s3 _ _ hx⟩
      refine ⟨_, rfl, false, rfl, iteF ⟨_, rfl, a, _, _, _, _, true, rfl, ex, C.xc, fun u r => r, C.kit, _, rfl, iteT ?_⟩⟩
      refine ⟨_, rfl, a, _, _, _, rfl, ex, C.xc, C.no, rfl, sz 1 (by decide), fun p np => k _ _ ((s1.tr s3).tr (same_new np)) ?_⟩
      subst ez
      show Sd K _ _ (match offT z with
        | some o => .list [.int (o : Nat)]
        | none => nD (numT z))
      rw [eo]
      exact .lst (SqL.of upd_same) (.cons (.int _) .nil)
    · have s3 := same_new (o := exV a (CT K) dd) na
      have ex : ExAt (upd H1 a (exV a (CT K) dd)) a (CT K) [("offset", .non)] := ⟨dd, upd_same, s3 _ _ hx⟩
      refine ⟨_, rfl, false, rfl, iteF ⟨_, rfl, a, _, _, _, _, true, rfl, ex, C.xc, fun u r => r, C.kit, _, rfl, iteT ?_⟩⟩
      refine ⟨_, rfl, a, _, _, _, rfl, ex, C.xc, C.no, rfl, sz 1 (by decide), fun p np => k _ _ ((s1.tr s3).tr (same_new np)) ?_⟩
      have e : resD d = .list [.none] := by
        cases d with
        | str z => cases en
        | _ => rfl
      rw [e]
      exact .lst (SqL.of upd_same) (.cons .non .nil)
theorem ok_lx {f : Addr} {fd : FuncData} (F : FnP K "_law_refused" sLX f fd) (N : Nm mg) (S : Es P w K mg base) (B : Pk K mg) (SY : SysK K) (ST : ∃ f fd, FnP K "stream_text" sST f fd ∧ mg "stream_text" = some (.ref f)) (C : CatchF K mg (CS K) "InvalidStream" "value") : FnG P w K mg base CX0 5 f fd ["thing"] (spLX K) := by
  obtain ⟨fr, dr, FR, gR⟩ := ST
  have GR : FnOk P w K mg base (L2.CX P w) 4 fr dr ["stream"] (spST K) := ok_st FR N S B
  have bR : Binds K dr ["stream"] [] := FR.bindsN fun _ _ _ _ _ _ us hl => match us, hl with | [_], _ => rfl
  refine F.okG scLX (fun vs H Q E h => ?_) (fun cdv A outer s H vs Q E hgu hr h => ?_)
  · obtain ⟨v, d, rfl, _⟩ := h
    rfl
  · refine ⟨_, pss_cons (ps_set (i := 1) scLX.nd rfl (Or.inl rfl) pe_non)
      (pss_cons (ps_try_kept1 (i := 2) (j := 1) (Wout := fun _ _ _ _ => False) rfl rfl rfl scLX.nd rfl rfl rfl rfl (by rfl) C.mJ (fun u s' z => by obtain ⟨_, _, _, _, _, _, _, _, _, _, _, _, _, _, _, _, z⟩ := z; exact z.elim)
        (fun W pn xe tk' _ => pss_one (ps_expr (pe_callS GR (hr.mono (by decide)) (by rfl) gR FR.kp bR (fun σ => passAt tk' σ) (pa_cons (pv 0) pa_nil)))))
      (pss_one (ps_ret (pe_and (pe_callB call_isX (by rfl) N.isi (by decide +kernel) (pa_cons (pv 1) (pa_cons (pe_glob (v := .ref (CS K)) (by rfl) C.nm rfl) pa_nil)))
        (pe_one (pe_cmpR op_eq (pe_callB (call_repr hgu hr SY) (by rfl) N.repr boot_repr (pa_cons (pe_xfd (pv 1)) pa_nil)) (pe_callB (call_repr hgu hr SY) (by rfl) N.repr boot_repr (pa_cons (pv 0) pa_nil)) (nomark _))))))), ?_⟩
    obtain ⟨v, d, rfl, hv, hf, en, sh, dl, sl, k⟩ := h
    refine ⟨_, rfl, v, d, rfl, hv, hf, fun ns e b l => ?_, fun _ dd H1 nd s1 hx => ⟨true, C.exm, fun _ => ⟨_, dd, rfl, rfl, fun a na => ?_⟩, fun z => by cases z⟩⟩
    · exfalso
      subst e
      have y : isStm (.tuple (ns.map fun (n : Nat) => .int (n : Int))) = true := by
        show (decide ((ns.map fun (n : Nat) => PyData.int (n : Int)).length ≤ 50000) && (ns.map fun (n : Nat) => PyData.int (n : Int)).all isOct) = true
        rw [List.length_map, decide_eq_true l, Bool.true_and, List.all_map]
        refine List.all_eq_true.mpr fun n m => ?_
        have := b n m
        show (decide (0 ≤ (n : Int)) && decide ((n : Int) < 256)) = true
        rw [decide_eq_true (by omega), decide_eq_true (by omega)]
        rfl
      rw [y] at en
      cases en
    · have s3 := same_new (o := exV a (CS K) dd) na
      have sf := s1.tr s3
      have ex : ExAt (upd H1 a (exV a (CS K) dd)) a (CS K) [("value", v)] := ⟨dd, upd_same, s3 _ _ hx⟩
      have hv2 := sd_to hv sf
      refine ⟨_, rfl, a, _, _, _, _, true, rfl, ex, C.xc, fun u r => r, C.kit, true, rfl, iteT ?_⟩
      refine ⟨_, rfl, a, _, _, v, rfl, ex, C.xc, C.no, rfl, v, d, rfl, hv2, sh, dl, sl, _, rfl, v, d, rfl, hv2, sh, dl, sl, rfl, ?_⟩
      rw [decide_eq_true rfl]
      exact k _ sf
end
end Kx

set_option Elab.async false
set_option linter.all false
set_option maxRecDepth 100000
set_option maxHeartbeats 4000000
namespace Kx
open PySem PySem.Spec PyProof.Rows L2 StX
/-! ### what the law expects of a text -/
theorem occ_all : (HEXD.cps.toList.all fun c => decide (Builtin.Str.occurrences HEXD ⟨#[c]⟩ 0 HEXD.length 1 = [dig c])) = true := by decide +kernel
theorem occ_dig {c : Nat} (h : isHex c = true) : Builtin.Str.occurrences HEXD ⟨#[c]⟩ 0 HEXD.length 1 = [dig c] := of_decide_eq_true (List.all_eq_true.mp occ_all c (of_decide_eq_true h))
def badAt (z : Str) (k : Nat) : Bool := !isHex (z.cps.getD k 0)
def bads (z : Str) : List Nat := (List.range z.length).filter (badAt z)
theorem lo_at (z : Str) : (∀ k, k < lo z → isHex (z.cps.getD k 0) = true) ∧ (lo z = z.length ∨ isHex (z.cps.getD (lo z) 0) = false) := by
  have e : stripLo isHex true z = lo z := by
    unfold stripLo lo
    rw [if_pos rfl]
  have h := lo_facts isHex z
  rw [e] at h
  exact ⟨h.2.1, h.2.2⟩
theorem bads_lo {z : Str} (h : lo z < z.length) : ∃ r, bads z = lo z :: r := by
  obtain ⟨h1, h2⟩ := lo_at z
  have h3 : isHex (z.cps.getD (lo z) 0) = false := by
    rcases h2 with h2 | h2
    · omega
    · exact h2
  obtain ⟨m, hm⟩ : ∃ m, z.length = lo z + (m + 1) := ⟨z.length - lo z - 1, by omega⟩
  unfold bads
  rw [hm, List.range_add, List.filter_append]
  have e0 : (List.range (lo z)).filter (badAt z) = [] := by
    rw [List.filter_eq_nil_iff]
    intro k hk
    unfold badAt
    rw [h1 k (List.mem_range.mp hk)]
    exact Bool.false_ne_true
  rw [e0, List.nil_append, List.range_succ_eq_map, List.map_cons, List.filter_cons]
  have e1 : badAt z (lo z + 0) = true := by
    show (!isHex (z.cps.getD (lo z) 0)) = true
    rw [h3]
    rfl
  rw [if_pos e1]
  exact ⟨_, rfl⟩
theorem bads_none {z : Str} (h : ¬ lo z < z.length) : bads z = [] := by
  obtain ⟨h1, _⟩ := lo_at z
  have l := lo_le z
  unfold bads
  rw [List.filter_eq_nil_iff]
  intro k hk
  unfold badAt
  rw [h1 k (by have := List.mem_range.mp hk; omega)]
  exact Bool.false_ne_true
/-- s.index(t) -/
abbrev rIdx : V → List V → Hp → VK → Prop := fun x xs H Q => ∃ a b i rest, x = .str a ∧ xs = [.str b] ∧ Builtin.Str.occurrences a b 0 a.length 1 = i :: rest ∧ Q (.int (i : Nat)) H
def spLD (K : PySem.W.Frag) : Sp := fun vs H Q _ => ∃ (z : Str), vs = [.str z] ∧ z.length ≤ 1000000 ∧ ∀ r H', Same H H' → Sd K H' r (resD (.str z)) → Q r H'
section
variable {P : Program} {w : World} {K : PySem.W.Frag} {mg : Str → Option Value} {base : Heap}
abbrev sLD : Stmt := top 24
abbrev NLD : List Str := ["told", "wrong", "numerals", "k", "sign", "one", "other"]
theorem scLD : FnScope NLD ["told"] (defScope sLD) := ⟨rfl, rfl, rfl, by decide +kernel, rfl, by decide +kernel, by decide +kernel⟩
theorem ok_ld {f : Addr} {fd : FuncData} (F : FnP K "_law_due" sLD f fd) (N : Nm mg) : FnOk P w K mg base CX0 1 f fd ["told"] (spLD K) := by
  refine F.ok scLD (fun vs H Q E h => ?_) (fun cdv A outer s H vs Q E hr h => ?_)
  · obtain ⟨z, rfl, _⟩ := h
    rfl
  · have hu := Nat.lt_of_succ_lt (hu_of hr)
    refine ⟨_, PSs.nox (pss_cons (ps_setLc (i := 1) (own := [("k", 3), ("sign", 4)]) (g := gTup K 2 (gCons (gName 3) (gCons (gName 4) gNil))) rfl scLD.nd rfl rfl (sw_true rfl rfl rfl rfl) (pi_enumS (by rfl) N.enu (pa_cons (pv 0) pa_nil)) (blkOk_by (own := [("k", 3), ("sign", 4)]) (N := NLD) (sc := defScope sLD) (by decide +kernel))
        (fun _ _ _ _ _ => pg_tup rfl (pgs_cons (pg_name (i := 3) scLD.nd rfl (Or.inl rfl)) (pgs_cons (pg_name (i := 4) scLD.nd rfl (Or.inl rfl)) pgs_nil))) (fun _ _ _ _ _ => pts_one (pt_cmpR op_notIn_sign (pv 4) pe_str rfl)) (fun _ _ _ _ _ => pv 3))
      (pss_cons (ps_if (PW.pt (pw_or (pt_cmpR (op_neN hu) (pv 1) (pe_lst pa_nil) (nomark _)) (pw_or1 (pt_cmpR op_eq (pe_op op_mod (pe_callB call_len (by rfl) N.len PySem.boot_len (pa_cons (pv 0) pa_nil)) pe_int) pe_int (nomark _)))))
          (pss_one (ps_ret (pe_ifExp (pt_cmpR (op_neN hu) (pv 1) (pe_lst pa_nil) (nomark _)) (pe_lst (pa_cons (pe_ix (show IxR _ (rIxL K) from ix_list) (pv 1) pe_int (fun _ _ => rfl)) pa_nil)) (pe_lst (pa_cons (pe_callB call_len (by rfl) N.len PySem.boot_len (pa_cons (pv 0) pa_nil)) pa_nil))))) pss_nil)
      (pss_cons (ps_if (pt_cmpR op_gt (pe_callB call_len (by rfl) N.len PySem.boot_len (pa_cons (pv 0) pa_nil)) pe_int (nomark _)) (pss_one (ps_ret (pe_lst (pa_cons pe_int pa_nil)))) pss_nil)
      (pss_cons (ps_setLc (i := 2) (own := [("sign", 4)]) (g := gName 4) (tt := tYes) rfl scLD.nd rfl rfl (sw_true rfl rfl rfl rfl) (pi_str (pv 0)) (blkOk_by (own := [("sign", 4)]) (N := NLD) (sc := defScope sLD) (by decide +kernel))
        (fun _ _ _ _ _ => pg_name (i := 4) scLD.nd rfl (Or.inl rfl)) (fun _ _ _ _ _ => pts_nil) (te := tBM K "str" rIdx (tC (.str HEXD)) (tCons (tVar 4) tNil)) (fun _ _ _ _ _ => pe_bm PySem.F.plainAttrs_str PySem.F.slot_str_index PySem.F.type_str_index mt_sindex pe_str (pa_cons (pv 4) pa_nil)))
      (pss_one (ps_ret (pe_callTy call_tuple_of (by rfl) N.tuple (by decide +kernel) (pa_cons (pe_lc (own := [("one", 5), ("other", 6)]) (g := gTup K 2 (gCons (gName 5) (gCons (gName 6) gNil))) (tt := tYes) rfl scLD.nd
          (pi_zip (by rfl) N.zip (pa_cons (pe_evL (pv 2) po_none pe_int) (pa_cons (pe_evL (pv 2) (po_some pe_int) pe_int) pa_nil))) (blkOk_by (own := [("one", 5), ("other", 6)]) (N := NLD) (sc := defScope sLD) (by decide +kernel))
          (fun _ _ _ _ _ => pg_tup rfl (pgs_cons (pg_name (i := 5) scLD.nd rfl (Or.inl rfl)) (pgs_cons (pg_name (i := 6) scLD.nd rfl (Or.inl rfl)) pgs_nil))) (fun _ _ _ _ _ => pts_nil)
          (fun _ _ _ _ _ => pe_op op_add (pe_op op_mul pe_int (pv 5)) (pv 6))) pa_nil)))))))), ?_⟩
    obtain ⟨z, rfl, hl, k⟩ := h
    have zs : z.length ≤ sizeLine := Nat.le_trans hl (by decide)
    refine ⟨_, rfl, z, rfl, fun D nD => lc_it (walk_enumS (x := z)) (fun i H' => Same H H' ∧ H' D = some (.lst ((((List.range i).filter (badAt z))).map fun (k : Nat) => V.int (k : Int)))) ⟨same_new nD, upd_same⟩ (fun i H' _ _ => True.intro) ?_ ?_⟩
    · rintro i y H' H'' hi ⟨s1, hD⟩ ⟨T, c, rfl, nT, rfl, ec⟩
      have s2 := s1.tr (same_new (o := .tup [.int (i : Nat), .str ⟨#[c]⟩]) nT)
      have nTD : T ≠ D := fun y => by rw [y, hD] at nT; cases nT
      have gd : z.cps.getD i 0 = c := by
        rw [Array.getD_eq_getD_getElem?, ec]
        rfl
      have hD2 : (upd H' T (.tup [.int (i : Nat), .str ⟨#[c]⟩])) D = some (.lst ((((List.range i).filter (badAt z))).map fun (k : Nat) => V.int (k : Int))) := by rw [upd_ne nTD.symm]; exact hD
      have len : ((((List.range i).filter (badAt z))).map fun (k : Nat) => V.int (k : Int)).length < sizeLine := by
        rw [List.length_map]
        refine Nat.lt_of_le_of_lt (List.length_filter_le _ _) ?_
        rw [List.length_range]
        have hi' : i < z.length := hi
        exact Nat.lt_of_lt_of_le (show i < 1000000 by omega) (by decide)
      refine ⟨T, _, rfl, SqT.of upd_same, rfl, _, _, rfl, _, _, rfl, rfl, rfl, ?_⟩
      refine ⟨_, rfl, c, _, rfl, rfl, _, rfl, ?_⟩
      show if (!isHex c) = true then _ else _
      have eb : badAt z i = !isHex c := by
        unfold badAt
        rw [gd]
      cases hb : isHex c with
      | false =>
        rw [hb] at eb
        refine iteT ⟨_, rfl, _, hD2, len, same_updN s2 nD, ?_⟩
        rw [upd_same, List.range_succ, List.filter_append, List.map_append, List.filter_cons, if_pos (show badAt z i = true from eb)]
        rfl
      | true =>
        rw [hb] at eb
        refine iteF ⟨s2, ?_⟩
        rw [hD2, List.range_succ, List.filter_append, List.filter_cons, if_neg (by rw [eb]; exact Bool.false_ne_true), List.filter_nil, List.append_nil]
    · rintro H1 ⟨s1, hD⟩
      have hB : H1 D = some (.lst ((bads z).map fun (k : Nat) => V.int (k : Int))) := hD
      refine ⟨_, rfl, Nat.zero_le _, fun e1 ne1 => ⟨D, e1, _, rfl, rfl, SqL.of (same_new ne1 _ _ hB), SqL.of upd_same, _, rfl, ?_⟩⟩
      have s2 := s1.tr (same_new (o := .lst []) ne1)
      have hB2 := same_new (o := .lst []) ne1 _ _ hB
      generalize upd H1 e1 (.lst []) = H2 at *
      by_cases c1 : lo z < z.length
      · obtain ⟨r, er⟩ := bads_lo c1
        have en : (((bads z).map fun (k : Nat) => V.int (k : Int))).isEmpty = false := by rw [er]; rfl
        rw [en]
        refine iteT ?_
        refine ⟨_, rfl, Nat.zero_le _, fun e2 ne2 => ⟨D, e2, _, rfl, rfl, SqL.of (same_new ne2 _ _ hB2), SqL.of upd_same, _, rfl, ?_⟩⟩
        rw [en]
        have s3 := s2.tr (same_new (o := .lst []) ne2)
        refine iteT ⟨_, rfl, D, (bads z).map fun (k : Nat) => V.int (k : Int), 0, .int (lo z : Nat), rfl, rfl, SqL.of (same_new ne2 _ _ hB2), (by rw [er]; exact at_of (j := 0) rfl rfl), sz 1 (by decide), fun p np => k _ _ (s3.tr (same_new np)) ?_⟩
        have eo : offT z = some (lo z) := by unfold offT; rw [if_pos c1]
        show Sd K _ _ (match offT z with
          | some o => .list [.int (o : Nat)]
          | none => Kx.nD (numT z))
        rw [eo]
        exact .lst (SqL.of upd_same) (.cons (.int _) .nil)
      have eb := bads_none c1
      rw [eb] at hB2 ⊢
      refine iteF ⟨_, rfl, _, z.length, rfl, ⟨zs, rfl⟩, _, _, rfl, rfl, (by show (0 : Int) < 2; decide), rfl, _, rfl, ?_⟩
      by_cases c2 : z.length % 2 = 1
      · have d2 : decide (V.int ((z.length : Int) % 2) = V.int 1) = true := decide_eq_true (by congr 1; omega)
        rw [d2]
        refine iteT ⟨_, rfl, Nat.zero_le _, fun e2 ne2 => ⟨D, e2, _, rfl, rfl, SqL.of (same_new ne2 _ _ hB2), SqL.of upd_same, _, rfl, ?_⟩⟩
        have s3 := s2.tr (same_new (o := .lst []) ne2)
        refine iteF ⟨_, rfl, _, z.length, rfl, ⟨zs, rfl⟩, sz 1 (by decide), fun p np => k _ _ (s3.tr (same_new np)) ?_⟩
        have eo : offT z = some z.length := by unfold offT; rw [if_neg c1, if_pos c2]
        show Sd K _ _ (match offT z with
          | some o => .list [.int (o : Nat)]
          | none => Kx.nD (numT z))
        rw [eo]
        exact .lst (SqL.of upd_same) (.cons (.int _) .nil)
      have d2 : decide (V.int ((z.length : Int) % 2) = V.int 1) = false := decide_eq_false fun y => by
        injection y with y
        omega
      rw [d2]
      refine iteF ⟨_, rfl, _, z.length, rfl, ⟨zs, rfl⟩, _, _, rfl, rfl, _, rfl, ?_⟩
      by_cases c3 : 100000 < z.length
      · have d3 : decide ((100000 : Int) < (z.length : Int)) = true := decide_eq_true (by omega)
        rw [d3]
        refine iteT ⟨sz 1 (by decide), fun p np => k _ _ (s2.tr (same_new np)) ?_⟩
        have eo : offT z = some 100000 := by unfold offT; rw [if_neg c1, if_neg c2, if_pos c3]
        show Sd K _ _ (match offT z with
          | some o => .list [.int (o : Nat)]
          | none => Kx.nD (numT z))
        rw [eo]
        exact .lst (SqL.of upd_same) (.cons (.int _) .nil)
      have d3 : decide ((100000 : Int) < (z.length : Int)) = false := decide_eq_false (by omega)
      rw [d3]
      have hx := lo_full c1
      have tl : z.cps.toList.length = z.length := Array.length_toList
      refine iteF ⟨_, rfl, z, rfl, fun DN nDN => lc_it (walk_str (z := z)) (fun i H' => Same H2 H' ∧ H' DN = some (.lst ((z.cps.toList.take i).map fun (c : Nat) => V.int (dig c : Nat)))) ⟨same_new nDN, upd_same⟩ (fun i H' _ _ => True.intro) ?_ ?_⟩
      · rintro i y H' H'' hi ⟨s4, hDN⟩ ⟨rfl, c, ec, rfl⟩
        have mc : c ∈ z.cps.toList := by
          rw [Array.mem_toList_iff]
          exact Array.mem_of_getElem? ec
        have ec2 : z.cps.toList[i]? = some c := by rw [Array.getElem?_toList]; exact ec
        refine ⟨rfl, yesT ⟨rfl, _, rfl, HEXD, ⟨#[c]⟩, dig c, [], rfl, rfl, occ_dig (hx c mc), _, hDN, ?_, same_updN s4 nDN, ?_⟩⟩
        · rw [List.length_map, List.length_take, tl]
          exact Nat.lt_of_le_of_lt (Nat.min_le_right _ _) (Nat.lt_of_le_of_lt (show z.length ≤ 100000 by omega) (by decide))
        · rw [upd_same, List.take_add_one, ec2, List.map_append]
          rfl
      · rintro H3 ⟨s4, hDN⟩
        have sz0 : z.cps.size = z.cps.toList.length := Array.length_toList.symm
        rw [sz0, List.take_length] at hDN
        have s23 := s2.tr s4
        refine ⟨_, rfl, rfl, DN, _, 0, rfl, SqL.of hDN, .inl ⟨rfl, rfl⟩, fun p np => ⟨_, rfl, _, rfl, rfl, DN, _, 1, rfl, SqL.of (same_new np _ _ hDN), .inr ⟨rfl, rfl⟩, fun q nq => ?_⟩⟩
        have s5 := same_new (o := .lst (evN 0 (z.cps.toList.map fun (c : Nat) => V.int (dig c : Nat)))) np
        have h0 : (upd H3 p (.lst (evN 0 (z.cps.toList.map fun (c : Nat) => V.int (dig c : Nat))))) p = some (.lst (evN 0 (z.cps.toList.map fun (c : Nat) => V.int (dig c : Nat)))) := upd_same
        generalize upd H3 p (.lst (evN 0 (z.cps.toList.map fun (c : Nat) => V.int (dig c : Nat)))) = H4 at *
        have s6 := same_new (o := .lst (evN 1 (z.cps.toList.map fun (c : Nat) => V.int (dig c : Nat)))) nq
        have h1 : (upd H4 q (.lst (evN 1 (z.cps.toList.map fun (c : Nat) => V.int (dig c : Nat))))) q = some (.lst (evN 1 (z.cps.toList.map fun (c : Nat) => V.int (dig c : Nat)))) := upd_same
        have h0' := s6 _ _ h0
        generalize upd H4 q (.lst (evN 1 (z.cps.toList.map fun (c : Nat) => V.int (dig c : Nat)))) = H5 at *
        have s25 := s23.tr (s5.tr s6)
        have lM : (z.cps.toList.map fun (c : Nat) => V.int (dig c : Nat)).length = z.length := by rw [List.length_map, tl]
        have l0 : (evN 0 (z.cps.toList.map fun (c : Nat) => V.int (dig c : Nat))).length = z.length / 2 := by rw [ev_len (by decide), lM]; omega
        have l1 : (evN 1 (z.cps.toList.map fun (c : Nat) => V.int (dig c : Nat))).length = z.length / 2 := by rw [ev_len (by decide), lM]; omega
        have lN : (numT z).length = z.length / 2 := by
          unfold numT
          rw [List.length_map, List.length_range]
        have at_ : ∀ j : Nat, j < z.length → (z.cps.toList.map fun (c : Nat) => V.int (dig c : Nat))[j]? = some (.int (dig (z.cps.getD j 0) : Nat)) := fun j hj => by
          have hj' : j < z.cps.size := hj
          rw [List.getElem?_map, Array.getElem?_toList, Array.getD_eq_getD_getElem?, Array.getElem?_eq_getElem hj']
          rfl
        refine ⟨p, q, _, _, rfl, SqL.of h0', SqL.of h1, fun D2 nD2 => lc_it (walk_zip (n := z.length / 2) (xs := evN 0 (z.cps.toList.map fun (c : Nat) => V.int (dig c : Nat))) (ys := evN 1 (z.cps.toList.map fun (c : Nat) => V.int (dig c : Nat))) (by rw [l0, l1, Nat.min_self])) (fun i H' => Same H5 H' ∧ H' D2 = some (.lst (nV ((numT z).take i)))) ⟨same_new nD2, upd_same⟩ (fun i H' _ y => ⟨SqL.of (y.1 _ _ h0'), SqL.of (y.1 _ _ h1)⟩) ?_ ?_⟩
        · rintro i y H' H'' hi ⟨s7, hD2⟩ ⟨T, x1, x2, rfl, nT, rfl, e1, e2⟩
          have e1' : (evN 0 (z.cps.toList.map fun (c : Nat) => V.int (dig c : Nat)))[i]? = some x1 := e1
          have e2' : (evN 1 (z.cps.toList.map fun (c : Nat) => V.int (dig c : Nat)))[i]? = some x2 := e2
          rw [ev_get (by decide) (by rw [lM]; omega), at_ _ (by omega)] at e1' e2'
          cases e1'
          cases e2'
          have s8 := s7.tr (same_new (o := .tup [.int (dig (z.cps.getD (0 + 2 * i) 0) : Nat), .int (dig (z.cps.getD (1 + 2 * i) 0) : Nat)]) nT)
          have nTD : T ≠ D2 := fun y => by rw [y, hD2] at nT; cases nT
          have eN : (numT z)[i]? = some (16 * dig (z.cps.getD (0 + 2 * i) 0) + dig (z.cps.getD (1 + 2 * i) 0)) := by
            unfold numT
            rw [List.getElem?_map, List.getElem?_range hi, Nat.zero_add, Nat.add_comm 1]
            rfl
          refine ⟨T, _, rfl, SqT.of upd_same, rfl, _, _, rfl, _, _, rfl, rfl, rfl, yesT ?_⟩
          refine ⟨_, rfl, _, _, rfl, rfl, .inl ⟨by decide, by decide⟩, _, rfl, _, _, rfl, rfl, _, (by rw [upd_ne nTD.symm]; exact hD2), ?_, same_updN s8 nD2, ?_⟩
          · show ((nV ((numT z).take i))).length < sizeLine
            unfold nV
            rw [List.length_map, List.length_take, lN]
            exact Nat.lt_of_le_of_lt (Nat.le_trans (Nat.min_le_right _ _) (show z.length / 2 ≤ 50000 by omega)) (by decide)
          · rw [upd_same, List.take_add_one, eN]
            unfold nV
            rw [List.map_append]
            rfl
        · rintro H6 ⟨s7, hD2⟩
          rw [← lN, List.take_length] at hD2
          refine ⟨D2, _, rfl, .inl ⟨SqL.of hD2, fun t nt => k _ _ (s25.tr (s7.tr (same_new nt))) ?_⟩⟩
          have eo : offT z = none := by unfold offT; rw [if_neg c1, if_neg c2, if_neg c3]
          show Sd K _ _ (match offT z with
            | some o => .list [.int (o : Nat)]
            | none => Kx.nD (numT z))
          rw [eo]
          exact .tup (SqT.of upd_same) nV_sdall
end
end Kx

set_option Elab.async false
set_option linter.all false
set_option maxRecDepth 100000
set_option maxHeartbeats 4000000
namespace Kx
open PySem PySem.Spec PyProof.Rows L2 StX
/-- the cells' list of the draws at p stands at l -/
def CellsAt (H : Hp) (p l : Addr) : Prop := ∃ a b c : Int, H p = some (.dK (drawKv l a b c))
/-- all that was tracked but p stands, and the cells' list is the same -/
structure Keep (p : Addr) (H H' : Hp) : Prop where
  old : L2.Keep p H H'
  cells : ∀ l, CellsAt H p l → CellsAt H' p l
instance {p : Addr} {H H' : Hp} : CoeFun (Keep p H H') (fun _ => ∀ c o, H c = some o → c ≠ p → H' c = some o) := ⟨Keep.old⟩
theorem Keep.refl {p : Addr} {H : Hp} : Keep p H H := ⟨L2.Keep.refl, fun _ h => h⟩
theorem Keep.trans {p : Addr} {H H1 H2 : Hp} (a : Keep p H H1) (b : Keep p H1 H2) : Keep p H H2 := ⟨a.old.trans b.old, fun l h => b.cells l (a.cells l h)⟩
theorem Keep.of {p : Addr} {H H' : Hp} (s : Same H H') : Keep p H H' := ⟨L2.Keep.of s, fun _ ⟨a, b, c, h⟩ => ⟨a, b, c, s _ _ h⟩⟩
theorem cells_one {H : Hp} {p l l' : Addr} (h : CellsAt H p l) (k : CellsAt H p l') : l = l' := by
  obtain ⟨a, b, c, h⟩ := h
  obtain ⟨a', b', c', k⟩ := k
  rw [h] at k
  have z := congrArg (fun o => match o with
    | some (HO.dK ((_, V.ref x) :: _)) => x
    | _ => 0) k
  exact z
theorem Keep.upd {p l : Addr} {x y z : Int} {H : Hp} (h : CellsAt H p l) : Keep p H (upd H p (.dK (drawKv l x y z))) := ⟨L2.Keep.upd, fun l' k => by
  cases cells_one h k
  exact ⟨x, y, z, upd_same⟩⟩
def spNext : Sp := fun vs H Q _ => ∃ (p : Addr) (b : Int) (N : Nat), vs = [.ref p, .int b] ∧ DrawAt H p N ∧ N < 1000000000 ∧ 0 < b ∧ b < 1073741824 ∧ ∀ (r : Int) (H' : Hp), 0 ≤ r → r < b → DrawAt H' p (N + 1) → Keep p H H' → Q (.int r) H'
abbrev sBegin : Stmt := top 20
abbrev sMixed : Stmt := top 21
abbrev sNext : Stmt := top 22
section
variable {P : Program} {w : World} {K : PySem.W.Frag} {mg : Str → Option Value} {base : Heap}
theorem scBegin : FnScope ["script"] ["script"] (defScope sBegin) := ⟨rfl, rfl, rfl, by decide +kernel, rfl, by decide +kernel, by decide +kernel⟩
theorem scMixed : FnScope ["cell", "k", "mixed"] ["cell", "k"] (defScope sMixed) := ⟨rfl, rfl, rfl, by decide +kernel, rfl, by decide +kernel, by decide +kernel⟩
theorem scNext : FnScope ["draw", "bound", "found", "cells", "cell"] ["draw", "bound"] (defScope sNext) := ⟨rfl, rfl, rfl, by decide +kernel, rfl, by decide +kernel, by decide +kernel⟩
theorem ok_begin {f : Addr} {fd : FuncData} (F : FnP K "_law_begin" sBegin f fd) : FnOk P w K mg base CX0 1 f fd ["script"] (spBegin K) := by
  refine F.ok scBegin (fun vs H Q E h => ?_) (fun cdv A outer s H vs Q E hr h => ⟨_, PSs.nox (pss_one (ps_ret (pe_disp (pps_cons pe_str (pe_op op_catS (pv 0) (pe_lst (pa_cons pe_int pa_nil)))
    (pps_cons pe_str pe_int (pps_cons pe_str pe_int (pps_cons pe_str pe_int pps_nil)))) (by rfl) (by rfl) (fun z => by cases z) (by decide)))), ?_⟩)
  · obtain ⟨a, ns, rfl, _⟩ := h
    rfl
  · obtain ⟨a, ns, rfl, hS, hl, k⟩ := h
    intro p hp
    refine ⟨_, rfl, (by show 1 ≤ sizeLine; decide), fun q hq => ?_⟩
    have npq : p ≠ q := fun z => by rw [z, upd_same] at hq; cases hq
    have hq' : H q = none := by rw [← hq, upd_ne npq.symm]
    have s1 : Same H (upd (upd H p (.dK [])) q (.lst [V.int 0])) := fun b o e => by
      rw [upd_ne (ne_of_none e hq'), upd_ne (ne_of_none e hp)]
      exact e
    refine ⟨a, q, ns.map V.int, [V.int 0], rfl, rfl, s1.seq hS, SqL.of upd_same, (by rw [List.length_map]; show ns.length + 1 ≤ sizeLine; exact Nat.le_trans (Nat.succ_le_succ hl) (by decide)), fun l hlz => ?_⟩
    have nl : l ≠ p := fun z => by rw [z, upd_ne npq, upd_same] at hlz; cases hlz
    have nlq : l ≠ q := fun z => by rw [z, upd_same] at hlz; cases hlz
    have hl' : H l = none := by rw [upd_ne nlq, upd_ne nl] at hlz; exact hlz
    refine ⟨(by rw [upd_ne nl.symm, upd_ne npq, upd_same]), [(kCells, .ref l), (kAt, .int 0), (kLeft, .int 0), (kUsed, .int 0)], rfl, (by show 4 ≤ 15; decide), ?_⟩
    have em : mergeK [] [(kCells, V.ref l), (kAt, .int 0), (kLeft, .int 0), (kUsed, .int 0)] = drawKv l 0 0 0 := by kernel_rfl
    rw [em]
    refine k p _ hp (fun b o e => ?_) ⟨l, ns ++ [0], 0, 0, 0, upd_same, ?_, ?_, ?_, by decide, by decide, by decide, by decide, by decide⟩
    · rw [upd_ne (ne_of_none e hp), upd_ne (ne_of_none e hl')]
      exact s1 b o e
    · rw [upd_ne nl, upd_same, List.map_append]
      rfl
    · rw [List.length_append]
      exact Nat.succ_pos _
    · rw [List.length_append]
      exact Nat.succ_le_succ hl
theorem mix_lo (x : Int) : 0 ≤ x % 2147483647 / 7 := by omega
theorem mix_hi (x : Int) : x % 2147483647 / 7 < 2147483648 := by omega
theorem ok_mixed {f : Addr} {fd : FuncData} (F : FnP K "_law_mixed" sMixed f fd) : FnOk P w K mg base CX0 1 f fd ["cell", "k"] spMixed := by
  refine F.ok scMixed (fun vs H Q E h => ?_) (fun cdv A outer s H vs Q E hr h => ⟨_, PSs.nox (pss_cons (ps_set (i := 2) scMixed.nd rfl (Or.inl rfl)
      (pe_op op_mod (pe_op op_add (pe_op op_add (pe_op op_add (pe_op op_mod (pv 0) pe_int) (pe_op op_mul (pe_op op_mul pe_int (pv 1)) (pv 1))) (pe_op op_mul pe_int (pv 1))) pe_int) pe_int))
    (pss_cons (ps_set (i := 2) scMixed.nd rfl (Or.inl rfl) (pe_op op_mod (pe_op op_mul (pe_op op_mod (pe_op op_mul (pv 2) (pv 2)) pe_int) (pv 2)) pe_int))
    (pss_one (ps_ret (pe_op op_fdiv (pe_op op_mod (pe_op op_mul (pv 2) (pe_op op_add pe_int (pe_op op_mul pe_int (pe_op op_mod (pv 1) pe_int)))) pe_int) pe_int))))), ?_⟩)
  · obtain ⟨c, k, rfl, _⟩ := h
    rfl
  · obtain ⟨c, k, rfl, k0, k1, kq⟩ := h
    refine ⟨_, rfl, _, _, rfl, rfl, (by show (0 : Int) < 1000000007; decide), _, rfl, _, _, rfl, rfl, .inl ⟨by decide, by decide⟩, _, rfl, _, _, rfl, rfl, .inl ⟨by omega, by omega⟩, _, _, rfl, rfl, _, rfl, _, _, rfl, rfl, .inl ⟨by decide, by decide⟩, _, _, rfl, rfl,
      _, _, rfl, rfl, _, _, rfl, rfl, (by show (0 : Int) < 2147483647; decide), ?_⟩
    refine ⟨_, rfl, _, rfl, _, _, rfl, rfl, .inl ⟨by omega, by omega⟩, _, _, rfl, rfl, (by show (0 : Int) < 2147483647; decide), _, rfl, _, _, rfl, rfl, .inl ⟨by omega, by omega⟩, _, _, rfl, rfl, (by show (0 : Int) < 2147483629; decide), ?_⟩
    refine ⟨_, rfl, _, rfl, _, _, rfl, rfl, (by show (0 : Int) < 1000; decide), _, _, rfl, rfl, .inl ⟨by decide, by decide⟩, _, _, rfl, rfl, _, _, rfl, rfl, .inl ⟨by omega, by omega⟩, _, _, rfl, rfl, (by show (0 : Int) < 2147483647; decide), _, _, rfl, rfl, ⟨by decide, by decide⟩, ?_⟩
    exact kq _ (mix_lo _) (mix_hi _)
theorem ok_next {f fm : Addr} {fd fdm : FuncData} (F : FnP K "_law_next" sNext f fd) (FM : FnP K "_law_mixed" sMixed fm fdm) (gM : mg "_law_mixed" = some (.ref fm)) (gL : mg "len" = none) : FnOk P w K mg base CX0 2 f fd ["draw", "bound"] spNext := by
  have GM : FnOk P w K mg base CX0 1 fm fdm ["cell", "k"] spMixed := ok_mixed FM
  have bM : Binds K fdm ["cell", "k"] [] := FM.bindsN fun _ _ _ _ _ _ us hl => match us, hl with | [_, _], _ => rfl
  refine F.ok scNext (fun vs H Q E h => ?_) (fun cdv A outer s H vs Q E hr h => ?_)
  · obtain ⟨p, b, N, rfl, _⟩ := h
    rfl
  · have hu := hu_of hr
    refine ⟨_, PSs.nox (pss_cons (ps_if (pt_cmpR op_gt (pe_dget hu (pv 0) pe_str (fun _ _ => rfl)) pe_int (nomark _))
        (pss_cons (ps_set (i := 2) scNext.nd rfl (Or.inl rfl) (pe_op op_mod (pe_dget hu (pv 0) pe_str (fun _ _ => rfl)) (pv 1)))
        (pss_cons (ps_dput hu (pv 0) pe_str (pe_op op_fdiv (pe_dget hu (pv 0) pe_str (fun _ _ => rfl)) (pv 1)) rfl)
        (pss_one (ps_ret (pv 2))))) pss_nil)
      (pss_cons (ps_set (i := 3) scNext.nd rfl (Or.inl rfl) (pe_dget hu (pv 0) pe_str (fun _ _ => rfl)))
      (pss_cons (ps_set (i := 4) scNext.nd rfl (Or.inl rfl) (pe_ix ix_list (pv 3) (pe_op op_mod (pe_dget hu (pv 0) pe_str (fun _ _ => rfl)) (pe_callB call_len (by rfl) gL PySem.boot_len (pa_cons (pv 3) pa_nil))) (fun _ _ => rfl)))
      (pss_cons (ps_dput hu (pv 0) pe_str (pe_op op_add (pe_dget hu (pv 0) pe_str (fun _ _ => rfl)) pe_int) rfl)
      (pss_cons (ps_if (PW.pt (pw_and (pt_cmpR op_ge (pv 4) (pe_op op_pow pe_int pe_int) (nomark _)) (pw_and1 (pt_cmpR op_le (pe_dget hu (pv 0) pe_str (fun _ _ => rfl)) (pe_callB call_len (by rfl) gL PySem.boot_len (pa_cons (pv 3) pa_nil)) (nomark _)))))
        (pss_cons (ps_dput hu (pv 0) pe_str (pe_op op_fdiv (pv 4) (pv 1)) rfl) (pss_one (ps_ret (pe_op op_mod (pv 4) (pv 1))))) pss_nil)
      (pss_cons (ps_dput hu (pv 0) pe_str (pe_op op_add (pe_dget hu (pv 0) pe_str (fun _ _ => rfl)) pe_int) rfl)
      (pss_one (ps_ret (pe_op op_mod (pe_call GM hr (by rfl) gM FM.kp bM .nil pass0 (pa_cons (pe_call GM hr (by rfl) gM FM.kp bM .nil pass0 (pa_cons (pv 4) (pa_cons (pe_dget hu (pv 0) pe_str (fun _ _ => rfl)) pa_nil))) (pa_cons (pe_dget hu (pv 0) pe_str (fun _ _ => rfl)) pa_nil))) (pv 1)))))))))), ?_⟩
    obtain ⟨p, b, N, rfl, D, hN, b0, b1, k⟩ := h
    obtain ⟨l, cs, a, lf, us, hp, hl, l0, l1, a0, a1, f0, u0, u1⟩ := D
    have npl : l ≠ p := ne_of hl hp (by intro z; cases z)
    have hl' : ∀ o, (upd H p o) l = some (.lst (cs.map V.int)) := fun o => by rw [upd_ne npl]; exact hl
    -- if draw['left'] > 0
    refine ⟨_, rfl, p, _, rfl, (by rw [← dk_left]; exact DGet.k (k := kLeft) hp), _, _, rfl, rfl, _, rfl, ?_⟩
    have hz4 : ∀ x y z, (drawKv l x y z).length < sizeLine := fun x y z => by show 4 < sizeLine; decide
    refine ite2 (fun c => ?_) (fun c => ?_)
    · -- found = draw['left'] % bound; draw['left'] = draw['left'] // bound; return found
      have c' : 0 < lf := of_decide_eq_true c
      refine ⟨_, rfl, p, _, rfl, (by rw [← dk_left]; exact DGet.k (k := kLeft) hp), _, rfl, _, _, rfl, rfl, b0, ?_⟩
      refine ⟨_, rfl, p, _, rfl, (by rw [← dk_left]; exact DGet.k (k := kLeft) hp), _, rfl, _, _, rfl, rfl, ⟨b0, b1⟩, _, rfl, p, _, rfl, DPut.k (k := kLeft) hp (hz4 _ _ _), ?_⟩
      rw [dp_left]
      refine ⟨_, rfl, k _ _ (Int.emod_nonneg _ (by omega)) (Int.emod_lt_of_pos _ b0) ⟨l, cs, a, lf / b, us, upd_same, hl' _, l0, l1, a0, by omega, Int.ediv_nonneg (by omega) (by omega), u0, by omega⟩ (Keep.upd ⟨_, _, _, hp⟩)⟩
    · -- cells = draw['cells']; cell = cells[draw['at'] % len(cells)]
      refine ⟨_, rfl, p, _, rfl, (by rw [← dk_cells]; exact DGet.k (k := kCells) hp), ?_⟩
      have ix0 : 0 ≤ a % (cs.length : Int) := Int.emod_nonneg _ (by omega)
      have ix1 : a % (cs.length : Int) < (cs.length : Int) := Int.emod_lt_of_pos _ (by omega)
      have hlt : (a % (cs.length : Int)).toNat < cs.length := by omega
      obtain ⟨z, hz⟩ : ∃ z, cs[(a % (cs.length : Int)).toNat]? = some z := ⟨_, List.getElem?_eq_getElem hlt⟩
      refine ⟨_, rfl, _, rfl, p, _, rfl, (by rw [← dk_at]; exact DGet.k (k := kAt) hp), _, rfl, _, (cs.map V.int).length, rfl, .inl ⟨_, SqL.of hl, rfl⟩, _, _, rfl, rfl, (by rw [List.length_map]; omega), ?_⟩
      refine ⟨l, _, _, V.int z, rfl, rfl, SqL.of hl, at_of (j := (a % (cs.length : Int)).toNat) (by rw [List.length_map]; omega) (by rw [List.getElem?_map, hz]; rfl), ?_⟩
      -- draw['at'] = draw['at'] + 1
      refine ⟨_, rfl, p, _, rfl, (by rw [← dk_at]; exact DGet.k (k := kAt) hp), _, _, rfl, rfl, _, rfl, p, _, rfl, DPut.k (k := kAt) hp (hz4 _ _ _), ?_⟩
      rw [dp_at]
      have hp1 := (upd_same (H := H) (a := p) (o := .dK (drawKv l (a + 1) lf us)))
      -- the test
      refine ⟨_, rfl, _, _, rfl, rfl, ⟨by decide, by decide, by decide⟩, _, _, rfl, rfl, _, rfl, ?_⟩
      have last : ∀ H1 : Hp, H1 p = some (.dK (drawKv l (a + 1) lf us)) → H1 l = some (.lst (cs.map V.int)) → Keep p H H1 → True := fun _ _ _ _ => True.intro
      refine ite2 (fun c1 => ?_) (fun c1 => ?_)
      · refine ⟨_, rfl, p, _, rfl, (by rw [← dk_at]; exact DGet.k (k := kAt) hp1), _, rfl, _, (cs.map V.int).length, rfl, .inl ⟨_, SqL.of (hl' _), rfl⟩, _, _, rfl, rfl, _, rfl, ?_⟩
        refine ite2 (fun c2 => ?_) (fun c2 => ?_)
        · have z0 : (1000000000000000000 : Int) ≤ z := of_decide_eq_true c1
          refine ⟨_, rfl, _, rfl, _, _, rfl, rfl, ⟨b0, b1⟩, _, rfl, p, _, rfl, DPut.k (k := kLeft) hp1 (hz4 _ _ _), ?_⟩
          rw [dp_left]
          refine ⟨_, rfl, _, rfl, _, _, rfl, rfl, b0, ?_⟩
          exact k _ _ (Int.emod_nonneg _ (by omega)) (Int.emod_lt_of_pos _ b0) ⟨l, cs, a + 1, z / b, us, upd_same, by rw [upd_ne npl]; exact hl' _, l0, l1, by omega, by omega, Int.ediv_nonneg (by omega) (by omega), u0, by omega⟩ ((Keep.upd ⟨_, _, _, hp⟩).trans (Keep.upd ⟨_, _, _, upd_same⟩))
        · refine ⟨_, rfl, p, _, rfl, (by rw [← dk_used]; exact DGet.k (k := kUsed) hp1), _, _, rfl, rfl, _, rfl, p, _, rfl, DPut.k (k := kUsed) hp1 (hz4 _ _ _), ?_⟩
          rw [dp_used]
          have hp2 := (upd_same (H := upd H p (.dK (drawKv l (a + 1) lf us))) (a := p) (o := .dK (drawKv l (a + 1) lf (us + 1))))
          refine ⟨_, rfl, _, rfl, p, _, rfl, (by rw [← dk_at]; exact DGet.k (k := kAt) hp2), _, _, rfl, by omega, by omega, fun r1 _ _ => ?_⟩
          refine ⟨_, rfl, p, _, rfl, (by rw [← dk_used]; exact DGet.k (k := kUsed) hp2), _, _, rfl, by omega, by omega, fun r2 _ _ => ?_⟩
          refine ⟨_, rfl, _, _, rfl, rfl, b0, ?_⟩
          exact k _ _ (Int.emod_nonneg _ (by omega)) (Int.emod_lt_of_pos _ b0) ⟨l, cs, a + 1, lf, us + 1, hp2, by rw [upd_ne npl]; exact hl' _, l0, l1, by omega, by omega, f0, by omega, by omega⟩ ((Keep.upd ⟨_, _, _, hp⟩).trans (Keep.upd ⟨_, _, _, upd_same⟩))
      · refine iteF ?_
        refine ⟨_, rfl, p, _, rfl, (by rw [← dk_used]; exact DGet.k (k := kUsed) hp1), _, _, rfl, rfl, _, rfl, p, _, rfl, DPut.k (k := kUsed) hp1 (hz4 _ _ _), ?_⟩
        rw [dp_used]
        have hp2 := (upd_same (H := upd H p (.dK (drawKv l (a + 1) lf us))) (a := p) (o := .dK (drawKv l (a + 1) lf (us + 1))))
        refine ⟨_, rfl, _, rfl, p, _, rfl, (by rw [← dk_at]; exact DGet.k (k := kAt) hp2), _, _, rfl, by omega, by omega, fun r1 _ _ => ?_⟩
        refine ⟨_, rfl, p, _, rfl, (by rw [← dk_used]; exact DGet.k (k := kUsed) hp2), _, _, rfl, by omega, by omega, fun r2 _ _ => ?_⟩
        refine ⟨_, rfl, _, _, rfl, rfl, b0, ?_⟩
        exact k _ _ (Int.emod_nonneg _ (by omega)) (Int.emod_lt_of_pos _ b0) ⟨l, cs, a + 1, lf, us + 1, hp2, by rw [upd_ne npl]; exact hl' _, l0, l1, by omega, by omega, f0, by omega, by omega⟩ ((Keep.upd ⟨_, _, _, hp⟩).trans (Keep.upd ⟨_, _, _, upd_same⟩))
structure Dr (K : PySem.W.Frag) (mg : Str → Option Value) : Prop where
  begin_ : ∃ f fd, FnP K "_law_begin" sBegin f fd ∧ mg "_law_begin" = some (.ref f)
  mixed : ∃ f fd, FnP K "_law_mixed" sMixed f fd ∧ mg "_law_mixed" = some (.ref f)
  next : ∃ f fd, FnP K "_law_next" sNext f fd ∧ mg "_law_next" = some (.ref f)
abbrev sBent : Stmt := top 26
abbrev NB : List Str := ["draw", "told", "at", "sign", "head", "tail", "some"]
theorem scBent : FnScope NB ["draw", "told"] (defScope sBent) := ⟨rfl, rfl, rfl, by decide +kernel, rfl, by decide +kernel, by decide +kernel⟩
def spBent : Sp := fun vs H Q _ => ∃ (p : Addr) (z : Str) (N : Nat), vs = [.ref p, .str z] ∧ DrawAt H p N ∧ N < 100000 ∧ z.length ≤ 1000 ∧ ∀ (x : Str) H', x.length ≤ 3 * z.length + 1 → DrawAt H' p (N + 3) → Keep p H H' → Q (.str x) H'
theorem at_ofG {α : Type} {xs : List α} {j : Nat} {v : α} (h : xs[j]? = some v) : atI xs (j : Int) = some v := by
  have lt : j < xs.length := (List.getElem?_eq_some_iff.mp h).1
  unfold atI ixN
  rw [if_pos (Int.natCast_nonneg j), if_pos (by omega), Option.bind_some, Int.toNat_natCast]
  exact h
def signs10 : Str := "0af9gAF \n-"
theorem ok_bent {f : Addr} {fd : FuncData} (F : FnP K "_law_bent" sBent f fd) (N : Nm mg) (D : Dr K mg) : FnOk P w K mg base CX0 3 f fd ["draw", "told"] spBent := by
  obtain ⟨fX, dX, FX, gX⟩ := D.next
  obtain ⟨fM, dM, FM, gM⟩ := D.mixed
  have GX : FnOk P w K mg base CX0 2 fX dX ["draw", "bound"] spNext := ok_next FX FM gM N.len
  have bX : Binds K dX ["draw", "bound"] [] := FX.bindsN fun _ _ _ _ _ _ us hl => match us, hl with | [_, _], _ => rfl
  refine F.ok scBent (fun vs H Q E h => ?_) (fun cdv A outer s H vs Q E hr h => ?_)
  · obtain ⟨p, z, n, rfl, _⟩ := h
    rfl
  · refine ⟨_, PSs.nox (pss_cons (ps_par (i := 2) (j := 3) rfl scBent.nd rfl rfl (by decide) rfl rfl (pa_cons (pe_call GX hr (by rfl) gX FX.kp bX .nil pass0 (pa_cons (pv 0) (pa_cons (pe_op op_add (pe_callB call_len (by rfl) N.len PySem.boot_len (pa_cons (pv 1) pa_nil)) pe_int) pa_nil)))
          (pa_cons (pe_ix ix_str pe_str (pe_call GX hr (by rfl) gX FX.kp bX .nil pass0 (pa_cons (pv 0) (pa_cons pe_int pa_nil))) (fun _ _ => rfl)) pa_nil)) (by rfl))
      (pss_cons (ps_par (i := 4) (j := 5) rfl scBent.nd rfl rfl (by decide) rfl rfl (pa_cons (pe_slice sl_str (pv 1) po_none (po_some (pv 2))) (pa_cons (pe_slice sl_str (pv 1) (po_some (pv 2)) po_none) pa_nil)) (by rfl))
      (pss_cons (ps_set (i := 6) scBent.nd rfl (Or.inl rfl) (pe_lst (pa_cons (pe_op op_add_str (pe_op op_add_str (pv 4) (pv 3)) (pe_slice sl_str (pv 5) (po_some pe_int) po_none))
          (pa_cons (pe_op op_add_str (pe_op op_add_str (pv 4) (pv 3)) (pv 5)) (pa_cons (pe_op op_add_str (pv 4) (pe_slice sl_str (pv 5) (po_some pe_int) po_none))
          (pa_cons (pe_op op_add_str (pe_op op_add_str (pv 4) (pe_slice sl_str (pv 5) po_none (po_some pe_int))) (pv 5)) (pa_cons (pe_op op_add_str (pv 1) (pv 1)) pa_nil)))))))
      (pss_one (ps_ret (pe_ix (show IxR _ (rIxL K) from ix_list) (pv 6) (pe_call GX hr (by rfl) gX FX.kp bX .nil pass0 (pa_cons (pv 0) (pa_cons pe_int pa_nil))) (fun _ _ => rfl))))))), ?_⟩
    obtain ⟨p, z, n, rfl, dr, hn, hz, k⟩ := h
    have zs : z.length ≤ sizeLine := Nat.le_trans hz (by decide)
    refine ⟨_, rfl, _, rfl, _, z.length, rfl, ⟨zs, rfl⟩, _, _, rfl, rfl, p, _, n, rfl, dr, by omega, by omega, by omega, fun r1 H1 a1 b1 dr1 k1 => ?_⟩
    refine ⟨_, rfl, p, 10, n + 1, rfl, dr1, by omega, by decide, by decide, fun r2 H2 a2 b2 dr2 k2 => ?_⟩
    obtain ⟨j, rfl⟩ := Int.eq_ofNat_of_zero_le a2
    have hj : j < 10 := by omega
    have sl : signs10.cps.toList.length = 10 := by decide
    have sg : signs10.cps.toList[j]? = some (signs10.cps.toList[j]'(by rw [sl]; exact hj)) := List.getElem?_eq_getElem _
    generalize signs10.cps.toList[j]'(by rw [sl]; exact hj) = c at sg
    refine ⟨signs10, (j : Nat), c, rfl, rfl, by decide, at_ofG sg, _, _, rfl, ?_⟩
    refine ⟨_, rfl, _, rfl, _, rfl, z, rfl, zs, _, rfl, ⟨_, rfl, _, rfl, z, rfl, zs, ?_⟩⟩
    have ch := cutS_length z none (some r1)
    have ct := cutS_length z (some r1) none
    generalize cutS z none (some r1) = hd at *
    generalize cutS z (some r1) none = tl at *
    have L1 : (⟨#[c]⟩ : Str).length = 1 := rfl
    refine ⟨_, _, rfl, ?_⟩
    have t1 := cutS_length tl (some 1) none
    have t2 := cutS_length tl none (some 1)
    have big : 16777216 = sizeLine := by rw [sizeLine_eq]
    have zt : (cutS tl (some 1) none).length ≤ 1000 := by omega
    have zu : (cutS tl none (some 1)).length ≤ 1000 := by omega
    refine ⟨_, rfl, _, rfl, hd, ⟨#[c]⟩, rfl, rfl, by rw [L1, ← big]; omega, _, rfl, _, rfl, tl, rfl, by rw [← big]; omega, ?_⟩
    refine ⟨_, _, rfl, rfl, by rw [strLen_append, L1, ← big]; omega, ?_⟩
    refine ⟨_, rfl, _, rfl, _, _, rfl, rfl, by rw [L1, ← big]; omega, _, rfl, _, _, rfl, rfl, by rw [strLen_append, L1, ← big]; omega, ?_⟩
    refine ⟨_, rfl, _, rfl, _, rfl, tl, rfl, by rw [← big]; omega, _, _, rfl, rfl, by rw [← big]; omega, ?_⟩
    refine ⟨_, rfl, _, rfl, _, rfl, tl, rfl, by rw [← big]; omega, _, _, rfl, rfl, by rw [← big]; omega, _, rfl, _, _, rfl, rfl, by rw [strLen_append, ← big]; omega, ?_⟩
    refine ⟨_, rfl, _, rfl, _, _, rfl, rfl, by rw [← big]; omega, sz 5 (by decide), fun ls nls => ?_⟩
    have s3 := same_new (o := .lst [.str (hd ++ ⟨#[c]⟩ ++ cutS tl (some 1) none), .str (hd ++ ⟨#[c]⟩ ++ tl), .str (hd ++ cutS tl (some 1) none), .str (hd ++ cutS tl none (some 1) ++ tl), .str (z ++ z)]) nls
    refine ⟨_, rfl, _, rfl, p, 5, n + 2, rfl, dr2.same s3, by omega, by decide, by decide, fun r3 H3 a3 b3 dr3 k3 => ?_⟩
    obtain ⟨i, rfl⟩ := Int.eq_ofNat_of_zero_le a3
    have hi : i < 5 := by omega
    have nlp : ls ≠ p := fun y => by
      obtain ⟨c, cs, a, lf, us, g1, _⟩ := dr2
      rw [y, g1] at nls
      cases nls
    have hls := k3 ls _ upd_same nlp
    have kk : Keep p H H3 := (k1.trans k2).trans ((Keep.of s3).trans k3)
    have get : ∃ x : Str, ([V.str (hd ++ ⟨#[c]⟩ ++ cutS tl (some 1) none), .str (hd ++ ⟨#[c]⟩ ++ tl), .str (hd ++ cutS tl (some 1) none), .str (hd ++ cutS tl none (some 1) ++ tl), .str (z ++ z)] : List V)[i]? = some (.str x) ∧ x.length ≤ 3 * z.length + 1 := by
      match i, hi with
      | 0, _ => exact ⟨_, rfl, by rw [strLen_append, strLen_append, L1]; omega⟩
      | 1, _ => exact ⟨_, rfl, by rw [strLen_append, strLen_append, L1]; omega⟩
      | 2, _ => exact ⟨_, rfl, by rw [strLen_append]; omega⟩
      | 3, _ => exact ⟨_, rfl, by rw [strLen_append, strLen_append]; omega⟩
      | 4, _ => exact ⟨_, rfl, by rw [strLen_append]; omega⟩
    obtain ⟨x, ex, lx⟩ := get
    exact ⟨ls, _, i, .str x, rfl, rfl, SqL.of hls, at_ofG ex, k x H3 lx dr3 kk⟩
end
end Kx

set_option Elab.async false
set_option linter.all false
set_option maxRecDepth 100000
set_option maxHeartbeats 4000000
namespace Kx
open PySem PySem.Spec PyProof.Rows L2 StX
/-! ### data -/
/-- of data that is shown -/
structure ShowD (d : PyData) : Prop where
  sh : d.showable = true
  dep : d.depth ≤ 40
  len : d.shown.length ≤ sizeLine
theorem line_ : (16777216 : Nat) = sizeLine := by rw [sizeLine_eq]
theorem log_ok {n : Nat} (h : n < 2 ^ 20) : ((n : Int)).natAbs.log2 < 1920 := by
  show n.log2 < 1920
  by_cases c : n = 0
  · subst c
    decide
  · exact (Nat.log2_lt c).mpr (Nat.lt_of_lt_of_le h (Nat.pow_le_pow_right (by decide) (by decide)))
theorem int_show {n : Nat} (h : n < 2 ^ 20) : PyData.showable (.int (n : Int)) = true := by
  simp only [PyData.showable]
  exact decide_eq_true (log_ok h)
theorem ints_show : ∀ {ns : List Nat}, (∀ n ∈ ns, n < 256) → PyData.showableAll (ns.map fun (n : Nat) => .int (n : Int)) = true
  | [], _ => by simp [PyData.showableAll]
  | n :: ns, h => by
    rw [List.map_cons]
    simp only [PyData.showableAll]
    rw [int_show (Nat.lt_trans (h n (List.mem_cons_self ..)) (by decide)), ints_show fun m hm => h m (List.mem_cons_of_mem _ hm)]
    rfl
theorem ints_depth : ∀ ns : List Nat, PyData.depthAll (ns.map fun (n : Nat) => .int (n : Int)) = 0
  | [] => rfl
  | n :: ns => by
    rw [List.map_cons]
    show max 0 (PyData.depthAll (ns.map fun (n : Nat) => .int (n : Int))) = 0
    rw [ints_depth ns]
    rfl
theorem ints_lay : ∀ ns : List Nat, PyData.canLayAll0 (ns.map fun (n : Nat) => .int (n : Int)) = true
  | [] => rfl
  | n :: ns => by
    rw [List.map_cons]
    show (PyData.canLay0 (.int (n : Int)) && PyData.canLayAll0 (ns.map fun (n : Nat) => .int (n : Int))) = true
    rw [ints_lay ns]
    rfl
theorem ints_wt : ∀ ns : List Nat, wtAll (ns.map fun (n : Nat) => .int (n : Int)) = 1923 * ns.length
  | [] => rfl
  | n :: ns => by
    rw [List.map_cons]
    simp only [wtAll, wt]
    rw [ints_wt ns, List.length_cons]
    omega
theorem nD_show {ns : List Nat} (h : ∀ n ∈ ns, n < 256) (l : ns.length ≤ 5000) : ShowD (nD ns) := by
  have s : (nD ns).showable = true := by
    unfold nD
    simp only [PyData.showable]
    exact ints_show h
  refine ⟨s, ?_, ?_⟩
  · show PyData.depthAll (ns.map fun (n : Nat) => .int (n : Int)) + 1 ≤ 40
    rw [ints_depth]
    decide
  · refine Nat.le_trans (shown_le _ s) ?_
    unfold nD
    simp only [wt]
    rw [ints_wt, ← line_]
    omega
theorem one_show {n : Nat} (h : n < 2 ^ 20) : ShowD (.list [.int (n : Int)]) := by
  have s : (PyData.list [.int (n : Int)]).showable = true := by
    simp only [PyData.showable, PyData.showableAll]
    rw [decide_eq_true (log_ok h)]
    rfl
  refine ⟨s, (by show max 0 0 + 1 ≤ 40; decide), Nat.le_trans (shown_le _ s) (by simp only [wt, wtAll]; decide)⟩
theorem num_lt {z : Str} (h : ∀ c ∈ z.cps.toList, isHex c = true) : ∀ n ∈ numT z, n < 256 := by
  intro n m
  unfold numT at m
  obtain ⟨k, hk, rfl⟩ := List.mem_map.mp m
  have hk := List.mem_range.mp hk
  have a := (dig_lt (hex_get h (i := 2 * k) (by omega))).1
  have b := (dig_lt (hex_get h (i := 2 * k + 1) (by omega))).1
  omega
theorem off_hex {z : Str} (h : offT z = none) : ∀ c ∈ z.cps.toList, isHex c = true := by
  unfold offT at h
  by_cases c : lo z < z.length
  · rw [if_pos c] at h
    cases h
  · exact lo_full c
theorem off_le {z : Str} {o : Nat} (h : offT z = some o) (l : z.length ≤ 1000000) : o ≤ 1000000 := by
  unfold offT at h
  have := lo_le z
  split at h
  · cases h; omega
  · split at h
    · cases h; omega
    · split at h
      · cases h; omega
      · cases h
theorem res_show {z : Str} (l : z.length ≤ 1000000) (h : z.length ≤ 5000 ∨ offT z ≠ none) : ShowD (resD (.str z)) := by
  show ShowD (match offT z with
    | some o => .list [.int (o : Nat)]
    | none => nD (numT z))
  cases e : offT z with
  | some o => exact one_show (Nat.lt_of_le_of_lt (off_le e l) (by decide))
  | none =>
    refine nD_show (num_lt (off_hex e)) ?_
    have : z.length ≤ 5000 := by
      rcases h with h | h
      · exact h
      · exact absurd e h
    unfold numT
    rw [List.length_map, List.length_range]
    omega
theorem nD_shaped (ns : List Nat) : SeqAt.shaped (nD ns) = true := by
  refine Bool.and_eq_true_iff.mpr ⟨?_, decide_eq_true ?_⟩
  · show PyData.canLay0 (.tuple (ns.map fun (n : Nat) => .int (n : Int))) = true
    unfold PyData.canLay0
    exact ints_lay ns
  · show PyData.depthAll (ns.map fun (n : Nat) => .int (n : Int)) + 1 ≤ 64
    rw [ints_depth]
    decide
theorem nD_eqv (ns : List Nat) : PyData.eqv (nD ns) (nD ns) = true := SeqAt.eqv_refl _ (SeqAt.canLay_of_shaped (nD_shaped ns))
theorem nV_dpall {K : PySem.W.Frag} {H : Hp} : ∀ {ns : List Nat}, DpAll K H (nV ns) (ns.map fun (n : Nat) => PyData.int (n : Int))
  | [] => .nil
  | n :: ns => .cons (.int _) nV_dpall
theorem nD_dp {K : PySem.W.Frag} {H : Hp} {v : V} {ns : List Nat} (h : Sd K H v (nD ns)) : Dp K H v (nD ns) := by
  unfold nD at h ⊢
  cases h with
  | @tup a xs _ hq ha =>
    have e := sdall_nV ha
    subst e
    exact .tup hq nV_dpall
/-! ### many of one sign -/
theorem fold_rep (c : Nat) : ∀ (k : Nat) (acc : Array Nat), (List.replicate k (#[c] : Array Nat)).foldl (· ++ ·) acc = acc ++ (List.replicate k c).toArray
  | 0, acc => by simp
  | k + 1, acc => by
    rw [List.replicate_succ, List.foldl_cons, fold_rep c k, List.replicate_succ]
    apply Array.ext'
    rw [Array.toList_append, Array.toList_append, Array.toList_append]
    show acc.toList ++ [c] ++ List.replicate k c = acc.toList ++ (c :: List.replicate k c)
    rw [List.append_assoc]
    rfl
def manyS (c k : Nat) : Str := ⟨(List.replicate k c).toArray⟩
theorem many_eq (c k : Nat) : (⟨(List.replicate k (#[c] : Array Nat)).foldl (· ++ ·) #[]⟩ : Str) = manyS c k := by
  rw [fold_rep]
  unfold manyS
  simp
theorem many_len (c k : Nat) : (manyS c k).length = k := by
  show (List.replicate k c).toArray.size = k
  rw [List.size_toArray, List.length_replicate]
theorem many_mem {c k x : Nat} (h : x ∈ (manyS c k).cps.toList) : x = c := by
  have h' : x ∈ List.replicate k c := h
  exact List.eq_of_mem_replicate h'
theorem many_get {c k i : Nat} (h : i < k) : (manyS c k).cps.getD i 0 = c := by
  have hi : i < (manyS c k).cps.size := by rw [show (manyS c k).cps.size = k from many_len c k]; exact h
  rw [Array.getD_eq_getD_getElem?, Array.getElem?_eq_getElem hi]
  exact many_mem (Array.mem_toList_iff.mpr (Array.getElem_mem hi))
theorem lo_many {c : Nat} (h : isHex c = true) (k : Nat) : lo (manyS c k) = k := by
  unfold lo
  have e : (manyS c k).cps.toList.takeWhile isHex = (manyS c k).cps.toList := takeWhile_all fun x m => by rw [many_mem m]; exact h
  rw [e, Array.length_toList]
  exact many_len c k
theorem num_many (k : Nat) : numT (manyS 48 (2 * k)) = List.replicate k 0 := by
  unfold numT
  rw [many_len]
  have e : 2 * k / 2 = k := by omega
  rw [e]
  refine List.eq_replicate_iff.mpr ⟨by rw [List.length_map, List.length_range], fun b m => ?_⟩
  obtain ⟨i, hi, rfl⟩ := List.mem_map.mp m
  have hi := List.mem_range.mp hi
  rw [many_get (by omega), many_get (by omega)]
  decide
theorem hexC_many : ∀ k : Nat, hexC (List.replicate k 255) = List.replicate (2 * k) 102
  | 0 => rfl
  | k + 1 => by
    show [hx1 (255 / 16), hx1 (255 % 16)] ++ hexC (List.replicate k 255) = _
    rw [hexC_many k, show 2 * (k + 1) = (2 * k) + 1 + 1 by omega, List.replicate_succ, List.replicate_succ]
    have e1 : hx1 (255 / 16) = 102 := by decide +kernel
    rw [e1]
    rfl
theorem hexT_many (k : Nat) : hexT (List.replicate k 255) = manyS 102 (2 * k) := by
  unfold hexT manyS
  rw [hexC_many]
theorem off_even {k : Nat} (h : k ≤ 50000) : offT (manyS 48 (2 * k)) = none := by
  unfold offT
  rw [lo_many (by decide), many_len, if_neg (by omega), if_neg (by omega), if_neg (by omega)]
theorem off_great {k : Nat} (h : 100000 < k) (e : k % 2 = 0) : offT (manyS 48 k) = some 100000 := by
  unfold offT
  rw [lo_many (by decide), many_len, if_neg (by omega), if_neg (by omega), if_pos (by omega)]
theorem off_bad (k : Nat) : offT (manyS 48 k ++ "g") ≠ none := by
  intro h
  have m := off_hex h 103 (by
    rw [Str.cps_append, Array.toList_append]
    exact List.mem_append_right _ (by decide))
  exact absurd m (by decide)
/-! ### many zeros, shown -/
theorem piled_rep (t : Str) : ∀ k : Nat, piled (List.replicate k t) = k * (t.length + 2)
  | 0 => by simp; rfl
  | k + 1 => by
    rw [List.replicate_succ, piled_cons, piled_rep t k, Nat.succ_mul]
    omega
theorem shown_rep : ∀ k : Nat, PyData.shownAll (List.replicate k (.int 0)) = List.replicate k (PyData.shown (.int 0))
  | 0 => by simp [PyData.shownAll]
  | k + 1 => by
    rw [List.replicate_succ, List.replicate_succ]
    simp only [PyData.shownAll]
    rw [shown_rep k]
theorem zeros_show {k : Nat} (hk : k ≤ 60000) : ShowD (nD (List.replicate k 0)) := by
  have h : ∀ n ∈ List.replicate k 0, n < 256 := fun n m => by rw [List.eq_of_mem_replicate m]; decide
  have s : (nD (List.replicate k 0)).showable = true := by
    unfold nD
    simp only [PyData.showable]
    exact ints_show h
  refine ⟨s, ?_, ?_⟩
  · show PyData.depthAll ((List.replicate k 0).map fun (n : Nat) => .int (n : Int)) + 1 ≤ 40
    rw [ints_depth]
    decide
  · unfold nD
    rw [List.map_replicate]
    simp only [PyData.shown]
    refine Nat.le_trans (tupleText_le _) ?_
    have e : PyData.shownAll (List.replicate k (.int ((0 : Nat) : Int))) = List.replicate k (PyData.shown (.int 0)) := shown_rep k
    rw [e, piled_rep, ← line_]
    have l : (PyData.shown (.int 0)).length ≤ 1 := by decide +kernel
    have m : k * ((PyData.shown (.int 0)).length + 2) ≤ k * 3 := Nat.mul_le_mul_left k (by omega)
    omega
end Kx

set_option Elab.async false
set_option linter.all false
set_option maxRecDepth 100000
set_option maxHeartbeats 2000000
namespace Kx
open PySem PySem.Spec PyProof.Rows L2 StX
theorem mul_of {z : Str} {c k : Nat} {H : Hp} {Q : VK} (hz : z = ⟨#[c]⟩) (h2 : 2 ≤ k) (hk : k ≤ 1000000) (q : Q (.str (manyS c k)) H) : rMulS (.str z) (.int (k : Int)) H Q := by
  subst hz
  refine ⟨⟨#[c]⟩, k, rfl, rfl, h2, by show 0 < 1; decide, by show 1 * k ≤ 1000000; omega, ?_⟩
  have e : (⟨(List.replicate k ((⟨#[c]⟩ : Str)).cps).foldl (· ++ ·) #[]⟩ : Str) = manyS c k := many_eq c k
  rw [e]
  exact q
theorem rep_of {K : PySem.W.Frag} {H : Hp} {Q : VK} {l : Addr} {n k : Nat} (h : SqT K H l [.int (n : Int)]) (h2 : 2 ≤ k) (hk : k ≤ 100000) (q : ∀ p H', Same H H' → Sd K H' (.ref p) (nD (List.replicate k n)) → Q (.ref p) H') : rRep1 K (.ref l) (.int (k : Int)) H Q := by
  refine ⟨l, k, .int (n : Int), rfl, rfl, h, h2, hk, fun p np => q p _ (same_new np) ?_⟩
  have e : List.replicate k (V.int (n : Int)) = nV (List.replicate k n) := by
    unfold nV
    rw [List.map_replicate]
  rw [e]
  exact .tup (SqT.of upd_same) nV_sdall
theorem res_even {k : Nat} (h : k ≤ 50000) : resD (.str (manyS 48 (2 * k))) = nD (List.replicate k 0) := by
  show (match offT (manyS 48 (2 * k)) with
    | some o => PyData.list [.int (o : Nat)]
    | none => nD (numT (manyS 48 (2 * k)))) = _
  rw [off_even h, num_many]
theorem res_great {k : Nat} (h : 100000 < k) (e : k % 2 = 0) : resD (.str (manyS 48 k)) = .list [.int 100000] := by
  show (match offT (manyS 48 k) with
    | some o => PyData.list [.int (o : Nat)]
    | none => nD (numT (manyS 48 k))) = _
  rw [off_great h e]
  rfl
theorem few_rep (k n : Nat) : few (nD (List.replicate k n)) := by
  intro ds e
  refine ⟨[(n : Int)], by show 1 ≤ 300; decide, fun i m => ?_⟩
  unfold nD at e
  injection e with e
  subst e
  obtain ⟨x, hx, ei⟩ := List.mem_map.mp m
  rw [List.eq_of_mem_replicate hx] at ei
  injection ei with ei
  rw [← ei]
  exact List.mem_cons_self ..
theorem stm_great {k : Nat} (h : 50000 < k) : isStm (nD (List.replicate k 0)) = false := by
  show (decide (((List.replicate k 0).map fun (n : Nat) => PyData.int (n : Int)).length ≤ 50000) && _) = false
  rw [List.length_map, List.length_replicate, decide_eq_false (by omega), Bool.false_and]
abbrev sBH : Stmt := top 27
abbrev NBH : List Str := ["told", "some", "thing"]
theorem scBH : FnScope NBH [] (defScope sBH) := ⟨rfl, rfl, rfl, by decide +kernel, rfl, by decide +kernel, by decide +kernel⟩
def sBh (k : Nat) : Stmt := (defBody sBH).getD k (.Pass ⟨0, 0, 0, 0⟩)
theorem bh_body : defBody sBH = [sBh 0, sBh 1, sBh 2, sBh 3, sBh 4, sBh 5] := rfl
/-- the law's own defs and the package's -/
structure Lw (P : Program) (w : World) (K : PySem.W.Frag) (mg : Str → Option Value) (base : Heap) : Prop where
  lr : ∃ f fd, FnP K "_law_read" sLR f fd ∧ mg "_law_read" = some (.ref f) ∧ FnOk P w K mg base CX0 5 f fd ["thing"] (spLR K)
  ld : ∃ f fd, FnP K "_law_due" sLD f fd ∧ mg "_law_due" = some (.ref f) ∧ FnOk P w K mg base CX0 1 f fd ["told"] (spLD K)
  lx : ∃ f fd, FnP K "_law_refused" sLX f fd ∧ mg "_law_refused" = some (.ref f) ∧ FnG P w K mg base CX0 5 f fd ["thing"] (spLX K)
  st : ∃ f fd, FnP K "stream_text" sST f fd ∧ mg "stream_text" = some (.ref f) ∧ FnOk P w K mg base (L2.CX P w) 4 f fd ["stream"] (spST K)
  rs : ∃ f fd, FnP K "read_stream" sRS f fd ∧ mg "read_stream" = some (.ref f) ∧ FnOk P w K mg base (L2.CX P w) 4 f fd ["text"] (spRS K)
section
variable {P : Program} {w : World} {K : PySem.W.Frag} {mg : Str → Option Value} {base : Heap} {f : Addr} {cdv : Value} {A : Around} {outer : List Env} {s : Shared} {H : Hp} {E : XK}
abbrev XBh (P : Program) (w : World) (K : PySem.W.Frag) (mg : Str → Option Value) (base : Heap) (f : Addr) (cdv : Value) (A : Around) (outer : List Env) (s : Shared) (H : Hp) (E : XK) : Cx := (cxOf CX0 P w K mg base NBH "_law_by_hand_right" (defScope sBH) f cdv A outer s H E).nox
theorem bh_s0 (L : Lw P w K mg base) (N : Nm mg) (SY : SysK K) (hgu : (XBh P w K mg base f cdv A outer s H E).A.guards = some []) (hr : Room 6 (XBh P w K mg base f cdv A outer s H E).A) :
    ∃ t, PS (XBh P w K mg base f cdv A outer s H E) (sBh 0) t ∧ ∀ (D : Ends) (H0 : Hp), (∀ H1 t0, Same H0 H1 → D.nx [t0, none, none] H1) → t D [none, none, none] H0 := by
  obtain ⟨fr, dr, FR, gR, GR⟩ := L.lr
  have bR : L2.Binds K dr ["thing"] [] := FR.bindsN fun _ _ _ _ _ _ us hl => match us, hl with | [_], _ => rfl
  obtain ⟨fd_, dd, FD, gD, GD⟩ := L.ld
  have bD : L2.Binds K dd ["told"] [] := FD.bindsN fun _ _ _ _ _ _ us hl => match us, hl with | [_], _ => rfl
  refine ⟨_, ps_for PassesOwn.never rfl (pi_tup (pe_tup (pa_cons pe_str (pa_cons pe_str (pa_cons pe_str (pa_cons pe_str (pa_cons pe_str (pa_cons pe_str (pa_cons pe_str (pa_cons pe_str (pa_cons pe_str (pa_cons pe_str (pa_cons pe_str (pa_cons (pe_op op_add_str (pe_op op_mulS pe_str pe_int) pe_str) pa_nil))))))))))))))
      (pg_name (i := 0) scBH.nd rfl (Or.inl rfl))
      (pss_one (ps_if (pt_cmpR op_ne (pe_callB (call_repr hgu hr SY) (by rfl) N.repr boot_repr (pa_cons (pe_call GR (hr.mono (by decide)) (by rfl) gR FR.kp bR .nil pass0 (pa_cons (pv 0) pa_nil)) pa_nil)) (pe_callB (call_repr hgu hr SY) (by rfl) N.repr boot_repr (pa_cons (pe_call GD (hr.mono (by decide)) (by rfl) gD FD.kp bD .nil pass0 (pa_cons (pv 0) pa_nil)) pa_nil)) (nomark _)) (pss_one (ps_ret pe_bl)) pss_nil)), ?_⟩
  intro D H0 k
  have big : (16777216 : Nat) = sizeLine := line_
  refine ⟨"0", 100001, rfl, rfl, by decide, by decide, by decide, ?_⟩
  have lg : ("g" : Str).length = 1 := rfl
  have ll : (manyS 48 100001 ++ ("g" : Str)).length = 100002 := by rw [strLen_append, many_len, lg]
  have okg : offT (manyS 48 100001 ++ ("g" : Str)) ≠ none := off_bad 100001
  refine ⟨manyS 48 100001, "g", congrArg V.str (many_eq 48 100001), rfl, by rw [many_len, lg, ← big]; omega, sz 12 (by decide), fun tt ntt => ?_⟩
  generalize manyS 48 100001 ++ ("g" : Str) = zz at *
  have all : ∀ x ∈ ([.str "", .str "00", .str "ff", .str "0", .str "A0", .str "a0 ", .str " a0", .str "0x", .str "g", .str "00g", .str "0g0", .str zz] : List V), ∃ z : Str, x = .str z ∧ z.length ≤ 1000000 ∧ (z.length ≤ 5000 ∨ offT z ≠ none) := by
    intro x m
    have sm : ∀ z : Str, z.length ≤ 10 → z.length ≤ 1000000 ∧ (z.length ≤ 5000 ∨ offT z ≠ none) := fun z h => ⟨by omega, .inl (by omega)⟩
    simp only [List.mem_cons, List.not_mem_nil, or_false] at m
    rcases m with m | m | m | m | m | m | m | m | m | m | m | m
    all_goals first
      | exact ⟨_, m, sm _ (by decide)⟩
      | exact ⟨zz, m, by omega, .inr okg⟩
  have s00 := same_new (o := .tup [.str "", .str "00", .str "ff", .str "0", .str "A0", .str "a0 ", .str " a0", .str "0x", .str "g", .str "00g", .str "0g0", .str zz]) ntt
  have htt : (upd H0 tt (.tup [.str "", .str "00", .str "ff", .str "0", .str "A0", .str "a0 ", .str " a0", .str "0x", .str "g", .str "00g", .str "0g0", .str zz])) tt = some (.tup [.str "", .str "00", .str "ff", .str "0", .str "A0", .str "a0 ", .str " a0", .str "0x", .str "g", .str "00g", .str "0g0", .str zz]) := upd_same
  generalize ([.str "", .str "00", .str "ff", .str "0", .str "A0", .str "a0 ", .str " a0", .str "0x", .str "g", .str "00g", .str "0g0", .str zz] : List V) = xs at *
  generalize upd H0 tt (.tup xs) = H1 at *
  refine ⟨tt, rfl, ⟨_, SqT.of htt⟩, for_it (walk_tup (xs := xs)) (fun i σ H' => ∃ t0 : Option V, σ = [t0, none, none] ∧ Same H1 H') ⟨none, rfl, Same.refl'⟩ (fun i σ H' _ z => ?_) ?_ ?_⟩
  · obtain ⟨_, _, s1⟩ := z
    exact SqT.of (s1 _ _ htt)
  · rintro i x σ H2 H3 hi ⟨t0, rfl, s1⟩ ⟨rfl, hx⟩
    obtain ⟨z, rfl, l1, l2⟩ := all x (List.mem_of_getElem? hx)
    have sh := res_show l1 l2
    refine ⟨_, rfl, .str z, .str z, rfl, .str z, fun y e => by cases e; exact l1, fun r1 H4 s2 d1 => ?_⟩
    refine ⟨r1, _, rfl, d1, sh.sh, sh.dep, sh.len, _, rfl, z, rfl, l1, fun r2 H5 s3 d2 => ?_⟩
    refine ⟨r2, _, rfl, d2, sh.sh, sh.dep, sh.len, rfl, _, rfl, ?_⟩
    rw [decide_eq_true rfl]
    exact iteF ⟨_, rfl, s1.tr (s2.tr s3)⟩
  · rintro σ H2 ⟨t0, rfl, s1⟩
    exact k H2 t0 (s00.tr s1)
theorem rep_sd {K : PySem.W.Frag} {H : Hp} {p : Addr} {n k : Nat} : Sd K (upd H p (.tup (List.replicate k (.int (n : Int))))) (.ref p) (nD (List.replicate k n)) := by
  have e : List.replicate k (V.int (n : Int)) = nV (List.replicate k n) := by
    unfold nV
    rw [List.map_replicate]
  rw [e]
  exact .tup (SqT.of upd_same) nV_sdall
theorem bh_s1 (L : Lw P w K mg base) (hr : Room 6 (XBh P w K mg base f cdv A outer s H E).A) :
    ∃ t, PS (XBh P w K mg base f cdv A outer s H E) (sBh 1) t ∧ ∀ (D : Ends) (H0 : Hp) (t0 : Option V), (∀ H1, Same H0 H1 → D.nx [t0, none, none] H1) → t D [t0, none, none] H0 := by
  obtain ⟨fr, dr, FR, gR, GR⟩ := L.lr
  have bR : L2.Binds K dr ["thing"] [] := FR.bindsN fun _ _ _ _ _ _ us hl => match us, hl with | [_], _ => rfl
  refine ⟨_, ps_if (PW.pt (pw_or (pt_cmpR (op_neD hr.units) (pe_call GR (hr.mono (by decide)) (by rfl) gR FR.kp bR .nil pass0 (pa_cons (pe_op op_mulS pe_str pe_int) pa_nil)) (pe_op op_rep1 (pe_tup (pa_cons pe_int pa_nil)) pe_int) (nomark _))
      (pw_or1 (pt_cmpR (op_neD hr.units) (pe_call GR (hr.mono (by decide)) (by rfl) gR FR.kp bR .nil pass0 (pa_cons (pe_op op_mulS pe_str pe_int) pa_nil)) (pe_lst (pa_cons pe_int pa_nil)) (nomark _))))) (pss_one (ps_ret pe_bl)) pss_nil, ?_⟩
  intro D H0 t0 k
  refine ⟨"0", 100000, rfl, rfl, by decide, by decide, by decide, ?_⟩
  refine ⟨.str (manyS 48 100000), .str (manyS 48 100000), congrArg (fun x => [V.str x]) (many_eq 48 100000), .str _, fun y e => by cases e; rw [many_len]; decide, fun r1 H1 s1 d1 => ?_⟩
  have d1' : Sd K H1 r1 (nD (List.replicate 50000 0)) := by
    have e := res_even (k := 50000) (Nat.le_refl _)
    rw [← e]
    exact d1
  refine ⟨sz 1 (by decide), fun t nt => ⟨t, 50000, .int ((0 : Nat) : Int), rfl, rfl, SqT.of upd_same, by decide, by decide, fun p np => ?_⟩⟩
  refine ⟨_, _, nD_dp (sd_to d1' ((same_new nt).tr (same_new np))), nD_dp rep_sd, nD_shaped _, nD_shaped _, _, rfl, ?_⟩
  rw [nD_eqv]
  refine iteF ?_
  refine ⟨"0", 100002, rfl, rfl, by decide, by decide, by decide, ?_⟩
  refine ⟨.str (manyS 48 100002), .str (manyS 48 100002), congrArg (fun x => [V.str x]) (many_eq 48 100002), .str _, fun y e => by cases e; rw [many_len]; decide, fun r2 H2 s2 d2 => ?_⟩
  have d2' : Sd K H2 r2 (.list [.int 100000]) := by
    have e := res_great (k := 100002) (by decide) (by decide)
    rw [← e]
    exact d2
  refine ⟨sz 1 (by decide), fun q nq => ?_⟩
  have d3 := sd_to d2' (same_new (o := .lst [.int 100000]) nq)
  have dp3 : Dp K (upd H2 q (.lst [.int 100000])) r2 (.list [.int 100000]) := by
    cases d3 with
    | lst hq ha =>
      cases ha with
      | cons a r =>
        cases a
        cases r
        exact .lst hq (.cons (.int _) .nil)
  refine ⟨.list [.int 100000], .list [.int 100000], dp3, .lst (SqL.of upd_same) (.cons (.int _) .nil), by decide, by decide, _, rfl, ?_⟩
  have e : PyData.eqv (.list [.int 100000]) (.list [.int 100000]) = true := by decide +kernel
  rw [e]
  exact iteF (k _ ((s1.tr ((same_new nt).tr (same_new np))).tr (s2.tr (same_new nq))))
end
end Kx

set_option Elab.async false
set_option linter.all false
set_option maxRecDepth 100000
set_option maxHeartbeats 2000000
namespace Kx
open PySem PySem.Spec PyProof.Rows L2 StX
theorem kb_of {K : PySem.W.Frag} {x qual : Str} {params : Arguments} {body : List Stmt} {scope : Scope} {kws : List (Str × V)} {f : Addr} {fd : FuncData} {ps ks : List Str} (F : FunD K x qual params body scope [] kws f fd)
    (h : ∀ (kV doc pm : Value) (an : Option Addr) (cdv ct : Value) (us ws : List Value), (us ++ ws).length = ps.length → bindArgs (PySem.W.fnOf x qual params body scope .none kV doc pm an cdv ct) ⟨us, ks.zip ws⟩ = pure (ps.zip (us ++ ws))) : KBinds K fd ps ks (fun us ws => us ++ ws) (fun vs zs => vs ++ zs) := by
  obtain ⟨oc, od, dV, kV, doc, pm, an, cdv, ct, osl, rfl, lk, hcd, hD, hK⟩ := F.ex
  rcases hD with ⟨_, rfl⟩ | ⟨e, _⟩
  · exact ⟨fun s us ws _ hl => .of_eq (h kV doc pm an cdv ct us ws hl), fun r rz => r.append rz⟩
  · exact absurd rfl e
theorem nD_inj : ∀ {a b : List Nat}, (a.map fun (n : Nat) => PyData.int (n : Int)) = (b.map fun (n : Nat) => PyData.int (n : Int)) → a = b
  | [], [], _ => rfl
  | [], _ :: _, h => by cases h
  | _ :: _, [], h => by cases h
  | x :: a, y :: b, h => by
    rw [List.map_cons, List.map_cons] at h
    injection h with h1 h2
    injection h1 with h1
    rw [nD_inj h2, Int.ofNat.inj h1]
theorem stm_nD {a : List Nat} (h : ∀ n ∈ a, n < 256) (l : a.length ≤ 50000) : isStm (nD a) = true := by
  show (decide ((a.map fun (n : Nat) => PyData.int (n : Int)).length ≤ 50000) && (a.map fun (n : Nat) => PyData.int (n : Int)).all isOct) = true
  rw [List.length_map, decide_eq_true l, Bool.true_and, List.all_map]
  refine List.all_eq_true.mpr fun n m => ?_
  have := h n m
  show (decide (0 ≤ (n : Int)) && decide ((n : Int) < 256)) = true
  rw [decide_eq_true (by omega), decide_eq_true (by omega)]
  rfl
theorem nD_of {a ns : List Nat} (e : nD a = .tuple (ns.map fun (n : Nat) => .int (n : Int))) : a = ns := by
  unfold nD at e
  injection e with e
  exact nD_inj e
theorem stm_no {a : List Nat} {p : Prop} (h : ∀ n ∈ a, n < 256) (l : a.length ≤ 50000) (e : isStm (nD a) = false) : p := by
  rw [stm_nD h l] at e
  cases e
theorem few_oct {a : List Nat} (h : ∀ n ∈ a, n < 256) : few (nD a) := by
  intro ds e
  refine ⟨(List.range 256).map fun (n : Nat) => (n : Int), by rw [List.length_map, List.length_range]; decide, fun i m => ?_⟩
  unfold nD at e
  injection e with e
  subst e
  obtain ⟨x, hx, ei⟩ := List.mem_map.mp m
  injection ei with ei
  rw [← ei]
  exact List.mem_map.mpr ⟨x, List.mem_range.mpr (h x hx), rfl⟩
section
variable {P : Program} {w : World} {K : PySem.W.Frag} {mg : Str → Option Value} {base : Heap} {f : Addr} {cdv : Value} {A : Around} {outer : List Env} {s : Shared} {H : Hp} {E : XK}
theorem bh_s2 (L : Lw P w K mg base) (hr : Room 6 (XBh P w K mg base f cdv A outer s H E).A) :
    ∃ t, PS (XBh P w K mg base f cdv A outer s H E) (sBh 2) t ∧ ∀ (D : Ends) (H0 : Hp) (t0 : Option V), (∀ H1, Same H0 H1 → D.nx [t0, none, none] H1) → t D [t0, none, none] H0 := by
  obtain ⟨fs, ds, FS, gS, GS⟩ := L.st
  have bS : L2.Binds K ds ["stream"] [] := FS.bindsN fun _ _ _ _ _ _ us hl => match us, hl with | [_], _ => rfl
  obtain ⟨fr, dr, FR, gR, GR⟩ := L.rs
  have kR : KBinds K dr ["text"] ["text"] (fun us ws => us ++ ws) (fun vs zs => vs ++ zs) := kb_of FR fun _ _ _ _ _ _ us ws hl => match us, ws, hl with | [], [_], _ => rfl | [_], [], _ => rfl
  refine ⟨_, ps_if (PW.pt (pw_or (pt_cmpR op_ne (pe_call (E := E0) GS (hr.mono (by decide)) (by rfl) gS FS.kp bS .nil (fun _ _ _ _ _ _ _ z => (no_cx z).elim) (pa_cons (pe_tup pa_nil) pa_nil)) pe_str (nomark _))
      (pw_or (pt_cmpR op_ne (pe_call (E := E0) GS (hr.mono (by decide)) (by rfl) gS FS.kp bS .nil (fun _ _ _ _ _ _ _ z => (no_cx z).elim) (pa_cons (pe_op op_rep1 (pe_tup (pa_cons pe_int pa_nil)) pe_int) pa_nil)) (pe_op op_mulS pe_str pe_int) (nomark _))
      (pw_or1 (pt_cmpR (op_neD hr.units) (pe_callK0 (E := E0) (ks := ["text"]) GR (hr.mono (by decide)) (by rfl) gR FR.kp kR (fun _ _ _ _ _ _ _ z => (no_cx z).elim) (pk_cons pe_str pk_nil)) (pe_tup (pa_cons pe_int pa_nil)) (nomark _)))))) (pss_one (ps_ret pe_bl)) pss_nil, ?_⟩
  intro D H0 t0 k
  refine ⟨Nat.zero_le _, fun t1 n1 => ⟨.ref t1, nD [], rfl, .tup (SqT.of upd_same) .nil, few_oct fun _ m => (nomatch m), fun ns e _ _ H1 s1 => ?_, fun e => stm_no (a := []) (fun _ m => (nomatch m)) (Nat.zero_le _) e⟩⟩
  cases nD_of (a := []) e
  refine ⟨rfl, _, rfl, iteNS rfl ?_⟩
  have lt : ∀ n ∈ List.replicate 50000 255, n < 256 := fun n m => by rw [List.eq_of_mem_replicate m]; decide
  refine ⟨sz 1 (by decide), fun t2 n2 => ⟨t2, 50000, .int ((255 : Nat) : Int), rfl, rfl, SqT.of upd_same, by decide, by decide, fun p np => ⟨.ref p, nD (List.replicate 50000 255), rfl, rep_sd, few_oct lt, fun ns e _ _ H2 s2 => ?_, fun e => stm_no lt (by rw [List.length_replicate]; exact Nat.le_refl _) e⟩⟩⟩
  have en := nD_of e
  subst en
  have e5 : hexT (List.replicate 50000 255) = manyS 102 100000 := (hexT_many 50000).trans (congrArg (manyS 102) (show 2 * 50000 = 100000 by decide))
  have ef : hexT (List.replicate 50000 255) = ⟨(List.replicate 100000 ("f" : Str).cps).foldl (· ++ ·) #[]⟩ := e5.trans (many_eq 102 100000).symm
  clear e5
  generalize hexT (List.replicate 50000 255) = Xs at *
  refine ⟨"f", 100000, rfl, rfl, by decide, by decide, by decide, ?_⟩
  generalize (⟨(List.replicate 100000 ("f" : Str).cps).foldl (· ++ ·) #[]⟩ : Str) = Fs at *
  subst ef
  refine ⟨rfl, _, rfl, iteNS rfl ?_⟩
  refine ⟨.str "a0", .str "a0", rfl, .str _, fun y e => by cases e; decide, fun z e _ p H3 s3 hp => ?_, fun z o e h => ?_, fun h => ?_⟩
  · cases e
    have en : numT "a0" = [160] := by decide +kernel
    rw [en] at hp
    refine ⟨sz 1 (by decide), fun t4 n4 => ?_⟩
    refine ⟨nD [160], nD [160], .tup (sqT_to (same_new n4) hp) nV_dpall, .tup (SqT.of upd_same) (nV_dpall (ns := [160])), nD_shaped _, nD_shaped _, _, rfl, ?_⟩
    rw [nD_eqv]
    exact iteF (k _ ((same_new n1).tr (s1.tr ((same_new n2).tr ((same_new np).tr (s2.tr (s3.tr (same_new n4))))))))
  · cases e
    have en : offT "a0" = none := by decide +kernel
    rw [en] at h
    cases h
  · cases h
theorem bh_s3 (L : Lw P w K mg base) (hr : Room 6 (XBh P w K mg base f cdv A outer s H E).A) :
    ∃ t, PS (XBh P w K mg base f cdv A outer s H E) (sBh 3) t ∧ ∀ (D : Ends) (H0 : Hp) (t0 : Option V), (∀ H1, Same H0 H1 → D.nx [t0, none, none] H1) → t D [t0, none, none] H0 := by
  obtain ⟨fr, dr, FR, gR, GR⟩ := L.lr
  have bR : L2.Binds K dr ["thing"] [] := FR.bindsN fun _ _ _ _ _ _ us hl => match us, hl with | [_], _ => rfl
  have hu := Nat.lt_of_succ_lt (hu_of hr)
  refine ⟨_, ps_if (pt_cmpR (op_neN hu) (pe_lc (own := [("thing", 2)]) (g := gName 2) rfl scBH.nd (pi_tup (pe_tup (pa_cons pe_non (pa_cons pe_int (pa_cons pe_bl (pa_cons (pe_tup (pa_cons pe_str pa_nil)) (pa_cons (pe_lst (pa_cons pe_str pa_nil)) (pa_cons pe_dnewK (pa_cons (pe_tup pa_nil) pa_nil)))))))))
        (blkOk_by (own := [("thing", 2)]) (N := NBH) (sc := defScope sBH) (by decide +kernel)) (fun _ _ _ _ _ => pg_name (i := 2) scBH.nd rfl (Or.inl rfl))
        (fun _ _ _ _ _ => pts_one (pt_cmpR (show OpR _ _ (rNeD K) from op_neD hr.units) (pe_call GR (hr.mono (by decide)) (by rfl) gR FR.kp bR .nil pass0 (pa_cons (pv 2) pa_nil)) (pe_lst (pa_cons pe_non pa_nil)) (nomark _))) (fun _ _ _ _ _ => pv 2)) (pe_lst pa_nil) (nomark _)) (pss_one (ps_ret pe_bl)) pss_nil, ?_⟩
  intro D H0 t0 k
  refine ⟨sz 1 (by decide), fun t1 n1 => ?_⟩
  have s1 := same_new (o := .tup [.str "a0"]) n1
  have h1 : (upd H0 t1 (.tup [.str "a0"])) t1 = some (.tup [.str "a0"]) := upd_same
  generalize upd H0 t1 (.tup [.str "a0"]) = H1 at *
  refine ⟨sz 1 (by decide), fun t2 n2 => ?_⟩
  have s2 := same_new (o := .lst [.str "a0"]) n2
  have h2 : (upd H1 t2 (.lst [.str "a0"])) t2 = some (.lst [.str "a0"]) := upd_same
  have h1 := s2 _ _ h1
  generalize upd H1 t2 (.lst [.str "a0"]) = H2 at *
  refine fun q nq => ?_
  have s3 := same_new (o := .dK []) nq
  have h3 : (upd H2 q (.dK [])) q = some (.dK []) := upd_same
  have h1 := s3 _ _ h1
  have h2 := s3 _ _ h2
  generalize upd H2 q (.dK []) = H3 at *
  refine ⟨Nat.zero_le _, fun t4 n4 => ?_⟩
  have s4 := same_new (o := .tup []) n4
  have h4 : (upd H3 t4 (.tup [])) t4 = some (.tup []) := upd_same
  have h1 := s4 _ _ h1
  have h2 := s4 _ _ h2
  have h3 := s4 _ _ h3
  generalize upd H3 t4 (.tup []) = H4 at *
  refine ⟨sz 7 (by decide), fun tt ntt => ?_⟩
  have s5 := same_new (o := .tup [.non, .int 1, .bl true, .ref t1, .ref t2, .ref q, .ref t4]) ntt
  have h5 : (upd H4 tt (.tup [.non, .int 1, .bl true, .ref t1, .ref t2, .ref q, .ref t4])) tt = some (.tup [.non, .int 1, .bl true, .ref t1, .ref t2, .ref q, .ref t4]) := upd_same
  have h1 := s5 _ _ h1
  have h2 := s5 _ _ h2
  have h3 := s5 _ _ h3
  have h4 := s5 _ _ h4
  generalize upd H4 tt (.tup [.non, .int 1, .bl true, .ref t1, .ref t2, .ref q, .ref t4]) = H5 at *
  have all : ∀ x ∈ ([.non, .int 1, .bl true, .ref t1, .ref t2, .ref q, .ref t4] : List V), ∃ d, Sd K H5 x d ∧ isStr d = false := by
    intro x m
    simp only [List.mem_cons, List.not_mem_nil, or_false] at m
    rcases m with rfl | rfl | rfl | rfl | rfl | rfl | rfl
    · exact ⟨_, .non, rfl⟩
    · exact ⟨_, .int _, rfl⟩
    · exact ⟨_, .bl _, rfl⟩
    · exact ⟨_, .tup (SqT.of h1) (.cons (.str _) .nil), rfl⟩
    · exact ⟨_, .lst (SqL.of h2) (.cons (.str _) .nil), rfl⟩
    · exact ⟨_, .emp h3, rfl⟩
    · exact ⟨_, .tup (SqT.of h4) .nil, rfl⟩
  generalize ([.non, .int 1, .bl true, .ref t1, .ref t2, .ref q, .ref t4] : List V) = xs at *
  refine ⟨tt, rfl, ⟨_, SqT.of h5⟩, fun D1 nD1 => lc_it (walk_tup (xs := xs)) (fun i H' => Same H5 H' ∧ H' D1 = some (.lst [])) ⟨same_new nD1, upd_same⟩ (fun i H' _ z => SqT.of (z.1 _ _ h5)) ?_ ?_⟩
  · rintro i x H6 H7 hi ⟨s6, hD⟩ ⟨rfl, hx⟩
    obtain ⟨d, hd, nd⟩ := all x (List.mem_of_getElem? hx)
    refine ⟨rfl, ?_⟩
    refine ⟨_, rfl, x, d, rfl, sd_to hd s6, fun z e => (by rw [e] at nd; cases nd), fun r H8 s7 dr => ?_⟩
    have er : resD d = .list [.none] := by
      cases d with
      | str z => cases nd
      | _ => rfl
    rw [er] at dr
    refine ⟨sz 1 (by decide), fun u nu => ?_⟩
    have dr2 := sd_to dr (same_new (o := .lst [.non]) nu)
    have dp : Dp K (upd H8 u (.lst [.non])) r (.list [.none]) := by
      cases dr2 with
      | lst hq ha =>
        cases ha with
        | cons a b =>
          cases a
          cases b
          exact .lst hq (.cons .non .nil)
    refine ⟨.list [.none], .list [.none], dp, .lst (SqL.of upd_same) (.cons .non .nil), by decide, by decide, _, rfl, ?_⟩
    have e : PyData.eqv (.list [.none]) (.list [.none]) = true := by decide +kernel
    rw [e]
    have s8 := s7.tr (same_new (o := .lst [.non]) nu)
    exact iteF ⟨s6.tr s8, s8 _ _ hD⟩
  · rintro H6 ⟨s6, hD⟩
    refine ⟨Nat.zero_le _, fun u nu => ⟨D1, u, [], rfl, rfl, SqL.of (same_new nu _ _ hD), SqL.of upd_same, _, rfl, iteF (k _ (s1.tr (s2.tr (s3.tr (s4.tr (s5.tr (s6.tr (same_new nu))))))))⟩⟩
end
end Kx

set_option Elab.async false
set_option linter.all false
set_option maxRecDepth 100000
set_option maxHeartbeats 2000000
namespace Kx
open PySem PySem.Spec PyProof.Rows L2 StX
/-- an object that is no stream, and can be shown -/
structure NoStm (d : PyData) : Prop where
  few : few d
  no : isStm d = false
  show_ : ShowD d
theorem few_small {d : PyData} (h : ∀ ds, d = .tuple ds → ∀ i : Int, PyData.int i ∈ ds → i ∈ ([256, -1, 0, 160] : List Int)) : few d := fun ds e => ⟨[256, -1, 0, 160], by decide, h ds e⟩
theorem zeros_no {k : Nat} (h : 50000 < k) (l : k ≤ 60000) : NoStm (nD (List.replicate k 0)) := ⟨few_rep k 0, stm_great h, zeros_show l⟩
def smalls : List PyData := [.none, .int 1, .str "a0", .list [.int 160], .tuple [.int 256], .tuple [.int (-1)], .tuple [.bool true], .tuple [.str "0"], .tuple [.int 0, .none], .dict [], .tuple [.tuple [.int 160]]]
theorem small_no : ∀ d ∈ smalls, NoStm d := by
  intro d m
  have c : (smalls.all fun d => (!isStm d) && (d.showable && (decide (d.depth ≤ 40) && decide (d.shown.length ≤ 1000)))) = true := by decide +kernel
  have z := List.all_eq_true.mp c d m
  obtain ⟨z1, z⟩ := band z
  obtain ⟨z2, z⟩ := band z
  obtain ⟨z3, z4⟩ := band z
  refine ⟨few_small ?_, by simpa using z1, z2, of_decide_eq_true z3, Nat.le_trans (of_decide_eq_true z4) (by decide)⟩
  intro ds e i mi
  subst e
  simp [smalls] at m
  rcases m with rfl | rfl | rfl | rfl | rfl | rfl <;> simp at mi <;> simp [mi]
section
variable {P : Program} {w : World} {K : PySem.W.Frag} {mg : Str → Option Value} {base : Heap} {f : Addr} {cdv : Value} {A : Around} {outer : List Env} {s : Shared} {H : Hp} {E : XK}
theorem bh_s4 :
    ∃ t, PS (XBh P w K mg base f cdv A outer s H E) (sBh 4) t ∧ ∀ (D : Ends) (H0 : Hp) (t0 : Option V), (∀ H1 (l : Addr) (xs : List V), SqL K H1 l xs → xs.length = 12 → (∀ x ∈ xs, ∃ d, Sd K H1 x d ∧ NoStm d) → Same H0 H1 → D.nx [t0, some (.ref l), none] H1) → t D [t0, none, none] H0 := by
  refine ⟨_, ps_set (i := 1) scBH.nd rfl (Or.inl rfl) (pe_lst (pa_cons pe_non (pa_cons pe_int (pa_cons pe_str (pa_cons (pe_lst (pa_cons pe_int pa_nil)) (pa_cons (pe_tup (pa_cons pe_int pa_nil)) (pa_cons (pe_tup (pa_cons (pe_un un_neg pe_int) pa_nil)) (pa_cons (pe_tup (pa_cons pe_bl pa_nil)) (pa_cons (pe_tup (pa_cons pe_str pa_nil))
      (pa_cons (pe_tup (pa_cons pe_int (pa_cons pe_non pa_nil))) (pa_cons (pe_op op_rep1 (pe_tup (pa_cons pe_int pa_nil)) pe_int) (pa_cons pe_dnewK (pa_cons (pe_tup (pa_cons (pe_tup (pa_cons pe_int pa_nil)) pa_nil)) pa_nil))))))))))))), ?_⟩
  intro D H0 t0 k
  refine ⟨sz 1 (by decide), fun t1 n_t1 => ?_⟩
  have s_t1 := same_new (o := .lst [.int 160]) n_t1
  have h_t1 : (upd H0 t1 (.lst [.int 160])) t1 = some (.lst [.int 160]) := upd_same
  generalize upd H0 t1 (.lst [.int 160]) = H1 at *
  refine ⟨sz 1 (by decide), fun t2 n_t2 => ?_⟩
  have s_t2 := same_new (o := .tup [.int 256]) n_t2
  have h_t2 : (upd H1 t2 (.tup [.int 256])) t2 = some (.tup [.int 256]) := upd_same
  have h_t1 := s_t2 _ _ h_t1
  generalize upd H1 t2 (.tup [.int 256]) = H2 at *
  refine ⟨_, rfl, sz 1 (by decide), fun t3 n_t3 => ?_⟩
  have s_t3 := same_new (o := .tup [.int (-1)]) n_t3
  have h_t3 : (upd H2 t3 (.tup [.int (-1)])) t3 = some (.tup [.int (-1)]) := upd_same
  have h_t1 := s_t3 _ _ h_t1
  have h_t2 := s_t3 _ _ h_t2
  generalize upd H2 t3 (.tup [.int (-1)]) = H3 at *
  refine ⟨sz 1 (by decide), fun t4 n_t4 => ?_⟩
  have s_t4 := same_new (o := .tup [.bl true]) n_t4
  have h_t4 : (upd H3 t4 (.tup [.bl true])) t4 = some (.tup [.bl true]) := upd_same
  have h_t1 := s_t4 _ _ h_t1
  have h_t2 := s_t4 _ _ h_t2
  have h_t3 := s_t4 _ _ h_t3
  generalize upd H3 t4 (.tup [.bl true]) = H4 at *
  refine ⟨sz 1 (by decide), fun t5 n_t5 => ?_⟩
  have s_t5 := same_new (o := .tup [.str "0"]) n_t5
  have h_t5 : (upd H4 t5 (.tup [.str "0"])) t5 = some (.tup [.str "0"]) := upd_same
  have h_t1 := s_t5 _ _ h_t1
  have h_t2 := s_t5 _ _ h_t2
  have h_t3 := s_t5 _ _ h_t3
  have h_t4 := s_t5 _ _ h_t4
  generalize upd H4 t5 (.tup [.str "0"]) = H5 at *
  refine ⟨sz 2 (by decide), fun t6 n_t6 => ?_⟩
  have s_t6 := same_new (o := .tup [.int 0, .non]) n_t6
  have h_t6 : (upd H5 t6 (.tup [.int 0, .non])) t6 = some (.tup [.int 0, .non]) := upd_same
  have h_t1 := s_t6 _ _ h_t1
  have h_t2 := s_t6 _ _ h_t2
  have h_t3 := s_t6 _ _ h_t3
  have h_t4 := s_t6 _ _ h_t4
  have h_t5 := s_t6 _ _ h_t5
  generalize upd H5 t6 (.tup [.int 0, .non]) = H6 at *
  refine ⟨sz 1 (by decide), fun t7 n_t7 => ?_⟩
  have s_t7 := same_new (o := .tup [.int ((0 : Nat) : Int)]) n_t7
  have h_t7 : (upd H6 t7 (.tup [.int ((0 : Nat) : Int)])) t7 = some (.tup [.int ((0 : Nat) : Int)]) := upd_same
  have h_t1 := s_t7 _ _ h_t1
  have h_t2 := s_t7 _ _ h_t2
  have h_t3 := s_t7 _ _ h_t3
  have h_t4 := s_t7 _ _ h_t4
  have h_t5 := s_t7 _ _ h_t5
  have h_t6 := s_t7 _ _ h_t6
  generalize upd H6 t7 (.tup [.int ((0 : Nat) : Int)]) = H7 at *
  refine ⟨t7, 50001, .int ((0 : Nat) : Int), rfl, rfl, SqT.of h_t7, by decide, by decide, fun t8 n_t8 => ?_⟩
  have s_t8 := same_new (o := .tup (List.replicate 50001 (.int ((0 : Nat) : Int)))) n_t8
  have d8 : Sd K (upd H7 t8 (.tup (List.replicate 50001 (.int ((0 : Nat) : Int))))) (.ref t8) (nD (List.replicate 50001 0)) := rep_sd
  have h_t1 := s_t8 _ _ h_t1
  have h_t2 := s_t8 _ _ h_t2
  have h_t3 := s_t8 _ _ h_t3
  have h_t4 := s_t8 _ _ h_t4
  have h_t5 := s_t8 _ _ h_t5
  have h_t6 := s_t8 _ _ h_t6
  have h_t7 := s_t8 _ _ h_t7
  generalize upd H7 t8 (.tup (List.replicate 50001 (.int ((0 : Nat) : Int)))) = H8 at *
  refine fun t9 n_t9 => ?_
  have s_t9 := same_new (o := .dK []) n_t9
  have h_t9 : (upd H8 t9 (.dK [])) t9 = some (.dK []) := upd_same
  have h_t1 := s_t9 _ _ h_t1
  have h_t2 := s_t9 _ _ h_t2
  have h_t3 := s_t9 _ _ h_t3
  have h_t4 := s_t9 _ _ h_t4
  have h_t5 := s_t9 _ _ h_t5
  have h_t6 := s_t9 _ _ h_t6
  have h_t7 := s_t9 _ _ h_t7
  generalize upd H8 t9 (.dK []) = H9 at *
  have d8 := sd_to d8 s_t9
  refine ⟨sz 1 (by decide), fun ta n_ta => ?_⟩
  have s_ta := same_new (o := .tup [.int 160]) n_ta
  have h_ta : (upd H9 ta (.tup [.int 160])) ta = some (.tup [.int 160]) := upd_same
  have h_t1 := s_ta _ _ h_t1
  have h_t2 := s_ta _ _ h_t2
  have h_t3 := s_ta _ _ h_t3
  have h_t4 := s_ta _ _ h_t4
  have h_t5 := s_ta _ _ h_t5
  have h_t6 := s_ta _ _ h_t6
  have h_t7 := s_ta _ _ h_t7
  have h_t9 := s_ta _ _ h_t9
  generalize upd H9 ta (.tup [.int 160]) = H10 at *
  have d8 := sd_to d8 s_ta
  refine ⟨sz 1 (by decide), fun tb n_tb => ?_⟩
  have s_tb := same_new (o := .tup [.ref ta]) n_tb
  have h_tb : (upd H10 tb (.tup [.ref ta])) tb = some (.tup [.ref ta]) := upd_same
  have h_t1 := s_tb _ _ h_t1
  have h_t2 := s_tb _ _ h_t2
  have h_t3 := s_tb _ _ h_t3
  have h_t4 := s_tb _ _ h_t4
  have h_t5 := s_tb _ _ h_t5
  have h_t6 := s_tb _ _ h_t6
  have h_t7 := s_tb _ _ h_t7
  have h_t9 := s_tb _ _ h_t9
  have h_ta := s_tb _ _ h_ta
  generalize upd H10 tb (.tup [.ref ta]) = H11 at *
  have d8 := sd_to d8 s_tb
  refine ⟨sz 12 (by decide), fun tl n_tl => ?_⟩
  have s_tl := same_new (o := .lst [.non, .int 1, .str "a0", .ref t1, .ref t2, .ref t3, .ref t4, .ref t5, .ref t6, .ref t8, .ref t9, .ref tb]) n_tl
  have h_tl : (upd H11 tl (.lst [.non, .int 1, .str "a0", .ref t1, .ref t2, .ref t3, .ref t4, .ref t5, .ref t6, .ref t8, .ref t9, .ref tb])) tl = some (.lst [.non, .int 1, .str "a0", .ref t1, .ref t2, .ref t3, .ref t4, .ref t5, .ref t6, .ref t8, .ref t9, .ref tb]) := upd_same
  have h_t1 := s_tl _ _ h_t1
  have h_t2 := s_tl _ _ h_t2
  have h_t3 := s_tl _ _ h_t3
  have h_t4 := s_tl _ _ h_t4
  have h_t5 := s_tl _ _ h_t5
  have h_t6 := s_tl _ _ h_t6
  have h_t7 := s_tl _ _ h_t7
  have h_t9 := s_tl _ _ h_t9
  have h_ta := s_tl _ _ h_ta
  have h_tb := s_tl _ _ h_tb
  generalize upd H11 tl (.lst [.non, .int 1, .str "a0", .ref t1, .ref t2, .ref t3, .ref t4, .ref t5, .ref t6, .ref t8, .ref t9, .ref tb]) = H12 at *
  have d8 := sd_to d8 s_tl
  refine k _ tl _ (SqL.of h_tl) rfl (fun x m => ?_) (s_t1.tr (s_t2.tr (s_t3.tr (s_t4.tr (s_t5.tr (s_t6.tr (s_t7.tr (s_t8.tr (s_t9.tr (s_ta.tr (s_tb.tr s_tl)))))))))))
  have sm := small_no
  simp only [List.mem_cons, List.not_mem_nil, or_false] at m
  rcases m with rfl | rfl | rfl | rfl | rfl | rfl | rfl | rfl | rfl | rfl | rfl | rfl
  · exact ⟨_, .non, sm _ (by simp [smalls])⟩
  · exact ⟨_, .int 1, sm _ (by simp [smalls])⟩
  · exact ⟨_, .str "a0", sm _ (by simp [smalls])⟩
  · exact ⟨_, .lst (SqL.of h_t1) (.cons (.int _) .nil), sm _ (by simp [smalls])⟩
  · exact ⟨_, .tup (SqT.of h_t2) (.cons (.int _) .nil), sm _ (by simp [smalls])⟩
  · exact ⟨_, .tup (SqT.of h_t3) (.cons (.int _) .nil), sm _ (by simp [smalls])⟩
  · exact ⟨_, .tup (SqT.of h_t4) (.cons (.bl _) .nil), sm _ (by simp [smalls])⟩
  · exact ⟨_, .tup (SqT.of h_t5) (.cons (.str _) .nil), sm _ (by simp [smalls])⟩
  · exact ⟨_, .tup (SqT.of h_t6) (.cons (.int _) (.cons .non .nil)), sm _ (by simp [smalls])⟩
  · exact ⟨_, d8, zeros_no (by decide) (by decide)⟩
  · exact ⟨_, .emp h_t9, sm _ (by simp [smalls])⟩
  · exact ⟨_, .tup (SqT.of h_tb) (.cons (.tup (SqT.of h_ta) (.cons (.int _) .nil)) .nil), sm _ (by simp [smalls])⟩
theorem bh_s5 (L : Lw P w K mg base) (hgu : (XBh P w K mg base f cdv A outer s H E).A.guards = some []) (hr : Room 6 (XBh P w K mg base f cdv A outer s H E).A) :
    ∃ t, PS (XBh P w K mg base f cdv A outer s H E) (sBh 5) t ∧ ∀ (D : Ends) (H0 : Hp) (t0 : Option V) (l : Addr) (xs : List V), SqL K H0 l xs → (∀ x ∈ xs, ∃ d, Sd K H0 x d ∧ NoStm d) → (∀ H1, Same H0 H1 → D.rt (.bl true) H1) → t D [t0, some (.ref l), none] H0 := by
  obtain ⟨fx, dx, FX, gX, GX⟩ := L.lx
  have bX : L2.Binds K dx ["thing"] [] := FX.bindsN fun _ _ _ _ _ _ us hl => match us, hl with | [_], _ => rfl
  have hu := Nat.lt_of_succ_lt (hu_of hr)
  refine ⟨_, ps_ret (pe_cmpR (op_eqN hu) (pe_lc (own := [("thing", 2)]) (g := gName 2) rfl scBH.nd (pi_list (pv 1))
        (blkOk_by (own := [("thing", 2)]) (N := NBH) (sc := defScope sBH) (by decide +kernel)) (fun _ _ _ _ _ => pg_name (i := 2) scBH.nd rfl (Or.inl rfl))
        (fun _ _ _ _ _ => pts_one (pt_not (pt_val (pe_callG hgu GX (hr.mono (by decide)) (by rfl) gX FX.kp bX .nil pass0 (pa_cons (pv 2) pa_nil))))) (fun _ _ _ _ _ => pv 2)) (pe_lst pa_nil) (nomark _)), ?_⟩
  intro D H0 t0 l xs hl all k
  refine ⟨_, rfl, l, rfl, ⟨_, hl⟩, fun D1 nD1 => lc_it (walk_list (xs := xs)) (fun i H' => Same H0 H' ∧ H' D1 = some (.lst [])) ⟨same_new nD1, upd_same⟩ (fun i H' _ z => z.1.seq hl) ?_ ?_⟩
  · rintro i x H6 H7 hi ⟨s6, hD⟩ ⟨rfl, hx⟩
    obtain ⟨d, hd, nd⟩ := all x (List.mem_of_getElem? hx)
    refine ⟨rfl, ?_⟩
    refine ⟨_, rfl, x, d, rfl, sd_to hd s6, nd.few, nd.no, nd.show_.sh, nd.show_.dep, nd.show_.len, fun H8 s7 => ⟨_, rfl, iteF ⟨s6.tr s7, s7 _ _ hD⟩⟩⟩
  · rintro H6 ⟨s6, hD⟩
    exact ⟨Nat.zero_le _, fun u nu => ⟨D1, u, [], rfl, rfl, SqL.of (same_new nu _ _ hD), SqL.of upd_same, k _ (s6.tr (same_new nu))⟩⟩
end
def spBH : Sp := fun vs H Q _ => vs = [] ∧ ∀ H', Same H H' → Q (.bl true) H'
section
variable {P : Program} {w : World} {K : PySem.W.Frag} {mg : Str → Option Value} {base : Heap}
theorem ok_bh {f : Addr} {fd : FuncData} (F : FnP K "_law_by_hand_right" sBH f fd) (L : Lw P w K mg base) (N : Nm mg) (SY : SysK K) : FnG P w K mg base CX0 7 f fd [] spBH := by
  refine F.okG scBH (fun vs H Q E h => ?_) (fun cdv A outer s H vs Q E hgu hr h => ?_)
  · obtain ⟨rfl, _⟩ := h
    rfl
  · obtain ⟨t0, p0, q0⟩ := bh_s0 (base := base) (f := f) (cdv := cdv) (A := A) (outer := outer) (s := s) (H := H) (E := E) L N SY hgu hr
    obtain ⟨t1, p1, q1⟩ := bh_s1 (base := base) (f := f) (cdv := cdv) (A := A) (outer := outer) (s := s) (H := H) (E := E) L hr
    obtain ⟨t2, p2, q2⟩ := bh_s2 (base := base) (f := f) (cdv := cdv) (A := A) (outer := outer) (s := s) (H := H) (E := E) L hr
    obtain ⟨t3, p3, q3⟩ := bh_s3 (base := base) (f := f) (cdv := cdv) (A := A) (outer := outer) (s := s) (H := H) (E := E) L hr
    obtain ⟨t4, p4, q4⟩ := bh_s4 (P := P) (w := w) (K := K) (mg := mg) (base := base) (f := f) (cdv := cdv) (A := A) (outer := outer) (s := s) (H := H) (E := E)
    obtain ⟨t5, p5, q5⟩ := bh_s5 (base := base) (f := f) (cdv := cdv) (A := A) (outer := outer) (s := s) (H := H) (E := E) L hgu hr
    rw [bh_body]
    refine ⟨_, PSs.nox (pss_cons p0 (pss_cons p1 (pss_cons p2 (pss_cons p3 (pss_cons p4 (pss_one p5)))))), ?_⟩
    obtain ⟨rfl, k⟩ := h
    exact q0 _ _ fun H1 t0 s1 => q1 _ _ _ fun H2 s2 => q2 _ _ _ fun H3 s3 => q3 _ _ _ fun H4 s4 => q4 _ _ _ fun H5 l xs hl _ all s5 => q5 _ _ _ _ _ hl all fun H6 s6 => k H6 (s1.tr (s2.tr (s3.tr (s4.tr (s5.tr s6)))))
end
end Kx

set_option Elab.async false
set_option linter.all false
set_option maxRecDepth 100000
set_option maxHeartbeats 4000000
namespace L2
open PySem PySem.Spec PyProof.Rows
section
variable {X : Cx} {CX : CXT} {k : Nat} {f : Addr} {fd : FuncData} {ps : List Str} {sp : Sp} {E : XK} {x : Str} {p pos : Pos}
/-- g() of a def promised where nothing is being shown -/
theorem pe_callG0 (hgu : X.A.guards = some []) (F : FnG X.prog X.w X.K X.mg X.base CX k f fd ps sp) (hr : Room k X.A) (hg : Gl X x) (hm : X.mg x = some (.ref f)) (hk : PySem.W.keepIn X.K (.ref f) = true) (hb : Binds X.K fd ps []) (hx : Passes CX X E)
    (hdb : (x == ("__debug__" : Str)) = false := by decide) : PE X (.Call (.Name x p) [] [] pos) (fun _ H Q => sp [] H Q E) := by
  refine ⟨fun pins s σ H Q I q => wpAny_Call_Name_kw (ld_glob I hg hm (PySem.W.callWith_K0 I.kIn hk ?_) hdb)⟩
  refine wpAny_call (codeAny_mono (F.run X.A hgu hr X.stack s H ⟨[], []⟩ [] [] Q E I.env0 (hb s [] I.kIn (F.len _ _ _ _ q)) .nil q) fun rs s' hq => ?_)
  cases rs with
  | error er => exact hx pins σ H s er s' I hq
  | ok fl =>
    cases fl with
    | ret u => exact I.after hq
    | next => exact hq.elim
    | brk => exact hq.elim
    | cont => exact hq.elim
end
end L2
namespace Kx
open PySem PySem.Spec PyProof.Rows L2 StX
abbrev sLaw : Stmt := top 28
abbrev NL : List Str := ["script", "draw", "turn", "some", "due", "k", "told", "one"]
theorem scLaw : FnScope NL ["script"] (defScope sLaw) := ⟨rfl, rfl, rfl, by decide +kernel, rfl, by decide +kernel, by decide +kernel⟩
def spLaw (K : PySem.W.Frag) : Sp := fun vs H Q _ => ∃ (a : Addr) (ns : List Int), vs = [.ref a] ∧ SqL K H a (ns.map V.int) ∧ ns.length ≤ 63 ∧ ∀ H', Q (.bl true) H'
theorem draw_updL {H : Hp} {p l : Addr} {N : Nat} {xs ys : List V} (d : DrawAt H p N) (n1 : l ≠ p) (h : H l = some (.lst xs)) (nc : ∀ l', CellsAt H p l' → l' ≠ l) : DrawAt (upd H l (.lst ys)) p N := by
  obtain ⟨c, cs, a, lf, us, hp, hl, r⟩ := d
  have nl : c ≠ l := nc c ⟨a, lf, us, hp⟩
  exact ⟨c, cs, a, lf, us, by rw [upd_ne n1.symm]; exact hp, by rw [upd_ne nl]; exact hl, r⟩
theorem cells_ne {H H' : Hp} {p l : Addr} {N : Nat} (d : DrawAt H p N) (k : Keep p H H') (n : H l = none) : ∀ l', CellsAt H' p l' → l' ≠ l := fun l' z => by
  obtain ⟨c, cs, a, lf, us, hp, hl, r⟩ := d
  rw [cells_one z (k.cells c ⟨a, lf, us, hp⟩)]
  exact ne_of_none hl n
theorem keep_updN {H H' : Hp} {p l : Addr} {o : HO} (k : Keep p H H') (n : H l = none) (n1 : l ≠ p) : Keep p H (upd H' l o) := ⟨fun b u e nb => by
  rw [upd_ne (ne_of_none e n)]
  exact k b u e nb, fun c h => by
  obtain ⟨x, y, z, e⟩ := k.cells c h
  exact ⟨x, y, z, by rw [upd_ne n1.symm]; exact e⟩⟩
/-! ### what is written is read -/
theorem hexC_at : ∀ {ns : List Nat} {k n : Nat}, ns[k]? = some n → (hexC ns)[2 * k]? = some (hx1 (n / 16)) ∧ (hexC ns)[2 * k + 1]? = some (hx1 (n % 16))
  | [], _, _, h => by cases h
  | a :: ns, 0, n, h => by
    cases h
    exact ⟨rfl, rfl⟩
  | a :: ns, k + 1, n, h => hexC_at (ns := ns) (k := k) h
theorem hx_hex {i : Nat} (h : i < 16) : isHex (hx1 i) = true ∧ dig (hx1 i) = i := sg_hex h
theorem hexC_hex : ∀ {ns : List Nat}, (∀ n ∈ ns, n < 256) → ∀ c ∈ hexC ns, isHex c = true
  | [], _, c, m => nomatch m
  | n :: ns, h, c, m => by
    have m' : c ∈ [hx1 (n / 16), hx1 (n % 16)] ++ hexC ns := m
    have hn := h n (List.mem_cons_self ..)
    rcases List.mem_append.mp m' with m' | m'
    · simp only [List.mem_cons, List.not_mem_nil, or_false] at m'
      rcases m' with rfl | rfl
      · exact (hx_hex (by omega)).1
      · exact (hx_hex (by omega)).1
    · exact hexC_hex (fun x hx => h x (List.mem_cons_of_mem _ hx)) c m'
theorem hexT_len (ns : List Nat) : (hexT ns).length = 2 * ns.length := by
  show (hexC ns).toArray.size = _
  rw [List.size_toArray, hexC_len]
theorem lo_hex {z : Str} (h : ∀ c ∈ z.cps.toList, isHex c = true) : lo z = z.length := by
  unfold lo
  rw [takeWhile_all h]
  exact Array.length_toList
theorem off_hexT {ns : List Nat} (h : ∀ n ∈ ns, n < 256) (l : ns.length ≤ 50000) : offT (hexT ns) = none := by
  unfold offT
  rw [lo_hex (z := hexT ns) (hexC_hex h), hexT_len, if_neg (by omega), if_neg (by omega), if_neg (by omega)]
theorem num_hexT {ns : List Nat} (h : ∀ n ∈ ns, n < 256) : numT (hexT ns) = ns := by
  unfold numT
  rw [hexT_len]
  have e : 2 * ns.length / 2 = ns.length := by omega
  rw [e]
  apply List.ext_getElem?
  intro k
  rw [List.getElem?_map]
  by_cases c : k < ns.length
  · rw [List.getElem?_range c]
    obtain ⟨n, hn⟩ : ∃ n, ns[k]? = some n := ⟨_, List.getElem?_eq_getElem c⟩
    obtain ⟨e1, e2⟩ := hexC_at hn
    have g : ∀ {j x : Nat}, (hexC ns)[j]? = some x → (hexT ns).cps.getD j 0 = x := fun {j x} e => by
      rw [Array.getD_eq_getD_getElem?]
      show ((hexC ns).toArray[j]?).getD 0 = x
      rw [List.getElem?_toArray, e]
      rfl
    have hlt := h n (List.mem_of_getElem? hn)
    rw [hn]
    show some (16 * dig ((hexT ns).cps.getD (2 * k) 0) + dig ((hexT ns).cps.getD (2 * k + 1) 0)) = some n
    rw [g e1, g e2, (hx_hex (by omega)).2, (hx_hex (by omega)).2]
    congr 1
    omega
  · rw [List.getElem?_eq_none (by rw [List.length_range]; omega), List.getElem?_eq_none (by omega)]
    rfl
theorem res_hexT {ns : List Nat} (h : ∀ n ∈ ns, n < 256) (l : ns.length ≤ 50000) : resD (.str (hexT ns)) = nD ns := by
  show (match offT (hexT ns) with
    | some o => PyData.list [.int (o : Nat)]
    | none => nD (numT (hexT ns))) = _
  rw [off_hexT h l, num_hexT h]
section
variable {P : Program} {w : World} {K : PySem.W.Frag} {mg : Str → Option Value} {base : Heap}
theorem ok_law {f : Addr} {fd : FuncData} (F : FnP K "law" sLaw f fd) (L : Lw P w K mg base) (N : Nm mg) (SY : SysK K) (D : Dr K mg) (BH : ∃ f fd, FnP K "_law_by_hand_right" sBH f fd ∧ mg "_law_by_hand_right" = some (.ref f)) (BT : ∃ f fd, FnP K "_law_bent" sBent f fd ∧ mg "_law_bent" = some (.ref f)) : FnG P w K mg base CX0 8 f fd ["script"] (spLaw K) := by
  obtain ⟨f1, d1, F1, g1⟩ := D.begin_
  have G1 : FnOk P w K mg base CX0 1 f1 d1 ["script"] (spBegin K) := ok_begin F1
  have b1 : L2.Binds K d1 ["script"] [] := F1.bindsN fun _ _ _ _ _ _ us hl => match us, hl with | [_], _ => rfl
  obtain ⟨fX, dX, FX, gX⟩ := D.next
  obtain ⟨fM, dM, FM, gM⟩ := D.mixed
  have GX : FnOk P w K mg base CX0 2 fX dX ["draw", "bound"] spNext := ok_next FX FM gM N.len
  have bX : L2.Binds K dX ["draw", "bound"] [] := FX.bindsN fun _ _ _ _ _ _ us hl => match us, hl with | [_, _], _ => rfl
  obtain ⟨fH, dH_, FH, gH⟩ := BH
  have GH : FnG P w K mg base CX0 7 fH dH_ [] spBH := ok_bh FH L N SY
  have bH : L2.Binds K dH_ [] [] := FH.bindsN fun _ _ _ _ _ _ us hl => match us, hl with | [], _ => rfl
  obtain ⟨fB, dB, FB, gB⟩ := BT
  have GB : FnOk P w K mg base CX0 3 fB dB ["draw", "told"] spBent := ok_bent FB N D
  have bB : L2.Binds K dB ["draw", "told"] [] := FB.bindsN fun _ _ _ _ _ _ us hl => match us, hl with | [_, _], _ => rfl
  obtain ⟨fs, ds, FS, gS, GS⟩ := L.st
  have bS : L2.Binds K ds ["stream"] [] := FS.bindsN fun _ _ _ _ _ _ us hl => match us, hl with | [_], _ => rfl
  have kS : KBinds K ds ["stream"] ["stream"] (fun us ws => us ++ ws) (fun vs zs => vs ++ zs) := kb_of FS fun _ _ _ _ _ _ us ws hl => match us, ws, hl with | [], [_], _ => rfl | [_], [], _ => rfl
  obtain ⟨fr, dr, FR, gR, GR⟩ := L.lr
  have bR : L2.Binds K dr ["thing"] [] := FR.bindsN fun _ _ _ _ _ _ us hl => match us, hl with | [_], _ => rfl
  obtain ⟨fd_, dd, FD, gD, GD⟩ := L.ld
  have bD : L2.Binds K dd ["told"] [] := FD.bindsN fun _ _ _ _ _ _ us hl => match us, hl with | [_], _ => rfl
  refine F.okG scLaw (fun vs H Q E h => ?_) (fun cdv A outer s H vs Q E hgu hr h => ?_)
  · obtain ⟨a, ns, rfl, _⟩ := h
    rfl
  · refine ⟨_, PSs.nox (pss_cons (ps_set (i := 1) scLaw.nd rfl (Or.inr rfl) (pe_call G1 (hr.mono (by decide)) (by rfl) g1 F1.kp b1 .nil pass0 (pa_cons (pv 0) pa_nil)))
      (pss_cons (ps_if (pt_not (pt_val (pe_callG0 hgu GH hr (by rfl) gH FH.kp bH pass0))) (pss_one (ps_ret pe_bl)) pss_nil)
      (pss_cons (ps_for PassesOwn.never rfl (pi_range1 (by rfl) N.rng (pa_cons pe_int pa_nil)) (pg_name (i := 2) scLaw.nd rfl (Or.inl rfl))
        (pss_cons (ps_set (i := 3) scLaw.nd rfl (Or.inl rfl) (pe_callTy call_tuple_of (by rfl) N.tuple (by decide +kernel) (pa_cons (pe_lc (own := [("k", 5)]) (g := gName 5) (tt := tYes) rfl scLaw.nd
            (pi_range1 (by rfl) N.rng (pa_cons (pe_call GX (hr.mono (by decide)) (by rfl) gX FX.kp bX .nil pass0 (pa_cons (pv 1) (pa_cons pe_int pa_nil))) pa_nil)) (blkOk_by (own := [("k", 5)]) (N := NL) (sc := defScope sLaw) (by decide +kernel))
            (fun _ _ _ _ _ => pg_name (i := 5) scLaw.nd rfl (Or.inl rfl)) (fun _ _ _ _ _ => pts_nil) (fun _ _ _ _ _ => pe_call GX (hr.mono (by decide)) (by rfl) gX FX.kp bX .nil pass0 (pa_cons (pv 1) (pa_cons pe_int pa_nil)))) pa_nil)))
        (pss_cons (ps_set (i := 4) scLaw.nd rfl (Or.inl rfl) (pe_bm PySem.F.plainAttrs_str PySem.F.slot_str_join PySem.F.type_str_join mt_join pe_str (pa_cons (pe_lc (own := [("one", 7)]) (g := gName 7) (tt := tYes) rfl scLaw.nd (pi_tup (pv 3)) (blkOk_by (own := [("one", 7)]) (N := NL) (sc := defScope sLaw) (by decide +kernel))
            (fun _ _ _ _ _ => pg_name (i := 7) scLaw.nd rfl (Or.inl rfl)) (fun _ _ _ _ _ => pts_nil)
            (fun _ _ _ _ _ => pe_op op_add_str (pe_ix ix_str pe_str (pe_op op_fdiv (pv 7) pe_int) (fun _ _ => rfl)) (pe_ix ix_str pe_str (pe_op op_mod (pv 7) pe_int) (fun _ _ => rfl)))) pa_nil)))
        (pss_cons (ps_if (PW.pt (pw_or (pt_cmpR op_ne (pe_call (E := E0) GS (hr.mono (by decide)) (by rfl) gS FS.kp bS .nil (fun _ _ _ _ _ _ _ z => (no_cx z).elim) (pa_cons (pv 3) pa_nil)) (pv 4) (nomark _))
            (pw_or (pt_cmpR op_ne (pe_callK0 (E := E0) (ks := ["stream"]) GS (hr.mono (by decide)) (by rfl) gS FS.kp kS (fun _ _ _ _ _ _ _ z => (no_cx z).elim) (pk_cons (pv 3) pk_nil)) (pv 4) (nomark _))
            (pw_or1 (pt_cmpR (op_neD hr.units) (pe_call GR (hr.mono (by decide)) (by rfl) gR FR.kp bR .nil pass0 (pa_cons (pv 4) pa_nil)) (pv 3) (nomark _)))))) (pss_one (ps_ret pe_bl)) pss_nil)
        (pss_one (ps_for PassesOwn.never rfl (pi_range1 (by rfl) N.rng (pa_cons pe_int pa_nil)) (pg_name (i := 5) scLaw.nd rfl (Or.inl rfl))
          (pss_cons (ps_set (i := 6) scLaw.nd rfl (Or.inl rfl) (pe_call GB (hr.mono (by decide)) (by rfl) gB FB.kp bB .nil pass0 (pa_cons (pv 1) (pa_cons (pv 4) pa_nil))))
          (pss_one (ps_for PassesOwn.never rfl (pi_tup (pe_tup (pa_cons (pv 6) (pa_cons (pe_call GB (hr.mono (by decide)) (by rfl) gB FB.kp bB .nil pass0 (pa_cons (pv 1) (pa_cons (pv 6) pa_nil))) pa_nil)))) (pg_name (i := 7) scLaw.nd rfl (Or.inl rfl))
            (pss_one (ps_if (pt_cmpR op_ne (pe_callB (call_repr hgu hr SY) (by rfl) N.repr boot_repr (pa_cons (pe_call GR (hr.mono (by decide)) (by rfl) gR FR.kp bR .nil pass0 (pa_cons (pv 7) pa_nil)) pa_nil)) (pe_callB (call_repr hgu hr SY) (by rfl) N.repr boot_repr (pa_cons (pe_call GD (hr.mono (by decide)) (by rfl) gD FD.kp bD .nil pass0 (pa_cons (pv 7) pa_nil)) pa_nil)) (nomark _)) (pss_one (ps_ret pe_bl)) pss_nil)))))))))))
      (pss_one (ps_ret pe_bl))))), ?_⟩
    obtain ⟨a, ns, rfl, hS, hl, k⟩ := h
    refine ⟨_, rfl, a, ns, rfl, hS, hl, fun p H1 np s1 dr1 => ?_⟩
    refine ⟨rfl, fun H2 s2 => ⟨_, rfl, iteF ?_⟩⟩
    have dr2 := dr1.same s2
    refine ⟨_, rfl, by decide, by decide, for_it (walk_range (lo := 0) (n := 3)) (fun i σ H' => ∃ t2 t3 t4 t5 t6 t7 : Option V, σ = [some (.ref a), some (.ref p), t2, t3, t4, t5, t6, t7] ∧ DrawAt H' p (200 * i)) ⟨none, none, none, none, none, none, rfl, dr2⟩ (fun _ _ _ _ _ => True.intro) ?_ ?_⟩
    rotate_left
    · rintro σ H' ⟨t2, t3, t4, t5, t6, t7, rfl, _⟩
      exact k H'
    rintro i x σ Ha Ha' hi ⟨t2, t3, t4, t5, t6, t7, rfl, dA⟩ ⟨eH, rfl⟩
    subst eH
    refine ⟨_, rfl, p, 41, _, rfl, dA, by omega, by decide, by decide, fun r H3 ra rb D3 k3 => ?_⟩
    obtain ⟨m, rfl⟩ := Int.eq_ofNat_of_zero_le ra
    refine ⟨_, rfl, by omega, by omega, fun D4 nD4 => ?_⟩
    rw [Int.toNat_natCast]
    have s4 := same_new (o := .lst []) nD4
    refine lc_it walk_range (fun j H' => Keep p H3 H' ∧ DrawAt H' p (200 * i + 1 + j) ∧ ∃ ms : List Nat, ms.length = j ∧ (∀ n ∈ ms, n < 256) ∧ H' D4 = some (.lst (nV ms))) ⟨Keep.of s4, D3.same s4, [], rfl, (fun _ m => nomatch m), upd_same⟩ (fun _ _ _ _ => True.intro) ?_ ?_
    · rintro j y Hb Hc hj ⟨kb, Db, ms, lm, hm, hDb⟩ ⟨eH, rfl⟩
      subst eH
      refine ⟨rfl, yesT ⟨_, rfl, p, 256, _, rfl, Db, by omega, by decide, by decide, fun q H5 qa qb D5 k5 => ?_⟩⟩
      obtain ⟨n, rfl⟩ := Int.eq_ofNat_of_zero_le qa
      have nDp : D4 ≠ p := fun y => by
        obtain ⟨c, cs, a, lf, us, g1, _⟩ := Db
        rw [y, g1] at hDb
        cases hDb
      have h5 := k5 D4 _ hDb nDp
      have k35 := kb.trans k5
      refine ⟨_, h5, ?_, keep_updN k35 nD4 nDp, ?_, ms ++ [n], by rw [List.length_append, lm]; rfl, fun z mz => ?_, by rw [upd_same]; unfold nV; rw [List.map_append]; rfl⟩
      · unfold nV
        rw [List.length_map, lm]
        exact Nat.lt_of_lt_of_le (show j < 1000 by omega) (by decide)
      · exact (draw_updL D5 nDp h5 (cells_ne D3 k35 nD4)).mono (by omega)
      · rcases List.mem_append.mp mz with mz | mz
        · exact hm z mz
        · rw [List.mem_singleton.mp mz]
          omega
    · rintro H5 ⟨k5, D5, ns2, l2, hn, hD4⟩
      have ln : ns2.length ≤ 41 := by omega
      refine ⟨D4, _, rfl, .inl ⟨SqL.of hD4, fun ta nta => ?_⟩⟩
      have s6 := same_new (o := .tup (nV ns2)) nta
      have hta : (upd H5 ta (.tup (nV ns2))) ta = some (.tup (nV ns2)) := upd_same
      have D6 := D5.same s6
      generalize upd H5 ta (.tup (nV ns2)) = H6 at *
      refine ⟨rfl, _, rfl, ta, rfl, ⟨_, SqT.of hta⟩, fun DJ nDJ => lc_it (walk_tup (xs := nV ns2)) (fun j H' => Same H6 H' ∧ H' DJ = some (.lst (((ns2.take j).map hx2).map V.str))) ⟨same_new nDJ, upd_same⟩ (fun j H' _ z => SqT.of (z.1 _ _ hta)) ?_ ?_⟩
      · rintro j y Hb Hc hj ⟨sb, hDJ⟩ ⟨rfl, hx⟩
        unfold nV at hx
        rw [List.getElem?_map] at hx
        obtain ⟨n, en, rfl⟩ := Option.map_eq_some_iff.mp hx
        have hlt := hn n (List.mem_of_getElem? en)
        have hg : ∀ k : Nat, k < 16 → HEXD.cps.toList[k]? = some (hx1 k) := fun k hk => by
          have z : ((List.range 16).all fun k => decide (HEXD.cps.toList[k]? = some (hx1 k))) = true := by decide +kernel
          exact of_decide_eq_true (List.all_eq_true.mp z k (List.mem_range.mpr hk))
        have q1 : (n : Int) / 16 = ((n / 16 : Nat) : Int) := by omega
        have q2 : (n : Int) % 16 = ((n % 16 : Nat) : Int) := by omega
        refine ⟨rfl, yesT ⟨_, rfl, _, _, rfl, rfl, ⟨by decide, by decide⟩, HEXD, _, hx1 (n / 16), rfl, rfl, by decide, (by rw [q1]; exact at_ofG (hg _ (by omega))), ?_⟩⟩
        refine ⟨_, rfl, _, _, rfl, rfl, (by show (0 : Int) < 16; decide), HEXD, _, hx1 (n % 16), rfl, rfl, by decide, (by rw [q2]; exact at_ofG (hg _ (by omega))), _, _, rfl, rfl, (by show 1 + 1 ≤ sizeLine; decide), _, hDJ, ?_, same_updN sb nDJ, ?_⟩
        · rw [List.length_map, List.length_map, List.length_take]
          exact Nat.lt_of_le_of_lt (Nat.le_trans (Nat.min_le_right _ _) ln) (by decide)
        · rw [upd_same, List.take_add_one, en, List.map_append, List.map_append]
          rfl
      · rintro H7 ⟨s7, hDJ⟩
        have e : (nV ns2).length = ns2.length := List.length_map _
        rw [e, List.take_length] at hDJ
        refine ⟨_, DJ, ns2.map hx2, rfl, rfl, .inl (SqL.of hDJ), ?_, ?_⟩
        · rw [sum_hex]
          show 2 * ns2.length + _ * 0 ≤ _
          omega
        have ej : Txt.join ("" : Str) (ns2.map hx2) = hexT ns2 := (eq_of_beq (join_plain_closes _ _)).trans (join_hex ns2)
        rw [ej]
        have hta7 := s7 _ _ hta
        have D7 := D6.same s7
        have tl := hexT_len ns2
        have rE := res_hexT hn (by omega)
        refine ⟨_, rfl, .ref ta, nD ns2, rfl, .tup (SqT.of hta7) nV_sdall, few_oct hn, fun n3 e3 _ _ H8 s8 => ?_, fun e => stm_no hn (by omega) e⟩
        cases nD_of e3
        refine ⟨_, rfl, rfl, _, rfl, iteNS rfl ?_⟩
        have hta8 := s8 _ _ hta7
        refine ⟨_, rfl, .ref ta, nD ns2, rfl, .tup (SqT.of hta8) nV_sdall, few_oct hn, fun n3 e3 _ _ H9 s9 => ?_, fun e => stm_no hn (by omega) e⟩
        cases nD_of e3
        refine ⟨_, rfl, rfl, _, rfl, iteNS rfl ?_⟩
        have hta9 := s9 _ _ hta8
        generalize hexT ns2 = zz at *
        refine ⟨_, rfl, .str zz, .str zz, rfl, .str _, fun y e => by cases e; omega, fun rr HA sA dr => ?_⟩
        rw [rE] at dr
        have htaA := sA _ _ hta9
        refine ⟨_, rfl, nD ns2, nD ns2, nD_dp dr, .tup (SqT.of htaA) nV_dpall, nD_shaped _, nD_shaped _, _, rfl, ?_⟩
        rw [nD_eqv]
        refine iteF ?_
        have DA := D7.same (s8.tr (s9.tr sA))
        refine ⟨_, rfl, by decide, by decide, for_it (walk_range (lo := 0) (n := 8)) (fun j σ H' => ∃ t5 t6 t7 : Option V, σ = [some (.ref a), some (.ref p), some (.int (0 + (i : Nat))), some (.ref ta), some (.str zz), t5, t6, t7] ∧ DrawAt H' p (200 * i + 50 + 6 * j)) ⟨_, _, _, rfl, DA.mono (by omega)⟩ (fun _ _ _ _ _ => True.intro) ?_ ?_⟩
        · rintro j y σ Hb Hb' hj ⟨t5, t6, t7, rfl, Db⟩ ⟨eH, rfl⟩
          subst eH
          refine ⟨_, rfl, _, rfl, p, zz, _, rfl, Db, by omega, by omega, fun x1 HC l1 DC kC => ?_⟩
          refine ⟨_, rfl, _, rfl, _, rfl, p, x1, _, rfl, DC, by omega, by omega, fun x2 HD l2 DD kD => ?_⟩
          refine ⟨sz 2 (by decide), fun tt ntt => ?_⟩
          have sT := same_new (o := .tup [.str x1, .str x2]) ntt
          have hT : (upd HD tt (.tup [.str x1, .str x2])) tt = some (.tup [.str x1, .str x2]) := upd_same
          have DT := DD.same sT
          generalize upd HD tt (.tup [.str x1, .str x2]) = HT_ at *
          refine ⟨tt, rfl, ⟨_, SqT.of hT⟩, for_it (walk_tup (xs := [.str x1, .str x2])) (fun u σ H' => ∃ t7 : Option V, σ = [some (.ref a), some (.ref p), some (.int (0 + (i : Nat))), some (.ref ta), some (.str zz), some (.int (0 + (j : Nat))), some (.str x1), t7] ∧ Same HT_ H') ⟨_, rfl, Same.refl'⟩ (fun u σ H' _ z => ?_) ?_ ?_⟩
          · obtain ⟨_, _, z⟩ := z
            exact SqT.of (z _ _ hT)
          · rintro u x σ HX HY hu2 ⟨t7, rfl, sX⟩ ⟨rfl, hx⟩
            have hz : ∃ z : Str, x = .str z ∧ z.length ≤ 5000 := by
              match u, hu2 with
              | 0, _ => cases hx; exact ⟨x1, rfl, by omega⟩
              | 1, _ => cases hx; exact ⟨x2, rfl, by omega⟩
            obtain ⟨z, rfl, lz⟩ := hz
            have lz2 : z.length ≤ 1000000 := by omega
            have sh := res_show lz2 (.inl lz)
            refine ⟨_, rfl, .str z, .str z, rfl, .str z, fun y e => by cases e; exact lz2, fun r1 H4 s2 d1 => ?_⟩
            refine ⟨r1, _, rfl, d1, sh.sh, sh.dep, sh.len, _, rfl, z, rfl, lz2, fun r2 H5 s3 d2 => ?_⟩
            refine ⟨r2, _, rfl, d2, sh.sh, sh.dep, sh.len, rfl, _, rfl, ?_⟩
            rw [decide_eq_true rfl]
            exact iteF ⟨_, rfl, sX.tr (s2.tr s3)⟩
          · rintro σ HX ⟨t7, rfl, sX⟩
            exact ⟨_, _, _, rfl, (DT.same sX).mono (by omega)⟩
        · rintro σ HX ⟨t5, t6, t7, rfl, DX⟩
          exact ⟨_, _, _, _, _, _, rfl, DX.mono (by omega)⟩
end
end Kx

set_option Elab.async false
set_option linter.all false
set_option maxRecDepth 100000
set_option maxHeartbeats 4000000
namespace Kx
open PySem PySem.Spec PyProof.Rows L2 StX
section
variable {P : Program} {w : World} {K : PySem.W.Frag} {mg : Str → Option Value} {h base : Heap}
theorem fn_glo (c : He5.SaysA fa fn K) (X : K.In h) (G : h.Ns mainGlobals mg) (i j : Nat) {x : Str} {n : Nat} (e1 : fn[i]? = some (dF x n)) (e2 : fa[j]? = some (.glo x)) : ∃ f fd, FnP K x (top n) f fd ∧ mg x = some (.ref f) := by
  obtain ⟨fd, F⟩ := c.def_ i e1
  exact ⟨He.ga K x, fd, F, He.glo_ok X G (c.fact j e2)⟩
structure ErrI (K : PySem.W.Frag) (x fld : Str) : Prop where
  ini : PySem.W.findIn K (.ref (gC K x)) "__init__" = some (some (.ref (mAt x "__init__" K)))
  fn : PySem.W.typeIn K (.ref (mAt x "__init__" K)) = some (.type "function")
  no : PySem.W.findIn K (.ref (gC K x)) fld = some none
  kit : PySem.W.kitOne K (.ref (gC K x)) (.ref (gC K x)) = some true
  exm : PySem.W.exmOne K (.ref (gC K x)) (.ref (gC K "JarError")) = some true
theorem err_ok {x fld : Str} (h : errB K x fld = true) : ErrI K x fld := by
  obtain ⟨h1, h⟩ := band h
  obtain ⟨h2, h⟩ := band h
  obtain ⟨h3, h⟩ := band h
  obtain ⟨h4, h5⟩ := band h
  exact ⟨of_decide_eq_true h1, of_decide_eq_true h2, of_decide_eq_true h3, of_decide_eq_true h4, of_decide_eq_true h5⟩
abbrev FnI (K : PySem.W.Frag) (x : Str) (i : Nat) (fd : FuncData) : Prop := FunD K "__init__" (x ++ ".__init__") (defArgs (inClass (top i) 0)) (defBody (inClass (top i) 0)) (defScope (inClass (top i) 0)) [] [] (mAt x "__init__" K) fd
theorem xk_s (T : Xc K (gC K "InvalidStream")) (c : ErrI K "InvalidStream" "value") (F : ∃ fd, FnI K "InvalidStream" 2 fd) (hm : mg "InvalidStream" = some (.ref (gC K "InvalidStream"))) : XK1 P w K mg base "InvalidStream" "value" (gC K "InvalidStream") := by
  obtain ⟨fd, F⟩ := F
  have sc : FnScope ["self", "value"] ["self", "value"] (defScope (inClass (top 2) 0)) := ⟨rfl, rfl, rfl, by decide +kernel, rfl, by decide +kernel, by decide +kernel⟩
  refine ⟨T, hm, c.no, _, fd, c.ini, c.fn, F.ok sc (fun vs H Q E h => ?_) (fun cdv A outer s H vs Q E hr h => ⟨_, PSs.nox (pss_one (ps_xst (pv 0) (pv 1))), ?_⟩), F.bindsN (fun _ _ _ _ _ _ us hl => match us, hl with | [_, _], _ => rfl), fun s a ws kin hl => ?_⟩
  · obtain ⟨a, v, rfl, _⟩ := h
    rfl
  · obtain ⟨a, v, rfl, ha, k⟩ := h
    exact ⟨_, rfl, _, rfl, a, _, rfl, T, c.no, .inl ⟨ha, fun dx n ne => k dx n ne⟩⟩
  · obtain ⟨oc, od, dV, kV, doc, pm, an, cdv, ct, osl, rfl, lk, hcd, hD, hK⟩ := F.ex
    rcases hD with ⟨_, rfl⟩ | ⟨e, _⟩
    · match ws, hl with
      | [r], _ => exact .of_eq rfl
    · exact absurd rfl e
theorem xk_t (T : Xc K (gC K "InvalidText")) (c : ErrI K "InvalidText" "offset") (F : ∃ fd, FnI K "InvalidText" 3 fd) (hm : mg "InvalidText" = some (.ref (gC K "InvalidText"))) : XK1 P w K mg base "InvalidText" "offset" (gC K "InvalidText") := by
  obtain ⟨fd, F⟩ := F
  have sc : FnScope ["self", "offset"] ["self", "offset"] (defScope (inClass (top 3) 0)) := ⟨rfl, rfl, rfl, by decide +kernel, rfl, by decide +kernel, by decide +kernel⟩
  refine ⟨T, hm, c.no, _, fd, c.ini, c.fn, F.ok sc (fun vs H Q E h => ?_) (fun cdv A outer s H vs Q E hr h => ⟨_, PSs.nox (pss_one (ps_xst (pv 0) (pv 1))), ?_⟩), F.bindsN (fun _ _ _ _ _ _ us hl => match us, hl with | [_, _], _ => rfl), fun s a ws kin hl => ?_⟩
  · obtain ⟨a, v, rfl, _⟩ := h
    rfl
  · obtain ⟨a, v, rfl, ha, k⟩ := h
    exact ⟨_, rfl, _, rfl, a, _, rfl, T, c.no, .inl ⟨ha, fun dx n ne => k dx n ne⟩⟩
  · obtain ⟨oc, od, dV, kV, doc, pm, an, cdv, ct, osl, rfl, lk, hcd, hD, hK⟩ := F.ex
    rcases hD with ⟨_, rfl⟩ | ⟨e, _⟩
    · match ws, hl with
      | [r], _ => exact .of_eq rfl
    · exact absurd rfl e
theorem nm_of (c : He5.SaysA fa fn K) (X : K.In h) (G : h.Ns mainGlobals mg) : Nm mg where
  isi := He.free_ok X G (c.fact 20 (f := .free "isinstance") rfl)
  int := He.free_ok X G (c.fact 21 (f := .free "int") rfl)
  bool := He.free_ok X G (c.fact 22 (f := .free "bool") rfl)
  str := He.free_ok X G (c.fact 23 (f := .free "str") rfl)
  tuple := He.free_ok X G (c.fact 24 (f := .free "tuple") rfl)
  type := He.free_ok X G (c.fact 25 (f := .free "type") rfl)
  len := He.free_ok X G (c.fact 26 (f := .free "len") rfl)
  all := He.free_ok X G (c.fact 27 (f := .free "all") rfl)
  sorted := He.free_ok X G (c.fact 28 (f := .free "sorted") rfl)
  set := He.free_ok X G (c.fact 29 (f := .free "set") rfl)
  repr := He.free_ok X G (c.fact 30 (f := .free "repr") rfl)
  rng := He.free_ok X G (c.fact 31 (f := .free "range") rfl)
  zip := He.free_ok X G (c.fact 32 (f := .free "zip") rfl)
  enu := He.free_ok X G (c.fact 33 (f := .free "enumerate") rfl)
  hexd := He.str_ok X G (c.fact 34 (f := .str "HEX_DIGITS" HEXD) rfl)
  octl := He.int_ok X G (c.fact 35 (f := .int "OCTET_LIMIT" 256) rfl)
  strl := He.int_ok X G (c.fact 36 (f := .int "STREAM_LIMIT" 50000) rfl)
theorem hex_nd : (hexKv.map (·.1)).Nodup := by decide +kernel
theorem hex_txt : ∀ kv ∈ hexKv, ∃ x, kv.1 = Sum.inr x := by
  intro kv m
  unfold hexKv at m
  obtain ⟨i, _, rfl⟩ := List.mem_map.mp m
  exact ⟨_, rfl⟩
theorem facts {f : Addr} (X : K.In h) (G : h.Ns mainGlobals mg) (hfa : mg ("law" : Str) = some (.ref f)) (c : He.SaysL fa fn ts [] chk w h K) :
    ∃ fd : FuncData, (∀ (s : Shared) (v : Value), BindsTo s fd ⟨[v], []⟩ [("script", v)]) ∧ ∀ base : Heap, K.In base → base.Ns mainGlobals mg → FnG P w K mg base CX0 8 f fd ["script"] (spLaw K) := by
  have k := c.chk
  obtain ⟨h1, k⟩ := band k
  obtain ⟨h2, k⟩ := band k
  obtain ⟨h3, k⟩ := band k
  obtain ⟨h4, k⟩ := band k
  obtain ⟨h5, h6⟩ := band k
  have sy := sys_of h1
  have es := err_ok h4
  have et := err_ok h5
  have xs := xc_VE h2
  have xt := xc_VE h3
  have N := nm_of c.says X G
  have D_ : Dc K w mg := by
    obtain ⟨ds, n, D⟩ := He.dicW_ok (c.dic _ (.head _))
    exact ⟨dictT_ok D h6 (by decide) hex_nd hex_txt, He.glo_ok X G (c.says.fact 19 (f := .glo "HEX_VALUES") rfl)⟩
  obtain ⟨fL, fd, F, g⟩ := fn_glo c.says X G 15 15 (x := "law") rfl rfl
  have e := hfa.symm.trans g
  cases e
  have b := FunD.bindsA (ps := ["script"]) F fun _ _ _ _ _ _ us hl => match us, hl with | [_], _ => rfl
  have B : Pk K mg := ⟨fn_glo c.says X G 0 0 (x := "is_integer") rfl rfl, fn_glo c.says X G 1 1 (x := "are_octets") rfl rfl, fn_glo c.says X G 2 2 (x := "require_stream") rfl rfl, fn_glo c.says X G 3 3 (x := "hex_text") rfl rfl, fn_glo c.says X G 4 4 (x := "numbers_of") rfl rfl⟩
  have D : Dr K mg := ⟨fn_glo c.says X G 7 7 (x := "_law_begin") rfl rfl, fn_glo c.says X G 8 8 (x := "_law_mixed") rfl rfl, fn_glo c.says X G 9 9 (x := "_law_next") rfl rfl⟩
  have mJ := He.glo_ok X G (c.says.fact 16 (f := .glo "JarError") rfl)
  have CSs : CatchF K mg (CS K) "InvalidStream" "value" := ⟨mJ, es.exm, xs, es.no, He.glo_ok X G (c.says.fact 17 (f := .glo "InvalidStream") rfl), es.kit⟩
  have CTt : CatchF K mg (CT K) "InvalidText" "offset" := ⟨mJ, et.exm, xt, et.no, He.glo_ok X G (c.says.fact 18 (f := .glo "InvalidText") rfl), et.kit⟩
  refine ⟨fd, fun s v => b s [v] rfl, fun base _ _ => ?_⟩
  have S : Es P w K mg base := ⟨xk_s xs es (c.says.def_ 16 rfl) (He.glo_ok X G (c.says.fact 17 (f := .glo "InvalidStream") rfl)), xk_t xt et (c.says.def_ 17 rfl) (He.glo_ok X G (c.says.fact 18 (f := .glo "InvalidText") rfl))⟩
  obtain ⟨f1, d1, F1, g1⟩ := fn_glo c.says X G 10 10 (x := "_law_read") rfl rfl
  obtain ⟨f2, d2, F2, g2⟩ := fn_glo c.says X G 11 11 (x := "_law_due") rfl rfl
  obtain ⟨f3, d3, F3, g3⟩ := fn_glo c.says X G 12 12 (x := "_law_refused") rfl rfl
  obtain ⟨f4, d4, F4, g4⟩ := fn_glo c.says X G 5 5 (x := "stream_text") rfl rfl
  obtain ⟨f5, d5, F5, g5⟩ := fn_glo c.says X G 6 6 (x := "read_stream") rfl rfl
  have L : Lw P w K mg base := ⟨⟨f1, d1, F1, g1, ok_lr F1 N S B D_ ⟨f5, d5, F5, g5⟩ CTt⟩, ⟨f2, d2, F2, g2, ok_ld F2 N⟩, ⟨f3, d3, F3, g3, ok_lx F3 N S B sy ⟨f4, d4, F4, g4⟩ CSs⟩, ⟨f4, d4, F4, g4, ok_st F4 N S B⟩, ⟨f5, d5, F5, g5, ok_rs F5 N S B D_⟩⟩
  exact ok_law F L N sy D (fn_glo c.says X G 14 14 (x := "_law_by_hand_right") rfl rfl) (fn_glo c.says X G 13 13 (x := "_law_bent") rfl rfl)
end
end Kx
open PySem PySem.W PySem.Calls PyProof.Rows
theorem PySem.Challenge.cw_brinejar_k59_hexes_holds : PySem.Challenge.rw_brinejar_k59_hexes.Holds := by
  w_on
  o_law
  refine HandSHeadRun.head_any (r := OpenLaw.row PySem.Challenge.rw_brinejar_k59_hexes) (q := view (OpenLaw.row PySem.Challenge.rw_brinejar_k59_hexes).prog [28]) (H := Kx.hk) (ob := Kx.ob) (M := 12000) (loose := Kx.loose) (d := HandSHeadRun.topDef (OpenLaw.row PySem.Challenge.rw_brinejar_k59_hexes).prog 28) (kwd := []) Kx.ob_eq
    (by kernel_rfl) (fun s => by kernel_rfl) Kx.run (by kernel_rfl) (by kernel_rfl) (by kernel_rfl) (by rfl) (by first | assumption | decide +kernel) (by decide +kernel) ⟨rfl, rfl, rfl, rfl, rfl, by decide +kernel⟩ ?hw ?hc
  case hw => w_witness2
  case hc =>
    refine L2.walk_ofG (l := PySem.Challenge.rw_brinejar_k59_hexes) (n := 63) (k := 8) (x := "script") rfl (by decide) (by kernel_rfl) ⟨rfl, by decide, by decide⟩ ?F
    intro w mg fa h Y G hmg0
    obtain ⟨K, KX, c⟩ := Y
    have hmg : mg ("law" : PySem.Str) = some (.ref fa) := by
      have e : (HandSHeadRun.topDef (OpenLaw.row PySem.Challenge.rw_brinejar_k59_hexes).prog 28).name = ("law" : PySem.Str) := by kernel_rfl
      rw [← e]
      exact hmg0
    obtain ⟨fd, hb, hF⟩ := Kx.facts (P := (PySem.Challenge.rw_brinejar_k59_hexes).prog) (w := w) KX G hmg c
    exact ⟨K, fd, Kx.spLaw K, KX, hb, fun H a ns hl _ hS => ⟨a, ns, rfl, hS, hl, fun _ => rfl⟩, hF⟩
