import PyProof.Rows.All
import Wide.All
import OpenK.AllK
import Wide.FinOn
import KE.KExcInit
import KE.KExcIs
import HandS.ForExc
import HandS.ExcInit
import HandS.ExcField
import HandS.MakeKwOnly
import HandS.Codes
import HandS.ForMost
import HandS.Style
import HandS.HeadEnd
import HandS.HeadHook2
import HandS.Head2
import PyProof.ReprRoads
import HandS.Walk
import HandS.SetFor
import KE.KTryMore
import HandS.GenCall
import PyProof.Rows.ListAppend
import HandS.GenList
import HandS.IsInst
import PyProof.TypeEq
import PyProof.InstEq
import PyProof.TypeOfCall
import HandS.SortInts
import HandS.Strs
import HandS.Star
import HandS.Property
import HandS.ClsMeth
import PyProof.Rows.RuleB_pow
import PyProof.StrOps2
import HandS.ExcOwn
import PyProof.EqAt
import PyProof.NeKinds
import HandS.DictComp
import HandS.Conv
import HandS.TupAny
import HandS.MakeKw
import PyProof.StrLawsRepr
import HandS.HeadHook3
import HandS.HeadNt
import PySem.Challenge.RW_brinejar_k03_packs_and_rows
set_option Elab.async false
set_option linter.all false
set_option maxRecDepth 100000
set_option maxHeartbeats 4000000
/-! VxA: exceptions of own classes over any of the built-in bases, with an own __init__, held as values: made, told apart, read. -/
namespace PySem
namespace VxS
open PySem.W PySem.Calls PyProof.Rows PySem.HandSPX
section
open Builtin Builtin.ObjectAttr
variable {prog : Program} {w : World} {A : Around} {E : Value → Shared → Prop} {R : Result → Shared → Prop} {hp : Heap} {g : Array GenState} {d : Drawn} {t : Nat} {os : OsState}
/-- a class chain over a built-in base: own classes, then the base's chain, stores by object.__setattr__ -/
structure Tail (bmB : List Value) (mro : List Value) : Prop where
  tail : excTail bmB mro = true
  pass : ∀ self, refuseLoop self "__setattr__" bmB = pure ()
  obj : bmB.contains (.type "object") = true
theorem Tail.has {bmB mro : List Value} (T : Tail bmB mro) : mro.contains (.type "object") = true := (excTail_contains "object" mro T.tail).trans T.obj
theorem Tail.ne {bmB mro : List Value} (T : Tail bmB mro) : mro.isEmpty = false := by
  cases mro with
  | nil => exact absurd T.has (by decide)
  | cons _ _ => rfl
/-- the first field -/
theorem osa_new {K : W.Frag} {name : Str} {tk : Tok} {v : Value} {x C : Addr} {fv : Array Value} {cd : ClassData} {bmB : List Value}
    (X : K.In hp) (hx : hp.get? x = some { cls := .ref C, data := .fields fv }) (hcd : W.clsIn K C = some cd) (T : Tail bmB cd.mro) (hh : cd.hasDict = true) (ha : W.findIn K (.ref C) name = some none)
    (hq : ∀ h' tk' dx, (∀ b o, b ≠ x → hp.get? b = some o → h'.get? b = some o) → hp.objs.size ≤ dx → dx ≠ x → h'.get? x = some { cls := .ref C, dict := some dx, data := .fields fv } →
      h'.Ns1 dx (fun y => if y = name then some v else none) → R (.ok (.ret .none)) ⟨h', g, d, tk', os⟩) :
    codeAny (model prog w) A (.call (.builtin "object.__setattr__") ⟨[.ref x, .str name tk, v], []⟩) R ⟨hp, g, d, t, os⟩ := by
  have I : W.InstAt hp x { cls := .ref C, data := .fields fv } C none := ⟨hx, rfl, rfl, trivial⟩
  have SF := F.store_object
  have hxs : x ≠ hp.objs.size := Nat.ne_of_lt (Heap.lt_size hx)
  have sub : W.Looks (model prog w) hp (isInstance (.ref x) (.type "object")) true := I.type.andThen (W.looks_mroIn X (by unfold W.mroIn; rw [hcd, Option.bind_some, if_neg (by rw [T.ne]; decide), T.has]))
  refine codeAny_call_builtin SF.slot.plain SF.entry (@W.check_slot (model prog w) _ _ ⟨hp, g, d, t, os⟩ "object.__setattr__" "object" "__setattr__" (.ref x) [.str name tk, v] [] _ SF.kind SF.split sub (SF.args (.ref x) (.str name tk) v) ?_)
  have hmr : W.Looks (model prog w) hp (mroOf (.ref C)) cd.mro := (W.looks_clsIn X hcd).andThen .now
  have L3 : W.Looks (model prog w) hp (storeTaker? none) none := .now
  have hcls : W.Looks (model prog w) hp (classData C) cd := W.looks_clsIn X hcd
  rw [W.osa_eq, refuse_eq]
  refine wpAny_bind (wpAny_bind (I.type.at (wpAny_bind (hmr.at ?_))))
  rw [excTail_pass _ (T.pass _) _ T.tail]
  refine wpAny_pure (wpAny_bind (I.type.at (wpAny_bind ((W.looks_findIn X ha).at (wpAny_bind (L3.at ?_))))))
  show wpAny _ _ (storeInOwnDict (.ref x) (.ref C) (.str name tk) name v false) _ _ _
  obtain ⟨nm, bs, mro, ns, qn, hd, sn, sb, ab, col, del⟩ := cd
  dsimp only at hh
  subst hh
  unfold storeInOwnDict ownDictForStores
  repeat (first | with_reducible refine store_in_new ?_ ?_ | with_reducible refine wpAny_loadPart_at hx ?_ | with_reducible refine hcls.at ?_ | wp_step)
  · exact ⟨_, #[], _, (Heap.get?_update_ne _ _ _ _ hxs.symm).trans (Heap.get?_push_at rfl rfl), rfl, fun e he => absurd he (by simp), fun _ => rfl⟩
  · intro h' tk' hn' hs
    have hx₁ : (hp.push { cls := .type "dict", data := .dict #[] }).get? x = some { cls := .ref C, data := .fields fv } := Heap.get?_push_of_some _ hx
    refine hq h' tk' hp.objs.size (fun b o hb ho => ?_) (Nat.le_refl _) hxs.symm ?_ hn'
    · exact (hs.2 b (Nat.ne_of_lt (Heap.lt_size ho))).trans ((Heap.get?_update_ne _ _ _ _ hb).trans (Heap.get?_push_of_some _ ho))
    · exact (hs.2 x hxs).trans (Heap.get?_update_self _ hx₁ rfl)
/-- a further field -/
theorem osa_old {K : W.Frag} {name : Str} {tk : Tok} {v : Value} {x C dx : Addr} {fv : Array Value} {cd : ClassData} {m0 : Str → Option Value} {nl : List Str} {bmB : List Value}
    (X : K.In hp) (hx : hp.get? x = some { cls := .ref C, dict := some dx, data := .fields fv }) (hns : hp.Ns1 dx m0) (hw : Within m0 nl) (hz : nl.length ≤ 1000) (hcd : W.clsIn K C = some cd) (T : Tail bmB cd.mro) (hh : cd.hasDict = true)
    (ha : W.findIn K (.ref C) name = some none)
    (hq : ∀ h' tk', (∀ b o, b ≠ dx → hp.get? b = some o → h'.get? b = some o) → h'.Ns1 dx (fun y => if y = name then some v else m0 y) → R (.ok (.ret .none)) ⟨h', g, d, tk', os⟩) :
    codeAny (model prog w) A (.call (.builtin "object.__setattr__") ⟨[.ref x, .str name tk, v], []⟩) R ⟨hp, g, d, t, os⟩ := by
  obtain ⟨oD, esD, epD, hoD, hdD, _⟩ := hns.count hw
  have I : W.InstAt hp x { cls := .ref C, dict := some dx, data := .fields fv } C (some oD) := ⟨hx, rfl, rfl, hoD⟩
  have SF := F.store_object
  have sub : W.Looks (model prog w) hp (isInstance (.ref x) (.type "object")) true := I.type.andThen (W.looks_mroIn X (by unfold W.mroIn; rw [hcd, Option.bind_some, if_neg (by rw [T.ne]; decide), T.has]))
  refine codeAny_call_builtin SF.slot.plain SF.entry (@W.check_slot (model prog w) _ _ ⟨hp, g, d, t, os⟩ "object.__setattr__" "object" "__setattr__" (.ref x) [.str name tk, v] [] _ SF.kind SF.split sub (SF.args (.ref x) (.str name tk) v) ?_)
  have hmr : W.Looks (model prog w) hp (mroOf (.ref C)) cd.mro := (W.looks_clsIn X hcd).andThen .now
  have L3 : W.Looks (model prog w) hp (storeTaker? none) none := .now
  have hcls : W.Looks (model prog w) hp (classData C) cd := W.looks_clsIn X hcd
  rw [W.osa_eq, refuse_eq]
  refine wpAny_bind (wpAny_bind (I.type.at (wpAny_bind (hmr.at ?_))))
  rw [excTail_pass _ (T.pass _) _ T.tail]
  refine wpAny_pure (wpAny_bind (I.type.at (wpAny_bind ((W.looks_findIn X ha).at (wpAny_bind (L3.at ?_))))))
  show wpAny _ _ (storeInOwnDict (.ref x) (.ref C) (.str name tk) name v false) _ _ _
  obtain ⟨nm, bs, mro, ns, qn, hd, sn, sb, ab, col, del⟩ := cd
  dsimp only at hh
  subst hh
  unfold storeInOwnDict ownDictForStores
  repeat (first | with_reducible refine OEX.store_in_old hns hw hz ?_ | with_reducible refine wpAny_loadPart_at hx ?_ | with_reducible refine hcls.at ?_ | wp_step)
  intro h' tk' hn' hs
  exact hq h' tk' (fun b o hb ho => (hs.2 b hb).trans ho) hn'
end
end VxS
end PySem

set_option Elab.async false
set_option linter.all false
set_option maxRecDepth 100000
set_option maxHeartbeats 4000000
namespace L2
open PySem PySem.Spec PyProof.Rows

/-- what the written part says of an exception class of the program -/
structure Xc (K : PySem.W.Frag) (C : Addr) : Prop where
  cls : ∃ (nm q : Str) (N : Addr) (bs bm : List Value) (sn : List Str) (sub : List Value) (ab : Bool) (col : Option Bool) (dd : Option Addr) (k0 k1 k2 k3 k5 : Option Value) (B newId initId : String) (bmB : List Value),
    K.lookup C = some (excClassObj nm q C N bs bm true sn sub ab col dd k0 k1 k2 k3 k5 newId) ∧ ExcBaseFacts B newId initId bmB ∧ VxS.Tail bmB (.ref C :: bm)
  sa : PySem.W.findIn K (.ref C) "__setattr__" = some (some (.builtin "object.__setattr__"))
  ga : PySem.W.findIn K (.ref C) "__getattribute__" = some (some (.builtin "BaseException.__getattribute__"))
  gg : PySem.W.findIn K (.ref C) "__getattr__" = some none
  exC : PySem.W.subIn K (.ref C) (.type "BaseException") = some true
  tyC : PySem.W.typeIn K (.ref C) = some (.type "type")
  kC : PySem.W.keepIn K (.ref C) = true
  hdC : PySem.W.hasDictIn K C = true
  ca : PySem.W.findIn K (.ref C) "__class__" = some (some (.builtin "object.__class__"))
  cn : PySem.W.specialIn K (.builtin "object.__class__") "__get__" = some (some (.builtin "getset_descriptor.__get__"))
  ct : PySem.W.takesIn K (.builtin "object.__class__") = some true
  cm : PySem.W.mroIn K C (.type "object") = some true

/-- an exception of the class at C, its own dict at d -/
def exV (e C d : Addr) : HO := .ext fun h => ∃ (oe : Obj) (vs : Array Value), h.get? e = some oe ∧ oe.cls = .ref C ∧ oe.dict = some d ∧ oe.data = .fields vs
theorem exV_ok {P : Program} {w : World} {H : Hp} {h : Heap} {e C d : Addr} {oe : Obj} {vs : Array Value} (he : h.get? e = some oe) (hc : oe.cls = .ref C) (hd : oe.dict = some d) (hv : oe.data = .fields vs) : ObjOk P w H h e (exV e C d) :=
  ⟨⟨oe, vs, he, hc, hd, hv⟩, ⟨_, he⟩, fun h1 h2 z k => by
    obtain ⟨o, v, q, r⟩ := z
    exact ⟨o, v, k _ q, r⟩⟩
theorem exV_at {P : Program} {w : World} {H : Hp} {h : Heap} {e C d : Addr} (hok : HOk P w H h) (he : H e = some (exV e C d)) : ∃ (oe : Obj) (vs : Array Value), h.get? e = some oe ∧ oe.cls = .ref C ∧ oe.dict = some d ∧ oe.data = .fields vs := by
  have x : ObjOk P w H h e (.ext fun h => ∃ (oe : Obj) (vs : Array Value), h.get? e = some oe ∧ oe.cls = .ref C ∧ oe.dict = some d ∧ oe.data = .fields vs) := hok e _ he
  exact x.1
/-- at e: an exception of the class at C with these fields -/
def ExAt (H : Hp) (e C : Addr) (fs : List (Str × V)) : Prop := ∃ d, H e = some (exV e C d) ∧ H d = some (.xd fs)
theorem ExAt.mono {H H' : Hp} {e C : Addr} {fs : List (Str × V)} (x : ExAt H e C fs) (s : Same H H') : ExAt H' e C fs := by
  obtain ⟨d, h1, h2⟩ := x
  exact ⟨d, s _ _ h1, s _ _ h2⟩

section
variable {X : Cx} {pins : List (Addr × Obj)} {σ : St} {H : Hp} {s : Shared} {a C dx : Addr} {f : Str} {y : V} {u : Value} {fs : List (Str × V)} {Q : Unit → Shared → Prop} {E : Value → Shared → Prop} {A : Around}
theorem xst_new (T : Xc X.K C) (I : Inv X pins σ H s) (e : H a = some (exo a C none)) (hno : PySem.W.findIn X.K (.ref C) f = some none) (ry : RelV y u)
    (h : ∀ dx s', H dx = none → dx ≠ a → Inv X pins σ (upd (upd H dx (exd dx [(f, y)])) a (exo a C (some dx))) s' → Q () s') : wpAny (model X.prog X.w) A (setAttr (.ref a) f u) Q E s := by
  obtain ⟨nm, q, N, bs, bm, sn, sub, ab, col, dd, k0, k1, k2, k3, k5, B, newId, initId, bmB, hC, FB, hbm⟩ := T.cls
  have hcl : PySem.W.clsIn X.K C = some { name := nm, bases := bs, mro := .ref C :: bm, ns := N, qualname := q, hasDict := true, slotNames := sn, subclasses := sub, abstract := ab, collection := col, hasDel := false } := by unfold PySem.W.clsIn; rw [hC] <;> rfl
  obtain ⟨t1, ho⟩ := exo_at I.hok e
  obtain ⟨hp, g, d, t, os⟩ := s
  refine PySem.W.set_plain I.kIn (ox := { cls := .ref C, dict := none, data := .fields #[.ref t1, .none, .none, .none, .bool false, .none] }) (od := none) ⟨ho, rfl, rfl, trivial⟩ T.sa ?_
  refine VxS.osa_new I.kIn ho hcl hbm rfl hno (fun h' tk' dx k dn dne hx hn => ?_)
  have hnd : H dx = none := I.hok.fresh dn
  have nd : ∀ {b : Addr} {o : Obj}, hp.get? b = some o → b ≠ dx := fun {b o} q => Nat.ne_of_lt (Nat.lt_of_lt_of_le (Heap.lt_size q) dn)
  have na : ∀ {b : Addr}, H b = none → b ≠ a := fun {b} n z => by
    rw [z, e] at n
    cases n
  have Un1 : Un X.fs [] H (upd (upd H dx (exd dx [(f, y)])) a (exo a C (some dx))) hp h' := {
    keep := fun b o q n _ _ => k b o (na n) q
    slot := fun b o q n _ _ => ⟨o.slots, k b o (na n) q⟩
    free := fun b o q n _ => by rw [upd_ne (na n), upd_ne (nd q)]; exact n
    there := fun b o q _ => by
      by_cases hb : b = a
      · exact ⟨_, by rw [hb]; exact hx⟩
      · exact ⟨o, k b o hb q⟩
    tups := fun b xs q => by rw [upd_ne (at_ne e q exo_tup), upd_ne (ne_of_none q hnd)]; exact q
    frzs := fun b o v q => by rw [upd_ne (at_ne e q exo_frz), upd_ne (ne_of_none q hnd)]; exact q
    tbls := fun b ps q => ⟨#[], by rw [upd_ne (at_ne e q exo_tbl), upd_ne (ne_of_none q hnd), q]; simp⟩ }
  refine h dx _ hnd dne (I.un (t' := tk') Un1 fun b o q => ?_)
  by_cases hb : b = a
  · subst hb
    rw [upd_same] at q
    cases q
    exact exo_ok hx
  · rw [upd_ne hb] at q
    by_cases hd : b = dx
    · subst hd
      rw [upd_same] at q
      cases q
      exact exd_ok hn (relO_put (fs := []) ry fun g => True.intro)
    · rw [upd_ne hd] at q
      exact (I.hok b o q).stay (fun c v hc z => k c v (by
          rcases hc with hc | hc
          · rw [hc]
            exact hb
          · exact at_ne e hc exo_own) z)
        (fun c hc => by rw [upd_ne (at_ne e hc exo_own), upd_ne (ne_of_none hc hnd)]; exact hc) (fun c xs hc => by rw [upd_ne (at_ne e hc exo_tup), upd_ne (ne_of_none hc hnd)]; exact hc)
theorem xst_old (T : Xc X.K C) (I : Inv X pins σ H s) (e : H a = some (exo a C (some dx))) (ed : H dx = some (exd dx fs)) (hl : fs.length ≤ 900) (hno : PySem.W.findIn X.K (.ref C) f = some none) (ry : RelV y u)
    (h : ∀ s', Inv X pins σ (upd H dx (exd dx ((f, y) :: fs))) s' → Q () s') : wpAny (model X.prog X.w) A (setAttr (.ref a) f u) Q E s := by
  obtain ⟨nm, q, N, bs, bm, sn, sub, ab, col, dd, k0, k1, k2, k3, k5, B, newId, initId, bmB, hC, FB, hbm⟩ := T.cls
  have hcl : PySem.W.clsIn X.K C = some { name := nm, bases := bs, mro := .ref C :: bm, ns := N, qualname := q, hasDict := true, slotNames := sn, subclasses := sub, abstract := ab, collection := col, hasDel := false } := by unfold PySem.W.clsIn; rw [hC] <;> rfl
  obtain ⟨t1, ho⟩ := exo_at I.hok e
  obtain ⟨mA, hns, rel⟩ := exd_at I.hok ed
  have hw := within_of rel
  obtain ⟨hp, g, d, t, os⟩ := s
  obtain ⟨oD, _, _, hoD, _, _⟩ := hns.count hw
  refine PySem.W.set_plain I.kIn (ox := { cls := .ref C, dict := some dx, data := .fields #[.ref t1, .none, .none, .none, .bool false, .none] }) (od := some oD) ⟨ho, rfl, rfl, hoD⟩ T.sa ?_
  refine VxS.osa_old I.kIn ho hns hw (by rw [List.length_map]; omega) hcl hbm rfl hno (fun h' tk' k hn => ?_)
  have hd : ∃ o, h'.get? dx = some o := by
    obtain ⟨o, _, _, e', _⟩ := hn
    exact ⟨o, e'⟩
  exact h _ (I.write (t' := tk') (x := dx) (e := dx) (o := exd dx ((f, y) :: fs)) (by rw [ed]; exact True.intro) (.inl rfl) k hd (exd_ok hn (relO_put ry rel)))
end
/-- self.f = e in an exception's __init__ -/
def tXst (K : PySem.W.Frag) (f : Str) (to te : TE) : TS := fun D σ H => te σ H fun y H1 => to σ H1 fun x H2 => ∃ a C : Addr, x = .ref a ∧ Xc K C ∧ PySem.W.findIn K (.ref C) f = some none ∧
  ((H2 a = some (exo a C none) ∧ ∀ dx, H2 dx = none → dx ≠ a → D.nx σ (upd (upd H2 dx (exd dx [(f, y)])) a (exo a C (some dx)))) ∨
    ∃ (dx : Addr) (fs : List (Str × V)), H2 a = some (exo a C (some dx)) ∧ H2 dx = some (exd dx fs) ∧ fs.length ≤ 900 ∧ D.nx σ (upd H2 dx (exd dx ((f, y) :: fs))))
section
variable {X : Cx} {o e : Expr} {es : List Expr} {to te : TE} {ta : TA} {f : Str} {p p' p1 p2 pos : Pos}
theorem ps_xst (ho : PE X o to) (he : PE X e te) (hs : swapsWith e (some (.Attribute o f p')) pos.line X.env = pure false := by rfl) : PS X (.Assign [.Attribute o f p'] e pos) (tXst X.K f to te) := by
  refine ⟨fun pins s σ H D I h => ?_⟩
  refine plainObj_wpAny_Assign_Attribute (thn (he.run pins s σ H _ I h) fun v s1 ⟨y, H1, I1, r1, q1⟩ => thn (ho.run pins s1 σ H1 _ I1 q1) fun u s2 ⟨x, H2, I2, r2, a, C, ex, T, hno, q⟩ => ?_) hs
  subst ex
  obtain rfl : u = Value.ref a := r2
  rcases q with ⟨ea, q⟩ | ⟨dx, fs, ea, ed, hl, q⟩
  · exact xst_new T I2 ea hno r1 fun dx s' n ne J => ⟨σ, _, J, q dx n ne⟩
  · exact xst_old T I2 ea ed hl hno r1 fun s' J => ⟨σ, _, J, q⟩
end
/-- isinstance(e, c), e an exception of the program -/
def rIsX (K : PySem.W.Frag) : List V → Hp → VK → Prop := fun xs H Q => ∃ (a C : Addr) (fs : List (Str × V)) (c : V) (cv : Value) (b : Bool), xs = [.ref a, c] ∧ ExAt H a C fs ∧ Xc K C ∧ (∀ u, RelV c u → u = cv) ∧ PySem.W.kitOne K (.ref C) cv = some b ∧ Q (.bl b) H
theorem exV_inst {X : Cx} {pins : List (Addr × Obj)} {σ : St} {H : Hp} {s : Shared} {a C : Addr} {fs : List (Str × V)} (I : Inv X pins σ H s) (x : ExAt H a C fs) :
    ∃ (oe od : Obj) (mA : Str → Option Value), PySem.W.InstAt s.heap a oe C (some od) ∧ (∀ name, PySem.W.lookIn name od = some (mA name)) ∧ ∀ f, RelO (fs.lookup f) (mA f) := by
  obtain ⟨d, h1, h2⟩ := x
  obtain ⟨oe, vs, he, hc, hd, hv⟩ := exV_at I.hok h1
  have hx : ObjOk X.prog X.w H s.heap d (.xd fs) := I.hok d _ h2
  obtain ⟨mA, hns, hr⟩ := hx
  obtain ⟨od, ho, hl⟩ := lookIn_ns hns
  exact ⟨oe, od, mA, ⟨he, hc, by unfold PySem.W.notCls; rw [hv] <;> rfl, by rw [hd]; exact ho⟩, hl, hr⟩
theorem Xc.kit {K : PySem.W.Frag} {C x : Addr} {ox : Obj} {od : Option Obj} (T : Xc K C) : PySem.W.KitX K (.ref x) (.ref C) (fun h => PySem.W.InstAt h x ox C od) :=
  PySem.W.kitx_exc (by
    obtain ⟨cd, hc, _⟩ := PySem.W.any_some T.hdC
    rw [hc] <;> rfl) T.ga T.gg T.exC T.ca T.cn T.ct T.cm
theorem call_isX {X : Cx} : CallR X (.builtin "isinstance") (rIsX X.K) := by
  intro pins s σ H xs us Q I r h
  obtain ⟨a, C, fs, c, cv, b, rfl, x, T, hcv, e, q⟩ := h
  cases r with
  | cons rx rr =>
    cases rr with
    | cons rt rr =>
      cases rr
      cases rx
      have ec := hcv _ rt
      subst ec
      obtain ⟨oe, od, mA, J, _, _⟩ := exV_inst I x
      exact PySem.W.kia_one T.kit I.kIn J e (fun z => nomatch z) fun tk => ⟨.bl b, H, I.kept (t' := tk) fun _ _ z => z, rfl, q⟩
/-- isinstance(e, (c1, c2, ..)), e an exception of the program -/
def rIsXT (K : PySem.W.Frag) : List V → Hp → VK → Prop := fun xs H Q => ∃ (a C tp : Addr) (fs : List (Str × V)) (ts : List V) (cvs : List Value) (b : Bool), xs = [.ref a, .ref tp] ∧ ExAt H a C fs ∧ Xc K C ∧ H tp = some (.tup ts) ∧
  (∀ us, Vals ts us → us = cvs) ∧ PySem.W.kitAny K (.ref C) cvs = some b ∧ Q (.bl b) H
theorem call_isXT {X : Cx} : CallR X (.builtin "isinstance") (rIsXT X.K) := by
  intro pins s σ H xs us Q I r h
  obtain ⟨a, C, tp, fs, ts, cvs, b, rfl, x, T, ht, hcv, e, q⟩ := h
  cases r with
  | cons rx rr =>
    cases rr with
    | cons rt rr =>
      cases rr
      cases rx
      cases rt
      obtain ⟨oe, od, mA, J, _, _⟩ := exV_inst I x
      obtain ⟨_, its, rv, o, ho, hcl, n, hdt⟩ := I.hok tp _ ht
      have ev := hcv _ rv
      subst ev
      obtain ⟨oc, odd, oda, osl⟩ := o
      dsimp only at hcl hdt
      subst hcl hdt
      exact PySem.W.kia_tup T.kit I.kIn J ho e (fun z => nomatch z) fun tk => ⟨.bl b, H, I.kept (t' := tk) fun _ _ z => z, rfl, q⟩
/-- e.f of an exception of the program -/
def tXfd (K : PySem.W.Frag) (f : Str) (te : TE) : TE := fun σ H Q => te σ H fun x H1 => ∃ (a C : Addr) (fs : List (Str × V)) (v : V), x = .ref a ∧ ExAt H1 a C fs ∧ Xc K C ∧ PySem.W.findIn K (.ref C) f = some none ∧ fs.lookup f = some v ∧ Q v H1
theorem pe_xfd {X : Cx} {e : Expr} {te : TE} {pos : Pos} {n : Str} (he : PE X e te) (hb : attributeBase e n X.env (eval e X.env) = eval e X.env := by rfl) : PE X (.Attribute e n pos) (tXfd X.K n te) := by
  refine ⟨fun pins s σ H Q I h => ?_⟩
  refine attr_of hb (thn (he.run pins s σ H _ I h) fun u s1 hh => ?_)
  obtain ⟨x, H1, I1, rx, a, C, fs, v, ex, xa, T, hno, l, q⟩ := hh
  subst ex
  obtain rfl : u = Value.ref a := rx
  obtain ⟨oe, od, mA, J, hl, hr⟩ := exV_inst I1 xa
  obtain ⟨u, hu, ru⟩ := RelO.some_of (v := v) (o := mA n) (by rw [← l]; exact hr n)
  exact HandSPX.exc_get I1.kIn J T.ga T.gg T.exC (PySem.W.findObj_own T.hdC hno rfl (by rw [hl, hu])) (handed_of ru) ⟨v, H1, I1.tok _, ru, q⟩
end L2

set_option Elab.async false
set_option linter.all false
set_option maxRecDepth 100000
set_option maxHeartbeats 4000000
namespace PySem
namespace VxS
open PySem.W PySem.Calls PyProof.Rows PySem.HandSPX
section
variable {M : Model} {A : Around} {E : Value → Shared → Prop} {h : Heap} {g : Array GenState} {d : Drawn} {t : Nat} {os : OsState}
variable {nm q : Str} {C N : Addr} {bs bm bmB : List Value} {hdct : Bool} {sn : List Str} {sub : List Value} {ab : Bool} {col : Option Bool} {dd : Option Addr} {k0 k1 k2 k3 k5 : Option Value} {B newId initId : String}
theorem check_newK (F : ExcBaseFacts B newId initId bmB) (hT : ∀ X : String, bm.contains (.type X) = bmB.contains (.type X)) {rest : List Value} {kw : List (Str × Value)} {Q : Unit → Shared → Prop}
    (hC : h.get? C = some (excClassObj nm q C N bs bm hdct sn sub ab col dd k0 k1 k2 k3 k5 newId)) (hq : Q () ⟨h, g, d, t, os⟩) : wpAny M A (checkBuiltinCall newId ⟨.ref C :: rest, kw⟩) Q E ⟨h, g, d, t, os⟩ := by
  have hcont : (Value.ref C :: bm).contains (.type B) = true := by rw [List.contains_cons, hT, F.hasB, Bool.or_true]
  have hstar := F.noStar
  simp only [checkBuiltinCall, F.newKind, F.newSplit, F.newRow]
  repeat (first | refine wpAny_loadPart_at hC ?_ | (refine wpAny_isSubtype_exc hC ?_; rw [hcont]) | refine wpAny_staticBase_exc hC ?_ | refine wpAny_madeBy_exc hC ?_ | simp only [bne_self_eq_false, Bool.false_eq_true, if_false] | wp_step)
  exact hq
end
section
variable {prog : Program} {w : World} {A : Around} {E : Value → Shared → Prop} {R : Result → Shared → Prop} {h : Heap} {g : Array GenState} {d : Drawn} {t : Nat} {os : OsState}
variable {nm q : Str} {C N : Addr} {bs bm bmB : List Value} {hdct : Bool} {sn : List Str} {sub : List Value} {ab : Bool} {col : Option Bool} {dd : Option Addr} {k0 k1 k2 k3 k5 : Option Value} {B newId initId : String}
theorem new_K (F : ExcBaseFacts B newId initId bmB) (hT : ∀ X : String, bm.contains (.type X) = bmB.contains (.type X)) {rest : List Value} {kw : List (Str × Value)}
    (hC : h.get? C = some (excClassObj nm q C N bs bm hdct sn sub ab col dd k0 k1 k2 k3 k5 newId))
    (hq : R (.ok (.ret (.ref (h.objs.size + 1)))) ⟨(h.push { cls := .type "tuple", data := .seq rest.toArray }).push
      { cls := .ref C, data := .fields #[.ref h.objs.size, .none, .none, .none, .bool false, .none] }, g, d, t, os⟩) (hrest : rest.length ≤ sizeLine) :
    codeAny (model prog w) A (.builtin newId ⟨.ref C :: rest, kw⟩) R ⟨h, g, d, t, os⟩ := by
  have hends := F.ends
  have hcB : (Value.ref C :: bm).contains (.type B) = true := by rw [List.contains_cons, hT, F.hasB, Bool.or_true]
  have hcA : (Value.ref C :: bm).contains (.type "AttributeError") = false := by rw [List.contains_cons, hT, F.noAttr]; rfl
  have hcN : (Value.ref C :: bm).contains (.type "NameError") = false := by rw [List.contains_cons, hT, F.noName]; rfl
  refine codeAny_builtinAt F.entry ?_
  unfold Builtin.«BaseException.__new__»
  refine wpAt_bind ?_
  show wpAt _ _ _ (stack >>= _) _ _ _
  refine wpAt_bind (wpAt_stack fun p below => wpAt_of_wpAny ?_)
  wp_walk
  refine wpAt_of_wpAny ?_
  rw [F.owner]
  repeat (first | with_reducible refine wpAny_madeHere_exc F.canon hC ?_ | with_reducible refine wpAny_loadPart_at hC ?_ | (with_reducible refine wpAny_isSubtype_exc hC ?_; first | rw [hcB] | rw [hcA] | rw [hcN]) | wp_step)
  show R _ _
  rw [Heap.size_push]
  exact hq
theorem type_call_K (F : ExcBaseFacts B newId initId bmB) (hT : ∀ X : String, bm.contains (.type X) = bmB.contains (.type X)) {rest : List Value} {kw : List (Str × Value)} {fI : Addr} {Q : Fin → Shared → Prop}
    (hC : h.get? C = some (excClassObj nm q C N bs bm hdct sn sub ab col dd k0 k1 k2 k3 k5 newId))
    (hi : W.Looks (model prog w) h (typeLookup (.ref C) "__init__") (some (.ref fI))) (hb : ∀ self, W.Looks (model prog w) h (bindSpecial (.ref fI) self) (.ref fI, [self])) (hrest : rest.length ≤ sizeLine)
    (hq : codeAny (model prog w) A (.call (.ref fI) ⟨.ref (h.objs.size + 1) :: rest, kw⟩)
      (fun r s' => match r with | .ok (.ret v) => v = .none ∧ Q (.done (.ret (.ref (h.objs.size + 1)))) s' | .ok _ => False | .error e => E e s')
      ⟨(h.push (W.kdv_tup rest)).push (excO C h.objs.size), g, d, t, os⟩) :
    wpAny (model prog w) A (Builtin.«type.__call__» ⟨.ref C :: rest, kw⟩) Q E ⟨h, g, d, t, os⟩ := by
  repeat (first | with_reducible refine wpAny_loadPart_at hC ?_ | with_reducible refine wpAny_madeBy_exc hC ?_ | wp_step)
  refine codeAny_call_builtin_code (Code.quiet_builtin _ F.quiet) (check_newK F hT hC ?_)
  refine new_K F hT hC ?_ hrest
  show wpAny _ _ _ _ _ _
  have k : ∀ b o, h.get? b = some o → ((h.push (W.kdv_tup rest)).push (excO C h.objs.size)).get? b = some o := fun b o e => Heap.get?_push_of_some _ (Heap.get?_push_of_some _ e)
  have hC₁ := k _ _ hC
  have hget : ((h.push (W.kdv_tup rest)).push (excO C h.objs.size)).get? (h.objs.size + 1) = some (excO C h.objs.size) := by heap_get
  have hcC : (Value.ref C :: bm).contains (.ref C) = true := by simp
  have i1 := hi.keeps k
  have b1 := (hb (.ref (h.objs.size + 1))).keeps k
  unfold isInstance
  repeat (first | with_reducible refine wpAny_loadPart_at hget ?_ | (with_reducible refine wpAny_isSubtype_exc hC₁ ?_; rw [hcC]) | wp_step)
  show wpAny _ _ (typeLookup (.ref C) _) _ _ _
  refine i1.at ?_
  refine wpAny_holding (wpAny_bind (b1.at ?_))
  refine wpAny_bind (wpAny_call (codeAny_mono hq fun r s' z => ?_))
  rcases r with e | (v | _ | _ | _) <;> first | exact z | exact z.elim | skip
  obtain ⟨rfl, z⟩ := z
  first
    | exact wpAny_pure (wpAny_pure z)
    | (wp_walk; exact z)
theorem call_K (F : ExcBaseFacts B newId initId bmB) (hT : ∀ X : String, bm.contains (.type X) = bmB.contains (.type X)) {rest : List Value} {kw : List (Str × Value)} {fI : Addr}
    (hC : h.get? C = some (excClassObj nm q C N bs bm hdct sn sub ab col dd k0 k1 k2 k3 k5 newId))
    (hi : W.Looks (model prog w) h (typeLookup (.ref C) "__init__") (some (.ref fI))) (hb : ∀ self, W.Looks (model prog w) h (bindSpecial (.ref fI) self) (.ref fI, [self])) (hrest : rest.length ≤ sizeLine)
    (hq : codeAny (model prog w) (A.under (.builtin "type.__call__" ⟨.ref C :: rest, kw⟩)) (.call (.ref fI) ⟨.ref (h.objs.size + 1) :: rest, kw⟩) (W.InitBack (h.objs.size + 1) R)
      ⟨(h.push (W.kdv_tup rest)).push (excO C h.objs.size), g, d, t, os⟩) :
    codeAny (model prog w) A (.call (.ref C) ⟨rest, kw⟩) R ⟨h, g, d, t, os⟩ := by
  have f1 := tc_lookup
  have f2 := tc_bind (.ref C)
  have hTy : (⟨h, g, d, t, os⟩ : Shared).TypeIs (.ref C) "type" := ⟨_, hC, rfl⟩
  refine codeAny_of_tree ?_
  show wpAny _ _ (callAny (.ref C) _) _ _ _
  repeat (any_goals (first | assumption | with_reducible refine wpAny_loadPart_at hC ?_ | wp_step))
  refine ⟨rfl, ?_⟩
  refine codeAny_call_builtin_at (Code.quiet_builtin _ (by decide +kernel)) entry_typeCall (wpAny_check_type_call_sub hC (type_call_K F hT hC hi hb hrest ?_))
  refine codeAny_mono hq fun r s' z => ?_
  rcases r with e | (v | _ | _ | _) <;> exact z
end
end VxS
end PySem

set_option Elab.async false
set_option linter.all false
set_option maxRecDepth 100000
set_option maxHeartbeats 4000000
namespace L2
open PySem PySem.Spec PyProof.Rows
/-- an object is told otherwise -/
theorem HOk.retype {P : Program} {w : World} {H : Hp} {h : Heap} {x : Addr} {o' : HO} (ok : HOk P w H h) (mu : Mut (H x)) (hx : ∃ o, h.get? x = some o) (new : ObjOk P w (upd H x o') h x o') : HOk P w (upd H x o') h :=
  ok.write mu (.inl rfl) (fun _ _ _ e => e) hx new
section
variable {X : Cx} {CX : CXT} {k : Nat} {C fI : Addr} {fd : FuncData} {ps : List Str} {sp : Sp} {x : Str} {p pos : Pos} {e : Expr} {es : List Expr} {kws : List Keyword} {t tk : TA}
/-- behind the __init__: the exception and its dict stand as an exception's -/
theorem xnew_end {pins : List (Addr × Obj)} {σ : St} {H1 H2 : Hp} {hp hp2 h2 : Heap} {g1 g2 : Array GenState} {d1 d2 : Drawn} {t1 t2 : Nat} {os1 os2 : OsState} {a d : Addr} {fs : List (Str × V)} (I1 : Inv X pins σ H1 ⟨hp, g1, d1, t1, os1⟩)
    (ha : hp.objs.size ≤ a) (kk : ∀ b o, hp.get? b = some o → hp2.get? b = some o) (un : Un (frs X.stack) [] (upd H1 a (exo a C none)) H2 hp2 h2) (hok : HOk X.prog X.w H2 h2) (ho : os2 = os1) (hb : AllBare g2)
    (ea : H2 a = some (exo a C (some d))) (ed : H2 d = some (exd d fs)) : Inv X pins σ (upd (upd H2 a (exV a C d)) d (.xd fs)) ⟨h2, g2, d2, t2, os2⟩ := by
  obtain ⟨t0, hoe⟩ := exo_at hok ea
  obtain ⟨mA, hns, rel⟩ := exd_at hok ed
  have hn : H1 a = none := I1.hok.fresh ha
  have hda : d ≠ a := fun z => by
    obtain ⟨o, es, ep, e1, e2, _⟩ := hns
    rw [z, hoe] at e1
    have z2 := Option.some.inj e1
    subst z2
    cases e2
  have nha : ∀ {b : Addr} {o : Obj}, hp.get? b = some o → b ≠ a := fun {b o} z => Nat.ne_of_lt (Nat.lt_of_lt_of_le (Heap.lt_size z) ha)
  have up : ∀ {b : Addr}, b ≠ a → H1 b = none → upd H1 a (exo a C none) b = none := fun {b} hb n => by rw [upd_ne hb]; exact n
  have nd : ∀ {b : Addr} {o : Obj}, hp.get? b = some o → H1 b = none → b ≠ d := fun {b o} z n e => by
    have y := un.free b o (kk b o z) (up (nha z) n) (by simp)
    rw [e, ed] at y
    cases y
  have U : Un (frs X.stack) [] H1 (upd (upd H2 a (exV a C d)) d (.xd fs)) hp h2 := {
    keep := fun b o z n hf hx => un.keep b o (kk b o z) (up (nha z) n) hf hx
    slot := fun b o z n hf hx => un.slot b o (kk b o z) (up (nha z) n) hf hx
    free := fun b o z n hx => by
      rw [upd_ne (nd z n), upd_ne (nha z)]
      exact un.free b o (kk b o z) (up (nha z) n) hx
    there := fun b o z hx => un.there b o (kk b o z) hx
    tups := fun b xs z => by
      have q := un.tups b xs (by rw [upd_ne (ne_of_none z hn)]; exact z)
      rw [upd_ne (at_ne ed q exd_tup), upd_ne (ne_of_none z hn)]
      exact q
    frzs := fun b o v z => by
      have q := un.frzs b o v (by rw [upd_ne (ne_of_none z hn)]; exact z)
      rw [upd_ne (at_ne ed q (fun y => by
        have y' : HO.ext _ = HO.frz o v := y
        cases y')), upd_ne (ne_of_none z hn)]
      exact q
    tbls := fun b ps z => by
      obtain ⟨m, q⟩ := un.tbls b ps (by rw [upd_ne (ne_of_none z hn)]; exact z)
      refine ⟨m, ?_⟩
      rw [upd_ne (at_ne ed q (fun y => by
        have y' : HO.ext _ = HO.tbl (ps ++ m) := y
        cases y')), upd_ne (ne_of_none z hn)]
      exact q }
  have ok1 : HOk X.prog X.w (upd H2 a (exV a C d)) h2 := hok.retype (by rw [ea]; exact True.intro) ⟨_, hoe⟩ (exV_ok hoe rfl rfl rfl)
  have ed1 : (upd H2 a (exV a C d)) d = some (exd d fs) := by rw [upd_ne hda]; exact ed
  have ok2 : HOk X.prog X.w (upd (upd H2 a (exV a C d)) d (.xd fs)) h2 := by
    obtain ⟨o, es, ep, e1, r⟩ := id hns
    exact ok1.retype (by rw [ed1]; exact True.intro) ⟨o, e1⟩ ⟨mA, hns, rel⟩
  exact I1.call' (ch := []) ho U ok2 hb (fun b z => absurd z (by simp))
/-- C(..) of an exception class of the program, as a value. us: the positional values, kw the keywords', zs: bound in the parameters' order -/
theorem run_xnew {pins : List (Addr × Obj)} {σ : St} {H : Hp} {s : Shared} {Q : VK} {us zs : List Value} {kw : List (Str × Value)} {vs : List V} (T : Xc X.K C) (iC : PySem.W.findIn X.K (.ref C) "__init__" = some (some (.ref fI))) (tI : PySem.W.typeIn X.K (.ref fI) = some (.type "function"))
    (F1 : FnOk X.prog X.w X.K X.mg X.base CX k fI fd ps sp) (hr : Room (k + 1) X.A) (hx : Passes CX X (fun _ _ _ => False)) (hz : us.length ≤ sizeLine)
    (hb : ∀ (s : Shared) (a : Addr), X.K.In s.heap → BindsTo s fd ⟨Value.ref a :: us, kw⟩ (ps.zip (Value.ref a :: zs))) (I : Inv X pins σ H s) (r : Vals vs zs)
    (h : ∀ a, H a = none → sp (.ref a :: vs) (upd H a (exo a C none)) (fun v H2 => v = .non ∧ ∃ (d : Addr) (fs : List (Str × V)), H2 a = some (exo a C (some d)) ∧ H2 d = some (exd d fs) ∧ Q (.ref a) (upd (upd H2 a (exV a C d)) d (.xd fs))) (fun _ _ _ => False)) :
    wpAny (model X.prog X.w) X.A (call (.ref C) us kw) (EP X pins σ Q) X.xe s := by
  obtain ⟨nm, q, N, bs, bm, sn, sub, ab, col, dd, k0, k1, k2, k3, k5, B, newId, initId, bmB, hC, FB, hbm⟩ := T.cls
  have hT : ∀ Y : String, bm.contains (.type Y) = bmB.contains (.type Y) := fun Y => by
    have z := PySem.W.excTail_contains Y _ hbm.tail
    rw [List.contains_cons] at z
    have e : (Value.type Y == Value.ref C) = false := rfl
    rw [e, Bool.false_or] at z
    exact z
  obtain ⟨hp, g, dr, tk, os⟩ := s
  have hsz : hp.objs.size ≤ hp.objs.size + 1 := Nat.le_succ _
  have hn : H (hp.objs.size + 1) = none := I.hok.fresh hsz
  have hq := h (hp.objs.size + 1) hn
  have kk : ∀ b o, hp.get? b = some o → ((hp.push (PySem.W.kdv_tup us)).push (PySem.HandSPX.excO C hp.objs.size)).get? b = some o := fun b o e => Heap.get?_push_of_some _ (Heap.get?_push_of_some _ e)
  have hget : ((hp.push (PySem.W.kdv_tup us)).push (PySem.HandSPX.excO C hp.objs.size)).get? (hp.objs.size + 1) = some (PySem.HandSPX.excO C hp.objs.size) := by heap_get
  have I2 : Inv X pins σ (upd H (hp.objs.size + 1) (exo (hp.objs.size + 1) C none)) ⟨(hp.push (PySem.W.kdv_tup us)).push (PySem.HandSPX.excO C hp.objs.size), g, dr, tk, os⟩ :=
    I.laid (t' := tk) (a := hp.objs.size + 1) (o := exo (hp.objs.size + 1) C none) (h' := (hp.push (PySem.W.kdv_tup us)).push (PySem.HandSPX.excO C hp.objs.size)) kk hsz (exo_ok hget)
  have r2 : Vals (V.ref (hp.objs.size + 1) :: vs) (Value.ref (hp.objs.size + 1) :: zs) := .cons rfl r
  refine wpAny_call (VxS.call_K FB hT (I.kIn _ _ hC) (PySem.W.looks_findIn I.kIn iC) (fun self => PySem.W.bind_fn I.kIn self tI) hz
    (codeAny_mono (F1.run _ X.stack _ _ ⟨Value.ref (hp.objs.size + 1) :: us, kw⟩ (Value.ref (hp.objs.size + 1) :: zs) _ _ (fun _ _ _ => False) (hr.make C us kw) (I2.env0.make C us kw) (hb _ _ I2.kIn) r2 hq) fun r s' hq' => ?_))
  cases r with
  | error er => exact hx pins σ _ _ er s' I2 hq'
  | ok fl =>
    cases fl with
    | ret u =>
      obtain ⟨v, H2, os2, bare2, un2, hok2, rv, ev, d, fs, ea, ed, q2⟩ := hq'
      subst ev
      obtain ⟨h2, g2, d2, t2, os'⟩ := s'
      exact ⟨rv, .ref (hp.objs.size + 1), _, xnew_end (d2 := d2) (t2 := t2) I hsz kk un2 hok2 os2 bare2 ea ed, rfl, q2⟩
    | next => exact False.elim hq'
    | brk => exact False.elim hq'
    | cont => exact False.elim hq'
/-- the wish behind C(..): sp is the __init__'s promise, vs the values in the parameters' order -/
def XNew (C : Addr) (sp : Sp) (vs : List V) (H : Hp) (Q : VK) : Prop :=
  ∀ a, H a = none → sp (.ref a :: vs) (upd H a (exo a C none)) (fun v H2 => v = .non ∧ ∃ (d : Addr) (fs : List (Str × V)), H2 a = some (exo a C (some d)) ∧ H2 d = some (exd d fs) ∧ Q (.ref a) (upd (upd H2 a (exV a C d)) d (.xd fs))) (fun _ _ _ => False)
def tXnew (C : Addr) (sp : Sp) (t : TA) : TE := fun σ H Q => t σ H fun vs H1 => vs.length ≤ 1000 ∧ XNew C sp vs H1 Q
theorem pe_xnew (T : Xc X.K C) (iC : PySem.W.findIn X.K (.ref C) "__init__" = some (some (.ref fI))) (tI : PySem.W.typeIn X.K (.ref fI) = some (.type "function"))
    (F1 : FnOk X.prog X.w X.K X.mg X.base CX k fI fd ps sp) (hr : Room (k + 1) X.A) (hbd : Binds X.K fd ps []) (hx : Passes CX X (fun _ _ _ => False)) (hg : Gl X x) (hm : X.mg x = some (.ref C)) (ha : PA X (e :: es) t)
    (hdb : (x == ("__debug__" : Str)) = false := by decide) (he : starEach (e :: es) X.env = (false, eval e X.env) :: starEach es X.env := by rfl) (hpl : (backTo pos (starEach es X.env)).any (·.1) = false := by rfl) :
    PE X (.Call (.Name x p) (e :: es) [] pos) (tXnew C sp t) := by
  refine ⟨fun pins s σ H Q I h => ?_⟩
  refine wpAny_Call_Name_kw (ld_glob I hg hm ?_ hdb)
  refine PySem.W.callWith_K (h₀ := X.base) I.ok.mod.kin T.kC (thn (ha.run pos pins s σ H _ I h) fun us s1 ⟨vs, H1, I1, r1, hz, q1⟩ => ⟨I1.kIn, ?_⟩) he hpl
  have hl : ∀ a : Addr, (Value.ref a :: us).length = ps.length := fun a => by
    have e1 := F1.len _ _ _ _ (q1 s1.heap.objs.size (I1.hok.fresh (Nat.le_refl _)))
    rw [List.length_cons] at e1
    rw [List.length_cons, ← r1.length]
    exact e1
  exact run_xnew (us := us) T iC tI F1 hr hx (by rw [← r1.length, sizeLine_eq]; omega) (fun s a kin => by
    have z := hbd s (Value.ref a :: us) kin (by rw [List.append_nil]; exact hl a)
    rw [List.append_nil] at z
    exact z) I1 r1 q1
/-- C(k = v, ..): one | two keywords, in the parameters' order pe -/
def tXnewK (C : Addr) (sp : Sp) (n : Nat) (gV : List V → List V) (tk : TA) : TE := fun σ H Q => tk σ H fun zs H1 => zs.length = n ∧ XNew C sp (gV zs) H1 Q
theorem pe_xnewK {ks : List Str} {g : List Value → List Value} {gV : List V → List V} (T : Xc X.K C) (iC : PySem.W.findIn X.K (.ref C) "__init__" = some (some (.ref fI))) (tI : PySem.W.typeIn X.K (.ref fI) = some (.type "function"))
    (F1 : FnOk X.prog X.w X.K X.mg X.base CX k fI fd ps sp) (hr : Room (k + 1) X.A) (hbd : ∀ (s : Shared) (a : Addr) (ws : List Value), X.K.In s.heap → ws.length = ks.length → BindsTo s fd ⟨[Value.ref a], ks.zip ws⟩ (ps.zip (Value.ref a :: g ws)))
    (rel : ∀ {zs : List V} {ws : List Value}, Vals zs ws → Vals (gV zs) (g ws)) (hx : Passes CX X (fun _ _ _ => False)) (hg : Gl X x) (hm : X.mg x = some (.ref C)) (hkw : PK X kws tk)
    (hall : (backToKw pos (keywordEach kws X.env)).all (·.1.isSome) = true := by rfl) (hks : (backToKw pos (keywordEach kws X.env)).filterMap (·.1) = ks := by rfl) (hdb : (x == ("__debug__" : Str)) = false := by decide)
    (hpl : ((backTo pos (starEach [] X.env)).any (·.1) || (backToKw pos (keywordEach kws X.env)).any (·.1.isNone)) = false := by rfl) :
    PE X (.Call (.Name x p) [] kws pos) (tXnewK C sp ks.length gV tk) := by
  refine ⟨fun pins s σ H Q I h => ?_⟩
  refine wpAny_Call_Name_kw (ld_glob I hg hm ?_ hdb)
  refine PySem.W.callWith_KW0 (h₀ := X.base) I.ok.mod.kin T.kC hall ?_ hpl
  refine thn (hkw.run pos pins s σ H _ I h) fun ws s2 ⟨zs, H2, I2, rz, l2, q2⟩ => ⟨I2.kIn, ?_⟩
  rw [hks]
  exact run_xnew (us := []) T iC tI F1 hr hx (Nat.zero_le _) (fun s a kin => hbd s a ws kin (by rw [← rz.length]; exact l2)) I2 (rel rz) q2
end
/-! ### what the written part says, by one look -/
def xcB (K : PySem.W.Frag) (C : Addr) (bmB : List Value) (newId : String) : Bool :=
  PySem.W.excInitIn K C bmB newId && (PySem.W.hasDictIn K C && (decide (PySem.W.findIn K (.ref C) "__setattr__" = some (some (.builtin "object.__setattr__"))) && (decide (PySem.W.findIn K (.ref C) "__getattribute__" = some (some (.builtin "BaseException.__getattribute__"))) &&
  (decide (PySem.W.findIn K (.ref C) "__getattr__" = some none) && (decide (PySem.W.subIn K (.ref C) (.type "BaseException") = some true) && (decide (PySem.W.typeIn K (.ref C) = some (.type "type")) && (PySem.W.keepIn K (.ref C) &&
  (decide (PySem.W.findIn K (.ref C) "__class__" = some (some (.builtin "object.__class__"))) && (decide (PySem.W.specialIn K (.builtin "object.__class__") "__get__" = some (some (.builtin "getset_descriptor.__get__"))) &&
  (decide (PySem.W.takesIn K (.builtin "object.__class__") = some true) && decide (PySem.W.mroIn K C (.type "object") = some true)))))))))))
theorem band {a b : Bool} (h : (a && b) = true) : a = true ∧ b = true := Bool.and_eq_true_iff.mp h
theorem xc_of {K : PySem.W.Frag} {C : Addr} {B newId initId : String} {bmB : List Value} (FB : ExcBaseFacts B newId initId bmB) (SF : StoreFacts B bmB "object.__setattr__" "object") (h : xcB K C bmB newId = true) : Xc K C := by
  obtain ⟨h1, h⟩ := band h
  obtain ⟨h2, h⟩ := band h
  obtain ⟨h3, h⟩ := band h
  obtain ⟨h4, h⟩ := band h
  obtain ⟨h5, h⟩ := band h
  obtain ⟨h6, h⟩ := band h
  obtain ⟨h7, h⟩ := band h
  obtain ⟨h8, h⟩ := band h
  obtain ⟨h9, h⟩ := band h
  obtain ⟨h10, h⟩ := band h
  obtain ⟨h11, h12⟩ := band h
  refine ⟨?_, of_decide_eq_true h3, of_decide_eq_true h4, of_decide_eq_true h5, of_decide_eq_true h6, of_decide_eq_true h7, h8, h2, of_decide_eq_true h9, of_decide_eq_true h10, of_decide_eq_true h11, of_decide_eq_true h12⟩
  obtain ⟨cd0, hc0, hd0⟩ := PySem.W.any_some h2
  unfold PySem.W.excInitIn at h1
  split at h1
  · rename_i dd cd sl ho
    split at h1
    · rename_i C' bm k0 k1 k2 k3 n k5 hm hs
      simp only [Bool.and_eq_true, beq_iff_eq, Bool.not_eq_true'] at h1
      obtain ⟨⟨⟨rfl, rfl⟩, hdel⟩, ht⟩ := h1
      have hcl : PySem.W.clsIn K C' = some cd := by unfold PySem.W.clsIn; rw [ho] <;> rfl
      rw [hcl] at hc0
      have ec := Option.some.inj hc0
      rw [← ec] at hd0
      obtain ⟨nm, bs, mro, ns, qn, hd, sn, sub, ab, col, del⟩ := cd
      dsimp only at hm hdel hd0
      subst hm hdel hd0
      have hsl : sl = #[k0, k1, k2, k3, some (.builtin n), k5] := by
        obtain ⟨l⟩ := sl
        simp only at hs
        rw [hs]
      subst hsl
      exact ⟨nm, qn, ns, bs, bm, sn, sub, ab, col, dd, k0, k1, k2, k3, k5, B, n, initId, bmB, ho, FB, ⟨ht, SF.passes, SF.hasOwner⟩⟩
    · cases h1
  · cases h1
/-- the three bases -/
abbrev bmVE : List Value := [.type "ValueError", .type "Exception", .type "BaseException", .type "object"]
abbrev bmRE : List Value := [.type "RuntimeError", .type "Exception", .type "BaseException", .type "object"]
abbrev bmLE : List Value := [.type "LookupError", .type "Exception", .type "BaseException", .type "object"]
theorem xc_VE {K : PySem.W.Frag} {C : Addr} (h : xcB K C bmVE "ValueError.__new__" = true) : Xc K C := xc_of PySem.F.excBase_ValueError PySem.F.store_ValueError h
theorem xc_RE {K : PySem.W.Frag} {C : Addr} (h : xcB K C bmRE "RuntimeError.__new__" = true) : Xc K C := xc_of PySem.F.excBase_RuntimeError PySem.F.store_RuntimeError h
theorem xc_LE {K : PySem.W.Frag} {C : Addr} (h : xcB K C bmLE "LookupError.__new__" = true) : Xc K C := xc_of PySem.F.excBase_LookupError PySem.F.store_LookupError h
end L2

set_option Elab.async false
set_option linter.all false
set_option maxRecDepth 100000
set_option maxHeartbeats 4000000
/-! VxE: list + list where the left one may be the script; the state that draws leave -/
namespace L2
open PySem PySem.Spec PyProof.Rows
section
variable {X : Cx}
def rCatS (K : PySem.W.Frag) : R2 := fun x y H Q => ∃ l b xs zs, x = .ref l ∧ y = .ref b ∧ SqL K H l xs ∧ SqL K H b zs ∧ xs.length + zs.length ≤ sizeLine ∧ ∀ p, H p = none → Q (.ref p) (upd H p (.lst (xs ++ zs)))
theorem op_catS : OpR X (binaryOp .Add) (rCatS X.K) := by
  intro pins s σ H x y v u Q I rx ry h
  obtain ⟨l, b, xs, zs, rfl, rfl, hH, hB, hz, q⟩ := h
  cases rx
  cases ry
  obtain ⟨its, r, ⟨o, n, e, e1, e2, e3⟩, z⟩ := I.list hH
  obtain ⟨its2, r2, ⟨o2, n2, f, f1, f2, f3⟩, z2⟩ := I.list hB
  obtain ⟨c, d, dt, sl⟩ := o
  obtain ⟨c2, d2, dt2, sl2⟩ := o2
  dsimp only at e1 e2 e3 f1 f2 f3
  subst e1 e2 e3 f1 f2 f3
  have ea : its.toArray ++ its2.toArray = (its ++ its2).toArray := by simp
  refine concat_meets ⟨_, e, rfl⟩ ⟨_, f, rfl⟩ noFill_list_add seq_list_add PySem.F.slot_list_add PySem.F.entry_list_add (PySem.F.args_list_add_2 _ _) (list_addW l b its.toArray its2.toArray n n2 none none sl sl2 (by rw [List.size_toArray, List.size_toArray, ← r.length, ← r2.length]; exact hz)) ⟨e, f, ?_⟩
  rw [ea]
  exact ⟨.ref _, _, I.lnew (t' := s.toks) (r.append r2) (by rw [List.length_append]; exact hz), rfl, q _ I.fresh⟩
end
/-! ### draws -/
abbrev kCells : Key := Sum.inr "cells"
abbrev kAt : Key := Sum.inr "at"
abbrev kLeft : Key := Sum.inr "left"
abbrev kUsed : Key := Sum.inr "used"
def drawKv (l : Addr) (a b c : Int) : List (Key × V) := [(kCells, .ref l), (kAt, .int a), (kLeft, .int b), (kUsed, .int c)]
theorem dk_cells {l : Addr} {a b c : Int} : valV (drawKv l a b c) kCells = some (.ref l) := by kernel_rfl
theorem dk_at {l : Addr} {a b c : Int} : valV (drawKv l a b c) kAt = some (.int a) := by kernel_rfl
theorem dk_left {l : Addr} {a b c : Int} : valV (drawKv l a b c) kLeft = some (.int b) := by kernel_rfl
theorem dk_used {l : Addr} {a b c : Int} : valV (drawKv l a b c) kUsed = some (.int c) := by kernel_rfl
theorem dp_at {l : Addr} {a b c z : Int} : putK (drawKv l a b c) kAt (.int z) = drawKv l z b c := by kernel_rfl
theorem dp_left {l : Addr} {a b c z : Int} : putK (drawKv l a b c) kLeft (.int z) = drawKv l a z c := by kernel_rfl
theorem dp_used {l : Addr} {a b c z : Int} : putK (drawKv l a b c) kUsed (.int z) = drawKv l a b z := by kernel_rfl
/-- at p: the dict that the draws go on with; at most N draws are behind it -/
def DrawAt (H : Hp) (p : Addr) (N : Nat) : Prop := ∃ (l : Addr) (cs : List Int) (a b c : Int), H p = some (.dK (drawKv l a b c)) ∧ H l = some (.lst (cs.map V.int)) ∧ 0 < cs.length ∧ cs.length ≤ 64 ∧ 0 ≤ a ∧ a ≤ N ∧ 0 ≤ b ∧ 0 ≤ c ∧ c ≤ N
/-- all that was tracked but p stands -/
def Keep (p : Addr) (H H' : Hp) : Prop := ∀ c o, H c = some o → c ≠ p → H' c = some o
theorem Keep.refl {p : Addr} {H : Hp} : Keep p H H := fun _ _ e _ => e
theorem Keep.trans {p : Addr} {H H1 H2 : Hp} (a : Keep p H H1) (b : Keep p H1 H2) : Keep p H H2 := fun c o e n => b c o (a c o e n) n
theorem Keep.of {p : Addr} {H H' : Hp} (s : Same H H') : Keep p H H' := fun c o e _ => s c o e
theorem Keep.upd {p : Addr} {H : Hp} {o : HO} : Keep p H (upd H p o) := fun c o e n => by rw [upd_ne n]; exact e
theorem same_new {H : Hp} {p : Addr} {o : HO} (h : H p = none) : Same H (upd H p o) := fun c u e => by rw [upd_ne (ne_of_none e h)]; exact e
theorem DrawAt.same {H H' : Hp} {p : Addr} {N : Nat} (d : DrawAt H p N) (s : Same H H') : DrawAt H' p N := by
  obtain ⟨l, cs, a, b, c, h1, h2, r⟩ := d
  exact ⟨l, cs, a, b, c, s _ _ h1, s _ _ h2, r⟩
theorem DrawAt.ne {H : Hp} {p : Addr} {N : Nat} (d : DrawAt H p N) {q : Addr} {o : HO} (h : H q = some o) (n : ∀ kvs, o ≠ .dK kvs) : q ≠ p := by
  obtain ⟨l, cs, a, b, c, h1, _⟩ := d
  exact ne_of h h1 (n _)
theorem DrawAt.mono {H : Hp} {p : Addr} {N M : Nat} (d : DrawAt H p N) (h : N ≤ M) : DrawAt H p M := by
  obtain ⟨l, cs, a, b, c, h1, h2, r1, r2, r3, r4, r5, r6, r7⟩ := d
  exact ⟨l, cs, a, b, c, h1, h2, r1, r2, r3, by omega, r5, r6, by omega⟩
/-- the promises of the three defs -/
def spBegin (K : PySem.W.Frag) : Sp := fun vs H Q _ => ∃ (a : Addr) (ns : List Int), vs = [.ref a] ∧ SqL K H a (ns.map V.int) ∧ ns.length ≤ 63 ∧ ∀ p H', H p = none → Same H H' → DrawAt H' p 0 → Q (.ref p) H'
def spMixed : Sp := fun vs H Q _ => ∃ c k : Int, vs = [.int c, .int k] ∧ 0 ≤ k ∧ k < 1099511627776 ∧ ∀ r : Int, 0 ≤ r → r < 2147483648 → Q (.int r) H
def spNext : Sp := fun vs H Q _ => ∃ (p : Addr) (b : Int) (N : Nat), vs = [.ref p, .int b] ∧ DrawAt H p N ∧ N < 1000000000 ∧ 0 < b ∧ b < 1073741824 ∧ ∀ (r : Int) (H' : Hp), 0 ≤ r → r < b → DrawAt H' p (N + 1) → Keep p H H' → Q (.int r) H'
/-! ### facts behind the top: the facts of HeadHook2 and one look more -/
end L2
namespace He
open PySem PySem.Spec PyProof.Rows L2
def hookXe (n : Nat) (fa : List Fa) (fn : List DefD) (chk : PySem.W.Frag → Bool) : PySem.W.Hook where
  α := AlD × Bool
  obs := fun s => (obsD fa fn (frG s.heap.get? (asD s.heap.get? n)), chk (frG s.heap.get? (asD s.heap.get? n)))
  val := fun _ => (valD fn, true)
  says := fun _ h => ∃ K : PySem.W.Frag, K.In h ∧ SaysD fa fn K ∧ chk K = true
  of := fun _ _ e => ⟨_, frG_in, congrArg Prod.fst e, congrArg Prod.snd e⟩
  keeps := fun _ _ _ ⟨K, hK, c⟩ k => ⟨K, PySem.W.Frag.In.keeps hK k, c⟩
def obsXe (n : Nat) (fa : List Fa) (fn : List DefD) (chk : PySem.W.Frag → Bool) (g : Addr → Option Obj) : AlD × Bool := (obsD fa fn (frG g (asD g n)), chk (frG g (asD g n)))
theorem obsXe_eq {n : Nat} {fa : List Fa} {fn : List DefD} {chk : PySem.W.Frag → Bool} {g : Addr → Option Obj} {s : Shared} (h : ∀ a, g a = s.heap.get? a) : obsXe n fa fn chk g = (hookXe n fa fn chk).obs s := by
  have e : g = s.heap.get? := funext h
  rw [e] <;> rfl
end He

set_option Elab.async false
set_option linter.all false
set_option maxRecDepth 100000
set_option maxHeartbeats 4000000
/-! VxG: defs that are promised where nothing is being shown (no repr runs): FnG; their bodies, their calls; a law's end over them. -/
namespace L2
open PySem PySem.Spec PyProof.Rows
structure FnG (P : Program) (w : World) (K : PySem.W.Frag) (mg : Str → Option Value) (base : Heap) (CX : CXT) (k : Nat) (f : Addr) (fd : FuncData) (ps : List Str) (sp : Sp) : Prop where
  len : ∀ vs H Q E, sp vs H Q E → vs.length = ps.length
  run : ∀ (A : Around), A.guards = some [] → Room k A → ∀ (outer : List Env) (s : Shared) (H : Hp) (args : Args) (us : List Value) (vs : List V) (Q : VK) (E : XK), Env0 P w K mg base A outer s H → BindsTo s fd args (ps.zip us) → Vals vs us → sp vs H Q E →
    codeAny (model P w) A (.call (.ref f) args) (CR CX outer P w H s Q E) s
section
variable {P : Program} {w : World} {K : PySem.W.Frag} {mg : Str → Option Value} {base : Heap} {CX : CXT} {k : Nat} {f : Addr} {fd : FuncData} {N ps : List Str} {sp : Sp}
theorem FnOk.g (F : FnOk P w K mg base CX k f fd ps sp) : FnG P w K mg base CX k f fd ps sp := ⟨F.len, fun A _ hr outer s H args us vs Q E => F.run A outer s H args us vs Q E hr⟩
/-- such a def, by its body -/
theorem FunD.okG {x qual : Str} {params : Arguments} {body : List Stmt} {scope : Scope} {dvs : List V} {kws : List (Str × V)} (F : FunD K x qual params body scope dvs kws f fd) (S : FnScope N ps scope) (len : ∀ vs H Q E, sp vs H Q E → vs.length = ps.length)
    (hbody : ∀ (cdv : Value) (A : Around) (outer : List Env) (s : Shared) (H : Hp) (vs : List V) (Q : VK) (E : XK), (A.deeper (envOfC qual scope s.heap.objs.size f cdv)).guards = some [] → Room k (A.deeper (envOfC qual scope s.heap.objs.size f cdv)) → sp vs H Q E →
      ∃ t, PSs (cxOf CX P w K mg base N qual scope f cdv A outer s H E) body t ∧ t { nx := fun _ H' => Q .non H', rt := Q } (start N vs) H) : FnG P w K mg base CX (k + 1) f fd ps sp := by
  obtain ⟨oc, od, dV, kV, doc, pm, an, cdv, ct, osl, rfl, lk, hcd, _, _⟩ := F.ex
  refine ⟨len, fun A hgu hr outer s H args us vs Q E e0 hb r hsp => ?_⟩
  have kin : K.In s.heap := e0.mod.kin.keeps fun b o e => (e0.bs b o e).1
  have par : ∀ y ∈ ps.zip us, scope.names.lookup y.1 = some .local ∨ (scope.names.lookup y.1 = some .cell ∧ ((cellsFrom (s.heap.objs.size + 1) scope.names []).lookup y.1).isSome = true) := by
    intro y hy
    obtain ⟨n, v⟩ := y
    exact (S.par n (List.of_mem_zip hy).1).imp id fun q => ⟨q, PySem.W.cellsFrom_some _ _ _ (.inl q)⟩
  refine codeAny_call_function hr.depth (kin _ _ lk) rfl S.co S.gen rfl (PySem.W.codeRec_of kin hcd) (hb _ _ _ _ (wpAny_newFunctionEnv_cells S.kind par fun env he s1 x => ?_))
  subst he
  refine ⟨(e0.mod.nolimit.keeps fun b o e => (e0.bs b o e).1).keeps x.toInCall.keep, codeAny_func ?_⟩
  obtain ⟨t, ht, hq⟩ := hbody cdv A outer s H vs Q E hgu (hr.deeper _) hsp
  refine wpAny_mono (ht.run [] s1 (start N vs) H _ (inv_start S hr.hd e0 (len _ _ _ _ hsp) r x) hq) (fun fl s' hs => ?_) fun _ _ hs => hs
  cases fl with
  | ret u =>
    obtain ⟨v, _, H', J, rv, q⟩ := hs
    exact ⟨v, H', J.os, J.bare, J.base, J.hok, rv, q⟩
  | next =>
    obtain ⟨_, H', J, q⟩ := hs
    exact ⟨V.non, H', J.os, J.bare, J.base, J.hok, rfl, q⟩
  | brk => exact hs.elim fun _ z => z.elim fun _ z => z.2.elim
  | cont => exact hs.elim fun _ z => z.elim fun _ z => z.2.elim
end
section
variable {X : Cx} {CX : CXT} {k : Nat} {f : Addr} {fd : FuncData} {ps : List Str} {sp : Sp} {dvs : List V} {ds : List Value} {E : XK} {x : Str} {p pos : Pos} {e : Expr} {es : List Expr} {t : TA}
/-- f(e, ..) -/
theorem pe_callG (hgu : X.A.guards = some []) (F : FnG X.prog X.w X.K X.mg X.base CX k f fd ps sp) (hr : Room k X.A) (hg : Gl X x) (hm : X.mg x = some (.ref f)) (hk : PySem.W.keepIn X.K (.ref f) = true) (hb : Binds X.K fd ps ds) (hd : Vals dvs ds) (hx : Passes CX X E)
    (ha : PA X (e :: es) t) (hdb : (x == ("__debug__" : Str)) = false := by decide) (he : starEach (e :: es) X.env = (false, eval e X.env) :: starEach es X.env := by rfl) (hpl : (backTo pos (starEach es X.env)).any (·.1) = false := by rfl) :
    PE X (.Call (.Name x p) (e :: es) [] pos) (tCall sp dvs E t) := by
  refine ⟨fun pins s σ H Q I h => wpAny_Call_Name_kw (ld_glob I hg hm (PySem.W.callWith_K (h₀ := X.base) I.ok.mod.kin hk (thn (ha.run pos pins s σ H _ I h) fun us s1 z => ?_) he hpl) hdb)⟩
  obtain ⟨vs, H1, I1, r, q⟩ := z
  have r2 : Vals (vs ++ dvs) (us ++ ds) := r.append hd
  refine ⟨I1.kIn, wpAny_call (codeAny_mono (F.run X.A hgu hr X.stack s1 H1 ⟨us, []⟩ (us ++ ds) (vs ++ dvs) Q E I1.env0 (hb s1 us I1.kIn (r2.length.symm.trans (F.len _ _ _ _ q))) r2 q) fun rs s' hq => ?_)⟩
  cases rs with
  | error er => exact hx pins σ H1 s1 er s' I1 hq
  | ok fl =>
    cases fl with
    | ret u => exact I1.after hq
    | next => exact hq.elim
    | brk => exact hq.elim
    | cont => exact hq.elim
end
/-- the script, tracked as the list that it is -/
def onlyAt (a : Addr) (o : Obj) (xs : List V) : Hp := fun b => if b = a then some (.frz o (.lst xs)) else none
/-- a law's end: its def is promised where nothing is being shown -/
theorem law_callG {P : Program} {w : World} {K : PySem.W.Frag} {mg mb : Str → Option Value} {k : Nat} {fa a : Addr} {fd : FuncData} {x : Str} {sp : Sp} {s₁ : Shared} {vs : List Value} {ns : List Int}
    (kin : K.In s₁.heap) (hns : s₁.heap.Ns mainGlobals mg) (hb : s₁.heap.Ns builtinsNs mb) (hbb : ∀ x : Str, x ≠ "__name__" → mb x = bootBuiltins x) (hlim : s₁.heap.NoLimit) (hg : s₁.gens = #[])
    (ha : s₁.heap.get? a = some { cls := .type "list", data := .seq vs.toArray }) (hi : IntsAre vs ns) (hl : ns.length ≤ sizeLine) (hr : Room k callerA)
    (F : ∀ base : Heap, K.In base → base.Ns mainGlobals mg → FnG P w K mg base CX0 k fa fd [x] sp) (hbind : ∀ (s : Shared) (u : Value), BindsTo s fd ⟨[u], []⟩ [(x, u)])
    (hsp : ∀ H : Hp, Only H → SqL K H a (ns.map V.int) → sp [.ref a] H (fun v _ => v = .bl true) fun _ _ _ => False) :
    codeAny (model P w) callerA (.call (.ref fa) ⟨[.ref a], []⟩) (fun r s' => r = .ok (.ret (.bool true)) ∧ OldK s₁.heap s'.heap ∧ s'.os = s₁.os ∧ AllBare s'.gens) s₁ := by
  have rv : Vals (ns.map V.int) vs := vals_ints hi
  have key : ∀ H : Hp, Only H → SqL K H a (ns.map V.int) → HOk P w H s₁.heap → (∀ b, H b ≠ none → b = a) → (H a ≠ none → K.lookup a = none) →
      codeAny (model P w) callerA (.call (.ref fa) ⟨[.ref a], []⟩) (fun r s' => r = .ok (.ret (.bool true)) ∧ OldK s₁.heap s'.heap ∧ s'.os = s₁.os ∧ AllBare s'.gens) s₁ := by
    intro H hO hS hok only hK
    have free : ∀ b, b ≠ a → H b = none := fun b nb => by
      cases q : H b with
      | none => rfl
      | some u => exact absurd (only b (by rw [q]; exact fun z => nomatch z)) nb
    have dictNe : ∀ {b : Addr} {o : Obj} {es : Array DictEntry} {ep : Nat}, s₁.heap.get? b = some o → o.data = .dict es ep → b ≠ a := fun {b o es ep} e d z => by
      rw [z, ha] at e
      have eo := Option.some.inj e
      rw [← eo] at d
      exact nomatch (show Data.seq vs.toArray _ = Data.dict es ep from d)
    have nsK : ∀ {b : Addr} {m : Str → Option Value}, s₁.heap.Ns b m → (hidT s₁.heap H).Ns b m := fun {b m} z => by
      obtain ⟨o, es, ep, e, d, r⟩ := z
      exact ⟨o, es, ep, hidT_get e (free b (dictNe e d)), d, r⟩
    have kinB : K.In (hidT s₁.heap H) := fun b o e => hidT_get (kin b o e) (by
      by_cases nb : b = a
      · cases q : H b with
        | none => rfl
        | some u =>
          have z := hK (by rw [← nb, q]; exact fun z => nomatch z)
          rw [← nb, e] at z
          cases z
      · exact free b nb)
    have md : Mod K mg (hidT s₁.heap H) := ⟨kinB, nsK hns, ⟨mb, nsK hb, hbb⟩, by
      obtain ⟨mc, h1, h2⟩ := hlim
      exact ⟨mc, nsK h1, h2⟩⟩
    have e0 : Env0 P w K mg (hidT s₁.heap H) callerA [] s₁ H := ⟨rfl, md, fun b o e => of_hidT e, Nat.le_of_eq (hidT_size _ _), trivial, fun b z => (List.not_mem_nil z).elim, hok, .of_eq hg⟩
    refine codeAny_mono ((F _ kinB (nsK hns)).run callerA rfl hr [] s₁ H ⟨[.ref a], []⟩ [.ref a] [.ref a] _ _ e0 (hbind s₁ (.ref a)) (.cons rfl .nil) (hsp H hO hS)) fun r s' h => ?_
    cases r with
    | error e => exact False.elim h
    | ok fl =>
      cases fl with
      | next => exact False.elim h
      | brk => exact False.elim h
      | cont => exact False.elim h
      | ret u =>
        obtain ⟨v, H', os, bare, un, hok', r', q⟩ := h
        have ev : v = .bl true := q
        rw [ev] at r'
        have eu : u = Value.bool true := r'
        rw [eu]
        refine ⟨rfl, OldK.of_keep fun b o e => ?_, os, bare⟩
        rcases hO b with z | ⟨ob, xs, z⟩
        · exact un.keep b o e z (fun y => (List.not_mem_nil y).elim) (fun y => (List.not_mem_nil y).elim)
        · have e1 := (hok b _ z).1
          have e2 := (hok' b _ (un.frzs b ob _ z)).1
          rw [e] at e1
          rw [Option.some.inj e1]
          exact e2
  cases hk : K.lookup a with
  | some o =>
    have e := kin a o hk
    rw [ha] at e
    have eo := Option.some.inj e
    refine key (fun _ => none) (fun _ => .inl rfl) (.inr ⟨o, vs.toArray, _, hk, by rw [← eo], by rw [← eo], by rw [← eo], by rw [List.size_toArray, hi.length]; exact hl, by simpa using rv⟩) (fun b u z => nomatch (show (none : Option HO) = some u from z)) (fun b z => absurd rfl z) fun z => absurd rfl z
  | none =>
    have at_ : onlyAt a { cls := .type "list", data := .seq vs.toArray } (ns.map V.int) a = some (.frz { cls := .type "list", data := .seq vs.toArray } (.lst (ns.map V.int))) := if_pos rfl
    have off : ∀ b, b ≠ a → onlyAt a { cls := .type "list", data := .seq vs.toArray } (ns.map V.int) b = none := fun b nb => if_neg nb
    refine key (onlyAt a { cls := .type "list", data := .seq vs.toArray } (ns.map V.int)) (fun b => ?_) (.inl (.inr ⟨_, at_⟩)) (fun b u z => ?_) (fun b z => ?_) fun _ => hk
    · by_cases nb : b = a
      · exact .inr ⟨_, _, by rw [nb]; exact at_⟩
      · exact .inl (off b nb)
    · by_cases nb : b = a
      · subst nb
        rw [at_] at z
        have ez := Option.some.inj z
        subst ez
        exact ⟨ha, by rw [List.length_map]; exact hl, vs, _, rv, ha⟩
      · rw [off b nb] at z
        cases z
    · by_cases nb : b = a
      · exact nb
      · exact absurd (off b nb) z
theorem walk_ofG {l : PySem.W.OpenLaw} {n k : Nat} {q : Program} {loose : List Str} {XP : (Str → Option Value) → Heap → Prop} {YP : World → Heap → Prop} {d : DefRec} {x : Str}
    (hn : l.most = some n) (hn2 : n ≤ sizeLine) (hdf : d.params.defaults = []) (hr : Room k callerA)
    (F : ∀ (w : World) (mg : Str → Option Value) (fa : Addr) (h : Heap), YP w h → h.Ns mainGlobals mg → mg d.name = some (.ref fa) →
      ∃ (K : PySem.W.Frag) (fd : FuncData) (sp : Sp), K.In h ∧ (∀ (s : Shared) (u : Value), BindsTo s fd ⟨[u], []⟩ [(x, u)]) ∧
        (∀ (H : Hp) (a : Addr) (ns : List Int), ns.length ≤ n → Only H → SqL K H a (ns.map V.int) → sp [.ref a] H (fun v _ => v = .bl true) fun _ _ _ => False) ∧
        ∀ base : Heap, K.In base → base.Ns mainGlobals mg → FnG l.prog w K mg base CX0 k fa fd [x] sp) :
    PySem.W.WalkO q loose XP YP l.row.toRowW d [] (fun f vs => PySem.call f vs) :=
  Att.attach_call hn hdf fun w s₀ s₁ mg mb fa o pm cd doc a vs ns G Y ho hd hcd hmg hobj hints hlen hg => by
    obtain ⟨K, fd, sp, kin, hb, hsp, hF⟩ := F w mg fa _ Y G.T.g hmg
    exact law_callG kin G.T.g G.T.b G.T.builtins G.T.nolimit hg hobj hints (Nat.le_trans hlen hn2) hr hF hb fun H hO hS => hsp H a ns hlen hO hS
/-! ### repr -/
/-- what a value says of itself: None, bools, ints, texts, lists, tuples of these, an empty dict -/
inductive Sw (K : PySem.W.Frag) (H : Hp) : V → PyData → Prop
  | non : Sw K H .non .none
  | bl (b : Bool) : Sw K H (.bl b) (.bool b)
  | int (i : Int) : Sw K H (.int i) (.int i)
  | str (x : Str) : Sw K H (.str x) (.str x)
  | emp {a : Addr} : H a = some (.dK []) → Sw K H (.ref a) (.dict [])
end L2

set_option Elab.async false
set_option linter.all false
set_option maxRecDepth 100000
set_option maxHeartbeats 4000000
/-! VxR: repr of values that are data: None, bools, ints, texts, lists and tuples of these, dicts of no or one entry. -/
namespace L2
open PySem PySem.Spec PyProof.Rows
/-- the written part holds sys.modules, which is a dict -/
def SysK (K : PySem.W.Frag) : Prop := ∃ (o : Obj) (es : Array DictEntry) (n : Nat), K.lookup sysModules = some o ∧ o.data = .dict es n
def sysB (K : PySem.W.Frag) : Bool := match K.lookup sysModules with
  | some ⟨_, _, .dict _ _, _⟩ => true
  | _ => false
theorem sys_of {K : PySem.W.Frag} (h : sysB K = true) : SysK K := by
  unfold sysB at h
  split at h
  · rename_i es n sl e
    exact ⟨_, _, _, e, rfl⟩
  · cases h
def keyD : Key → PyData
  | .inl i => .int i
  | .inr x => .str x
mutual
inductive Sd (K : PySem.W.Frag) (H : Hp) : V → PyData → Prop
  | non : Sd K H .non .none
  | bl (b : Bool) : Sd K H (.bl b) (.bool b)
  | int (i : Int) : Sd K H (.int i) (.int i)
  | str (x : Str) : Sd K H (.str x) (.str x)
  | lst {a : Addr} {xs : List V} {ds : List PyData} : SqL K H a xs → SdAll K H xs ds → Sd K H (.ref a) (.list ds)
  | tup {a : Addr} {xs : List V} {ds : List PyData} : SqT K H a xs → SdAll K H xs ds → Sd K H (.ref a) (.tuple ds)
  | emp {a : Addr} : H a = some (.dK []) → Sd K H (.ref a) (.dict [])
  | one {a : Addr} {k : Key} {v : V} {d : PyData} : H a = some (.dK [(k, v)]) → Sd K H v d → Sd K H (.ref a) (.dict [(keyD k, d)])
inductive SdAll (K : PySem.W.Frag) (H : Hp) : List V → List PyData → Prop
  | nil : SdAll K H [] []
  | cons {v : V} {vs : List V} {d : PyData} {ds : List PyData} : Sd K H v d → SdAll K H vs ds → SdAll K H (v :: vs) (d :: ds)
end
section
variable {K : PySem.W.Frag} {H H' : Hp}
theorem SqL.same' {a : Addr} {xs : List V} (s : Same H H') (h : SqL K H a xs) : SqL K H' a xs := s.seq h
mutual
theorem Sd.same (s : Same H H') (st : ∀ {a : Addr} {xs : List V}, SqT K H a xs → SqT K H' a xs) : ∀ {v : V} {d : PyData}, Sd K H v d → Sd K H' v d
  | _, _, .non => .non
  | _, _, .bl b => .bl b
  | _, _, .int i => .int i
  | _, _, .str x => .str x
  | _, _, .lst h a => .lst (s.seq h) (SdAll.same s st a)
  | _, _, .tup h a => .tup (st h) (SdAll.same s st a)
  | _, _, .emp h => .emp (s _ _ h)
  | _, _, .one h a => .one (s _ _ h) (Sd.same s st a)
theorem SdAll.same (s : Same H H') (st : ∀ {a : Addr} {xs : List V}, SqT K H a xs → SqT K H' a xs) : ∀ {vs : List V} {ds : List PyData}, SdAll K H vs ds → SdAll K H' vs ds
  | _, _, .nil => .nil
  | _, _, .cons h a => .cons (Sd.same s st h) (SdAll.same s st a)
end
end
section
variable {X : Cx} {pins : List (Addr × Obj)} {σ : St} {H : Hp} {s : Shared}
theorem sys_free (S : SysK X.K) (I : Inv X pins σ H s) : H sysModules = none := by
  obtain ⟨o, es, n, hk, _⟩ := S
  exact (I.bs _ _ (I.ok.mod.kin _ _ hk)).2
theorem sys_list (S : SysK X.K) (I : Inv X pins σ H s) {a : Addr} {o : Obj} {its : Array Value} {n : Nat} (e : s.heap.get? a = some o) (d : o.data = .seq its n) : a ≠ sysModules := by
  obtain ⟨o2, es, n2, hk, hd⟩ := S
  intro z
  rw [z, I.kIn _ _ hk] at e
  rw [← Option.some.inj e, hd] at d
  cases d
mutual
theorem Sd.reads (S : SysK X.K) (I : Inv X pins σ H s) : ∀ (d : PyData) (v : V) (u : Value), Sd X.K H v d → RelV v u → ∃ as, Reads s.heap u d as ∧ sysModules ∉ as
  | .none, _, _, h, r => by
    cases h
    cases r
    exact ⟨_, Reads.none, List.not_mem_nil⟩
  | .bool b, _, _, h, r => by
    cases h
    cases r
    exact ⟨_, Reads.bool b, List.not_mem_nil⟩
  | .int i, _, _, h, r => by
    cases h
    obtain ⟨t, rfl⟩ := r
    exact ⟨_, Reads.int i t, List.not_mem_nil⟩
  | .str x, _, _, h, r => by
    cases h
    obtain ⟨t, rfl⟩ := r
    exact ⟨_, Reads.str x t, List.not_mem_nil⟩
  | .list ds, _, _, h, r => by
    cases h with
    | lst hs ha =>
      cases r
      obtain ⟨its, rv, ⟨o, n, ho, hc, _, hd⟩, _⟩ := I.list hs
      obtain ⟨as, hr, hn⟩ := SdAll.reads S I ds _ its ha rv
      exact ⟨_, Reads.list ho hc hd hr, fun m => (List.mem_cons.mp m).elim (fun z => sys_list S I ho hd z.symm) hn⟩
  | .tuple ds, _, _, h, r => by
    cases h with
    | tup hs ha =>
      cases r
      obtain ⟨its, rv, ⟨o, ho, hc, n, hd⟩, _⟩ := I.tuple hs
      obtain ⟨as, hr, hn⟩ := SdAll.reads S I ds _ its ha rv
      exact ⟨_, Reads.tuple ho hc hd hr, hn⟩
  | .dict [], _, _, h, r => by
    cases h with
    | emp ha =>
      cases r
      obtain ⟨_, hsy, vs, kv, o, es, ep, ho, hx, hd, _, hp, _⟩ := I.hok _ _ ha
      cases kv
      have e0 : es.toList = [] := by
        generalize es.toList = l at hp
        cases hp
        rfl
      exact ⟨_, Reads.dict ho hx.1 hd (by rw [e0]; exact .nil) (by rw [e0]; exact .nil), fun m => by
        rcases List.mem_append.mp m with m | m
        · rcases List.mem_cons.mp m with z | z
          · rw [z] at hsy
            simp at hsy
          · exact (List.not_mem_nil z)
        · exact (List.not_mem_nil m)⟩
  | .dict [(kd, d)], _, _, h, r => by
    cases h with
    | @one a k v _ ha hv =>
      cases r
      obtain ⟨_, hsy, vs, kv, o, es, ep, ho, hx, hd, _, hp, _⟩ := I.hok _ _ ha
      cases kv with
      | @cons _ q _ _ h1 h2 =>
        cases h2
        obtain ⟨e1, rv⟩ := h1
        obtain ⟨as, hr, hn⟩ := Sd.reads S I d v q.2 hv rv
        obtain ⟨en, ek, ev, e0⟩ : ∃ en : DictEntry, (mixKind X.prog X.w).is q.1 en.key = true ∧ en.val = q.2 ∧ es.toList = [en] := by
          generalize es.toList = l at hp
          cases hp with
          | cons a1 a2 a3 =>
            cases a3
            exact ⟨_, a1, a2, rfl⟩
        have hk : ∃ as, Reads s.heap en.key (keyD k) as ∧ as = [] := by
          have e1' : k = q.1 := e1
          rw [e1']
          rcases keyIs_shape (show keyIs q.1 en.key = true from ek) with ⟨i, t, z1, z2⟩ | ⟨x, t, z1, z2⟩
          · rw [z1, z2]
            exact ⟨_, Reads.int i t, rfl⟩
          · rw [z1, z2]
            exact ⟨_, Reads.str x t, rfl⟩
        obtain ⟨bs, hb, rfl⟩ := hk
        exact ⟨_, Reads.dict ho hx.1 hd (by rw [e0]; exact .cons hb .nil) (by rw [e0]; exact .cons (as := as) (by show Reads s.heap en.val d as; rw [ev]; exact hr) .nil), fun m => by
          rcases List.mem_append.mp m with m | m
          · rcases List.mem_cons.mp m with z | z
            · rw [z] at hsy
              simp at hsy
            · exact (List.not_mem_nil z)
          · rw [List.append_nil] at m
            exact hn m⟩
  | .dict (_ :: _ :: _), _, _, h, _ => by cases h
theorem SdAll.reads (S : SysK X.K) (I : Inv X pins σ H s) : ∀ (ds : List PyData) (vs : List V) (us : List Value), SdAll X.K H vs ds → Vals vs us → ∃ as, ReadsAll s.heap us ds as ∧ sysModules ∉ as
  | [], _, _, h, r => by
    cases h
    cases r
    exact ⟨_, ReadsAll.nil, List.not_mem_nil⟩
  | d :: ds, _, _, h, r => by
    cases h with
    | cons h1 h2 =>
      cases r with
      | cons r1 r2 =>
        obtain ⟨as, q1, n1⟩ := Sd.reads S I d _ _ h1 r1
        obtain ⟨bs, q2, n2⟩ := SdAll.reads S I ds _ _ h2 r2
        exact ⟨_, ReadsAll.cons q1 q2, fun m => (List.mem_append.mp m).elim n1 n2⟩
end
end
/-- repr(v) -/
def rRepr (K : PySem.W.Frag) : List V → Hp → VK → Prop := fun xs H Q => ∃ (v : V) (d : PyData), xs = [v] ∧ Sd K H v d ∧ d.showable = true ∧ d.depth ≤ 40 ∧ d.shown.length ≤ sizeLine ∧ Q (.str d.shown) H
theorem call_repr {X : Cx} {k : Nat} (hgu : X.A.guards = some []) (hr : Room k X.A) (S : SysK X.K) : CallR X (.builtin "repr") (rRepr X.K) := by
  intro pins s σ H xs us Q I r h
  obtain ⟨v, d, rfl, hv, hs, hd, hz, q⟩ := h
  obtain ⟨u, rfl, ru⟩ := vals1 r
  obtain ⟨as, hr1, hn⟩ := Sd.reads S I d v u hv ru
  have fin : ∀ (h' : Heap) (t tk : Nat), (∀ b o, s.heap.get? b = some o → h'.get? b = some o) → EP X pins σ Q (.str d.shown t) { s with heap := h', toks := tk } := fun h' t tk kp => ⟨.str d.shown, H, I.kept (t' := tk) kp, ⟨t, rfl⟩, q⟩
  have ref : ∀ a, u = .ref a → wpAny (model X.prog X.w) X.A (call (.builtin "repr") [u]) (EP X pins σ Q) X.xe s := fun a e => by
    subst e
    exact repr_of_reads' hr1 hs (fun _ => hn) hgu (by have := hr.un; omega) (fun _ _ e => e) (fun h' t tk kp => fin h' t tk kp) hz
  cases hr1 with
  | none =>
    have q' : Q (.str "None") H := by
      have z := q
      simp only [PyData.shown] at z
      exact z
    exact PySem.P.repr_of_none ⟨.str "None", H, I.tok _, ⟨_, rfl⟩, q'⟩
  | bool b =>
    have q' : Q (.str (if b then "True" else "False")) H := by
      have z := q
      simp only [PyData.shown] at z
      cases b <;> exact z
    cases b
    · exact PySem.P.repr_of_bool ⟨.str "False", H, I.tok _, ⟨_, rfl⟩, q'⟩
    · exact PySem.P.repr_of_bool ⟨.str "True", H, I.tok _, ⟨_, rfl⟩, q'⟩
  | int i t =>
    have q' : Q (.str (toString i)) H := by
      have z := q
      simp only [PyData.shown] at z
      exact z
    exact PySem.P.repr_of_int (by simpa [PyData.showable] using hs) ⟨.str (toString i), H, I.tok _, ⟨_, rfl⟩, q'⟩
  | str x t =>
    have q' : Q (.str (reprText x)) H := by
      have z := q
      simp only [PyData.shown] at z
      exact z
    exact PySem.P.repr_of_str ⟨.str (reprText x), H, I.tok _, ⟨_, rfl⟩, q'⟩ (by simpa only [PyData.shown] using hz)
  | list _ _ _ _ => exact ref _ rfl
  | tuple _ _ _ _ => exact ref _ rfl
  | dict _ _ _ _ _ => exact ref _ rfl
/-! ### a bound of what is shown -/
mutual
def wt : PyData → Nat
  | .none => 4
  | .bool _ => 5
  | .int _ => 1921
  | .str x => (reprText x).length
  | .list xs => wtAll xs + 2
  | .tuple xs => wtAll xs + 3
  | .dict kvs => wtKv kvs + 2
def wtAll : List PyData → Nat
  | [] => 0
  | x :: xs => wt x + 2 + wtAll xs
def wtKv : List (PyData × PyData) → Nat
  | [] => 0
  | (k, v) :: r => wt k + wt v + 4 + wtKv r
end
theorem listText_le (ts : List Str) : (listText ts).length ≤ piled ts + 2 := by
  cases ts with
  | nil => decide
  | cons t r =>
    have h1 : (listText (t :: r)).length = (textFrom 1 (("[" : Str) ++ (if (0 : Nat) > 0 then ", " else "" : String) ++ t) r).length + 1 := by
      show (textFrom 0 "[" (t :: r) ++ "]").length = _
      rw [strLen_append]
      rfl
    have h2 := textFrom_length_pos r 1 (("[" : Str) ++ (if (0 : Nat) > 0 then ", " else "" : String) ++ t) (Nat.succ_pos 0)
    have h3 : (("[" : Str) ++ (if (0 : Nat) > 0 then ", " else "" : String) ++ t).length = 1 + t.length := by
      rw [strLen_append, strLen_append]
      rfl
    rw [h1, h2, h3, piled_cons]
    omega
theorem join_le (ts : List Str) : (Str.join ", " ts).length ≤ piled ts := by
  by_cases h : ts = []
  · subst h
    decide
  · have := join_length_add ts h
    omega
theorem tupleText_le (ts : List Str) : (tupleText ts).length ≤ piled ts + 3 := by
  unfold tupleText
  rw [strLen_append, strLen_append]
  have e1 : ((("(" : String) : Str)).length = 1 := rfl
  have e3 : (((if ts.length == 1 then ",)" else ")" : String) : Str)).length ≤ 2 := by split <;> decide
  have := join_le ts
  omega
theorem dictText_le (ts : List Str) : (dictText ts).length ≤ piled ts + 2 := by
  unfold dictText
  rw [strLen_append, strLen_append]
  have e1 : ((("{" : String) : Str)).length = 1 := rfl
  have e2 : ((("}" : String) : Str)).length = 1 := rfl
  have := join_le ts
  omega
mutual
theorem shown_le : ∀ d : PyData, d.showable = true → d.shown.length ≤ wt d
  | .none, _ => by simp only [PyData.shown, wt]; decide
  | .bool b, _ => by cases b <;> simp only [PyData.shown, wt] <;> decide
  | .int i, h => by
    simp only [PyData.shown, wt]
    exact int_text_len_1921 (by simpa [PyData.showable] using h)
  | .str x, _ => by simp only [PyData.shown, wt]; exact Nat.le_refl _
  | .list xs, h => by
    simp only [PyData.shown, wt]
    have h1 := shownAll_le xs (by simpa [PyData.showable] using h)
    have := listText_le (PyData.shownAll xs)
    omega
  | .tuple xs, h => by
    simp only [PyData.shown, wt]
    have h1 := shownAll_le xs (by simpa [PyData.showable] using h)
    have := tupleText_le (PyData.shownAll xs)
    omega
  | .dict kvs, h => by
    simp only [PyData.shown, wt]
    have h1 := shownKv_le kvs (by simpa [PyData.showable] using h)
    have := dictText_le (PyData.shownKv kvs)
    omega
theorem shownAll_le : ∀ xs : List PyData, PyData.showableAll xs = true → piled (PyData.shownAll xs) ≤ wtAll xs
  | [], _ => by simp only [PyData.shownAll, wtAll]; decide
  | x :: xs, h => by
    have h' : x.showable = true ∧ PyData.showableAll xs = true := by simpa [PyData.showableAll] using h
    simp only [PyData.shownAll, wtAll]
    rw [piled_cons]
    have h1 := shown_le x h'.1
    have h2 := shownAll_le xs h'.2
    omega
theorem shownKv_le : ∀ kvs : List (PyData × PyData), PyData.showableKv kvs = true → piled (PyData.shownKv kvs) ≤ wtKv kvs
  | [], _ => by simp only [PyData.shownKv, wtKv]; decide
  | (k, v) :: r, h => by
    have h' : (k.showable = true ∧ v.showable = true) ∧ PyData.showableKv r = true := by simpa [PyData.showableKv] using h
    simp only [PyData.shownKv, wtKv]
    rw [piled_cons, strLen_append, strLen_append]
    have h1 := shown_le k h'.1.1
    have h2 := shown_le v h'.1.2
    have h3 := shownKv_le r h'.2
    have e : (((": " : String) : Str)).length = 2 := rfl
    omega
end
theorem shown_fits {d : PyData} (h : d.showable = true) (h2 : wt d ≤ sizeLine) : d.shown.length ≤ sizeLine := Nat.le_trans (shown_le d h) h2
end L2

set_option Elab.async false
set_option linter.all false
set_option maxRecDepth 100000
set_option maxHeartbeats 4000000
/-! VxX: the classes of errors of a program, each with an __init__ that stores its one or two fields; lists of new errors, lists of isinstance. -/
namespace L2
open PySem PySem.Spec PyProof.Rows
theorem PE.imp {X : Cx} {e : Expr} {t t' : TE} (h : PE X e t) (i : ∀ σ H Q, t' σ H Q → t σ H Q) : PE X e t' := ⟨fun pins s σ H Q I q => h.run pins s σ H Q I (i σ H Q q)⟩
theorem PA.imp {X : Cx} {es : List Expr} {t t' : TA} (h : PA X es t) (i : ∀ σ H Q, t' σ H Q → t σ H Q) : PA X es t' := ⟨fun pos pins s σ H Q I q => h.run pos pins s σ H Q I (i σ H Q q)⟩
theorem Same.refl' {H : Hp} : Same H H := fun _ _ e => e
theorem Same.tr {H H1 H2 : Hp} (a : Same H H1) (b : Same H1 H2) : Same H H2 := fun c o e => b c o (a c o e)
/-- self.f = v -/
def spIni (C : Addr) (f : Str) : Sp := fun vs H Q _ => ∃ (a : Addr) (v : V), vs = [.ref a, v] ∧ H a = some (exo a C none) ∧ ∀ dx, H dx = none → dx ≠ a → Q .non (upd (upd H dx (exd dx [(f, v)])) a (exo a C (some dx)))
/-- self.f = v; self.g = u -/
def spIni2 (C : Addr) (f g : Str) : Sp := fun vs H Q _ => ∃ (a : Addr) (v u : V), vs = [.ref a, v, u] ∧ H a = some (exo a C none) ∧ ∀ dx, H dx = none → dx ≠ a →
  Q .non (upd (upd (upd H dx (exd dx [(f, v)])) a (exo a C (some dx))) dx (exd dx [(g, u), (f, v)]))
theorem xnew1 {C : Addr} {f : Str} {v : V} {H : Hp} {Q : VK} (h : ∀ a H', H a = none → Same H H' → ExAt H' a C [(f, v)] → Q (.ref a) H') : XNew C (spIni C f) [v] H Q := fun a ha => by
  refine ⟨a, v, rfl, upd_same, fun dx n ne => ⟨rfl, dx, [(f, v)], upd_same, (by rw [upd_ne ne, upd_same]), ?_⟩⟩
  have hd : H dx = none := by rw [← n, upd_ne ne]
  refine h a _ ha (fun b o e => ?_) ⟨dx, ?_, upd_same⟩
  · rw [upd_ne (ne_of_none e hd), upd_ne (ne_of_none e ha), upd_ne (ne_of_none e ha), upd_ne (ne_of_none e hd), upd_ne (ne_of_none e ha)]
    exact e
  · rw [upd_ne ne.symm, upd_same]
theorem xnew2 {C : Addr} {f g : Str} {v u : V} {H : Hp} {Q : VK} (h : ∀ a H', H a = none → Same H H' → ExAt H' a C [(g, u), (f, v)] → Q (.ref a) H') : XNew C (spIni2 C f g) [v, u] H Q := fun a ha => by
  refine ⟨a, v, u, rfl, upd_same, fun dx n ne => ⟨rfl, dx, [(g, u), (f, v)], (by rw [upd_ne ne.symm, upd_same]), upd_same, ?_⟩⟩
  have hd : H dx = none := by rw [← n, upd_ne ne]
  refine h a _ ha (fun b o e => ?_) ⟨dx, ?_, upd_same⟩
  · rw [upd_ne (ne_of_none e hd), upd_ne (ne_of_none e ha), upd_ne (ne_of_none e hd), upd_ne (ne_of_none e ha), upd_ne (ne_of_none e hd), upd_ne (ne_of_none e ha)]
    exact e
  · rw [upd_ne ne.symm, upd_same]
/-- one class: its name, its field -/
structure XK1 (P : Program) (w : World) (K : PySem.W.Frag) (mg : Str → Option Value) (base : Heap) (x f : Str) (C : Addr) : Prop where
  T : Xc K C
  hm : mg x = some (.ref C)
  no : PySem.W.findIn K (.ref C) f = some none
  ex : ∃ (fI : Addr) (fd : FuncData), PySem.W.findIn K (.ref C) "__init__" = some (some (.ref fI)) ∧ PySem.W.typeIn K (.ref fI) = some (.type "function") ∧ FnOk P w K mg base CX0 1 fI fd ["self", f] (spIni C f) ∧ Binds K fd ["self", f] [] ∧
    ∀ (s : Shared) (a : Addr) (ws : List Value), K.In s.heap → ws.length = 1 → BindsTo s fd ⟨[Value.ref a], [f].zip ws⟩ ((["self", f] : List Str).zip (Value.ref a :: ws))
/-- a class with two fields -/
structure XK2 (P : Program) (w : World) (K : PySem.W.Frag) (mg : Str → Option Value) (base : Heap) (x f g : Str) (C : Addr) : Prop where
  T : Xc K C
  hm : mg x = some (.ref C)
  no : PySem.W.findIn K (.ref C) f = some none
  no2 : PySem.W.findIn K (.ref C) g = some none
  ex : ∃ (fI : Addr) (fd : FuncData), PySem.W.findIn K (.ref C) "__init__" = some (some (.ref fI)) ∧ PySem.W.typeIn K (.ref fI) = some (.type "function") ∧ FnOk P w K mg base CX0 1 fI fd ["self", f, g] (spIni2 C f g) ∧ Binds K fd ["self", f, g] [] ∧
    ∀ (s : Shared) (a : Addr) (ws : List Value), K.In s.heap → ws.length = 2 → BindsTo s fd ⟨[Value.ref a], [g, f].zip ws⟩ ((["self", f, g] : List Str).zip (Value.ref a :: ws.reverse))
/-- a new error of the class at C with the fields fs of the i-th slot's value -/
def tX1 (C : Addr) (fs : V → List (Str × V)) (i : Nat) : TE := fun σ H Q => ∃ v, σ[i]? = some (some v) ∧ ∀ a H', H a = none → Same H H' → ExAt H' a C (fs v) → Q (.ref a) H'
section
variable {X : Cx} {x f g : Str} {C : Addr} {p pos kp kp2 : Pos} {e e2 : Expr} {i : Nat} {z : Str} {ci : Int} {j1 j2 : Nat} {q1 q2 : Pos}
/-- C(name) -/
theorem pe_x1 (B : XK1 X.prog X.w X.K X.mg X.base x f C) (hr : Room 2 X.A) (hg : Gl X x) (he : PE X e (tVar i)) (hdb : (x == ("__debug__" : Str)) = false := by decide) (hs : starEach [e] X.env = (false, eval e X.env) :: starEach [] X.env := by rfl) :
    PE X (.Call (.Name x p) [e] [] pos) (tX1 C (fun v => [(f, v)]) i) := by
  obtain ⟨fI, fd, i1, i2, F, b, _⟩ := B.ex
  refine PE.imp (pe_xnew B.T i1 i2 F hr b pass0 hg B.hm (pa_cons he pa_nil hs) hdb hs rfl) fun σ H Q h => ?_
  obtain ⟨v, hv, k⟩ := h
  exact ⟨v, hv, (by show 1 ≤ 1000; decide), xnew1 k⟩
/-- C(name, 'text') -/
theorem pe_x2 (B : XK2 X.prog X.w X.K X.mg X.base x f g C) (hr : Room 2 X.A) (hg : Gl X x) (he : PE X e (tVar i)) (hdb : (x == ("__debug__" : Str)) = false := by decide)
    (hs : starEach [e, .Constant (.str z) j1 q1] X.env = (false, eval e X.env) :: starEach [.Constant (.str z) j1 q1] X.env := by rfl) :
    PE X (.Call (.Name x p) [e, .Constant (.str z) j1 q1] [] pos) (tX1 C (fun v => [(g, .str z), (f, v)]) i) := by
  obtain ⟨fI, fd, i1, i2, F, b, _⟩ := B.ex
  refine PE.imp (pe_xnew B.T i1 i2 F hr b pass0 hg B.hm (pa_cons he (pa_cons pe_str pa_nil) hs) hdb hs (by rfl)) fun σ H Q h => ?_
  obtain ⟨v, hv, k⟩ := h
  exact ⟨v, hv, (by show 2 ≤ 1000; decide), xnew2 k⟩
/-- C(f = name) -/
theorem pe_x1K (B : XK1 X.prog X.w X.K X.mg X.base x f C) (hr : Room 2 X.A) (hg : Gl X x) (he : PE X e (tVar i)) (hdb : (x == ("__debug__" : Str)) = false := by decide) :
    PE X (.Call (.Name x p) [] [⟨some f, e, kp⟩] pos) (tX1 C (fun v => [(f, v)]) i) := by
  obtain ⟨fI, fd, i1, i2, F, _, kb⟩ := B.ex
  refine PE.imp (pe_xnewK (ks := [f]) (g := fun ws => ws) (gV := fun zs => zs) B.T i1 i2 F hr (fun s a ws kin hl => kb s a ws kin hl) (fun r => r) pass0 hg B.hm (pk_cons he pk_nil) (by rfl) (by rfl) hdb (by rfl)) fun σ H Q h => ?_
  obtain ⟨v, hv, k⟩ := h
  exact ⟨v, hv, rfl, xnew1 k⟩
theorem vals_rev : ∀ {zs : List V} {ws : List Value}, Vals zs ws → Vals zs.reverse ws.reverse
  | _, _, .nil => .nil
  | _, _, .cons (a := a) (b := b) r t => by
    rw [List.reverse_cons, List.reverse_cons]
    exact (vals_rev t).append (.cons r .nil)
/-- C(g = 'text', f = name) -/
theorem pe_x2K (B : XK2 X.prog X.w X.K X.mg X.base x f g C) (hr : Room 2 X.A) (hg : Gl X x) (he : PE X e (tVar i)) (hdb : (x == ("__debug__" : Str)) = false := by decide) :
    PE X (.Call (.Name x p) [] [⟨some g, .Constant (.str z) j1 q1, kp⟩, ⟨some f, e, kp2⟩] pos) (tX1 C (fun v => [(g, .str z), (f, v)]) i) := by
  obtain ⟨fI, fd, i1, i2, F, _, kb⟩ := B.ex
  refine PE.imp (pe_xnewK (ks := [g, f]) (g := fun ws => ws.reverse) (gV := fun zs => zs.reverse) B.T i1 i2 F hr (fun s a ws kin hl => kb s a ws kin hl) (fun r => vals_rev r) pass0 hg B.hm (pk_cons pe_str (pk_cons he pk_nil)) (by rfl) (by rfl) hdb (by rfl)) fun σ H Q h => ?_
  obtain ⟨v, hv, k⟩ := h
  exact ⟨v, hv, rfl, xnew2 k⟩
/-- C(g = 'text', f = 0) -/
theorem pe_x2KC (B : XK2 X.prog X.w X.K X.mg X.base x f g C) (hr : Room 2 X.A) (hg : Gl X x) (hdb : (x == ("__debug__" : Str)) = false := by decide) :
    PE X (.Call (.Name x p) [] [⟨some g, .Constant (.str z) j1 q1, kp⟩, ⟨some f, .Constant (.int ci) j2 q2, kp2⟩] pos) (fun _ H Q => ∀ a H', H a = none → Same H H' → ExAt H' a C [(g, .str z), (f, .int ci)] → Q (.ref a) H') := by
  obtain ⟨fI, fd, i1, i2, F, _, kb⟩ := B.ex
  refine PE.imp (pe_xnewK (ks := [g, f]) (g := fun ws => ws.reverse) (gV := fun zs => zs.reverse) B.T i1 i2 F hr (fun s a ws kin hl => kb s a ws kin hl) (fun r => vals_rev r) pass0 hg B.hm (pk_cons pe_str (pk_cons pe_int pk_nil)) (by rfl) (by rfl) hdb (by rfl)) fun σ H Q h => ?_
  exact ⟨rfl, xnew2 h⟩
end
/-! ### lists of new errors -/
abbrev XSpec := Addr × (V → List (Str × V))
def Exs (H : Hp) (v : V) : List XSpec → List Addr → Prop
  | [], [] => True
  | c :: cs, a :: as => ExAt H a c.1 (c.2 v) ∧ Exs H v cs as
  | _, _ => False
theorem Exs.mono {H H' : Hp} {v : V} (s : Same H H') : ∀ {cs : List XSpec} {as : List Addr}, Exs H v cs as → Exs H' v cs as
  | [], [], _ => True.intro
  | _ :: _, _ :: _, h => ⟨h.1.mono s, Exs.mono s h.2⟩
  | [], _ :: _, h => h.elim
  | _ :: _, [], h => h.elim
theorem Exs.app {H : Hp} {v : V} : ∀ {cs ds : List XSpec} {as bs : List Addr}, Exs H v cs as → Exs H v ds bs → Exs H v (cs ++ ds) (as ++ bs)
  | [], _, [], _, _, h => h
  | _ :: _, _, _ :: _, _, h, k => ⟨h.1, Exs.app h.2 k⟩
  | [], _, _ :: _, _, h, _ => h.elim
  | _ :: _, _, [], _, h, _ => h.elim
theorem Exs.len {H : Hp} {v : V} : ∀ {cs : List XSpec} {as : List Addr}, Exs H v cs as → as.length = cs.length
  | [], [], _ => rfl
  | _ :: _, _ :: _, h => congrArg Nat.succ (Exs.len h.2)
  | [], _ :: _, h => h.elim
  | _ :: _, [], h => h.elim
theorem Exs.get {H : Hp} {v : V} : ∀ {cs : List XSpec} {as : List Addr} {j : Nat} {c : XSpec}, Exs H v cs as → cs[j]? = some c → ∃ a, as[j]? = some a ∧ ExAt H a c.1 (c.2 v)
  | [], [], _, _, _, e => by simp at e
  | c' :: _, a :: _, 0, c, h, e => by
    have ec : c' = c := by simpa using e
    exact ⟨a, rfl, by rw [← ec]; exact h.1⟩
  | _ :: _, _ :: _, j + 1, c, h, e => by
    obtain ⟨a, h1, h2⟩ := Exs.get (j := j) h.2 (by simpa using e)
    exact ⟨a, by simpa using h1, h2⟩
  | [], _ :: _, _, _, h, _ => h.elim
  | _ :: _, [], _, _, h, _ => h.elim
def tXs (cs : List XSpec) (i : Nat) : TA := fun σ H Q => ∃ v, σ[i]? = some (some v) ∧ ∀ (as : List Addr) H', Same H H' → Exs H' v cs as → Q (as.map V.ref) H'
section
variable {X : Cx} {e : Expr} {es : List Expr} {i : Nat} {C : Addr} {fs : V → List (Str × V)} {cs : List XSpec}
theorem pa_xn : PA X [] (tXs [] i) := PA.imp pa_nil fun σ H Q h => by
  obtain ⟨v, _, k⟩ := h
  exact k [] H Same.refl' True.intro
theorem pa_xc (he : PE X e (tX1 C fs i)) (hr : PA X es (tXs cs i)) (hs : starEach (e :: es) X.env = (false, eval e X.env) :: starEach es X.env := by rfl) : PA X (e :: es) (tXs ((C, fs) :: cs) i) := PA.imp (pa_cons he hr hs) fun σ H Q h => by
  obtain ⟨v, hv, k⟩ := h
  exact ⟨v, hv, fun a H1 _ s1 x1 => ⟨v, hv, fun as H2 s2 x2 => k (a :: as) H2 (s1.tr s2) ⟨x1.mono s2, x2⟩⟩⟩
end
/-! ### lists of isinstance(e, C), e in the slot i, of the class at D -/
def tIss (D : Addr) (bs : List Bool) (i : Nat) : TA := fun σ H Q => ∃ (a : Addr) (fs : List (Str × V)), σ[i]? = some (some (.ref a)) ∧ ExAt H a D fs ∧ Q (bs.map V.bl) H
section
variable {X : Cx} {e : Expr} {es : List Expr} {i : Nat} {D : Addr} {x n : Str} {p1 p2 p3 pos : Pos} {b : Bool} {bs : List Bool}
theorem pe_is1 {C : Addr} (T : Xc X.K D) (hi : Gl X "isinstance") (mi : X.mg "isinstance" = none) (he : PE X e (tVar i)) (hg : Gl X x) (hm : X.mg x = some (.ref C)) (kit : PySem.W.kitOne X.K (.ref D) (.ref C) = some b)
    (hs : starEach [e, .Name x p2] X.env = (false, eval e X.env) :: starEach [.Name x p2] X.env := by rfl) (hpl : (backTo pos (starEach [.Name x p2] X.env)).any (·.1) = false := by rfl) (hd : (x == ("__debug__" : Str)) = false := by decide) :
    PE X (.Call (.Name "isinstance" p1) [e, .Name x p2] [] pos) (fun σ H Q => ∃ (a : Addr) (fs : List (Str × V)), σ[i]? = some (some (.ref a)) ∧ ExAt H a D fs ∧ Q (.bl b) H) :=
  PE.imp (pe_callB call_isX hi mi (by decide +kernel) (pa_cons he (pa_cons (pe_glob (v := .ref C) hg hm rfl hd) pa_nil) hs) (by decide) (by decide) hs hpl) fun σ H Q h => by
    obtain ⟨a, fs, h1, h2, k⟩ := h
    exact ⟨_, h1, a, D, fs, .ref C, .ref C, b, rfl, h2, T, fun u r => r, kit, k⟩
/-- a built-in class -/
theorem pe_is1T {t : String} (T : Xc X.K D) (hi : Gl X "isinstance") (mi : X.mg "isinstance" = none) (he : PE X e (tVar i)) (hg : Gl X x) (hm : X.mg x = none) (hv : bootBuiltins x = some (.type t)) (kit : PySem.W.kitOne X.K (.ref D) (.type t) = some b) (hn : x ≠ "__name__" := by decide)
    (hs : starEach [e, .Name x p2] X.env = (false, eval e X.env) :: starEach [.Name x p2] X.env := by rfl) (hpl : (backTo pos (starEach [.Name x p2] X.env)).any (·.1) = false := by rfl) (hd : (x == ("__debug__" : Str)) = false := by decide) :
    PE X (.Call (.Name "isinstance" p1) [e, .Name x p2] [] pos) (fun σ H Q => ∃ (a : Addr) (fs : List (Str × V)), σ[i]? = some (some (.ref a)) ∧ ExAt H a D fs ∧ Q (.bl b) H) :=
  PE.imp (pe_callB call_isX hi mi (by decide +kernel) (pa_cons he (pa_cons (pe_bltn (v := .ty t) hg hm hv rfl hn hd) pa_nil) hs) (by decide) (by decide) hs hpl) fun σ H Q h => by
    obtain ⟨a, fs, h1, h2, k⟩ := h
    exact ⟨_, h1, a, D, fs, .ty t, .type t, b, rfl, h2, T, fun u r => r, kit, k⟩
theorem pa_isn : PA X [] (tIss D [] i) := PA.imp pa_nil fun σ H Q h => by
  obtain ⟨a, fs, _, _, k⟩ := h
  exact k
theorem pa_isc (he : PE X e (fun σ H Q => ∃ (a : Addr) (fs : List (Str × V)), σ[i]? = some (some (.ref a)) ∧ ExAt H a D fs ∧ Q (.bl b) H)) (hr : PA X es (tIss D bs i)) (hs : starEach (e :: es) X.env = (false, eval e X.env) :: starEach es X.env := by rfl) :
    PA X (e :: es) (tIss D (b :: bs) i) := PA.imp (pa_cons he hr hs) fun σ H Q h => by
  obtain ⟨a, fs, h1, h2, k⟩ := h
  exact ⟨a, fs, h1, h2, a, fs, h1, h2, k⟩
end
end L2

set_option Elab.async false
set_option linter.all false
set_option maxRecDepth 100000
set_option maxHeartbeats 4000000
/-! VxK: list.count of a truth value -/
namespace L2
open PySem PySem.Spec PyProof.Rows
def isB (b : Bool) (v : Value) : Bool := match v with
  | .bool c => c == b
  | _ => false
theorem isB_at {A : Around} {s : Shared} {b : Bool} : ∀ {bs : List Bool} {us : List Value}, Vals (bs.map V.bl) us → ∀ y ∈ us, SeqAt.EqAt A s y (.bool b) (isB b y)
  | [], _, r, y, hy => by
    cases r
    cases hy
  | c :: bs, _, r, y, hy => by
    cases r with
    | cons r1 r2 =>
      cases r1
      rcases List.mem_cons.mp hy with e | e
      · rw [e]
        exact SeqAt.EqAt.bool_bool c b
      · exact isB_at r2 y e
theorem isB_count {b : Bool} : ∀ {bs : List Bool} {us : List Value}, Vals (bs.map V.bl) us → us.countP (isB b) = bs.count b
  | [], _, r => by
    cases r
    rfl
  | c :: bs, _, r => by
    cases r with
    | cons r1 r2 =>
      cases r1
      rw [List.countP_cons, List.count_cons, isB_count r2] <;> rfl
def rCntB (K : PySem.W.Frag) : V → List V → Hp → VK → Prop := fun x xs H Q => ∃ (p : Addr) (bs : List Bool) (b : Bool), x = .ref p ∧ xs = [.bl b] ∧ SqL K H p (bs.map V.bl) ∧ Q (.int (bs.count b : Nat)) H
theorem mt_countB {X : Cx} : MtR X "list.count" (rCntB X.K) := by
  intro pins s σ H x xs v us Q I rx rxs h
  obtain ⟨p, bs, b, rfl, rfl, hs, q⟩ := h
  cases rx
  obtain ⟨u, rfl, ru⟩ := rxs.one
  cases ru
  obtain ⟨its, rv, ⟨o, n, ho, hc, hdn, hd⟩, hlen⟩ := I.list hs
  obtain ⟨cls, dd, data, sl⟩ := o
  dsimp only at hc hd
  subst hc hd
  refine call_meets PySem.F.slot_list_count ⟨_, ho, rfl⟩ PySem.F.entry_list_count (PySem.F.args_list_count_2 _ _)
    (SeqAt.list_countAt p its.toArray n dd sl (.bool b) (isB b)) ⟨ho, fun y hy => isB_at rv y (by simpa using hy), ?_⟩
  refine ⟨.int (bs.count b : Nat), H, I.tok _, ⟨s.toks, ?_⟩, q⟩
  have e : its.countP (isB b) = bs.count b := isB_count rv
  show Value.int ((its.toArray.toList.countP (isB b) : Nat) : Int) s.toks = _
  rw [show its.toArray.toList = its from rfl, e]
end L2

set_option Elab.async false
set_option linter.all false
set_option maxRecDepth 100000
set_option maxHeartbeats 4000000
/-! VxT: try: .. except (A, B, C) as e: caught = e, the error being a tracked value behind it; raise of a program's error that has its own __init__, over any base. -/
namespace L2
open PySem PySem.Spec PyProof.Rows
section
variable {X : Cx} {pins : List (Addr × Obj)} {σ : St} {H : Hp} {s : Shared}
/-- a record that stands untracked, and was not there at the entry, is tracked from here on -/
theorem Inv.adopt {a : Addr} {o : HO} {oe : Obj} {vs : Array Value} (I : Inv X pins σ H s) (e : s.heap.get? a = some oe) (dv : oe.data = .fields vs) (na : H a = none) (h0 : X.s_0.heap.get? a = none) (hp : ∀ p ∈ X.pn ++ pins, p.1 ≠ a)
    (new : ObjOk X.prog X.w (upd H a o) s.heap a o) : Inv X pins σ (upd H a o) s := by
  have nt : ∀ b u, H b = some u → b ≠ a := fun b u z y => by
    rw [y, na] at z
    cases z
  refine ⟨I.ok, I.os, I.bare, ⟨I.base.keep, I.base.slot, fun b u z n hx => ?_, I.base.there, fun b xs z => ?_, fun b u xs z => ?_, fun b ps z => ?_⟩, I.loc, I.cell, ?_, fun x c z => ?_, fun p hq => ?_, fun b u z => ?_, I.len⟩
  · rw [upd_ne (fun y => by
      rw [y, h0] at z
      cases z)]
    exact I.base.free b u z n hx
  · have q := I.base.tups b xs z
    rw [upd_ne (nt _ _ q)]
    exact q
  · have q := I.base.frzs b u xs z
    rw [upd_ne (nt _ _ q)]
    exact q
  · obtain ⟨m, q⟩ := I.base.tbls b ps z
    exact ⟨m, by rw [upd_ne (nt _ _ q)]; exact q⟩
  · rw [upd_ne (fun y => ?_)]
    · exact I.free
    · obtain ⟨m, ⟨o2, es, ep, ho, hd, _⟩, _⟩ := I.loc
      rw [y, e] at ho
      rw [← Option.some.inj ho, dv] at hd
      cases hd
  · rw [upd_ne (fun y => ?_)]
    · exact I.freeC x c z
    · obtain ⟨v, o2, ho, hd⟩ := I.cell x c z
      rw [y, e] at ho
      rw [← Option.some.inj ho, dv] at hd
      cases hd
  · obtain ⟨q1, q2, q3⟩ := I.pin p hq
    exact ⟨q1, by rw [upd_ne (hp p hq)]; exact q2, q3⟩
  · by_cases hb : b = a
    · subst hb
      rw [upd_same] at z
      cases z
      exact new
    · rw [upd_ne hb] at z
      exact (I.hok b u z).stay (fun _ _ _ q => q) (fun c q => by rw [upd_ne (nt _ _ q)]; exact q) fun c xs q => by rw [upd_ne (nt _ _ q)]; exact q
end
/-- what such a clause wishes of an error of the body: slot i is the clause's name, slot j the kept one -/
def wKept (K : PySem.W.Frag) (cs : List Value) (i j : Nat) (Wout : WX) (D : Ends) : WX := fun cls d σ H =>
  ∃ b, PySem.W.exmAny K cls cs = some b ∧ (b = true → ∃ C dd : Addr, cls = .ref C ∧ d = some dd ∧ ∀ a, H a = none → D.nx (((σ.set i (some (.ref a))).set j (some (.ref a))).set i none) (upd H a (exV a C dd))) ∧ (b = false → Wout cls d σ H)
theorem flying_keeps {B h h' : Heap} {l : List Env} {a : Addr} {Z : Obj → Prop} (k : ∀ b o, h.get? b = some o → h'.get? b = some o) (f : HandSPX.FlyingZ B l a Z h) : HandSPX.FlyingZ B l a Z h' := by
  obtain ⟨f1, f2, f3, oe, vs, T, oT, ts, t1, t2, t3, t4, t5, t6, t7, t8, t9⟩ := f
  refine ⟨fun b o e => k b o (f1 b o e), f2, ?_, oe, vs, T, oT, ts, k _ _ t1, t2, t3, t4, t5, t6, k _ _ t7, t8, t9⟩
  clear t1 t2 t3 t4 t5 t6 t7 t8 t9
  induction l with
  | nil => exact True.intro
  | cons env rest ih =>
    obtain ⟨g1, ⟨L, o, g2, g3, g4, g5⟩, g6⟩ := f3
    exact ⟨g1, ⟨L, o, g2, g3, k _ _ g4, g5⟩, ih g6⟩
section
variable {X : Cx} {x1 x2 x3 n m : Str} {C1 C2 C3 : Addr} {i j kk : Nat} {body : List Stmt} {p1 p2 p3 tp pa pb pc pos pos' : Pos} {tb : WX → TS} {Wout : WX}
theorem ps_try_kept (hs : X.stack = X.env :: X.outer) (hf : X.env.frame = some X.env.locals) (hex : X.ex = []) (hN : X.N.Nodup) (hi : X.N[i]? = some n) (hj : X.N[j]? = some m) (hln : X.env.kindOf n = some .local) (hlm : X.env.kindOf m = some .local)
    (g1 : Gl X x1) (m1 : X.mg x1 = some (.ref C1)) (g2 : Gl X x2) (m2 : X.mg x2 = some (.ref C2)) (g3 : Gl X x3) (m3 : X.mg x3 = some (.ref C3)) (tk : Takes X Wout)
    (hb : ∀ (W : WX) (pn : List (Addr × Obj)) (xe : Value → Shared → Prop), Takes (X.tr pn xe) W → PassesOwn (model X.prog X.w) X.A X.env xe → PSs (X.tr pn xe) body (tb W))
    (hij : i ≠ j := by decide) (d1 : (x1 == ("__debug__" : Str)) = false := by decide) (d2 : (x2 == ("__debug__" : Str)) = false := by decide) (d3 : (x3 == ("__debug__" : Str)) = false := by decide) 
    (hn1 : (n == ("__debug__" : Str)) = false := by decide) (hn2 : (n == ("__classdict__" : Str)) = false := by decide)
    (hsw : swapsWith (.Name n pc) (some (.Name m pb)) pa.line X.env = pure false := by rfl)
    : PS X (.Try body [.ExceptHandler (some (.Tuple [.Name x1 p1, .Name x2 p2, .Name x3 p3] kk tp)) (some n) [.Assign [.Name m pb] (.Name n pc) pa] pos'] [] [] pos) (fun D σ H => tb (wKept X.K [.ref C1, .ref C2, .ref C3] i j Wout D) D σ H) := by
  refine ⟨fun pins s σ H D I h => ?_⟩
  have ok := I.ok
  have frs_eq : X.A.frames = some (X.env :: X.outer) := by
    rw [ok.frames, hs]
  let hd1 : ExceptHandler := .ExceptHandler (some (.Tuple [.Name x1 p1, .Name x2 p2, .Name x3 p3] kk tp)) (some n) [.Assign [.Name m pb] (.Name n pc) pa] pos'
  let xe2 : Value → Shared → Prop := fun e t1 => wpAny (model X.prog X.w) X.A (noteFrame e X.env) (fun _ t2 => wpAny (model X.prog X.w) X.A (setFlight e none) (fun _ t3 => wpAny (model X.prog X.w) X.A (handleBy e X.env [hd1]) (SP X pins D) X.xe t3) X.xe t2) X.xe t1
  have B0 : PSs (X.tr (X.pn ++ pins) xe2) body (tb (wKept X.K [.ref C1, .ref C2, .ref C3] i j Wout D)) := hb _ _ xe2 (fun u s' xx => ?caught) PassesOwn.looking
  case caught =>
    obtain ⟨a, B, sI, pins', σ', H', cls, d, rfl, JT, nb, up, sky, na, os, ag, b, hx, hyes, hno⟩ := xx
    have J : Inv X pins σ' H' sI := JT.ofTry ok
    have sky2 : Sky B (X.env :: X.outer) a (Zc cls d) X.env.locals s'.heap := by
      rw [← hs]
      exact sky
    show wpAny (model X.prog X.w) X.A (noteFrame (.ref a) X.env) _ _ _
    refine Sky.land Zc.steady frs_eq hf sky2 fun h3 fl3 up3 => ?_
    have out : ∀ {h : Heap} {o : Obj} {vs : Array Value}, HandSPX.FlyingZ B (X.env :: X.outer) a (Zc cls d) h → h.get? a = some o → o.data = .fields vs → a ≠ X.env.locals ∧ a ∉ X.fs ∧ a ∉ frs X.stack := by
      intro h o vs fl e dd
      have no : a ∉ frs (X.env :: X.outer) := fun hm => by
        obtain ⟨_, o2, e2, hnf⟩ := fl.2.2.1.mem hm
        rw [e] at e2
        cases e2
        exact hnf _ dd
      refine ⟨fun z => no (List.mem_filterMap.mpr ⟨X.env, List.mem_cons_self, ?_⟩), fun hm => ?_, ?_⟩
      · rw [hf, z]
      · obtain ⟨en, he, q⟩ := List.mem_filterMap.mp hm
        exact no (List.mem_filterMap.mpr ⟨en, List.mem_cons_of_mem _ he, q⟩)
      · rw [hs]
        exact no
    obtain ⟨oe3, vs3, he3, hz3, hd3⟩ := fl3.there
    obtain ⟨nL, nF, nS⟩ := out fl3 he3 hd3
    have J3 : Inv X pins σ' H' { s' with heap := h3 } := J.landed nb fl3.1 (up.trans up3) os ag
    have S3 := J3.suite he3 hd3 na nL nF
    -- the clause's tuple
    refine wpAny_handleBy_cons (codeAny_handlers_test (wpAny_Tuple (wpAny_items_cons (ld_glob (X := X.suite a ((a, oe3) :: (X.pn ++ pins))) S3 g1 m1 (wpAny_items_cons (ld_glob (X := X.suite a ((a, oe3) :: (X.pn ++ pins))) S3 g2 m2 (wpAny_items_cons (ld_glob (X := X.suite a ((a, oe3) :: (X.pn ++ pins))) S3 g3 m3 (wpAny_items_nil ⟨by size_fits, ?_⟩) d3)) d2)) d1)))) (fun q => by cases q)
    have kp : ∀ b o, h3.get? b = some o → (h3.push { cls := .type "tuple", data := .seq [Value.ref C1, .ref C2, .ref C3].toArray }).get? b = some o := fun b o z => Heap.get?_push_of_some _ z
    have LT : PySem.W.Looks (model X.prog X.w) h3 (typeOf (.ref a)) cls := fun A Q E t k q => wpAny_typeOf_ref (k _ _ he3) (by rw [hz3.1]; exact q)
    refine (PySem.W.exm_tup3 (J3.kIn.keeps kp) (LT.keeps kp) (Heap.get?_push_size h3 rfl) hx).here ?_
    have fl5 := flying_keeps kp fl3
    have up5 := (up.trans up3).trans (Heap.UpToSlots.of_keeps kp)
    cases b with
    | true =>
      obtain ⟨C, dd, rfl, rfl, kq⟩ := hyes rfl
      refine codeAny_handlers_suite_as ?_
      refine HandSPX.lands_againZ fl5 fun h4 fl4 up4 => ?_
      obtain ⟨oe4, vs4, he4, hz4, hd4⟩ := fl4.there
      have J4 : Inv X pins σ' H' { s' with heap := h4 } := J.landed nb fl4.1 (up5.trans up4) os ag
      have S4 := J4.suite he4 hd4 na nL nF
      refine store_ok (X := X.suite a ((a, oe4) :: (X.pn ++ pins))) (v := .ref a) S4 hN hi (.inl hln) rfl (fun s5 S5 => ?_) (.inr hln)
      have PA5 : PSs (X.suite a ((a, oe4) :: (X.pn ++ pins))) [.Assign [.Name m pb] (.Name n pc) pa] (tSeq (tAsg (tVar i) (gName j)) tNext) := pss_cons (ps_set hN hj (.inl hlm) (pe_var hi (.inl hln) hn1 hn2) hsw (.inr hlm)) pss_nil
      refine wpAny_mono (PA5.run [] s5 _ H' { nx := fun σ6 H6 => σ6 = (σ'.set i (some (.ref a))).set j (some (.ref a)) ∧ H6 = H', rt := fun _ _ => False, bk := fun _ _ => False, ct := fun _ _ => False } S5 ?_) (fun f s6 hsp => ?_) (fun _ _ z => z.elim)
      · refine ⟨.ref a, ?_, rfl, rfl⟩
        rw [List.getElem?_set_self (by rw [J.len]; exact (List.getElem?_eq_some_iff.mp hi).1)]
      · cases f with
        | next =>
          obtain ⟨σ6, H6, S6, e1, e2⟩ := hsp
          subst e1 e2
          have he6 := (S6.pin (a, oe4) (List.mem_append_left _ List.mem_cons_self)).1
          have new : X.s_0.heap.get? a = none := by
            cases z : X.s_0.heap.get? a with
            | none => rfl
            | some o0 =>
              obtain ⟨o1, z1⟩ := J.base.there a o0 z (by rw [hex]; exact List.not_mem_nil)
              have z2 := nb a o1 z1 nS
              rw [fl3.2.1] at z2
              cases z2
          have I6 : Inv X pins ((σ'.set i (some (.ref a))).set j (some (.ref a))) H6 s6 := S6.unsuite ok
          have I7 := I6.adopt (o := exV a C dd) he6 hd4 na new (fun p hq z => ?_) (exV_ok he6 hz4.1 hz4.2 hd4)
          · exact gone_ok I7 hN hi hln fun s7 J7 => ⟨_, _, J7, kq a na⟩
          · obtain ⟨y1, y2, y3, y4, _⟩ := J.pin p hq
            rw [z] at y1
            have z2 := nb a _ y1 nS
            rw [fl3.2.1] at z2
            cases z2
        | brk => exact hsp.elim fun _ z => z.elim fun _ z => z.2.elim
        | cont => exact hsp.elim fun _ z => z.elim fun _ z => z.2.elim
        | ret u => exact hsp.elim fun _ z => z.elim fun _ z => z.elim fun _ z => z.2.2.elim
    | false =>
      show wpAny _ X.A (handleBy (.ref a) X.env []) _ _ _
      refine wpAny_handleBy_nil ?_
      obtain ⟨k1, k2, k3, oe, vs, T, oT, ts', he, hz, hd, h1, hr⟩ := id fl5
      unfold PySem.passOn
      have fin : wpAny (model X.prog X.w) X.A (setFlight (.ref a) X.env.frame) (fun _ t4 => wpAny (model X.prog X.w) X.A (throw (.ref a) : Sem Flow) (SP X pins D) X.xe t4) X.xe { s' with heap := h3.push { cls := .type "tuple", data := .seq [Value.ref C1, .ref C2, .ref C3].toArray } } := by
        rw [hf]
        exact HandSPX.setFlight_upZ fl5 fun h4 hh4 up4 => wpAny_throw (tk _ _ ⟨a, B, sI, pins, σ', H', cls, d, rfl, J, nb, up5.trans up4, .inr (.inr (by rw [hs]; exact hh4)), na, os, ag, hno rfl⟩)
      refine wpAny_bind (wpAny_field he hd h1 ?_)
      rw [if_neg (show ¬ ((Value.ref T == Value.none) = true) from by simp)]
      first
        | exact wpAny_bind (wpAny_pure (wpAny_bind fin))
        | exact wpAny_bind fin
  refine wpAny_Try_except (wpAny_mono (B0.run [] s σ H D (I.toTry _) h) (fun f s1 hsp => ?_) (fun e s1 he => he))
  cases f with
  | next =>
    obtain ⟨σ2, H2, J2, q⟩ := hsp
    exact wpAny_execs_nil ⟨σ2, H2, J2.ofTry ok, q⟩
  | brk =>
    obtain ⟨σ2, H2, J2, q⟩ := hsp
    exact ⟨σ2, H2, J2.ofTry ok, q⟩
  | cont =>
    obtain ⟨σ2, H2, J2, q⟩ := hsp
    exact ⟨σ2, H2, J2.ofTry ok, q⟩
  | ret u =>
    obtain ⟨v, σ2, H2, J2, r, q⟩ := hsp
    exact ⟨v, σ2, H2, J2.ofTry ok, r, q⟩
end
end L2

set_option Elab.async false
set_option linter.all false
set_option maxRecDepth 100000
set_option maxHeartbeats 4000000
/-! VxU: raise C(v), C an error class of the program with its own __init__. -/
namespace L2
open PySem PySem.Spec PyProof.Rows
section
variable {X : Cx} {CX : CXT} {k : Nat} {C fI : Addr} {fd : FuncData} {ps : List Str} {sp : Sp} {x f : Str} {p pos : Pos} {e : Expr} {es : List Expr} {t : TA} {te : TE}
theorem run_xmk {pins : List (Addr × Obj)} {σ : St} {H : Hp} {s : Shared} {Q : XK} {us zs : List Value} {kw : List (Str × Value)} {vs : List V} (T : Xc X.K C) (iC : PySem.W.findIn X.K (.ref C) "__init__" = some (some (.ref fI))) (tI : PySem.W.typeIn X.K (.ref fI) = some (.type "function"))
    (F1 : FnOk X.prog X.w X.K X.mg X.base CX k fI fd ps sp) (hr : Room (k + 1) X.A) (hx : Passes CX X (fun _ _ _ => False)) (hz : us.length ≤ sizeLine)
    (hb : ∀ (s : Shared) (a : Addr), X.K.In s.heap → BindsTo s fd ⟨Value.ref a :: us, kw⟩ (ps.zip (Value.ref a :: zs))) (I : Inv X pins σ H s) (r : Vals vs zs)
    (h : ∀ a, H a = none → sp (.ref a :: vs) (upd H a (exo a C none)) (fun v H2 => v = .non ∧ ∃ (d : Addr) (fs : List (Str × V)), H2 a = some (exo a C (some d)) ∧ H2 d = some (exd d fs) ∧ H d = none ∧ Q (.ref C) (some d) (upd (del H2 a) d (.xd fs))) (fun _ _ _ => False)) :
    wpAny (model X.prog X.w) X.A (call (.ref C) us kw) (MkP X pins σ Q) X.xe s := by
  obtain ⟨nm, q, N, bs, bm, sn, sub, ab, col, dd, k0, k1, k2, k3, k5, B, newId, initId, bmB, hC, FB, hbm⟩ := T.cls
  have hT : ∀ Y : String, bm.contains (.type Y) = bmB.contains (.type Y) := fun Y => by
    have z := PySem.W.excTail_contains Y _ hbm.tail
    rw [List.contains_cons] at z
    have e : (Value.type Y == Value.ref C) = false := rfl
    rw [e, Bool.false_or] at z
    exact z
  obtain ⟨hp, g, dr, tk, os⟩ := s
  have lo : hp.objs.size ≤ hp.objs.size + 1 := Nat.le_succ _
  have hn : H (hp.objs.size + 1) = none := I.hok.fresh lo
  have hq := h (hp.objs.size + 1) hn
  let h2 : Heap := (hp.push (PySem.W.kdv_tup us)).push (PySem.HandSPX.excO C hp.objs.size)
  have kk : ∀ b o, hp.get? b = some o → h2.get? b = some o := fun b o e => Heap.get?_push_of_some _ (Heap.get?_push_of_some _ e)
  have hget : h2.get? (hp.objs.size + 1) = some (PySem.HandSPX.excO C hp.objs.size) := by heap_get
  have I2 : Inv X pins σ (upd H (hp.objs.size + 1) (exo (hp.objs.size + 1) C none)) ⟨h2, g, dr, tk, os⟩ :=
    I.laid (t' := tk) (o := exo (hp.objs.size + 1) C none) kk lo (exo_ok hget)
  have r2 : Vals (V.ref (hp.objs.size + 1) :: vs) (Value.ref (hp.objs.size + 1) :: zs) := .cons rfl r
  refine wpAny_call (VxS.call_K FB hT (I.kIn _ _ hC) (PySem.W.looks_findIn I.kIn iC) (fun self => PySem.W.bind_fn I.kIn self tI) hz
    (codeAny_mono (F1.run _ X.stack _ _ ⟨Value.ref (hp.objs.size + 1) :: us, kw⟩ (Value.ref (hp.objs.size + 1) :: zs) _ _ (fun _ _ _ => False) (hr.make C us kw) (I2.env0.make C us kw) (hb _ _ I2.kIn) r2 hq) fun r s' hq' => ?_))
  match r, hq' with
  | .error er, hq' => exact hx pins σ _ _ er s' I2 hq'
  | .ok (.ret u), hq' =>
    obtain ⟨v, H2, os2, bare2, un2, hok2, rv, ev, d, fs, ea, ed, hd1, q2⟩ := hq'
    subst ev
    obtain ⟨h3, g2, d2, t2, os'⟩ := s'
    exact ⟨rv, mk_end (raises_own T.exC T.tyC) I lo kk un2 hok2 os2 bare2 ea ed hd1 q2⟩
  | .ok .next, hq' => exact hq'.elim
  | .ok .brk, hq' => exact hq'.elim
  | .ok .cont, hq' => exact hq'.elim
/-- raise C(e): W is what is wished of the error -/
def tX1e (C : Addr) (f : Str) (te : TE) : St → Hp → XK → Prop := fun σ H Q => te σ H fun u H1 => ∃ v, [u] = [v] ∧ ∀ dd H', H1 dd = none → Same H1 H' → H' dd = some (.xd [(f, v)]) → Q (.ref C) (some dd) H'
theorem pmk_x1 (B : XK1 X.prog X.w X.K X.mg X.base x f C) (hr : Room 2 X.A) (hg : Gl X x) (he : PE X e te) (hdb : (x == ("__debug__" : Str)) = false := by decide) (hs : starEach [e] X.env = (false, eval e X.env) :: starEach [] X.env := by rfl) (hpl : (backTo pos (starEach [] X.env)).any (·.1) = false := by rfl) :
    PMk X (.Call (.Name x p) [e] [] pos) (tX1e C f te) := by
  obtain ⟨fI, fd, i1, i2, F, bd, _⟩ := B.ex
  intro pins s σ H Q I h
  refine wpAny_Call_Name_kw (ld_glob I hg B.hm ?_ hdb)
  refine PySem.W.callWith_K (h₀ := X.base) I.ok.mod.kin B.T.kC (thn ((pa_cons he pa_nil hs).run pos pins s σ H (fun vs H1 => ∃ v, vs = [v] ∧ ∀ dd H', H1 dd = none → Same H1 H' → H' dd = some (.xd [(f, v)]) → Q (.ref C) (some dd) H') I ?_) fun us s1 hh => ?_) hs hpl
  · exact h
  obtain ⟨vs, H1, I1, r1, v, rfl, q⟩ := hh
  have hl : us.length = 1 := r1.length.symm
  refine ⟨I1.kIn, run_xmk (us := us) (vs := [v]) B.T i1 i2 F hr pass0 (by rw [hl]; decide) (fun s a kin => ?_) I1 r1 fun a ha => ⟨a, v, rfl, upd_same, fun dx n ne => ⟨rfl, dx, [(f, v)], upd_same, (by rw [upd_ne ne, upd_same]), ?_, q dx _ ?_ (fun b o z => ?_) upd_same⟩⟩⟩
  · have z := bd s (Value.ref a :: us) kin (by rw [List.append_nil, List.length_cons, hl]; rfl)
    rw [List.append_nil] at z
    exact z
  · rw [← n, upd_ne ne]
  · rw [← n, upd_ne ne]
  · have hd : H1 dx = none := by rw [← n, upd_ne ne]
    rw [upd_ne (ne_of_none z hd), del_ne (ne_of_none z ha), upd_ne (ne_of_none z ha), upd_ne (ne_of_none z hd), upd_ne (ne_of_none z ha)]
    exact z
/-- raise C(e) -/
theorem ps_x1 {W : WX} {pos2 : Pos} (hc : X.calm = true) (tk : Takes X W) (B : XK1 X.prog X.w X.K X.mg X.base x f C) (hr : Room 2 X.A) (hg : Gl X x) (he : PE X e te) (hdb : (x == ("__debug__" : Str)) = false := by decide)
    (hs : starEach [e] X.env = (false, eval e X.env) :: starEach [] X.env := by rfl) (hpl : (backTo pos (starEach [] X.env)).any (·.1) = false := by rfl) :
    PS X (.Raise (some (.Call (.Name x p) [e] [] pos)) none pos2) (fun _ σ H => tX1e C f te σ H fun cls d H' => W cls d σ H') := ps_raise hc tk (pmk_x1 B hr hg he hdb hs hpl)
end
end L2

set_option Elab.async false
set_option linter.all false
set_option maxRecDepth 100000
set_option maxHeartbeats 4000000
/-! VxY: generators of the program whose consumer owns some objects (a list, a comprehension's names) that change while the generator sleeps. What a run hands out is told beforehand (xs); j of it are out. -/
namespace L2
open PySem PySem.Spec PyProof.Rows GenW
/-- while the generator sleeps: the consumer's own objects may change, all else stays -/
structure Zzz (Z : List Addr) (s s' : Shared) : Prop where
  os : s'.os = s.os
  bare : AllBare s'.gens
  keep : ∀ b o, b ∉ Z → s.heap.get? b = some o → s'.heap.get? b = some o
  own : ∀ z ∈ Z, ∃ o, s'.heap.get? z = some o ∧ ∀ v, o.data ≠ .cell v
/-- the consumer's objects lie apart of the generator's frame -/
def Aside (X : Cx) (Z : List Addr) : Prop := ∀ z ∈ Z, X.s_0.heap.objs.size ≤ z ∧ z ≠ X.env.locals ∧ (∀ x c, X.env.cells.lookup x = some c → c ≠ z) ∧ ∀ p ∈ X.pn, p.1 ≠ z
/-- running: the consumer's objects stand as they stood when it was woken (s₀) -/
def YRun (X : Cx) (Z : List Addr) (ip : List (Addr × Obj)) (σ : L2.St) (H : Hp) (s₀ s : Shared) : Prop :=
  ∃ zp : List (Addr × Obj), zp.map (·.1) = Z ∧ (∀ p ∈ zp, s₀.heap.get? p.1 = some p.2) ∧ Inv X (zp ++ ip) σ H s
theorem snap {h : Heap} : ∀ {Z : List Addr}, (∀ z ∈ Z, ∃ o, h.get? z = some o ∧ ∀ v, o.data ≠ .cell v) → ∃ zp : List (Addr × Obj), zp.map (·.1) = Z ∧ ∀ p ∈ zp, h.get? p.1 = some p.2 ∧ ∀ v, p.2.data ≠ .cell v
  | [], _ => ⟨[], rfl, fun _ m => (List.not_mem_nil m).elim⟩
  | z :: Z, h1 => by
    obtain ⟨o, e1, e2⟩ := h1 z List.mem_cons_self
    obtain ⟨zp, f1, f2⟩ := snap (Z := Z) fun y hy => h1 y (List.mem_cons_of_mem _ hy)
    refine ⟨(z, o) :: zp, by rw [List.map_cons, f1], fun p m => ?_⟩
    rcases List.mem_cons.mp m with m | m
    · rw [m]
      exact ⟨e1, e2⟩
    · exact f2 p m
section
variable {X : Cx} {Z : List Addr} {ip : List (Addr × Obj)} {σ : L2.St} {H : Hp} {s₀ s s' : Shared}
theorem YRun.at {z : Addr} (r : YRun X Z ip σ H s₀ s) (hz : z ∈ Z) : H z = none ∧ z ∉ X.fs ∧ ∃ o, s₀.heap.get? z = some o ∧ s.heap.get? z = some o := by
  obtain ⟨zp, rfl, e2, I⟩ := r
  obtain ⟨p, hp, rfl⟩ := List.mem_map.mp hz
  obtain ⟨i1, i2, i3, i4, i5⟩ := I.pin p (List.mem_append_right _ (List.mem_append_left _ hp))
  exact ⟨i2, i4, p.2, e2 p hp, i1⟩
theorem YRun.inv (r : YRun X Z ip σ H s₀ s) : Inv X ip σ H s := by
  obtain ⟨zp, _, _, I⟩ := r
  exact I.pins_of fun p hp => I.pin p (List.mem_append_right _ (List.mem_append_right _ hp))
/-- woken again -/
theorem YRun.woken (hA : Aside X Z) (hip : ∀ p ∈ ip, p.1 ∉ Z) (r : YRun X Z ip σ H s₀ s) (w : Zzz Z s s') : YRun X Z ip σ H s' s' := by
  have at_ := fun z (hz : z ∈ Z) => r.at hz
  have I := r.inv
  obtain ⟨zp', f1, f2⟩ := snap w.own
  obtain ⟨w1, w2, w3, w4⟩ := w
  have nz : ∀ b u, H b = some u → b ∉ Z := fun b u q hb => by
    rw [(at_ b hb).1] at q
    cases q
  obtain ⟨hh, g, d, t, o⟩ := s'
  have ho : o = s.os := w1
  subst ho
  have J : Inv X ip σ H { s with heap := hh, gens := g, drawn := d, toks := t } := by
    refine I.step (ch := Z) (fun b hb => ?_) (fun b ob _ _ hc q _ => w3 b ob hc q) (fun b ob _ _ hc q _ => ⟨ob.slots, w3 b ob hc q⟩) (fun _ _ _ _ n => n) (fun b ob hc q => ⟨ob, w3 b ob hc q⟩)
      (fun _ _ q => q) (fun _ _ _ q => q) (fun b ps q => ⟨#[], by rw [q]; simp⟩) (fun m hm => ?_) (fun b u q => ?_) w2
    · obtain ⟨a1, a2, a3, a4⟩ := hA b hb
      refine ⟨.inr a1, a2, a3, fun p hp => ?_⟩
      rcases List.mem_append.mp hp with hp | hp
      · exact a4 p hp
      · exact fun e => hip p hp (by rw [e]; exact hb)
    · obtain ⟨ob, es, ep, ho, rr⟩ := hm
      exact ⟨ob, es, ep, w3 _ ob (fun z => (hA _ z).2.1 rfl) ho, rr⟩
    · refine (I.hok b u q).stay (fun c v hc y => w3 c v ?_ y) (fun _ y => y) fun _ _ y => y
      rcases hc with y | y
      · rw [y]
        exact nz b u q
      · exact nz c _ y
  refine ⟨zp', f1, fun p hp => (f2 p hp).1, J.pins_of fun p hp => ?_⟩
  rcases List.mem_append.mp hp with hp | hp
  · have hz : p.1 ∈ Z := by
      rw [← f1]
      exact List.mem_map.mpr ⟨p, hp, rfl⟩
    exact ⟨(f2 p hp).1, (at_ _ hz).1, (hA _ hz).2.1, (at_ _ hz).2.1, (f2 p hp).2⟩
  · exact J.pin p (List.mem_append_right _ hp)
end
/-! ### the protocol -/
def YP (X : Cx) (Z : List Addr) (xs : List V) : Protocol := fun n s₀ v s kap =>
  ∃ j x ip σ H, n + 1 + j = xs.length ∧ xs[j]? = some x ∧ RelV x v ∧ YRun X Z ip σ H s₀ s ∧ ∀ s', Zzz Z s s' → kap (.send .none) s'
def YR (X : Cx) (Z : List Addr) (xs : List V) (Q : VK) (F : Value → Shared → Prop) : GenEnd := fun n s₀ r s => match r with
  | .ok (.ret u) => ∃ v ip σ H, n = 0 ∧ YRun X Z ip σ H s₀ s ∧ RelV v u ∧ Q v H
  | .ok _ => False
  | .error e => F e s
structure YEnds where
  nx : Nat → L2.St → Hp → Prop
  rt : Nat → VK
  bk : Nat → L2.St → Hp → Prop := fun _ _ _ => False
  ct : Nat → L2.St → Hp → Prop := fun _ _ _ => False
abbrev TY := YEnds → Nat → L2.St → Hp → Prop
def YSP (X : Cx) (Z : List Addr) (ip : List (Addr × Obj)) (D : YEnds) (j : Nat) (s₀ : Shared) (f : Flow) (s : Shared) : Prop :=
  match f with
  | .next => ∃ σ H, YRun X Z ip σ H s₀ s ∧ D.nx j σ H
  | .brk => ∃ σ H, YRun X Z ip σ H s₀ s ∧ D.bk j σ H
  | .cont => ∃ σ H, YRun X Z ip σ H s₀ s ∧ D.ct j σ H
  | .ret u => ∃ v σ H, YRun X Z ip σ H s₀ s ∧ RelV v u ∧ D.rt j v H
/-- where the generator's code stands -/
structure YC (X : Cx) (Z : List Addr) (ip : List (Addr × Obj)) (A : Around) (c : Code) (fs : List Frame) (gd : Bool → Bool) : Prop where
  ip : ∀ p ∈ ip, p.1 ∉ Z
  aside : Aside X Z
  over : A.over c fs = X.A
  split : splitAtGen fs = none
  guard : fs.any Frame.guarded = false
  gd : gd false = false
structure YK (X : Cx) (Z : List Addr) (xs : List V) (ip : List (Addr × Obj)) (A : Around) (R : GenEnd) (c : Code) (fs : List Frame) (K : Flow → Sem PySem.Fin) (J : Value → Sem PySem.Fin) (D : YEnds) : Prop where
  ok : ∀ (n j : Nat) (s₀ s : Shared) (f : Flow), n + j = xs.length → YSP X Z ip D j s₀ f s → Seg (model X.prog X.w) A R (YP X Z xs) n s₀ c (K f) fs s
  exc : ∀ (n : Nat) (s₀ : Shared) (e : Value) (s : Shared), X.xe e s → Seg (model X.prog X.w) A R (YP X Z xs) n s₀ c (J e) fs s
structure YS (X : Cx) (xs : List V) (st : Stmt) (t : TY) : Prop where
  run : ∀ (A : Around) (Z : List Addr) (ip : List (Addr × Obj)) (R : GenEnd) (n j : Nat) (s₀ : Shared) (c : Code) (fs : List Frame) (K : Flow → Sem PySem.Fin) (J : Value → Sem PySem.Fin) (gd : Bool → Bool) (lv : List Value → List Value) (s : Shared) (σ : L2.St) (H : Hp) (D : YEnds),
    YC X Z ip A c fs gd → n + j = xs.length → YK X Z xs ip A R c fs K J D → YRun X Z ip σ H s₀ s → t D j σ H → Seg (model X.prog X.w) A R (YP X Z xs) n s₀ c ((exec st X.env).wrap K J gd lv) fs s
structure YSs (X : Cx) (xs : List V) (st : List Stmt) (t : TY) : Prop where
  run : ∀ (A : Around) (Z : List Addr) (ip : List (Addr × Obj)) (R : GenEnd) (n j : Nat) (s₀ : Shared) (c : Code) (fs : List Frame) (K : Flow → Sem PySem.Fin) (J : Value → Sem PySem.Fin) (gd : Bool → Bool) (lv : List Value → List Value) (s : Shared) (σ : L2.St) (H : Hp) (D : YEnds),
    YC X Z ip A c fs gd → n + j = xs.length → YK X Z xs ip A R c fs K J D → YRun X Z ip σ H s₀ s → t D j σ H → Seg (model X.prog X.w) A R (YP X Z xs) n s₀ c ((execs st X.env).wrap K J gd lv) fs s
section
variable {X : Cx} {xs : List V} {st : Stmt} {rest : List Stmt}
def YEnds.at (D : YEnds) (j : Nat) : Ends := { nx := D.nx j, rt := D.rt j, bk := D.bk j, ct := D.ct j }
theorem ysp_of {Z : List Addr} {ip zp : List (Addr × Obj)} {D : YEnds} {j : Nat} {s₀ s : Shared} {f : Flow} (e1 : zp.map (·.1) = Z) (e2 : ∀ p ∈ zp, s₀.heap.get? p.1 = some p.2) (h : SP X (zp ++ ip) (D.at j) f s) : YSP X Z ip D j s₀ f s := by
  match f, h with
  | .next, ⟨σ, H, I, q⟩ => exact ⟨σ, H, ⟨zp, e1, e2, I⟩, q⟩
  | .brk, ⟨σ, H, I, q⟩ => exact ⟨σ, H, ⟨zp, e1, e2, I⟩, q⟩
  | .cont, ⟨σ, H, I, q⟩ => exact ⟨σ, H, ⟨zp, e1, e2, I⟩, q⟩
  | .ret u, ⟨v, σ, H, I, r, q⟩ => exact ⟨v, σ, H, ⟨zp, e1, e2, I⟩, r, q⟩
/-- a statement that hands out nothing -/
theorem ys_ps {t : TS} (h : PS X st t) : YS X xs st (fun D j σ H => t (D.at j) σ H) := by
  refine ⟨fun A Z ip R n j s₀ c fs K J gd lv s σ H D g hn k r ht => ?_⟩
  obtain ⟨zp, e1, e2, I⟩ := r
  refine seg_wrap ?_
  rw [g.over]
  exact wpAny_mono (h.run _ s σ H (D.at j) I ht) (fun f s' q => k.ok n j s₀ s' f hn (ysp_of e1 e2 q)) fun x s' q => k.exc n s₀ x s' q
theorem yss_nil : YSs X xs [] (fun D j σ H => D.nx j σ H) :=
  ⟨fun A Z ip R n j s₀ c fs K J gd lv s σ H D g hn k r ht => seg_execs_nil (k.ok n j s₀ s .next hn ⟨σ, H, r, ht⟩)⟩
theorem yss_cons {t u : TY} (a : YS X xs st t) (b : YSs X xs rest u) : YSs X xs (st :: rest) (fun D j σ H => t { D with nx := fun j' σ' H' => u D j' σ' H' } j σ H) := by
  refine ⟨fun A Z ip R n j s₀ c fs K J gd lv s σ H D g hn k r ht => seg_execs_cons (a.run A Z ip R n j s₀ c fs _ J gd lv s σ H { D with nx := fun j' σ' H' => u D j' σ' H' } g hn ⟨fun n' j' s₁ s' f hn' hs => ?_, k.exc⟩ r ht)⟩
  match f, hs with
  | .next, ⟨σ', H', r', q⟩ => exact b.run A Z ip R n' j' s₁ c fs K J gd lv s' σ' H' D g hn' k r' q
  | .brk, hs => exact k.ok n' j' s₁ s' .brk hn' hs
  | .cont, hs => exact k.ok n' j' s₁ s' .cont hn' hs
  | .ret u, hs => exact k.ok n' j' s₁ s' (.ret u) hn' hs
/-- yield e -/
theorem ys_yield {e : Expr} {yp pos : Pos} {te : TE} (he : PE X e te) (hco : X.env.scope.isCoroutine = false := by rfl) (hi : interactive X.env = false := by rfl) :
    YS X xs (.Expr (.Yield (some e) yp) pos) (fun D j σ H => j < xs.length ∧ te σ H fun x H1 => xs[j]? = some x ∧ D.nx (j + 1) σ H1) := by
  refine ⟨fun A Z ip R n j s₀ c fs K J gd lv s σ H D g hn k r ht => ?_⟩
  obtain ⟨hlt, ht⟩ := ht
  obtain ⟨zp, e1, e2, I⟩ := r
  obtain ⟨m, rfl⟩ : ∃ m, n = m + 1 := ⟨n - 1, by omega⟩
  refine seg_Expr_Yield g.split g.gd g.guard ?_ hco hi
  rw [g.over]
  refine wpAny_mono (he.run _ s σ H _ I ht) (fun v s' hv => ?_) fun x s' q => k.exc _ s₀ x s' q
  obtain ⟨x, H1, I1, rv, hx, q⟩ := hv
  intro kap hk
  have r1 : YRun X Z ip σ H1 s₀ s' := ⟨zp, e1, e2, I1⟩
  exact ⟨j, x, ip, σ, H1, hn, hx, rv, r1, fun s2 z => hk .none s2 (k.ok m (j + 1) s2 s2 .next (by omega) ⟨σ, H1, r1.woken g.aside g.ip z, q⟩)⟩
/-! ### yield from -/
theorem seg_from {Z : List Addr} {ip : List (Addr × Obj)} {A : Around} {R : GenEnd} {fs : List Frame} {it : Addr} {ys : List V} {St : Nat → Heap → Prop} {σ : L2.St} {H : Hp} {j0 : Nat} (hip : ∀ p ∈ ip, p.1 ∉ Z) (hpi : ∀ p ∈ X.pn ++ ip, p.1 ≠ it) (hA : Aside X Z)
    (hex : it ∈ X.ex ∨ X.s_0.heap.objs.size ≤ it) (hL : it ≠ X.env.locals) (hcell : ∀ x c, X.env.cells.lookup x = some c → c ≠ it) (hZ : it ∉ Z) (hH : H it = none) (q : QIt X H it ys St)
    (ho : (A.over (.builtin "proto.yield_from" ⟨[.ref it, .bool false, .none], []⟩) fs).handled = none) (hsp : splitAtGen fs = none) (hgd : fs.any Frame.guarded = false) (hxs : ∀ i y, ys[i]? = some y → xs[j0 + i]? = some y)
    (hend : ∀ (n : Nat) (s₀ s : Shared), n + (j0 + ys.length) = xs.length → YRun X Z ip σ H s₀ s → Seg (model X.prog X.w) A R (YP X Z xs) n s₀ (.builtin "proto.yield_from" ⟨[.ref it, .bool false, .none], []⟩) (.pure (.done (.ret .none))) fs s) :
    ∀ (r i n : Nat) (s₀ s : Shared), i + r = ys.length → n + (j0 + i) = xs.length → YRun X Z ip σ H s₀ s → St i s.heap →
      Seg (model X.prog X.w) A R (YP X Z xs) n s₀ (.builtin "proto.yield_from" ⟨[.ref it, .bool false, .none], []⟩) ((model X.prog X.w).den (.builtin "proto.yield_from" ⟨[.ref it, .bool false, .none], []⟩)) fs s := by
  obtain ⟨T, tyT, noClose, noGen⟩ := q.ty
  -- the iterator has turned
  have turned : ∀ {s₀ s : Shared} {h' : Heap} {tk : Nat}, YRun X Z ip σ H s₀ s → (∀ b o, b ≠ it → s.heap.get? b = some o → h'.get? b = some o) → YRun X Z ip σ H s₀ { s with heap := h', toks := tk } := by
    intro s₀ s h' tk r hk
    obtain ⟨zp, e1, e2, I⟩ := r
    refine ⟨zp, e1, e2, I.turned (it := it) hk hH hL hex hcell fun p hp => ?_⟩
    rcases List.mem_append.mp hp with hp | hp
    · exact hpi p (List.mem_append_left _ hp)
    · rcases List.mem_append.mp hp with hp | hp
      · intro e
        refine hZ ?_
        rw [← e, ← e1]
        exact List.mem_map.mpr ⟨p, hp, rfl⟩
      · exact hpi p (List.mem_append_right _ hp)
  intro r
  induction r with
  | zero =>
    intro i n s₀ s hi hn rr hst
    obtain rfl : i = ys.length := by omega
    rw [den_yf]
    unfold Builtin.«proto.yield_from»
    try dsimp only
    refine seg_bind (wpAny_pure ?_)
    try dsimp only
    refine seg_bind (wpAny_attempt (wpAny_holding ?_))
    rw [if_neg Bool.false_ne_true, if_pos (show (Value.none == Value.none) = true from rfl)]
    refine wpAny_bind (wpAny_rule (wpAny_bind (q.done _ s _ _ ho hst fun e h' tk stop hk => ?_)))
    obtain ⟨a, o, vs, rfl, oa, oc, od, o5⟩ := stop
    try dsimp only
    refine seg_bind (wpAny_endsTurn oa oc ?_)
    try dsimp only
    rw [if_pos rfl]
    first
      | refine seg_bind (wpAny_rule ?_)
      | (rw [if_neg Bool.false_ne_true]; refine seg_bind (wpAny_rule ?_))
      | (rw [if_neg Bool.false_ne_true]; refine seg_bind (wpAny_pure ?_); refine seg_bind (wpAny_rule ?_))
    exact seg_bind (wpAny_field oa od o5 (hend n s₀ _ hn (turned rr hk)))
  | succ r ih =>
    intro i n s₀ s hi hn rr hst
    obtain ⟨x, hx⟩ : ∃ x, ys[i]? = some x := ⟨_, List.getElem?_eq_getElem (by omega)⟩
    have hx2 := hxs i x hx
    have hlt := (List.getElem?_eq_some_iff.mp hx2).1
    obtain ⟨m, rfl⟩ : ∃ m, n = m + 1 := ⟨n - 1, by omega⟩
    rw [den_yf]
    unfold Builtin.«proto.yield_from»
    try dsimp only
    refine seg_bind (wpAny_pure ?_)
    try dsimp only
    refine seg_bind (wpAny_attempt (wpAny_holding ?_))
    rw [if_neg Bool.false_ne_true, if_pos (show (Value.none == Value.none) = true from rfl)]
    refine wpAny_bind (wpAny_rule (wpAny_bind (q.item _ i x s _ _ ho hx hst fun v h' tk rv hst' hk => wpAny_pure ?_)))
    have r1 := turned (tk := tk) rr hk
    obtain ⟨oi, hoi, hoc⟩ := tyT (i + 1) h' hst'
    try dsimp only
    refine seg_bind (wpAny_typeOf (T := T) ⟨oi, hoi, hoc⟩ ?_)
    try dsimp only
    first
      | (refine seg_bind (wpAny_of_eq noClose ?_); refine seg_bind (wpAny_pure ?_))
      | refine seg_bind (wpAny_bind (wpAny_of_eq noClose (wpAny_pure ?_)))
      | refine seg_bind (wpAny_of_eq noClose ?_)
    try dsimp only
    refine seg_bind (wpAny_sleptOver hoi hoc noGen (seg_yield hsp rfl hgd ⟨j0 + i, x, ip, σ, H, by omega, hx2, rv, r1, fun s2 z => ?_⟩))
    have r2 := r1.woken hA hip z
    have st2 : St (i + 1) s2.heap := q.frame (i + 1) h' s2.heap hst' fun b o hb e => z.keep b o (fun hm => by
      rcases hb with y | y
      · rw [y] at hm
        exact hZ hm
      · exact y (r1.at hm).1) e
    obtain ⟨oj, hoj, hojc⟩ := tyT (i + 1) s2.heap st2
    show Seg _ _ _ _ m s2 _ (Builtin.Generator.sleptOver (.ref it) false >>= fun _ => _) fs s2
    refine seg_bind (wpAny_sleptOver hoj hojc noGen ?_)
    try dsimp only
    exact seg_bind (wpAny_pure (seg_again (plainId_quiet plain_yf _) (ih (i + 1) m s2 s2 (by omega) (by omega) r2 st2)))
theorem ys_from {e : Expr} {yp pos : Pos} {t : TYf} (he : YfE X e t) (hc : X.A.handled = none) (hi : interactive X.env = false := by rfl) :
    YS X xs (.Expr (.YieldFrom e yp) pos) (fun D j σ H => t σ H fun ys H1 => (∀ i y, ys[i]? = some y → xs[j + i]? = some y) ∧ D.nx (j + ys.length) σ H1) := by
  refine ⟨fun A Z ip R n j s₀ c fs K J gd lv s σ H D g hn k r ht => ?_⟩
  obtain ⟨zp, e1, e2, I⟩ := r
  rw [exec_Expr X.env _ pos hi rfl]
  show Seg _ _ _ _ n s₀ c (.at pos fun _ => ((eval e X.env >>= fun v => (standAt yp >>= fun _ => yieldFrom X.env v)) >>= fun x => dropValue (.YieldFrom e yp) pos x).wrap K J gd lv) fs s
  refine seg_at (segw_bind2 ?_)
  rw [g.over]
  refine wpAny_mono (he.run _ s σ H _ I ht) (fun v s1 hv => ?_) fun x s' q => k.exc n s₀ x s' q
  obtain ⟨T, hT, hne, hit⟩ := hv
  refine seg_at ?_
  show Seg _ _ _ _ n s₀ c ((yieldFrom X.env v).wrap (fun b => (dropValue (.YieldFrom e yp) pos b).wrap K J gd lv) J gd lv) fs s1
  unfold yieldFrom
  refine seg_bind_wrap (wpAny_typeOf hT ?_)
  rw [if_neg (show ¬ ((Value.type T == Value.type "coroutine") = true) by rw [hne]; exact Bool.false_ne_true)]
  refine seg_bind_wrap (wpAny_holding ?_)
  rw [g.over]
  refine wpAny_mono hit (fun u s2 hu => ?_) fun x s' q => k.exc n s₀ x s' q
  obtain ⟨it, H', ys, St, rfl, I2, q1, q2, q3, q4, q5, q6, q7, hxs, hq⟩ := hu
  have r2 : YRun X Z ip σ H' s₀ s2 := ⟨zp, e1, e2, I2⟩
  have hZ : it ∉ Z := fun hm => by
    rw [← e1] at hm
    obtain ⟨p, hp, e⟩ := List.mem_map.mp hm
    exact q5 p (List.mem_append_right _ (List.mem_append_left _ hp)) e
  refine seg_call fun p => seg_from (ys := ys) (j0 := j) g.ip (fun p hp => ?_) g.aside q1 q2 q3 hZ q4 q7 ?_ ?_ ?_ hxs (fun n' s₁ s' hn' r' => ?_) ys.length 0 n s₀ s2 (Nat.zero_add _) hn r2 q6
  · rcases List.mem_append.mp hp with hp | hp
    · exact q5 p (List.mem_append_left _ hp)
    · exact q5 p (List.mem_append_right _ (List.mem_append_right _ hp))
  · show (A.over c fs).handled = none
    rw [g.over]
    exact hc
  · show (splitAtGen fs).map _ = none
    rw [g.split] <;> rfl
  · show (gd false || fs.any Frame.guarded) = false
    rw [g.gd, g.guard] <;> rfl
  · exact seg_leaf (.ok (.ret .none)) (k.ok n' (j + ys.length) s₁ s' .next hn' ⟨σ, H', r', hq⟩)
end
end L2

set_option Elab.async false
set_option linter.all false
set_option maxRecDepth 100000
set_option maxHeartbeats 800000
/-! VxZ: a generator def's promise by its body; its call. -/
namespace L2
open PySem PySem.Spec PyProof.Rows GenW
/-- arguments, heap, what will be handed out, what is wanted at the end, exceptions -/
abbrev SpY := List V → Hp → List V → (Hp → Prop) → XK → Prop
/-- the consumer's objects are as they were at the waking -/
def Still (Z : List Addr) (H : Hp) (s₀ s : Shared) : Prop := ∀ z ∈ Z, H z = none ∧ ∃ o, s₀.heap.get? z = some o ∧ s.heap.get? z = some o
def YEnd (P : Program) (w : World) (outer : List Env) (H : Hp) (s : Shared) (Z : List Addr) (a : Addr) (g : Nat) (Q : Hp → Prop) (E : XK) : GenEnd := fun n s₀ r s1 =>
  ((r = .ok (.ret .none) ∨ r = .ok .next) ∧ ∃ H', n = 0 ∧ s1.os = s.os ∧ AllBare s1.gens ∧ Un (frs outer) [] H H' s.heap s1.heap ∧ HOk P w H' s1.heap ∧ Still Z H' s₀ s1 ∧ Q H') ∨
  ∃ e, r = .error e ∧ CX P w outer H s E e s1 ∧ s1.heap.IsGen a g
def YItm (P : Program) (w : World) (outer : List Env) (H : Hp) (s : Shared) (Z : List Addr) (a : Addr) (g : Nat) (xs : List V) : Protocol := fun n s₀ v s1 kap =>
  ∃ j x H', n + 1 + j = xs.length ∧ xs[j]? = some x ∧ RelV x v ∧ s1.os = s.os ∧ AllBare s1.gens ∧ s1.heap.NoLimit ∧ s1.heap.IsGen a g ∧ Un (frs outer) [] H H' s.heap s1.heap ∧ HOk P w H' s1.heap ∧ Still Z H' s₀ s1 ∧
    ∀ s', Zzz Z s1 s' → kap (.send .none) s'
/-- a generator that has not begun -/
def YMade (P : Program) (w : World) (k : Nat) (outer : List Env) (H : Hp) (s : Shared) (xs : List V) (Q : Hp → Prop) (E : XK) (u : Value) (s' : Shared) : Prop :=
  ∃ (a : Addr) (g : Nat) (c : Code), u = .ref a ∧ s.heap.objs.size ≤ a ∧ a < s'.heap.objs.size ∧ s'.heap.IsGen a g ∧ s'.gens[g]? = some (.fresh c) ∧ s'.os = s.os ∧ AllBare s'.gens ∧ s'.heap.NoLimit ∧ (∀ b o, s.heap.get? b = some o → s'.heap.get? b = some o) ∧
    ∀ (A : Around) (Z : List Addr) (s2 : Shared), Room k A → A.frames = some outer → (∀ z ∈ Z, s'.heap.objs.size ≤ z ∧ ∃ o, s2.heap.get? z = some o ∧ ∀ v, o.data ≠ .cell v) → (∀ b o, s'.heap.get? b = some o → s2.heap.get? b = some o) → s2.os = s.os → AllBare s2.gens →
      Seg (model P w) A (YEnd P w outer H s Z a g Q E) (YItm P w outer H s Z a g xs) xs.length s2 c ((model P w).den c) [] s2
structure YDef (P : Program) (w : World) (K : PySem.W.Frag) (mg : Str → Option Value) (base : Heap) (k : Nat) (f : Addr) (fd : FuncData) (ps : List Str) (sp : SpY) : Prop where
  len : ∀ vs H xs Q E, sp vs H xs Q E → vs.length = ps.length
  run : ∀ (A : Around) (outer : List Env) (s : Shared) (H : Hp) (args : Args) (us : List Value) (vs xs : List V) (Q : Hp → Prop) (E : XK), Room k A → Env0 P w K mg base A outer s H → BindsTo s fd args (ps.zip us) → Vals vs us → sp vs H xs Q E →
    codeAny (model P w) A (.call (.ref f) args) (fun r s' => match r with | .ok (.ret u) => YMade P w k outer H s xs Q E u s' | _ => False) s
/-- the rule: such a def, by its body -/
theorem FunD.okY {P : Program} {w : World} {K : PySem.W.Frag} {mg : Str → Option Value} {base : Heap} {k : Nat} {f : Addr} {fd : FuncData} {x qual : Str} {params : Arguments} {body : List Stmt} {scope : Scope} {dvs : List V} {kws : List (Str × V)} {N ps : List Str} {sp : SpY}
    (F : FunD K x qual params body scope dvs kws f fd) (S : GScope N ps scope) (len : ∀ vs H xs Q E, sp vs H xs Q E → vs.length = ps.length)
    (hbody : ∀ (cdv : Value) (A : Around) (outer : List Env) (s : Shared) (H : Hp) (vs xs : List V) (Q : Hp → Prop) (E : XK) (pn : List (Addr × Obj)), Room k (A.deeper (envOfC qual scope s.heap.objs.size f cdv)) → sp vs H xs Q E →
      ∃ t, YSs (gcxOf P w K mg base N qual scope f cdv A outer s H E pn) xs body t ∧ t { nx := fun j _ H' => j = xs.length ∧ Q H', rt := fun j v H' => v = .non ∧ j = xs.length ∧ Q H' } 0 (start N vs) H) : YDef P w K mg base (k + 1) f fd ps sp := by
  obtain ⟨oc, od, dV, kV, doc, pm, an, cdv, ct, osl, rfl, lk, hcd, _, _⟩ := F.ex
  refine ⟨len, fun A outer s H args us vs xs Q E hr e0 hb r hsp => ?_⟩
  have hl := len _ _ _ _ _ hsp
  have kin : K.In s.heap := e0.mod.kin.keeps fun b o e => (e0.bs b o e).1
  have lim : s.heap.NoLimit := e0.mod.nolimit.keeps fun b o e => (e0.bs b o e).1
  have par : ∀ y ∈ ps.zip us, scope.names.lookup y.1 = some .local ∨ (scope.names.lookup y.1 = some .cell ∧ ((cellsFrom (s.heap.objs.size + 1) scope.names []).lookup y.1).isSome = true) := by
    intro y hy
    obtain ⟨n, v⟩ := y
    exact (S.par n (List.of_mem_zip hy).1).imp id fun q => ⟨q, PySem.W.cellsFrom_some _ _ _ (.inl q)⟩
  refine codeAny_call_generator hr.depth (kin _ _ lk) rfl S.co S.gen rfl (PySem.W.codeRec_of kin hcd) (hb _ _ _ _ (wpAny_newFunctionEnv_cells S.kind par fun env he s1 x => ?_))
  subst he
  have lim1 : s1.heap.NoLimit := lim.keeps x.toInCall.keep
  refine ⟨lim1, ?_⟩
  obtain ⟨h1, tk, es1, hk1⟩ := x.done
  have os1 : s1.os = s.os := by rw [es1]
  have gen1 : s1.gens = s.gens := by rw [es1]
  have kp1 : ∀ b o, s.heap.get? b = some o → s1.heap.get? b = some o := x.toInCall.keep
  have lt1 : s.heap.objs.size < s1.heap.objs.size := x.toInCall.ns.lt
  have made : ∀ (go : Obj) (nm qn : Value) (tk2 : Nat), go.cls = .type "generator" → go.data = .fields #[.int s1.gens.size 0, nm, qn] → go.slots = #[] → (∀ h : Heap, (h.push go).get? h.objs.size = some go) →
      YMade P w (k + 1) outer H s xs Q E (.ref s1.heap.objs.size) { s1 with gens := s1.gens.push (.fresh (.func body (envOfC qual scope s.heap.objs.size f cdv))), toks := tk2, heap := s1.heap.push go } := by
    intro go nm qn tk2 gc gd gsl gp
    have isG : ∀ h : Heap, h.get? s1.heap.objs.size = some go → h.IsGen s1.heap.objs.size s1.gens.size := fun h e => ⟨go, nm, qn, e, gc, gd, gsl⟩
    refine ⟨s1.heap.objs.size, s1.gens.size, _, rfl, Nat.le_of_lt lt1, ?_, isG _ (gp _), Array.getElem?_push_size .., os1, ?_, lim1.keeps fun b o e => Heap.get?_push_of_some _ e, fun b o e => Heap.get?_push_of_some _ (kp1 b o e), ?_⟩
    · show _ < (s1.heap.push _).objs.size
      rw [Heap.size_push]
      exact Nat.lt_succ_self _
    · exact AllBare.push (by rw [gen1]; exact e0.bare) rfl
    intro B Z s2 hrB hfB hZ k2 os2 bare2
    have e0B : Env0 P w K mg base B outer s H := ⟨hfB, e0.mod, e0.bs, e0.bsz, e0.funs, e0.frf, e0.hok, e0.bare⟩
    obtain ⟨t, ht, hq⟩ := hbody cdv B outer s H vs xs Q E [(s1.heap.objs.size, go)] (hrB.deeper _) hsp
    have I1 : Inv (gcxOf P w K mg base N qual scope f cdv B outer s H E []) [] (start N vs) H s1 := inv_startG S hrB.hd e0B hl r x
    have kp2 : ∀ b o, s1.heap.get? b = some o → s2.heap.get? b = some o := fun b o e => k2 b o (Heap.get?_push_of_some _ e)
    have I2 : Inv (gcxOf P w K mg base N qual scope f cdv B outer s H E []) [] (start N vs) H s2 :=
      I1.call' (ch := []) (os2.trans os1.symm) (Un.kept kp2) (I1.hok.kept kp2) bare2 fun b z => by simp at z
    have zlt : ∀ z ∈ Z, s1.heap.objs.size < z := fun z hz => by
      have q : (s1.heap.push go).objs.size ≤ z := (hZ z hz).1
      rw [Heap.size_push] at q
      exact q
    have ea : s2.heap.get? s1.heap.objs.size = some go := k2 _ _ (gp s1.heap)
    -- what is younger than the frame
    have young : ∀ b, s1.heap.objs.size ≤ b → H b = none ∧ b ≠ s.heap.objs.size ∧ b ∉ frs outer ∧ s.heap.objs.size ≤ b ∧ ∀ y c, (cellsFrom (s.heap.objs.size + 1) scope.names []).lookup y = some c → c ≠ b := by
      intro b hb
      refine ⟨I1.hok.fresh hb, Nat.ne_of_gt (Nat.lt_of_lt_of_le lt1 hb), I1.nofs hb, Nat.le_trans (Nat.le_of_lt lt1) hb, fun y c e z => ?_⟩
      obtain ⟨v, ob, ho, _⟩ := I1.cell y c e
      have q := Heap.lt_size ho
      rw [z] at q
      exact absurd (Nat.lt_of_lt_of_le q hb) (Nat.lt_irrefl _)
    have hA : Aside (gcxOf P w K mg base N qual scope f cdv B outer s H E [(s1.heap.objs.size, go)]) Z := fun z hz => by
      obtain ⟨_, y2, _, y4, y5⟩ := young z (Nat.le_of_lt (zlt z hz))
      refine ⟨y4, y2, y5, fun p hp => ?_⟩
      rw [List.mem_singleton.mp hp]
      exact Nat.ne_of_lt (zlt z hz)
    obtain ⟨zp, f1, f2⟩ := snap (h := s2.heap) (Z := Z) fun z hz => (hZ z hz).2
    have r0 : YRun (gcxOf P w K mg base N qual scope f cdv B outer s H E [(s1.heap.objs.size, go)]) Z [] (start N vs) H s2 s2 := by
      refine ⟨zp, f1, fun p hp => (f2 p hp).1, Inv.pinnedG I2 fun p hp => ?_⟩
      rcases List.mem_append.mp hp with z | z
      · rw [List.mem_singleton.mp z]
        obtain ⟨y1, y2, y3, _, _⟩ := young s1.heap.objs.size (Nat.le_refl _)
        exact ⟨ea, y1, y2, y3, fun v q => by rw [gd] at q; cases q⟩
      · rw [List.append_nil] at z
        have hz : p.1 ∈ Z := by
          rw [← f1]
          exact List.mem_map.mpr ⟨p, z, rfl⟩
        obtain ⟨y1, y2, y3, _, _⟩ := young p.1 (Nat.le_of_lt (zlt _ hz))
        exact ⟨(f2 p z).1, y1, y2, y3, (f2 p z).2⟩
    have isG2 : ∀ {ip : List (Addr × Obj)} {s₀ s' : Shared} {σ' : L2.St} {H' : Hp}, YRun (gcxOf P w K mg base N qual scope f cdv B outer s H E [(s1.heap.objs.size, go)]) Z ip σ' H' s₀ s' → s'.heap.IsGen s1.heap.objs.size s1.gens.size := fun {ip s₀ s' σ' H'} rr =>
      isG _ (rr.inv.pin (s1.heap.objs.size, go) (List.mem_append_left _ (List.mem_singleton.mpr rfl))).1
    have still : ∀ {ip : List (Addr × Obj)} {s₀ s' : Shared} {σ' : L2.St} {H' : Hp}, YRun (gcxOf P w K mg base N qual scope f cdv B outer s H E [(s1.heap.objs.size, go)]) Z ip σ' H' s₀ s' → Still Z H' s₀ s' := fun {ip s₀ s' σ' H'} rr z hz => ⟨(rr.at hz).1, (rr.at hz).2.2⟩
    refine seg_func (seg_imp (R := YR (gcxOf P w K mg base N qual scope f cdv B outer s H E [(s1.heap.objs.size, go)]) Z xs (fun v H' => v = .non ∧ Q H') fun e s' => CX P w outer H s E e s' ∧ ∀ p ∈ [(s1.heap.objs.size, go)], s'.heap.get? p.1 = some p.2)
      (Y := YP (gcxOf P w K mg base N qual scope f cdv B outer s H E [(s1.heap.objs.size, go)]) Z xs) (fun n s₀ r' s' hR => ?_) (fun n s₀ v s' kap kap' hkk hY => ?_) xs.length ?_)
    · cases r' with
      | error e =>
        obtain ⟨q1, q2⟩ := hR
        exact .inr ⟨e, rfl, q1, isG _ (q2 (s1.heap.objs.size, go) (List.mem_singleton.mpr rfl))⟩
      | ok fl =>
        cases fl with
        | next => exact False.elim hR
        | brk => exact False.elim hR
        | cont => exact False.elim hR
        | ret u =>
          obtain ⟨v, ip, σ', H', hn, rr, rv, ev, hQ⟩ := hR
          subst ev
          have eu : u = Value.none := rv
          subst eu
          have J := rr.inv
          exact .inl ⟨.inl rfl, H', hn, J.os, J.bare, J.base, J.hok, still rr, hQ⟩
    · obtain ⟨j, y, ip, σ', H', hn, hx, rv, rr, h3⟩ := hY
      have J := rr.inv
      exact ⟨j, y, H', hn, hx, rv, J.os, J.bare, J.nolimit, isG2 rr, J.base, J.hok, still rr, fun s3 z => hkk _ _ (h3 s3 z)⟩
    · refine ht.run B Z [] _ xs.length 0 s2 _ [] _ _ id id s2 (start N vs) H _ ⟨fun p hp => by simp at hp, hA, over_func, rfl, rfl, rfl⟩ (Nat.add_zero _) ⟨fun n j s₀ s' fl hn hs => ?_, fun n s₀ e s' hx => ?_⟩ r0 hq
      · cases fl with
        | next =>
          obtain ⟨σ', H', rr, hj, hQ⟩ := hs
          have hn0 : n = 0 := by omega
          exact seg_end (.ok (.ret .none)) ⟨.non, [], σ', H', hn0, rr, rfl, rfl, hQ⟩
        | brk => obtain ⟨_, _, _, q⟩ := hs; exact False.elim q
        | cont => obtain ⟨_, _, _, q⟩ := hs; exact False.elim q
        | ret u =>
          obtain ⟨v, σ', H', rr, rv, ev, hj, hQ⟩ := hs
          have hn0 : n = 0 := by omega
          exact seg_end (.ok (.ret u)) ⟨v, [], σ', H', hn0, rr, rv, ev, hQ⟩
      · refine seg_wrap ?_
        rw [over_func]
        exact wpAny_mono (show wpAny (model P w) (B.deeper (envOfC qual scope s.heap.objs.size f cdv)) (leaving (envOfC qual scope s.heap.objs.size f cdv) e) (fun _ s3 => CX P w outer H s E e s3 ∧ ∀ p ∈ [(s1.heap.objs.size, go)], s3.heap.get? p.1 = some p.2) (fun _ _ => False) s' from hx) (fun _ s3 q => seg_end (.error e) q) fun _ s3 q => q.elim
  exact made _ _ _ _ rfl rfl rfl fun h => Heap.get?_push_size _ rfl
/-- an expression whose value is a generator that has not begun -/
abbrev TYg := L2.St → Hp → List V → (Hp → Prop) → Prop
structure PY (X : Cx) (k : Nat) (e : Expr) (tg : TYg) (E : XK) : Prop where
  run : ∀ (pins : List (Addr × Obj)) (s : Shared) (σ : L2.St) (H : Hp) (xs : List V) (Q : Hp → Prop), Inv X pins σ H s → tg σ H xs Q → wpAny (model X.prog X.w) X.A (eval e X.env)
    (fun u s' => ∃ H1 sc, Inv X pins σ H1 sc ∧ YMade X.prog X.w k X.stack H1 sc xs Q E u s') X.xe s
end L2

set_option Elab.async false
set_option linter.all false
set_option maxRecDepth 100000
set_option maxHeartbeats 1000000
/-! VxQ: [x for x in g()], g a generator of the program. -/
namespace L2
open PySem PySem.Spec PyProof.Rows GenW
theorem no_cx {P : Program} {w : World} {outer : List Env} {H : Hp} {s : Shared} {e : Value} {s1 : Shared} (h : CX P w outer H s E0 e s1) : False := by
  obtain ⟨_, _, _, _, _, _, _, _, _, _, _, _, z⟩ := h
  exact z
section
variable {X : Cx} {e : Expr} {x : Str} {px pe pos : Pos} {scope : Scope} {k : Nat} {tg : TYg}
theorem pe_lcY (h : PY X k e tg E0) (hr : Room (k + 1) X.A) (hk : scope.kind = .function) (hu : ∀ y ∈ scope.names, scope.names.lookup y.1 = some y.2) (hf : ∀ y ∈ scope.names, y.2 ≠ .free) (hx : scope.names.lookup x = some .local)
    (hs : ∀ v, foldedSetIterable e X.env v = pure v := by intro _; rfl) (hd : (x == ("__debug__" : Str)) = false := by decide) :
    PE X (.ListComp (.Name x pe) [⟨.Name x px, e, [], 0⟩] scope pos) (fun σ H Q => ∃ xs : List V, xs.length ≤ sizeLine ∧ tg σ H xs fun H2 => ∀ p, H2 p = none → Q (.ref p) (upd H2 p (.lst xs))) := by
  refine ⟨fun pins s σ H Q I hq => ?_⟩
  obtain ⟨xs, hxs, hq⟩ := hq
  rw [eval_ListComp]
  refine wpAny_comprehension_free (use := none) rfl hs (closure_ok fun y hy q => absurd q (hf y hy)) hk (fun y hy q => by rw [hu y hy, q]) (thn (h.run pins s σ H xs _ I hq) fun u s1 hg => ?_)
  obtain ⟨H1, sc, I1, a, g, c, rfl, a1, a2, isG, hgs, os1, bare1, lim1, kp1, wake⟩ := hg
  refine wpAny_pyIter_gen isG (wpAny_newObj_type (newEnv_comp ?_) (by show 0 ≤ sizeLine; decide))
  -- the list, the names
  generalize hD : s1.heap.objs.size = D
  generalize hs3 : ({ s1 with heap := s1.heap.push { cls := .type "list", data := .seq ([] : List Value).toArray } } : Shared) = s3
  have h3 : s3.heap = s1.heap.push { cls := .type "list", data := .seq ([] : List Value).toArray } := by rw [← hs3]
  generalize hC : s3.heap.objs.size = C
  have hCD : C = D + 1 := by rw [← hC, h3, Heap.size_push, hD]
  show codeAny _ _ (.compStart (.ListComp (.Name x pe) [⟨.Name x px, e, [], 0⟩] scope pos) 0 (.ref a) (.ref D) (compEnvC scope (cellsFrom (C + 1) scope.names (cloFrom X.env.cells scope.names [])) C X.env)) (compPost (model X.prog X.w) X.A X.xe none (EP X pins σ Q) (.ref D) C) { s3 with heap := pushCells (s3.heap.push { cls := .type "dict", data := .dict #[] }) scope.names }
  generalize hce : compEnvC scope (cellsFrom (C + 1) scope.names (cloFrom X.env.cells scope.names [])) C X.env = ce
  have cL : ce.locals = C := by subst hce; rfl
  have cK : ce.scope.kind = .function := by subst hce; exact hk
  have cX : ce.kindOf x = some .local := by
    subst hce
    exact lookup_relabel_local hx
  have cP : (ce.scope.kind == .class || (ce.scope.kind == .module && ce.locals != ce.globals)) = false := by
    rw [cK]
    rfl
  generalize hs4 : ({ s3 with heap := pushCells (s3.heap.push { cls := .type "dict", data := .dict #[] }) scope.names } : Shared) = s4
  have h4 : s4.heap = pushCells (s3.heap.push { cls := .type "dict", data := .dict #[] }) scope.names := by rw [← hs4]
  have k13 : ∀ b o, s1.heap.get? b = some o → s3.heap.get? b = some o := fun b o q => by rw [h3]; exact Heap.get?_push_of_some _ q
  have k34 : ∀ b o, s3.heap.get? b = some o → s4.heap.get? b = some o := fun b o q => by rw [h4]; exact pushCells_keeps _ _ _ _ (Heap.get?_push_of_some _ q)
  have k14 : ∀ b o, s1.heap.get? b = some o → s4.heap.get? b = some o := fun b o q => k34 b o (k13 b o q)
  have os4 : s4.os = sc.os := by rw [← hs4, ← hs3]; exact os1
  have gens4 : s4.gens = s1.gens := by rw [← hs4, ← hs3]
  have eD : s4.heap.get? D = some (lstObj #[] 0) := k34 D _ (by rw [h3, ← hD]; exact Heap.get?_push_size _ rfl)
  have eC : s4.heap.Ns C fun _ => none := by
    rw [h4, ← hC]
    exact (Heap.Ns.new s3.heap (.type "dict")).keeps (pushCells_keeps _ _)
  have aD : a ≠ D := fun z => by
    rw [← hD] at z
    exact Nat.lt_irrefl _ (z ▸ a2)
  have aC : a ≠ C := fun z => by
    rw [hCD, ← hD] at z
    exact Nat.lt_irrefl _ (Nat.lt_of_lt_of_le (z ▸ a2) (Nat.le_succ _))
  have DC : D ≠ C := fun z => by
    rw [hCD] at z
    exact Nat.lt_irrefl D (by
      have q : D < D + 1 := Nat.lt_succ_self D
      rw [← z] at q
      exact q)
  have scD : sc.heap.objs.size ≤ D := by
    rw [← hD]
    exact Nat.le_trans a1 (Nat.le_of_lt a2)
  have scC : sc.heap.objs.size ≤ C := Nat.le_trans scD (by rw [hCD]; exact Nat.le_succ D)
  have sD : cStatics ≠ D := fun z => by
    obtain ⟨mc, hn, _⟩ := lim1
    have q := hn.lt
    rw [z, ← hD] at q
    exact Nat.lt_irrefl _ q
  have sC : cStatics ≠ C := fun z => by
    obtain ⟨mc, hn, _⟩ := lim1
    have q := hn.lt
    rw [z, hCD, ← hD] at q
    exact Nat.lt_irrefl _ (Nat.lt_of_lt_of_le q (Nat.le_succ _))
  -- the state between two items
  have loop : codeAny (model X.prog X.w) X.A (.compLoop (.ListComp (.Name x pe) [⟨.Name x px, e, [], 0⟩] scope pos) 0 (.ref a) (.ref D) ce) (compPost (model X.prog X.w) X.A X.xe none (EP X pins σ Q) (.ref D) C) s4 := by
    refine compLoop_any (fun n s5 => ∃ (j : Nat) (gs : GenState) (acc : Array Value) (cc : Nat) (m : Str → Option Value), n + j = xs.length ∧ s5.gens[g]? = some gs ∧
      gs.Goes (model X.prog X.w) X.A.in1 (YEnd X.prog X.w X.stack H1 sc [D, C] a g (fun H2 => ∀ p, H2 p = none → Q (.ref p) (upd H2 p (.lst xs))) E0) (YItm X.prog X.w X.stack H1 sc [D, C] a g xs) n (.send .none) (s5.setGen g .running) ∧
      s5.heap.get? D = some (lstObj acc cc) ∧ Vals (xs.take j) acc.toList ∧ s5.heap.Ns C m ∧ s5.heap.IsGen a g ∧ s5.heap.NoLimit ∧ s5.os = sc.os ∧ AllBare s5.gens) ?_ xs.length ?_
    · rintro n s5 ⟨j, gs, acc, cc, m, hn, hg5, go5, d5, v5, c5, i5, l5, o5, b5⟩
      have gl : g < s5.gens.size := (Array.getElem?_eq_some_iff.mp hg5).1
      refine wpAny_gsz (n := g + 1) gl (next_genG (A := X.A) hr.hd l5 hr.depth i5 hg5 (F := fun n s₀ s1 => ∃ H', n = 0 ∧ s1.os = sc.os ∧ AllBare s1.gens ∧ Un (frs X.stack) [] H1 H' sc.heap s1.heap ∧ HOk X.prog X.w H' s1.heap ∧ Still [D, C] H' s₀ s1 ∧ ∀ p, H' p = none → Q (.ref p) (upd H' p (.lst xs)))
        (Er := fun e s1 => CX X.prog X.w X.stack H1 sc E0 e s1 ∧ s1.heap.IsGen a g) go5 (fun v s6 gs' bare6 hv => ?_) (fun s6 hp h' hk => ?_) fun er s6 he => (no_cx he.1).elim)
      · -- an item
        intro hsz
        obtain ⟨j', y, H', hn', hy, rv, o6, b6, l6, i6, un6, hok6, st6, kap⟩ := hv
        obtain ⟨q1, oD, q2, q3⟩ := st6 D List.mem_cons_self
        obtain ⟨z1, oC, z2, z3⟩ := st6 C (List.mem_cons_of_mem _ List.mem_cons_self)
        have d6 : s6.heap.get? D = some (lstObj acc cc) := by
          rw [q3, ← q2]
          exact d5
        have c6 : s6.heap.Ns C m := c5.at' fun o eo => by
          have w : some oC = some o := z2.symm.trans eo
          rw [z3, w]
        obtain ⟨og, nm, qn, g1, g2, g3, g4⟩ := id i6
        refine go_of (s := s6.setGen g gs') g1 g2 g3 (by decide) ?_
        refine wpAny_assign_Name (wpAny_storeName_local (s := s6.setGen g gs') cX (by rw [cL]; exact c6) (fun h7 n7 sb7 => ?_) cP)
        rw [cL] at n7 sb7
        refine wpAny_tests_nil ?_
        rw [if_pos rfl]
        refine wpAny_Name (wpAny_loadName_local cK cX (v := v) (by rw [cL]; exact n7) (by simp) ?_) hd
        have d7 : h7.get? D = some (lstObj acc cc) := (sb7.2 D DC).trans d6
        have sz : acc.size = j := by
          have q := v5.length
          rw [List.length_take] at q
          have q2 : acc.toList.length = acc.size := by simp
          omega
        refine append_at d7 (fun h8 sb8 d8 => ?_) (by rw [sz]; omega)
        have k68 : ∀ b o, b ≠ D → b ≠ C → s6.heap.get? b = some o → h8.get? b = some o := fun b o n1 n2 q => (sb8.2 b n1).trans ((sb7.2 b n2).trans q)
        have c8 : h8.Ns C _ := n7.at' fun o q => (sb8.2 C (Ne.symm DC)).trans q
        have g6 : g < s6.gens.size := by
          have q : (s6.setGen g gs').gens.size = s6.gens.size := setGen_size _ _ _
          have q2 : g + 1 ≤ (s6.setGen g gs').gens.size := hsz
          omega
        have b8 : AllBare (s6.setGen g gs').gens := allBare_setGen b6 bare6
        obtain ⟨mc, ln, lx⟩ := l6
        have zz : Zzz [D, C] s6 (({ s6.setGen g gs' with toks := (s6.setGen g gs').toks + 1, heap := h8 } : Shared).setGen g .running) := by
          refine ⟨rfl, allBare_setGen (s := { s6.setGen g gs' with toks := (s6.setGen g gs').toks + 1, heap := h8 }) b8 rfl, fun b o hb q => ?_, fun z hz => ?_⟩
          · exact k68 b o (fun w => hb (by rw [w]; exact List.mem_cons_self)) (fun w => hb (by rw [w]; exact List.mem_cons_of_mem _ List.mem_cons_self)) q
          · rcases List.mem_cons.mp hz with w | w
            · rw [w]
              exact ⟨_, d8, fun v w => by cases w⟩
            · rw [List.mem_singleton.mp w]
              obtain ⟨o, es, ep, w1, w2, _⟩ := id c8
              exact ⟨o, w1, fun v w => by rw [w2] at w; cases w⟩
        have go8 := kap _ zz
        cases n with
        | zero => exact go8.elim
        | succ n =>
          have jj : j' = j := by omega
          subst jj
          refine ⟨n, Nat.lt_succ_self n, j' + 1, gs', acc.push v, cc + 1, _, by omega, setGen_at g6, go8, d8, ?_, c8, ⟨og, nm, qn, k68 a og aD aC g1, g2, g3, g4⟩, ⟨mc, ln.at' fun o q => k68 _ o sD sC q, lx⟩, o6, b8⟩
          rw [Array.toList_push, List.take_add_one, hy]
          exact v5.append (.cons rv .nil)
      · -- the end
        intro _
        obtain ⟨H', hn0, o6, b6, un6, hok6, st6, qq⟩ := hp
        obtain ⟨q1, oD, q2, q3⟩ := st6 D List.mem_cons_self
        obtain ⟨z1, oC, z2, z3⟩ := st6 C (List.mem_cons_of_mem _ List.mem_cons_self)
        have d6 : s6.heap.get? D = some (lstObj acc cc) := by
          rw [q3, ← q2]
          exact d5
        have c6 : s6.heap.Ns C m := c5.at' fun o eo => by
          have w : some oC = some o := z2.symm.trans eo
          rw [z3, w]
        have v6 : Vals xs acc.toList := by
          have w := v5
          rw [List.take_of_length_le (by omega)] at w
          exact w
        have J : Inv X pins σ (upd H' D (.lst xs)) { s6.setGen g .finished with heap := h' } :=
          I1.drained scD hxs (hk _ _ d6) v6 .nil o6 (allBare_setGen (s := s6) b6 rfl) (un6.trans (Un.kept hk)) (hok6.kept hk) q1
        have nC : (upd H' D (.lst xs)) C = none := by
          rw [upd_ne (Ne.symm DC)]
          exact z1
        obtain ⟨f0, f1, f2, f3, f4, f5⟩ := I1.fpOk scC nC
        refine ⟨m, c6.keeps hk, fun h9 sb9 => ⟨.ref D, _, J.turned (t' := s6.toks) (fun b o hb q => (sb9.2 b hb).trans q) f0 f1 f3 f4 f5, rfl, qq D q1⟩⟩
    · refine ⟨0, .fresh c, #[], 0, _, Nat.add_zero _, ?_, ⟨rfl, ?_⟩, eD, .nil, eC, isG.keeps k14, lim1.keeps k14, os4, by rw [gens4]; exact bare1⟩
      · rw [gens4]
        exact hgs
      · refine wake X.A.in1 [D, C] (s4.setGen g .running) hr.in1 I1.ok.frames (fun z hz => ?_) k14 os4 (allBare_setGen (s := s4) (by rw [gens4]; exact bare1) rfl)
        rcases List.mem_cons.mp hz with w | w
        · rw [w]
          exact ⟨Nat.le_of_eq hD, _, eD, fun v w => by cases w⟩
        · rw [List.mem_singleton.mp w]
          obtain ⟨o, es, ep, w1, w2, _⟩ := id eC
          exact ⟨by rw [hCD, hD]; exact Nat.le_succ D, o, w1, fun v w => by rw [w2] at w; cases w⟩
  exact codeAny_compStart_list loop (wpAny_pyIter_gen (isG.keeps k14) loop)
end
end L2

set_option Elab.async false
set_option linter.all false
set_option maxRecDepth 100000
set_option maxHeartbeats 2000000
/-! VxP: a value's type and what isinstance says of it, for values that are data. -/
namespace L2
open PySem PySem.Spec PyProof.Rows
def tyN : PyData → String
  | .none => "NoneType"
  | .bool _ => "bool"
  | .int _ => "int"
  | .str _ => "str"
  | .list _ => "list"
  | .tuple _ => "tuple"
  | .dict _ => "dict"
theorem ty_lst {K : PySem.W.Frag} {H : Hp} {a : Addr} {xs : List V} (h : SqL K H a xs) : TyX K H (.ref a) (.type "list") := by
  rcases h with h | ⟨o, its, n, e, c, _⟩
  · rcases h with h | ⟨o, h⟩
    · exact .base (.lst h)
    · exact .base (.frz h)
  · exact .kList e c
theorem ty_tup {K : PySem.W.Frag} {H : Hp} {a : Addr} {xs : List V} (h : SqT K H a xs) : TyX K H (.ref a) (.type "tuple") := by
  rcases h with h | ⟨o, its, n, e, c, _⟩
  · rcases h with h | ⟨o, h⟩
    · exact .base (.tup h)
    · exact .fTuple h
  · exact .kTuple e c
theorem Sd.ty {K : PySem.W.Frag} {H : Hp} {v : V} {d : PyData} (h : Sd K H v d) : TyX K H v (.type (tyN d)) := by
  cases h with
  | non => exact .base .non
  | bl b => exact .base (.bl b)
  | int i => exact .base (.int i)
  | str x => exact .base (.str x)
  | lst h _ => exact ty_lst h
  | tup h _ => exact ty_tup h
  | emp h => exact .base (.dK h)
  | one h _ => exact .base (.dK h)
/-- isinstance's answer -/
def isD (d : PyData) (t : String) : Bool := tyN d == t || (t == "int" && tyN d == "bool")
def plainT (t : String) : Bool := ["int", "bool", "str", "tuple", "list", "dict"].contains t
theorem kit_data {K : PySem.W.Frag} (d : PyData) {t : String} (h : plainT t = true) : PySem.W.kitOne K (.type (tyN d)) (.type t) = some (isD d t) := by
  have e : t = "int" ∨ t = "bool" ∨ t = "str" ∨ t = "tuple" ∨ t = "list" ∨ t = "dict" := by
    unfold plainT at h
    simpa using h
  have key : kitB (tyN d) t = some (isD d t) := by
    rcases e with rfl | rfl | rfl | rfl | rfl | rfl <;> cases d <;> first | decide +kernel | rfl
  exact kit_ty key
section
variable {X : Cx}
/-- isinstance(v, T) of data -/
def rIsD (K : PySem.W.Frag) : List V → Hp → VK → Prop := fun xs H Q => ∃ (v : V) (d : PyData) (t : String), xs = [v, .ty t] ∧ plainT t = true ∧ Sd K H v d ∧ Q (.bl (isD d t)) H
theorem call_isD : CallR X (.builtin "isinstance") (rIsD X.K) := by
  intro pins s σ H xs us Q I r h
  obtain ⟨v, d, t, rfl, ht, hv, q⟩ := h
  exact call_isi pins s σ H _ us Q I r ⟨v, .ty t, _, .type t, _, rfl, .ty t, hv.ty, kit_data d ht, q⟩
end
end L2

set_option Elab.async false
set_option linter.all false
set_option maxRecDepth 100000
/-! VxTy: != of built-in types. -/
namespace PySem.TypeEq
open Sem (wp)
theorem slot_type_ne : Slot "type" (cmpInfo .NotEq).2.1 "object.__ne__" :=
  .of (owner := "object") (n := "__ne__") (by rw [typeLookup_type, builtinLookup_eq_fast]; kernel_rfl) (by decide +kernel) (by decide +kernel) (by decide +kernel)
    (by first | exact .inl (by decide +kernel) | exact .inr (by decide +kernel)) (by rw [isSubtype_type]; kernel_rfl)
theorem slot_type_ne_refl : Slot "type" (cmpInfo .NotEq).2.2 "object.__ne__" :=
  .of (owner := "object") (n := "__ne__") (by rw [typeLookup_type, builtinLookup_eq_fast]; kernel_rfl) (by decide +kernel) (by decide +kernel) (by decide +kernel)
    (by first | exact .inl (by decide +kernel) | exact .inr (by decide +kernel)) (by rw [isSubtype_type]; kernel_rfl)
section
variable {prog : Program} {w : World} {A : Around} {E : Value → Shared → Prop} {s : Shared}
theorem ne_entry_same {X : String} (hX : ∀ s' : Shared, s'.TypeIs (.type X) "type") {Q : PySem.Fin → Shared → Prop} (q : Q (.done (.ret (.bool false))) s) : wpAny (model prog w) A (Builtin.«object.__ne__» ⟨[.type X, .type X], []⟩) Q E s := by
  unfold Builtin.«object.__ne__»
  repeat (first
    | with_reducible refine wpAny_cRoomFor_byValue rfl ?_
    | (refine wpAny_bind (m := callSpecialIfBound? (.type X) (Str.ofString "__eq__") [.type X])
        (wpAny_callSpecialIfBound?_slot (hX s) slot_type_eq (call_gives slot_type_eq (hX s) F.entry_object_eq (F.args_object_eq_2 _ _) (object_eq_same rfl (by simp)) ?_)))
    | wp_step)
  exact wpAny_bind (wpAny_truthy_bool (wpAny_pure q))
theorem ne_entry_other {X Y : String} (hX : ∀ s' : Shared, s'.TypeIs (.type X) "type") (hne : (Value.type X == Value.type Y) = false) {Q : PySem.Fin → Shared → Prop} (q : Q (.done (.ret .notImplemented)) s) : wpAny (model prog w) A (Builtin.«object.__ne__» ⟨[.type X, .type Y], []⟩) Q E s := by
  unfold Builtin.«object.__ne__»
  repeat (first
    | with_reducible refine wpAny_cRoomFor_byValue rfl ?_
    | (refine wpAny_bind (m := callSpecialIfBound? (.type X) (Str.ofString "__eq__") [.type Y])
        (wpAny_callSpecialIfBound?_slot (hX s) slot_type_eq (call_gives slot_type_eq (hX s) F.entry_object_eq (F.args_object_eq_2 _ _) (object_eq_other rfl hne) ?_)))
    | wp_step)
  exact wpAny_pure q
theorem ne_type_same {X : String} {Q : Value → Shared → Prop} (hX : ∀ s' : Shared, s'.TypeIs (.type X) "type") (h : Q (.bool false) s) : wpAny (model prog w) A (compareOp .NotEq (.type X) (.type X)) Q E s := by
  show wpAny _ A (richCompare .NotEq _ _) Q E s
  exact wpAny_richCompare_same (T := "type") (hX s) (hX s) slot_type_ne
    (wpAny_call_entry slot_type_ne (hX s) F.cmpEntry_ne (ne_entry_same hX ⟨_, rfl, (by intro e; cases e), h⟩) (F.cmpArgs_ne _ _))
theorem ne_type_other {X Y : String} {Q : Value → Shared → Prop} (hX : ∀ s' : Shared, s'.TypeIs (.type X) "type") (hY : ∀ s' : Shared, s'.TypeIs (.type Y) "type") (hne : (Value.type X == Value.type Y) = false) (h : Q (.bool true) s) : wpAny (model prog w) A (compareOp .NotEq (.type X) (.type Y)) Q E s := by
  have hne' : (Value.type Y == Value.type X) = false := by
    rw [Bool.eq_false_iff] at hne ⊢
    intro e
    exact hne (by rw [beq_iff_eq] at e ⊢; exact e.symm)
  show wpAny _ A (richCompare .NotEq _ _) Q E s
  simp only [richCompare, cmpInfo_NotEq, (hX s).oneThing_none]
  try with_reducible refine wpAny_holding ?_
  refine wpAny_bind (wpAny_cRoomFor_byValue rfl ?_)
  refine wpAny_bind (wpAny_typeOf (hX s) (wpAny_bind (wpAny_typeOf (hY s) ?_)))
  simp only [bne_self_eq_false, Bool.false_eq_true, if_false, pure_bind, Bool.not_false, if_true]
  refine wpAny_bind (wpAny_tryCompare_declines (hX s) slot_type_ne (wpAny_call_entry slot_type_ne (hX s) F.cmpEntry_ne (ne_entry_other hX hne ⟨_, rfl, rfl, ?_⟩) (F.cmpArgs_ne _ _)))
  refine wpAny_bind (wpAny_tryCompare_declines (hY s) slot_type_ne_refl (wpAny_call_entry slot_type_ne_refl (hY s) F.cmpEntry_ne (ne_entry_other hY hne' ⟨_, rfl, rfl, ?_⟩) (F.cmpArgs_ne _ _)))
  refine wpAny_bind (wpAny_rule (wpAny_bind (wpAny_of_eq (isSame_plain rfl) (wpAny_pure ?_))))
  rw [hne]
  exact h
end
end PySem.TypeEq

set_option Elab.async false
set_option linter.all false
set_option maxRecDepth 100000
set_option maxHeartbeats 2000000
/-! VxSt: type(v) of data, == and != of built-in types, set(t) of a tuple of integers, sorted of a set of any size. -/
namespace L2
open PySem PySem.Spec PyProof.Rows
/-- the heap has grown; nothing else is told of the two states -/
structure Grown (s s' : Shared) : Prop where
  old : ∀ b o, s.heap.get? b = some o → s'.heap.get? b = some o
  big : s.heap.objs.size ≤ s'.heap.objs.size
  gens : s'.gens = s.gens
  os : s'.os = s.os
section
variable {P : Program} {w : World} {A : Around} {E : Value → Shared → Prop} {s : Shared}
/-- sorted(x), where gathering x gives integers, however many -/
theorem sorted_gathered {x : Value} {ns : List Int} {Q : Value → Shared → Prop} (small : ns.length ≤ sizeLine)
    (gather : ∀ R : List Value → Shared → Prop, (∀ s1 vs ms, Grown s s1 → IntsAre vs ms → ms.Perm ns → R vs s1) → wpAny (model P w) A.in1 (collect x) R E s)
    (after : ∀ s' p out c ms, Grown s s' → s.heap.objs.size ≤ p → s'.heap.get? p = some (seqObj "list" (List.toArray out) c) → IntsAre out ms → ms.Perm ns → ms.Pairwise (· ≤ ·) → Q (.ref p) s') :
    wpAny (model P w) A (call (.builtin "sorted") [x]) Q E s := by
  apply Calls.call_function_entry kind_sorted plain_sorted entry_sorted (args_sorted1 x)
  unfold Builtin.«sorted»
  apply wpAny_bind
  apply wpAny_pure
  apply wpAny_bind
  apply gather
  intro s1 vs ms gr whole_ perm
  have room : vs.length ≤ sizeLine := by
    rw [whole_.length, perm.length_eq]
    exact small
  apply wpAny_bind
  refine wpAny_newList ?_ room
  have made : (s1.heap.push (seqObj "list" vs.toArray 0)).get? s1.heap.objs.size = some (seqObj "list" vs.toArray 0) := Heap.get?_push_size _ rfl
  apply wpAny_bind
  apply wpAny_holding
  refine wpAny_call_entry slot_list_sort ⟨_, made, rfl⟩ entry_list_sort ?_ (args_list_sort _)
  refine SrtO.list_sort_ord SrtO.swo_int made room (fun two => SrtO.ints_sortable whole_ two) fun out so st => ?_
  obtain ⟨i1, i2, i3⟩ := SrtO.ints_out whole_ so st
  obtain ⟨c, lies⟩ := sortedHeap_at (vs := vs) (out := out.toArray) made
  refine ⟨_, rfl, wpAny_pure ⟨_, rfl, after _ _ out c _ ⟨fun b u e => ?_, ?_, gr.gens, gr.os⟩ gr.big lies i1 (i2.trans perm) i3⟩⟩
  · have e1 := gr.old b u e
    have lt := Heap.lt_size e1
    have ne : b ≠ s1.heap.objs.size := Nat.ne_of_lt lt
    refine Eq.trans (sortedHeap_old ne ?_) (Heap.get?_push_of_some _ e1)
    rw [size_push']
    exact Nat.lt_succ_of_lt lt
  · exact Nat.le_trans gr.big (Nat.le_of_lt (Heap.lt_size lies))
theorem sorted_setN {a : Addr} {S : Int → Bool} {n : Nat} {Q : Value → Shared → Prop} (R : SetR w s.heap a S n) (hh : A.handled = none) (small : n ≤ sizeLine)
    (after : ∀ s' p out c (ms : List Int), Grown s s' → s.heap.objs.size ≤ p → s'.heap.get? p = some (seqObj "list" (List.toArray out) c) → IntsAre out ms → ms.Pairwise (· < ·) → (∀ k, k ∈ ms ↔ S k = true) → ms.length = n → Q (.ref p) s') :
    wpAny (model P w) A (call (.builtin "sorted") [.ref a]) Q E s := by
  obtain ⟨o, es, ep, t, at_, kind, data, keys, dis, mem, few, fit, count, ris, led⟩ := R
  have len : (es.toList.map keyOf).length = n := by
    rw [List.length_map, Array.length_toList]
    exact count
  refine sorted_gathered (ns := es.toList.map keyOf) (by rw [len]; exact small) (fun G more => ?_) fun s' p out c ms gr hp lies whole_ perm asc => ?_
  · refine collect_set (A := A.in1) hh ⟨o, at_, kind.1, data⟩ fit few ris led fun s1 vs keep big gens os perm => more s1 vs (vs.map Builtin.Re.reRawOf) ⟨keep, big, gens, os⟩ (ints_of vs fun v hv => ?_) ?_
    · obtain ⟨e, he, q⟩ := List.mem_map.mp (perm.mem_iff.mp hv)
      obtain ⟨k, tk, h1, _⟩ := keys e he
      exact ⟨k, tk, q ▸ h1⟩
    · have q := perm.map Builtin.Re.reRawOf
      rwa [List.map_map] at q
  · refine after s' p out c ms gr hp lies whole_ (lt_of_le_nodup _ asc (perm.nodup_iff.mpr dis)) (fun k => ?_) (perm.length_eq.trans len)
    rw [perm.mem_iff, ← mem k]
end
section
variable {X : Cx}
/-- set(t), a tuple of whole_ -/
def rSetT (K : PySem.W.Frag) (w : World) : List V → Hp → VK → Prop := fun vs H Q => ∃ (p : Addr) (ns : List Int), vs = [.ref p] ∧ SqT K H p (ns.map V.int) ∧ ns.length + 1 < scanBound ∧ ∀ a c, H a = none → c ≤ ns.length → Q (.ref a) (upd H a (SetO w a (fun j => decide (j ∈ ns)) c))
theorem cr_setT (hc : X.calm = true) : CallR X (.type "set") (rSetT X.K X.w) := by
  intro pins s σ H vs us Q I r h
  obtain ⟨p, ns, rfl, hq, hb, q⟩ := h
  rw [Vals.ref1 r]
  obtain ⟨its, rv, pt, hz⟩ := I.tuple hq
  refine call_set_tupI ns (I.ok.hd hc) (show s.heap.IsTuple p its.toArray from pt) (ints_of_vals rv) hb fun h' tk c R hcn k => ?_
  exact ⟨.ref _, upd H s.heap.objs.size (SetO X.w s.heap.objs.size (fun j => decide (j ∈ ns)) c), I.laid (t' := tk) k (Nat.le_refl _) (setO_new R), rfl, q _ c (I.hok.fresh (Nat.le_refl _)) hcn⟩
/-- sorted(found), a set of whole_ of any size -/
def rSortedSetN (w : World) : List V → Hp → VK → Prop := fun vs H Q => ∃ (a : Addr) (S : Int → Bool) (n : Nat), vs = [V.ref a] ∧ H a = some (SetO w a S n) ∧ n ≤ sizeLine ∧
  ∀ (ns : List Int) (p : Addr), ns.Pairwise (· < ·) → (∀ k : Int, k ∈ ns ↔ S k = true) → ns.length = n → H p = none → Q (.ref p) (upd H p (.lst (ns.map V.int)))
theorem cr_sortedSetN (hc : X.calm = true) : CallR X (.builtin "sorted") (rSortedSetN X.w) := by
  intro pins s σ H vs us Q I r h
  obtain ⟨a, S, n, rfl, ha, hz, q⟩ := h
  have R := setO_get I ha
  rw [Vals.ref1 r]
  refine sorted_setN R (I.ok.hd hc) hz fun s' p out c ns gr hp lies whole_ asc mem len => ?_
  have room : (ns.map V.int).length ≤ sizeLine := by
    rw [List.length_map, len]
    exact hz
  have fresh : H p = none := I.hok.fresh hp
  have whole : s' = { s with heap := s'.heap, gens := s'.gens, drawn := s'.drawn, toks := s'.toks } := by
    obtain ⟨_, _, _, _, os'⟩ := s'
    have eo : os' = s.os := gr.os
    rw [eo]
  rw [whole]
  refine ⟨.ref p, upd H p (.lst (ns.map V.int)), ?_, rfl, q ns p asc mem len fresh⟩
  exact I.call (ch := []) (Un.laid gr.old hp fresh) (I.hok.laid gr.old hp ⟨room, out, c, vals_of_ints whole_, lies⟩) (by rw [gr.gens]; exact I.bare) fun _ z => nomatch z
/-- type(v) of data -/
theorem sd_typeIs {pins : List (Addr × Obj)} {σ : L2.St} {H : Hp} {s : Shared} {v : V} {u : Value} {d : PyData} (I : Inv X pins σ H s) (r : RelV v u) (h : Sd X.K H v d) : s.TypeIs u (tyN d) := by
  cases h with
  | non => cases (show u = Value.none from r); exact rfl
  | bl b => cases (show u = Value.bool b from r); exact rfl
  | int i => obtain ⟨t, rfl⟩ := (show ∃ t, u = Value.int i t from r); exact rfl
  | str x => obtain ⟨t, rfl⟩ := (show ∃ t, u = Value.str x t from r); exact rfl
  | lst h _ =>
    obtain ⟨its, rv, hl, hz⟩ := I.list h
    obtain ⟨o, n, ho, hc, _⟩ := hl
    cases (show u = Value.ref _ from r)
    exact ⟨o, ho, hc⟩
  | tup h _ =>
    obtain ⟨its, rv, hl, hz⟩ := I.tuple h
    obtain ⟨o, ho, hc, _⟩ := hl
    cases (show u = Value.ref _ from r)
    exact ⟨o, ho, hc⟩
  | emp e =>
    cases (show u = Value.ref _ from r)
    obtain ⟨_, _, vs, _, o, es, ep, h1, h2, _⟩ := I.hok _ _ e
    exact ⟨o, h1, h2.1⟩
  | one e _ =>
    cases (show u = Value.ref _ from r)
    obtain ⟨_, _, vs, _, o, es, ep, h1, h2, _⟩ := I.hok _ _ e
    exact ⟨o, h1, h2.1⟩
def rTyD (K : PySem.W.Frag) : List V → Hp → VK → Prop := fun xs H Q => ∃ (v : V) (d : PyData), xs = [v] ∧ Sd K H v d ∧ Q (.ty (tyN d)) H
theorem call_tyD : CallR X (.type "type") (rTyD X.K) := by
  intro pins s σ H xs us Q I r h
  obtain ⟨v, d, rfl, hv, q⟩ := h
  obtain ⟨u, rfl, ru⟩ := vals1 r
  exact call_type_of (sd_typeIs I ru hv) (by cases d <;> simp only [tyN] <;> decide +kernel) ⟨.ty (tyN d), H, I, rfl, q⟩
/-- T != U of built-in types -/
def tyOk (t : String) : Bool := ["NoneType", "bool", "int", "str", "tuple", "list", "dict"].contains t
theorem meta_tyOk {t : String} (h : tyOk t = true) : ∀ s' : Shared, s'.TypeIs (.type t) "type" := by
  have e : t = "NoneType" ∨ t = "bool" ∨ t = "int" ∨ t = "str" ∨ t = "tuple" ∨ t = "list" ∨ t = "dict" := by
    unfold tyOk at h
    simpa using h
  rcases e with rfl | rfl | rfl | rfl | rfl | rfl | rfl
  · exact PySem.TypeEq.meta_NoneType
  · exact PySem.TypeEq.meta_bool
  · exact PySem.TypeEq.meta_int
  · exact PySem.TypeEq.meta_str
  · exact PySem.TypeEq.meta_tuple
  · exact PySem.TypeEq.meta_list
  · exact PySem.TypeEq.meta_dict
theorem tyN_ok (d : PyData) : tyOk (tyN d) = true := by cases d <;> simp only [tyN] <;> decide
def rNeTy : R2 := fun x y H Q => ∃ m n : String, x = .ty m ∧ y = .ty n ∧ tyOk m = true ∧ tyOk n = true ∧ Q (.bl (!decide (m = n))) H
theorem op_neTy : OpR X (compareOp .NotEq) rNeTy := by
  intro pins s σ H x y v u Q I rx ry h
  obtain ⟨m, n, rfl, rfl, hm, hn, q⟩ := h
  cases (show v = Value.type m from rx)
  cases (show u = Value.type n from ry)
  by_cases e : m = n
  · subst e
    exact PySem.TypeEq.ne_type_same (meta_tyOk hm) ⟨.bl false, H, I, rfl, by simpa using q⟩
  · exact PySem.TypeEq.ne_type_other (meta_tyOk hm) (meta_tyOk hn) (beq_eq_false_iff_ne.mpr fun z => e (Value.type.inj z)) ⟨.bl true, H, I, rfl, by simpa [e] using q⟩
end
end L2

set_option Elab.async false
set_option linter.all false
set_option maxRecDepth 100000
set_option maxHeartbeats 1000000
/-! VxI: == of objects of the program's classes without an own __eq__: the same object or not. -/
namespace VxS
open PySem PySem.W
section
variable {prog : Program} {w : World} {K : Frag} {A : Around} {E : Value → Shared → Prop} {s : Shared} {C D x y : Addr} {ox oy : Obj}
/-- what of the text a class must have -/
structure EqC (K : Frag) (C : Addr) : Prop where
  eq : findIn K (.ref C) "__eq__" = some (some (.builtin "object.__eq__"))
  top : mroIn K C (.type "object") = some true
theorem eq_check (X : K.In s.heap) (T : EqC K C) (hx : s.heap.get? x = some ox) (hc : ox.cls = .ref C) {b : Value} {Q : Unit → Shared → Prop} (q : Q () s) : wpAny (model prog w) A (checkBuiltinCall "object.__eq__" ⟨[.ref x, b], []⟩) Q E s := by
  simp only [checkBuiltinCall, F.cmpKind_eq, F.cmpSplit_eq]
  refine wpAny_bind ?_
  unfold isInstance
  refine wpAny_bind (wpAny_typeOf_ref hx ?_)
  rw [hc]
  refine (looks_mroIn X T.top).here ?_
  cases hsig : Manifest.signature? "object.__eq__" with
  | none => exact wpAny_pure q
  | some sig =>
    have ha := F.cmpArgs_eq (.ref x) b
    simp only [argsOk, hsig] at ha
    have h2 : Bind.checkArgs "object.__eq__" sig ⟨[.ref x, b], []⟩ = pure () := ha
    show wpAny _ A (Bind.checkArgs "object.__eq__" sig ⟨[.ref x, b], []⟩) Q E _
    rw [h2]
    exact wpAny_pure q
theorem F.objEq_other {M : Model} (hx : s.heap.get? x = some ox) (hy : s.heap.get? y = some oy) (hc : ox.cls = .ref C) (hxy : x ≠ y) {Q : Fin → Shared → Prop} (hq : Q (.done (.ret .notImplemented)) s) : wpAny M A (Builtin.«object.__eq__» ⟨[.ref x, .ref y], []⟩) Q E s :=
  objEq_entry_other hxy hx hy (by rw [hc]; exact fun z => nomatch z) hq
theorem eq_try (X : K.In s.heap) (T : EqC K C) (hx : s.heap.get? x = some ox) (hc : ox.cls = .ref C) (hy : s.heap.get? y = some oy) (hxy : x ≠ y) {Q : Option Value → Shared → Prop} (q : Q none s) : wpAny (model prog w) A (tryCompare (.ref x) "__eq__" (.ref y)) Q E s := by
  simp only [tryCompare, callSpecialIfBound?, bindSpecialIfBound?, specialOf]
  refine wpAny_bind (wpAny_holding (wpAny_bind (wpAny_bind (wpAny_bind (wpAny_typeOf_ref hx ?_)))))
  rw [hc]
  refine (looks_findIn X T.eq).here ?_
  have call_ : ∀ {Q : Value → Shared → Prop}, Q .notImplemented s → wpAny (model prog w) A (call (.builtin "object.__eq__") [.ref x, .ref y]) Q E s := fun {Q} q =>
    wpAny_call (codeAny_call_builtin F.cmp_object.eq.plain F.cmpEntry_eq (eq_check X T hx hc (F.objEq_other hx hy hc hxy q)))
  have bs : bindSpecial (.builtin "object.__eq__") (.ref x) = pure (.builtin "object.__eq__", [.ref x]) := F.cmp_object.eq.bind _
  dsimp only
  rw [bs]
  have fin : wpAny (model prog w) A (call (.builtin "object.__eq__") ([.ref x] ++ [.ref y]) >>= fun v => pure (some v)) (fun a s' => wpAny (model prog w) A (match a with
      | some Value.notImplemented => (pure none : Sem (Option Value))
      | none => pure none
      | some v => pure (some v)) Q E s') E s := wpAny_bind (call_ (wpAny_pure (wpAny_pure q)))
  refine wpAny_bind (wpAny_askSetting (wpAny_ite ?_))
  split
  · exact wpAny_bind (wpAny_pure (wpAny_pure fin))
  · exact wpAny_tryCatch (wpAny_bind (wpAny_pure (wpAny_pure fin)))
/-- x == y, two objects -/
theorem eq_other (hu : A.units < cLine) (X : K.In s.heap) (T : EqC K C) (U : EqC K D) {b : Bool} (sub : mroIn K D (.ref C) = some b) (hx : s.heap.get? x = some ox) (hc : ox.cls = .ref C) (hy : s.heap.get? y = some oy) (hd : oy.cls = .ref D) (hxy : x ≠ y) {Q : Value → Shared → Prop} (q : Q (.bool false) s) :
    wpAny (model prog w) A (compareOp .Eq (.ref x) (.ref y)) Q E s := by
  show wpAny _ _ (richCompare .Eq (.ref x) (.ref y)) _ _ _
  simp only [richCompare, cmpInfo_Eq, oneThing_ref]
  have nt : ox.cls ≠ .type "tuple" := by rw [hc]; exact fun z => nomatch z
  have t1 : ∀ {Q : Option Value → Shared → Prop}, Q none s → wpAny (model prog w) A (tryCompare (.ref x) "__eq__" (.ref y)) Q E s := fun {Q} q => eq_try X T hx hc hy hxy q
  have t2 : ∀ {Q : Option Value → Shared → Prop}, Q none s → wpAny (model prog w) A (tryCompare (.ref y) "__eq__" (.ref x)) Q E s := fun {Q} q => eq_try X U hy hd hx hxy.symm q
  have last : wpAny (model prog w) A (rule "compare.eq-identity" >>= fun _ => isSame (.ref x) (.ref y) >>= fun r => pure (Value.bool r)) Q E s := wpAny_bind (wpAny_rule (wpAny_bind (wpAny_isSame_ref_other hxy hx hy nt (wpAny_pure q))))
  refine wpAny_holding (wpAny_bind (wpAny_cRoomFor hu (wpAny_bind (wpAny_typeOf_ref hx ?_))))
  rw [hc]
  refine wpAny_bind (wpAny_typeOf_ref hy ?_)
  rw [hd]
  split
  · refine wpAny_bind ((looks_mroIn X sub).here ?_)
    cases b with
    | true => exact wpAny_bind (t2 (wpAny_bind (t1 last)))
    | false =>
      rw [if_neg Bool.false_ne_true]
      exact wpAny_bind (t1 (wpAny_bind (t2 last)))
  · refine wpAny_bind (wpAny_pure ?_)
    rw [if_neg Bool.false_ne_true]
    exact wpAny_bind (t1 (wpAny_bind (t2 last)))
theorem eq_same (hu : A.units < cLine) (X : K.In s.heap) (T : EqC K C) (hx : s.heap.get? x = some ox) (hc : ox.cls = .ref C) {Q : Value → Shared → Prop} (q : Q (.bool true) s) : wpAny (model prog w) A (compareOp .Eq (.ref x) (.ref x)) Q E s := by
  show wpAny _ _ (richCompare .Eq (.ref x) (.ref x)) _ _ _
  have call_ : ∀ {Q : Value → Shared → Prop}, Q (.bool true) s → wpAny (model prog w) A (call (.builtin "object.__eq__") [.ref x, .ref x]) Q E s := fun {Q} q =>
    wpAny_call (codeAny_call_builtin F.cmp_object.eq.plain F.cmpEntry_eq (eq_check X T hx hc (objEq_entry_same q)))
  have bs : bindSpecial (.builtin "object.__eq__") (.ref x) = pure (.builtin "object.__eq__", [.ref x]) := F.cmp_object.eq.bind _
  have t1 : wpAny (model prog w) A (tryCompare (.ref x) "__eq__" (.ref x)) (fun r s' => r = some (.bool true) ∧ s' = s) E s := by
    simp only [tryCompare, callSpecialIfBound?, bindSpecialIfBound?, specialOf]
    refine wpAny_bind (wpAny_holding (wpAny_bind (wpAny_bind (wpAny_bind (wpAny_typeOf_ref hx ?_)))))
    rw [hc]
    refine (looks_findIn X T.eq).here ?_
    dsimp only
    rw [bs]
    have fin : wpAny (model prog w) A (call (.builtin "object.__eq__") ([.ref x] ++ [.ref x]) >>= fun v => pure (some v)) (fun a s' => wpAny (model prog w) A (match a with
        | some Value.notImplemented => (pure none : Sem (Option Value))
        | none => pure none
        | some v => pure (some v)) (fun r s' => r = some (.bool true) ∧ s' = s) E s') E s := wpAny_bind (call_ (wpAny_pure (wpAny_pure ⟨rfl, rfl⟩)))
    refine wpAny_bind (wpAny_askSetting (wpAny_ite ?_))
    split
    · exact wpAny_bind (wpAny_pure (wpAny_pure fin))
    · exact wpAny_tryCatch (wpAny_bind (wpAny_pure (wpAny_pure fin)))
  simp only [richCompare, cmpInfo_Eq, oneThing_ref]
  refine wpAny_holding (wpAny_bind (wpAny_cRoomFor hu (wpAny_bind (wpAny_typeOf_ref hx ?_))))
  rw [hc]
  refine wpAny_bind (wpAny_typeOf_ref hx ?_)
  rw [hc, if_neg (by simp)]
  refine wpAny_bind (wpAny_pure (wpAny_bind (wpAny_mono t1 (fun r s' z => ?_) fun _ _ e => e)))
  obtain ⟨rfl, rfl⟩ := z
  exact wpAny_pure q
end
end VxS
namespace L2
open PySem PySem.Spec PyProof.Rows
/-- x == y, objects of the program's classes without __eq__ -/
def rEqO (K : PySem.W.Frag) : R2 := fun x y H Q => ∃ (a b C D da db : Addr) (fa fb : List (Str × V)) (r : Bool), x = .ref a ∧ y = .ref b ∧ H a = some (.ins C da fa) ∧ H b = some (.ins D db fb) ∧ VxS.EqC K C ∧ VxS.EqC K D ∧ PySem.W.mroIn K D (.ref C) = some r ∧ Q (.bl (decide (a = b))) H
theorem op_eqO {X : Cx} (hu : X.A.units < cLine) : OpR X (compareOp .Eq) (rEqO X.K) := by
  intro pins s σ H x y v u Q I rx ry h
  obtain ⟨a, b, C, D, da, db, fa, fb, r, rfl, rfl, ha, hb, T, U, sub, q⟩ := h
  cases rx
  cases ry
  obtain ⟨_, _, _, e1, _⟩ := I.hok a _ ha
  obtain ⟨_, _, _, e2, _⟩ := I.hok b _ hb
  by_cases z : a = b
  · subst z
    rw [decide_eq_true rfl] at q
    exact VxS.eq_same hu I.kIn T e1 rfl ⟨.bl true, H, I, rfl, q⟩
  · rw [decide_eq_false z] at q
    exact VxS.eq_other hu I.kIn T U sub e1 rfl e2 rfl z ⟨.bl false, H, I, rfl, q⟩
end L2

set_option Elab.async false
set_option linter.all false
set_option maxRecDepth 100000
set_option maxHeartbeats 1000000
/-! VxN: a generator method called; cls(*e), cls a local name of a class. -/
namespace L2
open PySem PySem.Spec PyProof.Rows StX
section
variable {X : Cx} {k i : Nat} {f C : Addr} {fd : FuncData} {ps : List Str} {sp : SpY} {x m : Str} {p pos apos : Pos} {o e : Expr} {ta te : TE} {E : XK}
/-- o.m() of a generator method -/
def tMethY (C : Addr) (m : Str) (sp : SpY) (E : XK) (ta : TE) : TYg := fun σ H xs Q => ta σ H fun y H1 => ∃ a dx fs, y = .ref a ∧ H1 a = some (.ins C dx fs) ∧ fs.lookup m = none ∧ sp [y] H1 xs Q E
theorem py_meth0 {pl : Sem Bool} (he : PE X o ta) (c : Cls X.K C) (hm : Meth X.K C m f) (F : YDef X.prog X.w X.K X.mg X.base k f fd ps sp) (hr : Room k X.A) (hb : Binds X.K fd ps [])
    (ht : eval (.Call (.Attribute o m apos) [] [] pos) X.env = (do
      let ov ← eval o X.env
      standAt apos.atName
      let (f, first) ← holding [ov] (getMethod ov m pl)
      callWith pos f first (backTo pos (starEach [] X.env)) (backToKw pos (keywordEach [] X.env))) := by rfl) :
    PY X k (.Call (.Attribute o m apos) [] [] pos) (tMethY C m sp E ta) E := by
  refine ⟨fun pins s σ H xs Q I h => PySem.W.methodCall_KW (pl := pl) (thn (he.run pins s σ H _ I h) fun u s1 hh => ?_) ht⟩
  obtain ⟨y, H1, I1, rx, a, dx, fs, rfl, ea, l, q⟩ := hh
  obtain rfl : u = Value.ref a := rx
  have hl : ([Value.ref a] ++ ([] : List Value)).length = ps.length := by
    have z := F.len _ _ _ _ _ q
    exact z
  refine getmeth_ok I1 ea c hm l (PySem.W.callWith_K0 (first := [.ref a]) I1.kIn hm.kp (wpAny_call (codeAny_mono (F.run X.A X.stack s1 H1 ⟨[.ref a], []⟩ [.ref a] [.ref a] xs Q E hr I1.env0 (hb s1 [.ref a] I1.kIn hl) (.cons rfl .nil) q) fun r s' hq => ?_)))
  cases r with
  | error e => exact False.elim hq
  | ok fl =>
    cases fl with
    | ret u => exact ⟨H1, s1, I1, hq⟩
    | next => exact False.elim hq
    | brk => exact False.elim hq
    | cont => exact False.elim hq
end
section
variable {X : Cx} {CX : CXT} {k i : Nat} {f C : Addr} {sp : Sp} {x : Str} {p spos pos : Pos} {e : Expr} {te : TE} {E : XK}
/-- cls(*e) -/
theorem pe_makeVS (M : Mk X.K C f) (F : FnR X.prog X.w X.K X.mg X.base CX k f sp) (hr : Room (k + 1) X.A) (hN : X.N[i]? = some x) (hv : Vis X.env.scope x) (hx : Passes CX X E) (he : PE X e te) (hd : (x == ("__debug__" : Str)) = false := by decide) (hcd : (x == ("__classdict__" : Str)) = false := by decide)
    (hst : starEach [.Starred e spos] X.env = [(true, eval e X.env)] := by rfl) :
    PE X (.Call (.Name x p) [.Starred e spos] [] pos) (fun σ H Q => σ[i]? = some (some (.ref C)) ∧ te σ H fun y H1 => ∃ a xs, y = V.ref a ∧ (SqT X.K H1 a xs ∨ SqL X.K H1 a xs) ∧
      ∀ n dx, H1 n = none → H1 dx = none → dx ≠ n → sp (V.ref n :: xs) (upd (upd H1 dx (.own n)) n (.ins C dx [])) (fun v H2 => v = .non ∧ Q (.ref n) H2) E) := by
  refine ⟨fun pins s σ H Q I h => ?_⟩
  obtain ⟨ec, h⟩ := h
  refine wpAny_Call_Name_kw (thn ((pe_var (pos := p) hN hv hd hcd).run pins s σ H (fun v H1 => v = .ref C ∧ H1 = H) I ⟨_, ec, rfl, rfl⟩) fun u s0 hh => ?_)
  obtain ⟨v, H0, I0, r0, rfl, rfl⟩ := hh
  obtain rfl : u = Value.ref C := r0
  refine PySem.W.callWith_S (h₀ := X.base) I.ok.mod.kin M.kp (thn (he.run pins s0 σ H0 _ I0 h) fun v s1 hh => ?_) hst
  obtain ⟨y, H1, I1, ry, a, xs, rfl, hxs, q⟩ := hh
  obtain rfl : v = Value.ref a := ry
  exact star_any I1 hxs fun us s2 I2 rv => ⟨I2.kIn, run_makeR M F hr hx I2 rv q⟩
end
end L2

set_option Elab.async false
set_option linter.all false
set_option maxRecDepth 100000
set_option maxHeartbeats 1000000
/-! VxM: ** of large ints, a text times an int, C() of a class whose __init__ has star parameters. -/
namespace L2
open PySem PySem.Spec PyProof.Rows StX ClX
theorem size_repA (a : Array Nat) : ∀ (n : Nat) (b : Array Nat), ((List.replicate n a).foldl (· ++ ·) b).size = b.size + n * a.size
  | 0, b => by simp
  | n + 1, b => by
    rw [List.replicate_succ, List.foldl_cons, size_repA a n, Array.size_append, Nat.add_mul]
    omega
theorem size_rep (a : Array Nat) (n : Nat) : ((List.replicate n a).foldl (· ++ ·) #[]).size = n * a.size := by
  rw [size_repA]
  simp
section
variable {X : Cx}
def CPowW (i j : Int) : Prop := 0 ≤ j ∧ (Builtin.Int.intBits i : Int) * j ≤ 2 ^ 27
theorem op_powW : OpR X (binaryOp .Pow) (rI CPowW fun i j => .int (i ^ j.toNat)) := opI fun _ _ _ _ _ _ _ hc q => pow_int hc.1 hc.2 q
/-- a text times an int of at least 2 -/
def rMulS : R2 := fun x y H Q => ∃ (z : Str) (k : Nat), x = .str z ∧ y = .int (k : Int) ∧ 2 ≤ k ∧ 0 < z.length ∧ z.length * k ≤ 1000000 ∧ Q (.str ⟨(List.replicate k z.cps).foldl (· ++ ·) #[]⟩) H
theorem op_mulS : OpR X (binaryOp .Mult) rMulS := by
  intro pins s σ H x y v u Q I rx ry h
  obtain ⟨z, k, rfl, rfl, h2, h0, hl, q⟩ := h
  obtain ⟨t, rfl⟩ := rx
  obtain ⟨t', rfl⟩ := ry
  have kb : (k : Int) ≤ 1000000 := by
    have : 1 * k ≤ z.length * k := Nat.mul_le_mul_right k h0
    omega
  refine PySem.P.mul_str ?_ (fun _ _ => ?_) (fun _ _ => ?_) ?_
  · rw [decide_eq_false (by omega), decide_eq_false (by omega)]
    rfl
  · have d : (z.length : Int) ≤ (2 ^ 63 - 1) / (k : Int) := by
      refine Int.le_ediv_of_mul_le (by omega) ?_
      have q2 : ((z.length * k : Nat) : Int) ≤ 1000000 := Int.ofNat_le.mpr hl
      rw [Int.natCast_mul] at q2
      omega
    omega
  · have e : (k : Int).toNat = k := rfl
    rw [e]
    exact decide_eq_false (by have q : (1000000 : Nat) ≤ sizeLine := by decide
                              omega)
  · rw [if_neg (by omega)]
    have e : ((k : Int) == 1 || z.length == 0) = false := by
      rw [Bool.or_eq_false_iff]
      exact ⟨beq_eq_false_iff_ne.mpr (by omega), beq_eq_false_iff_ne.mpr (by omega)⟩
    rw [e, if_neg Bool.false_ne_true]
    refine ⟨?_, .str _, H, I.tok _, ⟨_, rfl⟩, q⟩
    show Array.size _ ≤ sizeLine
    have e2 : ((k : Int).toNat) = k := rfl
    rw [e2, size_rep]
    have q3 : (1000000 : Nat) ≤ sizeLine := by decide
    have q4 : k * z.cps.size = z.length * k := Nat.mul_comm _ _
    omega
end
section
variable {X : Cx} {CX : CXT} {k : Nat} {f C p g : Addr} {fd : FuncData} {ps ks : List Str} {sp : Sp} {x m : Str} {np pos apos : Pos} {o : Expr} {kws : List Keyword} {ta : TE} {tk : TA} {E : XK} {mc : Value}
/-- C() -/
theorem pe_makeR0 (M : Mk X.K C f) (F : FnR X.prog X.w X.K X.mg X.base CX k f sp) (hr : Room (k + 1) X.A) (hg : Gl X x) (hm : X.mg x = some (.ref C)) (hx : Passes CX X E) (hdb : (x == ("__debug__" : Str)) = false := by decide) :
    PE X (.Call (.Name x np) [] [] pos) (fun _ H Q => ∀ n dx, H n = none → H dx = none → dx ≠ n → sp [V.ref n] (upd (upd H dx (.own n)) n (.ins C dx [])) (fun v H2 => v = .non ∧ Q (.ref n) H2) E) :=
  ⟨fun pins s σ H Q I h => wpAny_Call_Name_kw (ld_glob I hg hm (PySem.W.callWith_K0 (first := []) I.kIn M.kp (run_makeR (us := []) (vs := []) M F hr hx I .nil h)) hdb)⟩
/-- C.m(k = v, ..), m a classmethod -/
theorem pe_cmethK {pl : Sem Bool} {gv : List Value → List Value} {gV : List V → List V} (he : PE X o ta) (r : CRead X.K C mc) (c : CMet X.K C mc m p g) (F : FnOk X.prog X.w X.K X.mg X.base CX k g fd ps sp) (hr : Room k X.A) (hx : Passes CX X E)
    (hbd : ∀ (s : Shared) (ws : List Value), X.K.In s.heap → ws.length = ks.length → BindsTo s fd ⟨[Value.ref C], ks.zip ws⟩ (ps.zip (Value.ref C :: gv ws))) (rel : ∀ {zs : List V} {ws : List Value}, Vals zs ws → Vals (gV zs) (gv ws)) (hkw : PK X kws tk)
    (hall : (backToKw pos (keywordEach kws X.env)).all (·.1.isSome) = true := by rfl) (hks : (backToKw pos (keywordEach kws X.env)).filterMap (·.1) = ks := by rfl)
    (hpl : ((backTo pos (starEach [] X.env)).any (·.1) || (backToKw pos (keywordEach kws X.env)).any (·.1.isNone)) = false := by rfl)
    (ht : eval (.Call (.Attribute o m apos) [] kws pos) X.env = (do
      let ov ← eval o X.env
      standAt apos.atName
      let (f, first) ← holding [ov] (getMethod ov m pl)
      callWith pos f first (backTo pos (starEach [] X.env)) (backToKw pos (keywordEach kws X.env))) := by rfl) :
    PE X (.Call (.Attribute o m apos) [] kws pos) (fun σ H Q => ta σ H fun y H1 => y = .ref C ∧ tk σ H1 fun zs H2 => zs.length = ks.length ∧ sp (.ref C :: gV zs) H2 Q E) := by
  refine ⟨fun pins s σ H Q I h => PySem.W.methodCall_KW (pl := pl) (thn (he.run pins s σ H _ I h) fun u s1 hh => ?_) ht⟩
  obtain ⟨y, H1, I1, rx, rfl, q⟩ := hh
  obtain rfl : u = Value.ref C := rx
  refine getmethcm_ok I1 r c fun s2 I2 => ?_
  refine PySem.W.callWith_of hpl (PySem.W.keeps_M (K := X.K) (self := .ref C) c.fi) (evalArgs_kw2_nil hall (thn (hkw.run pos _ s2 σ H1 _ I2 q) fun ws s3 hh => ?_))
  obtain ⟨zs, H2, I3, rz, hl, q2⟩ := hh
  refine ⟨⟨pin_at I3, I3.kIn⟩, ?_⟩
  rw [hks]
  have z : wpAny (model X.prog X.w) X.A (call (.ref s1.heap.objs.size) ([] ++ []) (ks.zip ws)) (EP X ((s1.heap.objs.size, PySem.W.methodObj (.ref g) (.ref C)) :: pins) σ Q) X.xe s3 := by
    refine wpAny_call (PySem.W.method_call (pin_at I3) (codeAny_mono (F.run X.A X.stack s3 H2 ⟨[.ref C], ks.zip ws⟩ (.ref C :: gv ws) (.ref C :: gV zs) Q E hr I3.env0 (hbd s3 ws I3.kIn (by rw [← rz.length]; exact hl)) (.cons rfl (rel rz)) q2) fun rs s' hq => ?_))
    cases rs with
    | error er => exact hx _ σ H2 s3 er s' I3 hq
    | ok fl =>
      cases fl with
      | ret u => exact I3.after hq
      | next => exact hq.elim
      | brk => exact hq.elim
      | cont => exact hq.elim
  exact thn z fun _ _ y => unpinE y
end
end L2

set_option Elab.async false
set_option linter.all false
set_option maxRecDepth 100000
set_option maxHeartbeats 1000000
/-! VxJ: within a try whose clause looks at the slots: C(e, ..) and C.m(e, ..), what they let out told at the slots of the call. -/
namespace L2
open PySem PySem.Spec PyProof.Rows StX ClX
section
variable {X : Cx} {CX : CXT} {k : Nat} {f C p g : Addr} {mc : Value} {fd : FuncData} {ps : List Str} {sp : Sp} {dvs : List V} {ds : List Value} {E : St → XK} {x m : Str} {pp pos apos : Pos} {e o : Expr} {es : List Expr} {ta : TE} {t : TA}
theorem run_makeS {pins : List (Addr × Obj)} {σ : St} {H : Hp} {s : Shared} {Q : VK} {us : List Value} {vs : List V} {E : XK} (M : Mk X.K C f) (F : FnOk X.prog X.w X.K X.mg X.base CX k f fd ps sp) (hr : Room (k + 1) X.A) (hb : Binds X.K fd ps ds) (hd : Vals dvs ds)
    (hx : PassesAt CX X σ E) (I : Inv X pins σ H s) (r : Vals vs us)
    (h : ∀ x dx, H x = none → H dx = none → dx ≠ x → sp (.ref x :: (vs ++ dvs)) (upd (upd H dx (.own x)) x (.ins C dx [])) (fun v H2 => v = .non ∧ Q (.ref x) H2) E) :
    wpAny (model X.prog X.w) X.A (call (.ref C) us) (EP X pins σ Q) X.xe s := by
  have hq := h (s.heap.objs.size + 1) s.heap.objs.size (I.hok.fresh (Nat.le_succ _)) (I.hok.fresh (Nat.le_refl _)) (Nat.ne_of_lt (Nat.lt_succ_self _))
  have J := Inv.made (C := C) I
  have rr : Vals (V.ref (s.heap.objs.size + 1) :: (vs ++ dvs)) (Value.ref (s.heap.objs.size + 1) :: (us ++ ds)) := .cons rfl (r.append hd)
  have hl : (Value.ref (s.heap.objs.size + 1) :: us ++ ds).length = ps.length := by
    have z := rr.length
    rw [F.len _ _ _ _ hq] at z
    exact z.symm
  refine wpAny_call (make_map (f := f) I.kIn M.makes M.init (beq_iff_eq.mp M.fn) (codeAny_mono (F.run _ X.stack _ _ ⟨Value.ref (s.heap.objs.size + 1) :: us, []⟩ (Value.ref (s.heap.objs.size + 1) :: (us ++ ds)) _ _ E (hr.make C us [])
    (J.env0.make C us []) (hb _ (Value.ref (s.heap.objs.size + 1) :: us) J.kIn hl) rr hq) fun rs s' z => ?_))
  cases rs with
  | error er => exact hx pins _ _ er s' J z
  | ok fl =>
    cases fl with
    | ret u =>
      obtain ⟨v, H', J2, rv, ev, q⟩ := J.after z
      subst ev
      exact ⟨rv, ⟨V.ref (s.heap.objs.size + 1), H', J2, rfl, q⟩⟩
    | next => exact z.elim
    | brk => exact z.elim
    | cont => exact z.elim
/-- C(e, ..) -/
theorem pe_makeSg (M : Mk X.K C f) (F : FnOk X.prog X.w X.K X.mg X.base CX k f fd ps sp) (hr : Room (k + 1) X.A) (hg : Gl X x) (hm : X.mg x = some (.ref C)) (hb : Binds X.K fd ps ds) (hd : Vals dvs ds) (hx : ∀ σ, PassesAt CX X σ (E σ))
    (ha : PA X (e :: es) t) (hdb : (x == ("__debug__" : Str)) = false := by decide) (he : starEach (e :: es) X.env = (false, eval e X.env) :: starEach es X.env := by rfl) (hpl : (backTo pos (starEach es X.env)).any (·.1) = false := by rfl) :
    PE X (.Call (.Name x pp) (e :: es) [] pos) (fun σ H Q => tMake C sp dvs (E σ) t σ H Q) :=
  ⟨fun pins s σ H Q I h => wpAny_Call_Name_kw (ld_glob I hg hm (PySem.W.callWith_K (h₀ := X.base) I.ok.mod.kin M.kp (thn (ha.run pos pins s σ H _ I h) fun us s1 z => by
    obtain ⟨vs, H1, J, r, q⟩ := z
    exact ⟨J.kIn, run_makeS M F hr hb hd (hx σ) J r q⟩) he hpl) hdb)⟩
/-- C.m(e, ..), m a classmethod -/
theorem pe_cmethSg {pl : Sem Bool} (he : PE X o ta) (r : CRead X.K C mc) (c : CMet X.K C mc m p g) (F : FnOk X.prog X.w X.K X.mg X.base CX k g fd ps sp) (hr : Room k X.A) (hb : Binds X.K fd ps []) (hx : ∀ σ, PassesAt CX X σ (E σ)) (ha : PA X (e :: es) t)
    (hst : starEach (e :: es) X.env = (false, eval e X.env) :: starEach es X.env := by rfl) (hpl : (backTo pos (starEach es X.env)).any (·.1) = false := by rfl)
    (ht : eval (.Call (.Attribute o m apos) (e :: es) [] pos) X.env = (do
      let ov ← eval o X.env
      standAt apos.atName
      let (f, first) ← holding [ov] (getMethod ov m pl)
      callWith pos f first (backTo pos (starEach (e :: es) X.env)) (backToKw pos (keywordEach [] X.env))) := by rfl) :
    PE X (.Call (.Attribute o m apos) (e :: es) [] pos) (fun σ H Q => tCMeth C sp (E σ) ta t σ H Q) := by
  refine ⟨fun pins s σ H Q I h => PySem.W.methodCall_KW (pl := pl) (thn (he.run pins s σ H _ I h) fun u s1 hh => ?_) ht⟩
  obtain ⟨y, H1, I1, rx, rfl, q⟩ := hh
  obtain rfl : u = Value.ref C := rx
  refine getmethcm_ok I1 r c fun s2 I2 => ?_
  refine callwith_cm I2 (base_none I1 (Nat.le_refl _)) c.fi (thn (ha.run pos _ s2 σ H1 _ I2 q) fun us s3 hh => ?_) hst hpl
  obtain ⟨vs, H2, I3, rv, q2⟩ := hh
  refine ⟨⟨pin_at I3, I3.kIn⟩, ?_⟩
  have b := hb s3 (Value.ref C :: us) I3.kIn (by
    have l := F.len _ _ _ _ q2
    have l2 := rv.length
    rw [List.append_nil, List.length_cons, ← l2]
    exact l)
  rw [List.append_nil] at b
  have z : wpAny (model X.prog X.w) X.A (call (.ref s1.heap.objs.size) us) (EP X ((s1.heap.objs.size, PySem.W.methodObj (.ref g) (.ref C)) :: pins) σ Q) X.xe s3 := by
    refine wpAny_call (PySem.W.method_call (pin_at I3) (codeAny_mono (F.run X.A X.stack s3 H2 ⟨.ref C :: us, []⟩ (.ref C :: us) (.ref C :: vs) Q (E σ) hr I3.env0 b (.cons rfl rv) q2) fun rs s' hq => ?_))
    cases rs with
    | error er => exact hx σ _ H2 s3 er s' I3 hq
    | ok fl =>
      cases fl with
      | ret u => exact I3.after hq
      | next => exact hq.elim
      | brk => exact hq.elim
      | cont => exact hq.elim
  exact thn z fun _ _ y => unpinE y
end
end L2

set_option Elab.async false
set_option linter.all false
set_option maxRecDepth 100000
set_option maxHeartbeats 1000000
/-! VxL: a list of anything == [] and != []. -/
namespace L2
open PySem PySem.Spec PyProof.Rows
section
variable {X : Cx}
def rEqN (K : PySem.W.Frag) : R2 := fun x y H Q => ∃ (a b : Addr) (xs : List V), x = .ref a ∧ y = .ref b ∧ SqL K H a xs ∧ SqL K H b [] ∧ Q (.bl xs.isEmpty) H
theorem op_eqN (hu : X.A.units < cLine) : OpR X (compareOp .Eq) (rEqN X.K) := by
  intro pins s σ H x y v u Q I rx ry h
  obtain ⟨a, b, xs, rfl, rfl, ha, hb, q⟩ := h
  cases rx
  cases ry
  obtain ⟨us, r1, p1, _⟩ := I.list ha
  obtain ⟨ws, r2, p2, _⟩ := I.list hb
  cases r2
  by_cases z : xs = []
  · subst z
    cases r1
    refine SeqAt.eq_listAt (e := fun _ => true) p1.isList p2.isList rfl hu ?_ ?_
    · intro j h1
      simp at h1
    · exact ⟨.bl true, H, I, rfl, q⟩
  · refine SeqAt.eq_list_lengthsAt p1.isList p2.isList ?_ hu ?_
    · have e : us ≠ [] := fun w => z (by
        subst w
        cases r1
        rfl)
      cases us with
      | nil => exact absurd rfl e
      | cons _ _ => simp
    · cases xs with
      | nil => exact absurd rfl z
      | cons _ _ => exact ⟨.bl false, H, I, rfl, q⟩
def rNeN (K : PySem.W.Frag) : R2 := fun x y H Q => ∃ (a b : Addr) (xs : List V), x = .ref a ∧ y = .ref b ∧ SqL K H a xs ∧ SqL K H b [] ∧ Q (.bl !xs.isEmpty) H
theorem op_neN (hu : X.A.units < cLine) : OpR X (compareOp .NotEq) (rNeN X.K) := by
  intro pins s σ H x y v u Q I rx ry h
  obtain ⟨a, b, xs, rfl, rfl, ha, hb, q⟩ := h
  cases rx
  cases ry
  obtain ⟨us, r1, p1, _⟩ := I.list ha
  obtain ⟨ws, r2, p2, _⟩ := I.list hb
  cases r2
  by_cases z : xs = []
  · subst z
    cases r1
    refine SeqAt.RcNeAt.lists (e := fun _ => true) p1.isList p2.isList rfl hu ?_ X.prog X.w _ _ ?_
    · intro j h1
      simp at h1
    · exact ⟨.bl false, H, I, rfl, q⟩
  · refine SeqAt.RcNeAt.lists_lengths p1.isList p2.isList ?_ hu X.prog X.w _ _ ?_
    · have e : us ≠ [] := fun w => z (by
        subst w
        cases r1
        rfl)
      cases us with
      | nil => exact absurd rfl e
      | cons _ _ => simp
    · cases xs with
      | nil => exact absurd rfl z
      | cons _ _ => exact ⟨.bl true, H, I, rfl, q⟩
end
end L2

set_option Elab.async false
set_option linter.all false
set_option maxRecDepth 100000
set_option maxHeartbeats 2000000
/-! VxO: things: data, or objects of the program's own classes; isinstance of both. -/
namespace L2
open PySem PySem.Spec PyProof.Rows
/-- what of the text a node's class must have; CN: the class above all of them -/
structure NodC (K : PySem.W.Frag) (CN C : Addr) : Prop where
  cls : Cls K C
  ha : PySem.W.findIn K (.ref C) "__class__" = some (some (.builtin "object.__class__"))
  hn : PySem.W.specialIn K (.builtin "object.__class__") "__get__" = some (some (.builtin "getset_descriptor.__get__"))
  htk : PySem.W.takesIn K (.builtin "object.__class__") = some true
  eqc : VxS.EqC K C
  kit : ∀ t ∈ ["int", "bool", "str", "tuple", "list", "dict"], PySem.W.kitOne K (.ref C) (.type t) = some false
  kitN : PySem.W.kitOne K (.ref C) (.ref CN) = some true
  mro : PySem.W.mroIn K C (.ref C) = some true
/-- no datum is a node -/
def DatN (K : PySem.W.Frag) (CN : Addr) : Prop := ∀ t ∈ ["NoneType", "bool", "int", "str", "list", "tuple", "dict"], PySem.W.kitOne K (.type t) (.ref CN) = some false
inductive Tk where
  | dat (d : PyData)
  | nod (C : Addr)
def Tv (K : PySem.W.Frag) (CN : Addr) (H : Hp) (v : V) : Tk → Prop
  | .dat d => Sd K H v d
  | .nod C => NodC K CN C ∧ ∃ a dx fs, v = .ref a ∧ H a = some (.ins C dx fs)
def isTk : Tk → String → Bool
  | .dat d, t => isD d t
  | .nod _, _ => false
def isNod : Tk → Bool
  | .dat _ => false
  | .nod _ => true
theorem NodC.ty {K : PySem.W.Frag} {CN C a dx : Addr} {fs : List (Str × V)} {H : Hp} (n : NodC K CN C) (e : H a = some (.ins C dx fs)) : TyX K H (.ref a) (.ref C) := .base (.ins e n.cls n.ha n.hn n.htk n.eqc.top)
theorem plain_mem {t : String} (h : plainT t = true) : t ∈ ["int", "bool", "str", "tuple", "list", "dict"] := by
  unfold plainT at h
  simpa using h
theorem tyN_mem (d : PyData) : tyN d ∈ ["NoneType", "bool", "int", "str", "list", "tuple", "dict"] := by cases d <;> simp [tyN]
section
variable {X : Cx}
def rIsTk (K : PySem.W.Frag) (CN : Addr) : List V → Hp → VK → Prop := fun xs H Q => ∃ (v : V) (k : Tk) (t : String), xs = [v, .ty t] ∧ plainT t = true ∧ Tv K CN H v k ∧ Q (.bl (isTk k t)) H
theorem call_isTk {CN : Addr} : CallR X (.builtin "isinstance") (rIsTk X.K CN) := by
  intro pins s σ H xs us Q I r h
  obtain ⟨v, k, t, rfl, ht, hv, q⟩ := h
  cases k with
  | dat d => exact call_isD pins s σ H _ us Q I r ⟨v, d, t, rfl, ht, hv, q⟩
  | nod C =>
    obtain ⟨n, a, dx, fs, rfl, e⟩ := hv
    exact call_isi pins s σ H _ us Q I r ⟨.ref a, .ty t, _, .type t, _, rfl, .ty t, n.ty e, n.kit t (plain_mem ht), q⟩
def rIsN (K : PySem.W.Frag) (CN : Addr) : List V → Hp → VK → Prop := fun xs H Q => ∃ (v : V) (k : Tk), xs = [v, .ref CN] ∧ Tv K CN H v k ∧ Q (.bl (isNod k)) H
theorem call_isN {CN : Addr} (D : DatN X.K CN) : CallR X (.builtin "isinstance") (rIsN X.K CN) := by
  intro pins s σ H xs us Q I r h
  obtain ⟨v, k, rfl, hv, q⟩ := h
  cases k with
  | dat d => exact call_isi pins s σ H _ us Q I r ⟨v, .ref CN, _, .ref CN, _, rfl, .own CN, (show Sd X.K H v d from hv).ty, D _ (tyN_mem d), q⟩
  | nod C =>
    obtain ⟨n, a, dx, fs, rfl, e⟩ := hv
    exact call_isi pins s σ H _ us Q I r ⟨.ref a, .ref CN, _, .ref CN, _, rfl, .own CN, n.ty e, n.kitN, q⟩
/-- isinstance(v, tuple), v a sequence of anything or a datum -/
def rIsTup (K : PySem.W.Frag) : List V → Hp → VK → Prop := fun xs H Q => ∃ (v : V) (t : String) (b : Bool), xs = [v, .ty "tuple"] ∧ TyX K H v (.type t) ∧ b = (t == "tuple") ∧ t ∈ ["NoneType", "bool", "int", "str", "list", "tuple", "dict"] ∧ Q (.bl b) H
theorem call_isTup : CallR X (.builtin "isinstance") (rIsTup X.K) := by
  intro pins s σ H xs us Q I r h
  obtain ⟨v, t, b, rfl, ty, rfl, m, q⟩ := h
  refine call_isi pins s σ H _ us Q I r ⟨v, .ty "tuple", _, .type "tuple", _, rfl, .ty "tuple", ty, ?_, q⟩
  simp only [List.mem_cons, List.not_mem_nil, or_false] at m
  rcases m with rfl | rfl | rfl | rfl | rfl | rfl | rfl
  · exact kit_data .none rfl
  · exact kit_data (.bool true) rfl
  · exact kit_data (.int 0) rfl
  · exact kit_data (.str "") rfl
  · exact kit_data (.list []) rfl
  · exact kit_data (.tuple []) rfl
  · exact kit_data (.dict []) rfl
end
end L2

set_option Elab.async false
set_option linter.all false
set_option maxRecDepth 100000
set_option maxHeartbeats 1000000
/-! VxH: within a try whose clause looks at the slots: C.m(k = e, ..) and o.m(k = e, ..). -/
namespace L2
open PySem PySem.Spec PyProof.Rows StX ClX
section
variable {X : Cx} {CX : CXT} {k : Nat} {f C p g : Addr} {fd : FuncData} {ps ks : List Str} {sp : Sp} {x m : Str} {np pos apos : Pos} {o : Expr} {kws : List Keyword} {ta : TE} {tk : TA} {E : L2.St → XK} {mc : Value}
/-- C.m(k = v, ..), m a classmethod -/
theorem pe_cmethKSg {pl : Sem Bool} {gv : List Value → List Value} {gV : List V → List V} (he : PE X o ta) (r : CRead X.K C mc) (c : CMet X.K C mc m p g) (F : FnOk X.prog X.w X.K X.mg X.base CX k g fd ps sp) (hr : Room k X.A) (hx : ∀ σ, PassesAt CX X σ (E σ))
    (hbd : ∀ (s : Shared) (ws : List Value), X.K.In s.heap → ws.length = ks.length → BindsTo s fd ⟨[Value.ref C], ks.zip ws⟩ (ps.zip (Value.ref C :: gv ws))) (rel : ∀ {zs : List V} {ws : List Value}, Vals zs ws → Vals (gV zs) (gv ws)) (hkw : PK X kws tk)
    (hall : (backToKw pos (keywordEach kws X.env)).all (·.1.isSome) = true := by rfl) (hks : (backToKw pos (keywordEach kws X.env)).filterMap (·.1) = ks := by rfl)
    (hpl : ((backTo pos (starEach [] X.env)).any (·.1) || (backToKw pos (keywordEach kws X.env)).any (·.1.isNone)) = false := by rfl)
    (ht : eval (.Call (.Attribute o m apos) [] kws pos) X.env = (do
      let ov ← eval o X.env
      standAt apos.atName
      let (f, first) ← holding [ov] (getMethod ov m pl)
      callWith pos f first (backTo pos (starEach [] X.env)) (backToKw pos (keywordEach kws X.env))) := by rfl) :
    PE X (.Call (.Attribute o m apos) [] kws pos) (fun σ H Q => ta σ H fun y H1 => y = .ref C ∧ tk σ H1 fun zs H2 => zs.length = ks.length ∧ sp (.ref C :: gV zs) H2 Q (E σ)) := by
  refine ⟨fun pins s σ H Q I h => PySem.W.methodCall_KW (pl := pl) (thn (he.run pins s σ H _ I h) fun u s1 hh => ?_) ht⟩
  obtain ⟨y, H1, I1, rx, rfl, q⟩ := hh
  obtain rfl : u = Value.ref C := rx
  refine getmethcm_ok I1 r c fun s2 I2 => ?_
  refine PySem.W.callWith_of hpl (PySem.W.keeps_M (K := X.K) (self := .ref C) c.fi) (evalArgs_kw2_nil hall (thn (hkw.run pos _ s2 σ H1 _ I2 q) fun ws s3 hh => ?_))
  obtain ⟨zs, H2, I3, rz, hl, q2⟩ := hh
  refine ⟨⟨pin_at I3, I3.kIn⟩, ?_⟩
  rw [hks]
  have z : wpAny (model X.prog X.w) X.A (call (.ref s1.heap.objs.size) ([] ++ []) (ks.zip ws)) (EP X ((s1.heap.objs.size, PySem.W.methodObj (.ref g) (.ref C)) :: pins) σ Q) X.xe s3 := by
    refine wpAny_call (PySem.W.method_call (pin_at I3) (codeAny_mono (F.run X.A X.stack s3 H2 ⟨[.ref C], ks.zip ws⟩ (.ref C :: gv ws) (.ref C :: gV zs) Q (E σ) hr I3.env0 (hbd s3 ws I3.kIn (by rw [← rz.length]; exact hl)) (.cons rfl (rel rz)) q2) fun rs s' hq => ?_))
    cases rs with
    | error er => exact hx σ _ H2 s3 er s' I3 hq
    | ok fl =>
      cases fl with
      | ret u => exact I3.after hq
      | next => exact hq.elim
      | brk => exact hq.elim
      | cont => exact hq.elim
  exact thn z fun _ _ y => unpinE y
/-- o.m(k = v, ..) -/
theorem pe_methKSg {pl : Sem Bool} {gv : List Value → List Value} {gV : List V → List V} (he : PE X o ta) (c : Cls X.K C) (hm : Meth X.K C m f) (F : FnOk X.prog X.w X.K X.mg X.base CX k f fd ps sp) (hr : Room k X.A) (hx : ∀ σ, PassesAt CX X σ (E σ))
    (hbd : ∀ (s : Shared) (a : Addr) (ws : List Value), X.K.In s.heap → ws.length = ks.length → BindsTo s fd ⟨[Value.ref a], ks.zip ws⟩ (ps.zip (Value.ref a :: gv ws))) (rel : ∀ {zs : List V} {ws : List Value}, Vals zs ws → Vals (gV zs) (gv ws)) (hkw : PK X kws tk)
    (hall : (backToKw pos (keywordEach kws X.env)).all (·.1.isSome) = true := by rfl) (hks : (backToKw pos (keywordEach kws X.env)).filterMap (·.1) = ks := by rfl)
    (hpl : ((backTo pos (starEach [] X.env)).any (·.1) || (backToKw pos (keywordEach kws X.env)).any (·.1.isNone)) = false := by rfl)
    (ht : eval (.Call (.Attribute o m apos) [] kws pos) X.env = (do
      let ov ← eval o X.env
      standAt apos.atName
      let (f, first) ← holding [ov] (getMethod ov m pl)
      callWith pos f first (backTo pos (starEach [] X.env)) (backToKw pos (keywordEach kws X.env))) := by rfl) :
    PE X (.Call (.Attribute o m apos) [] kws pos) (fun σ H Q => ta σ H fun y H1 => ∃ a dx fs, y = .ref a ∧ H1 a = some (.ins C dx fs) ∧ fs.lookup m = none ∧ tk σ H1 fun zs H2 => zs.length = ks.length ∧ sp (.ref a :: gV zs) H2 Q (E σ)) := by
  refine ⟨fun pins s σ H Q I h => PySem.W.methodCall_KW (pl := pl) (thn (he.run pins s σ H _ I h) fun u s1 hh => ?_) ht⟩
  obtain ⟨y, H1, I1, rx, a, dx, fs, rfl, ea, l, q⟩ := hh
  obtain rfl : u = Value.ref a := rx
  refine getmeth_ok I1 ea c hm l ?_
  refine PySem.W.callWith_of hpl (PySem.W.keeps_K (K := X.K) hm.kp) (evalArgs_kw2_nil hall (thn (hkw.run pos _ s1 σ H1 _ I1 q) fun ws s3 hh => ?_))
  obtain ⟨zs, H2, I3, rz, hl, q2⟩ := hh
  refine ⟨I3.kIn, ?_⟩
  rw [hks]
  refine wpAny_call (codeAny_mono (F.run X.A X.stack s3 H2 ⟨[.ref a], ks.zip ws⟩ (.ref a :: gv ws) (.ref a :: gV zs) Q (E σ) hr I3.env0 (hbd s3 a ws I3.kIn (by rw [← rz.length]; exact hl)) (.cons rfl (rel rz)) q2) fun rs s' hq => ?_)
  cases rs with
  | error er => exact hx σ _ H2 s3 er s' I3 hq
  | ok fl =>
    cases fl with
    | ret u => exact I3.after hq
    | next => exact hq.elim
    | brk => exact hq.elim
    | cont => exact hq.elim
end
end L2

set_option Elab.async false
set_option linter.all false
set_option maxRecDepth 100000
set_option maxHeartbeats 1000000
/-! VxF: v != v, one and the same: data, a list of anything, a dict of flat data. -/
namespace L2
open PySem PySem.Spec PyProof.Rows
section
variable {X : Cx}
def rNeL (K : PySem.W.Frag) : R2 := fun x y H Q => ∃ (a : Addr) (xs : List V), x = .ref a ∧ y = .ref a ∧ SqL K H a xs ∧ Q (.bl false) H
theorem op_neL (hu : X.A.units < cLine) : OpR X (compareOp .NotEq) (rNeL X.K) := by
  intro pins s σ H x y v u Q I rx ry h
  obtain ⟨a, xs, rfl, rfl, ha, q⟩ := h
  cases rx
  cases ry
  obtain ⟨us, r1, p1, _⟩ := I.list ha
  have z := SeqAt.RcNeAt.lists (A := X.A) (s := s) (e := fun _ => true) p1.isList p1.isList rfl hu (fun j h1 h2 => SeqAt.EqAt.same _) X.prog X.w X.xe (EP X pins σ Q)
  refine z ?_
  have e : (List.range us.toArray.size).all (fun _ => true) = true := by simp
  rw [e]
  exact ⟨.bl false, H, I, rfl, q⟩
def rNeS (K : PySem.W.Frag) : R2 := fun x y H Q => rNeD K x y H Q ∨ rNeL K x y H Q ∨ rNeDA x y H Q
theorem op_neS (h64 : X.A.units + 64 < cLine) : OpR X (compareOp .NotEq) (rNeS X.K) := by
  intro pins s σ H x y v u Q I rx ry h
  have hu : X.A.units < cLine := by omega
  rcases h with h | h | h
  · exact op_neD h64 pins s σ H x y v u Q I rx ry h
  · exact op_neL hu pins s σ H x y v u Q I rx ry h
  · exact op_ne_dictA hu pins s σ H x y v u Q I rx ry h
end
end L2

set_option Elab.async false
set_option linter.all false
set_option maxRecDepth 100000
set_option maxHeartbeats 2000000
namespace Kz
open PySem PySem.Spec PyProof.Rows L2
def top (i : Nat) : Stmt := PySem.Challenge.pw_brinejar_k03_packs_and_rows.main.body.getD i (.Pass ⟨0, 0, 0, 0⟩)
abbrev FnP (K : PySem.W.Frag) (x : Str) (st : Stmt) (f : Addr) (fd : FuncData) : Prop := FunD K x x (defArgs st) (defBody st) (defScope st) [] [] f fd
abbrev gC (K : PySem.W.Frag) (x : Str) : Addr := He.ga K x
abbrev CN (K : PySem.W.Frag) : Addr := gC K "Node"
/-- 10 ** 300 -/
def big : Int := (10 ^ 60) ^ 5
def isI : PyData → Bool
  | .int _ => true
  | _ => false
def isT : PyData → Bool
  | .str x => decide (x.length ≤ 2000)
  | _ => false
def isK : PyData → Bool
  | .int i => decide (-big < i) && decide (i < big)
  | .str x => decide (x.length ≤ 2000)
  | _ => false
def isA : PyData → Bool
  | .none => true
  | .bool _ => true
  | d => isK d
def fits (d : PyData) : Prop := ∀ x, d = .str x → x.length ≤ sizeLine
/-- a test of data, of a thing -/
def onT (t : PyData → Bool) (n : Bool) : Tk → Bool
  | .dat d => t d
  | .nod _ => n
def fitsT : Tk → Prop
  | .dat d => fits d
  | .nod _ => True
def spTest (K : PySem.W.Frag) (t : PyData → Bool) (n : Bool) : Sp := fun vs H Q _ => ∃ (v : V) (k : Tk), vs = [v] ∧ Tv K (CN K) H v k ∧ fitsT k ∧ Q (.bl (onT t n k)) H
section
variable {P : Program} {w : World} {K : PySem.W.Frag} {mg : Str → Option Value} {base : Heap}
abbrev sIsInt : Stmt := top 4
abbrev sIsText : Stmt := top 5
abbrev sIsKey : Stmt := top 6
abbrev sIsAtom : Stmt := top 7
abbrev sIsVal : Stmt := top 22
theorem scIsInt : FnScope ["thing"] ["thing"] (defScope sIsInt) := ⟨rfl, rfl, rfl, by decide +kernel, rfl, by decide +kernel, by decide +kernel⟩
theorem scIsText : FnScope ["thing"] ["thing"] (defScope sIsText) := ⟨rfl, rfl, rfl, by decide +kernel, rfl, by decide +kernel, by decide +kernel⟩
theorem scIsKey : FnScope ["thing"] ["thing"] (defScope sIsKey) := ⟨rfl, rfl, rfl, by decide +kernel, rfl, by decide +kernel, by decide +kernel⟩
theorem scIsAtom : FnScope ["thing"] ["thing"] (defScope sIsAtom) := ⟨rfl, rfl, rfl, by decide +kernel, rfl, by decide +kernel, by decide +kernel⟩
theorem scIsVal : FnScope ["thing"] ["thing"] (defScope sIsVal) := ⟨rfl, rfl, rfl, by decide +kernel, rfl, by decide +kernel, by decide +kernel⟩
/-- the built-in names and the constants -/
structure Nm (K : PySem.W.Frag) (mg : Str → Option Value) : Prop where
  isi : mg "isinstance" = none
  int : mg "int" = none
  bool : mg "bool" = none
  str : mg "str" = none
  tuple : mg "tuple" = none
  len : mg "len" = none
  all : mg "all" = none
  type : mg "type" = none
  set : mg "set" = none
  sorted : mg "sorted" = none
  list : mg "list" = none
  repr : mg "repr" = none
  rng : mg "range" = none
  min : mg "min" = none
  atom : ∃ t, mg "ATOM_LIMIT" = some (.int big t)
  text : ∃ t, mg "TEXT_LIMIT" = some (.int 2000 t)
  nums : ∃ t, mg "NUMBERS_LIMIT" = some (.int 2000 t)
  num : ∃ t, mg "OCTET_LIMIT" = some (.int 256 t)
  node : mg "Node" = some (.ref (CN K))
  dat : DatN K (CN K)
theorem ok_isInt {f : Addr} {fd : FuncData} (F : FnP K "is_integer" sIsInt f fd) (N : Nm K mg) : FnOk P w K mg base CX0 1 f fd ["thing"] (spTest K isI false) := by
  refine F.ok scIsInt (fun vs H Q E h => ?_) (fun cdv A outer s H vs Q E hr h => ?_)
  · obtain ⟨v, d, rfl, _⟩ := h
    rfl
  · refine ⟨_, PSs.nox (pss_one (ps_ret (pe_and (pe_callB (call_isTk (CN := CN K)) (by rfl) N.isi (by decide +kernel) (pa_cons (pv 0) (pa_cons (pe_bltn (v := .ty "int") (by rfl) N.int (by decide +kernel) rfl) pa_nil)))
      (pe_one (pe_not (pe_callB (call_isTk (CN := CN K)) (by rfl) N.isi (by decide +kernel) (pa_cons (pv 0) (pa_cons (pe_bltn (v := .ty "bool") (by rfl) N.bool (by decide +kernel) rfl) pa_nil)))))))), ?_⟩
    obtain ⟨v, k, rfl, hv, hf, q⟩ := h
    refine ⟨_, rfl, v, k, "int", rfl, rfl, hv, _, rfl, ?_⟩
    cases k with
    | nod C => exact q
    | dat d =>
      cases d with
      | int i => exact ⟨_, rfl, v, _, "bool", rfl, rfl, hv, _, rfl, q⟩
      | bool b => exact ⟨_, rfl, v, _, "bool", rfl, rfl, hv, _, rfl, q⟩
      | none => exact q
      | str _ => exact q
      | list _ => exact q
      | tuple _ => exact q
      | dict _ => exact q
theorem ok_isText {f : Addr} {fd : FuncData} (F : FnP K "is_text" sIsText f fd) (N : Nm K mg) : FnOk P w K mg base CX0 1 f fd ["thing"] (spTest K isT false) := by
  obtain ⟨tt, gt⟩ := N.text
  refine F.ok scIsText (fun vs H Q E h => ?_) (fun cdv A outer s H vs Q E hr h => ?_)
  · obtain ⟨v, d, rfl, _⟩ := h
    rfl
  · refine ⟨_, PSs.nox (pss_one (ps_ret (pe_and (pe_callB (call_isTk (CN := CN K)) (by rfl) N.isi (by decide +kernel) (pa_cons (pv 0) (pa_cons (pe_bltn (v := .ty "str") (by rfl) N.str (by decide +kernel) rfl) pa_nil)))
      (pe_one (pe_cmpR op_le (pe_callB call_len (by rfl) N.len PySem.boot_len (pa_cons (pv 0) pa_nil)) (pe_glob (v := .int 2000) (by rfl) gt ⟨_, rfl⟩) (nomark _)))))), ?_⟩
    obtain ⟨v, k, rfl, hv, hf, q⟩ := h
    refine ⟨_, rfl, v, k, "str", rfl, rfl, hv, _, rfl, ?_⟩
    cases k with
    | nod C => exact q
    | dat d =>
      cases d with
      | str x =>
        cases hv
        refine ⟨_, rfl, _, x.length, rfl, ⟨hf x rfl, rfl⟩, _, _, rfl, rfl, ?_⟩
        have e : decide ((x.length : Int) ≤ 2000) = onT isT false (.dat (.str x)) := by
          show _ = decide (x.length ≤ 2000)
          rw [Bool.eq_iff_iff, decide_eq_true_iff, decide_eq_true_iff]
          omega
        rw [← e] at q
        exact q
      | int i => exact q
      | bool b => exact q
      | none => exact q
      | list _ => exact q
      | tuple _ => exact q
      | dict _ => exact q
/-- the tests that the package has -/
structure Ts (K : PySem.W.Frag) (mg : Str → Option Value) : Prop where
  isI : ∃ f fd, FnP K "is_integer" sIsInt f fd ∧ mg "is_integer" = some (.ref f)
  isT : ∃ f fd, FnP K "is_text" sIsText f fd ∧ mg "is_text" = some (.ref f)
  isK : ∃ f fd, FnP K "is_key" sIsKey f fd ∧ mg "is_key" = some (.ref f)
  isA : ∃ f fd, FnP K "is_atom" sIsAtom f fd ∧ mg "is_atom" = some (.ref f)
  isV : ∃ f fd, FnP K "is_atom_or_node" sIsVal f fd ∧ mg "is_atom_or_node" = some (.ref f)
theorem ok_isKey {f : Addr} {fd : FuncData} (F : FnP K "is_key" sIsKey f fd) (T : Ts K mg) (N : Nm K mg) : FnOk P w K mg base CX0 2 f fd ["thing"] (spTest K isK false) := by
  obtain ⟨fi, fdi, FI, gI⟩ := T.isI
  obtain ⟨ft, fdt, FT, gT⟩ := T.isT
  have GI : FnOk P w K mg base CX0 1 fi fdi ["thing"] (spTest K isI false) := ok_isInt FI N
  have GT : FnOk P w K mg base CX0 1 ft fdt ["thing"] (spTest K isT false) := ok_isText FT N
  have bI : Binds K fdi ["thing"] [] := FI.bindsN fun _ _ _ _ _ _ us hl => match us, hl with | [_], _ => rfl
  have bT : Binds K fdt ["thing"] [] := FT.bindsN fun _ _ _ _ _ _ us hl => match us, hl with | [_], _ => rfl
  obtain ⟨ta, ga⟩ := N.atom
  refine F.ok scIsKey (fun vs H Q E h => ?_) (fun cdv A outer s H vs Q E hr h => ?_)
  · obtain ⟨v, d, rfl, _⟩ := h
    rfl
  · refine ⟨_, PSs.nox (pss_cons (ps_if (pt_val (pe_call GI hr (by rfl) gI FI.kp bI .nil pass0 (pa_cons (pv 0) pa_nil)))
        (pss_one (ps_ret (pe_chain op_lt op_lt (pe_un un_neg (pe_glob (v := .int big) (by rfl) ga ⟨_, rfl⟩)) (pv 0) (pe_glob (v := .int big) (by rfl) ga ⟨_, rfl⟩)))) pss_nil)
      (pss_one (ps_ret (pe_call GT hr (by rfl) gT FT.kp bT .nil pass0 (pa_cons (pv 0) pa_nil))))), ?_⟩
    obtain ⟨v, k, rfl, hv, hf, q⟩ := h
    refine ⟨_, rfl, v, k, rfl, hv, hf, _, rfl, ?_⟩
    cases k with
    | nod C => exact ⟨_, rfl, v, _, rfl, hv, hf, q⟩
    | dat d =>
      cases d with
      | int i =>
        cases hv
        refine iteT ?_
        refine ⟨_, rfl, _, rfl, _, _, rfl, rfl, _, rfl, ?_⟩
        by_cases c : -big < i
        · rw [decide_eq_true c]
          refine iteT ?_
          refine ⟨_, _, rfl, rfl, ?_⟩
          have e : onT isK false (.dat (.int i)) = decide (i < big) := by
            show (decide (-big < i) && decide (i < big)) = _
            rw [decide_eq_true c, Bool.true_and]
          rw [e] at q
          exact q
        · rw [decide_eq_false c]
          refine iteF ?_
          have e : onT isK false (.dat (.int i)) = false := by
            show (decide (-big < i) && decide (i < big)) = _
            rw [decide_eq_false c, Bool.false_and]
          rw [e] at q
          exact q
      | str x => exact ⟨_, rfl, v, _, rfl, hv, hf, q⟩
      | bool b => exact ⟨_, rfl, v, _, rfl, hv, hf, q⟩
      | none => exact ⟨_, rfl, v, _, rfl, hv, hf, q⟩
      | list _ => exact ⟨_, rfl, v, _, rfl, hv, hf, q⟩
      | tuple _ => exact ⟨_, rfl, v, _, rfl, hv, hf, q⟩
      | dict _ => exact ⟨_, rfl, v, _, rfl, hv, hf, q⟩
theorem non_of {CN : Addr} {H : Hp} {v : V} {k : Tk} (h : Tv K CN H v k) : (v = V.non ∧ k = .dat .none) ∨ (v ≠ V.non ∧ k ≠ .dat .none) := by
  cases k with
  | nod C =>
    obtain ⟨_, a, _, _, rfl, _⟩ := h
    exact .inr ⟨(fun z => nomatch z), (fun z => nomatch z)⟩
  | dat d =>
    have h' : Sd K H v d := h
    cases h' with
    | non => exact .inl ⟨rfl, rfl⟩
    | bl b => exact .inr ⟨(fun z => nomatch z), (fun z => nomatch z)⟩
    | int b => exact .inr ⟨(fun z => nomatch z), (fun z => nomatch z)⟩
    | str b => exact .inr ⟨(fun z => nomatch z), (fun z => nomatch z)⟩
    | lst _ _ => exact .inr ⟨(fun z => nomatch z), (fun z => nomatch z)⟩
    | tup _ _ => exact .inr ⟨(fun z => nomatch z), (fun z => nomatch z)⟩
    | emp _ => exact .inr ⟨(fun z => nomatch z), (fun z => nomatch z)⟩
    | one _ _ => exact .inr ⟨(fun z => nomatch z), (fun z => nomatch z)⟩
theorem ok_isAtom {f : Addr} {fd : FuncData} (F : FnP K "is_atom" sIsAtom f fd) (T : Ts K mg) (N : Nm K mg) : FnOk P w K mg base CX0 3 f fd ["thing"] (spTest K isA false) := by
  obtain ⟨fk, fdk, FK, gK⟩ := T.isK
  have GK : FnOk P w K mg base CX0 2 fk fdk ["thing"] (spTest K isK false) := ok_isKey FK T N
  have bK : Binds K fdk ["thing"] [] := FK.bindsN fun _ _ _ _ _ _ us hl => match us, hl with | [_], _ => rfl
  refine F.ok scIsAtom (fun vs H Q E h => ?_) (fun cdv A outer s H vs Q E hr h => ?_)
  · obtain ⟨v, d, rfl, _⟩ := h
    rfl
  · refine ⟨_, PSs.nox (pss_one (ps_ret (pe_or (pe_cmp (pc_isN (pv 0))) (pe_or (pe_callB (call_isTk (CN := CN K)) (by rfl) N.isi (by decide +kernel) (pa_cons (pv 0) (pa_cons (pe_bltn (v := .ty "bool") (by rfl) N.bool (by decide +kernel) rfl) pa_nil)))
      (pe_one (pe_call GK hr (by rfl) gK FK.kp bK .nil pass0 (pa_cons (pv 0) pa_nil))))))), ?_⟩
    obtain ⟨v, k, rfl, hv, hf, q⟩ := h
    rcases non_of hv with ⟨rfl, rfl⟩ | ⟨n1, n2⟩
    · exact ⟨_, rfl, true, by rw [decide_eq_true rfl], iteT q⟩
    · refine ⟨_, rfl, false, by rw [decide_eq_false n1], iteF ⟨_, rfl, v, k, "bool", rfl, rfl, hv, _, rfl, ?_⟩⟩
      cases k with
      | nod C => exact iteF ⟨_, rfl, v, _, rfl, hv, hf, q⟩
      | dat d =>
        cases d with
        | none => exact absurd rfl n2
        | bool b => exact iteT q
        | int i => exact iteF ⟨_, rfl, v, _, rfl, hv, hf, q⟩
        | str x => exact iteF ⟨_, rfl, v, _, rfl, hv, hf, q⟩
        | list _ => exact iteF ⟨_, rfl, v, _, rfl, hv, hf, q⟩
        | tuple _ => exact iteF ⟨_, rfl, v, _, rfl, hv, hf, q⟩
        | dict _ => exact iteF ⟨_, rfl, v, _, rfl, hv, hf, q⟩
theorem ok_isVal {f : Addr} {fd : FuncData} (F : FnP K "is_atom_or_node" sIsVal f fd) (T : Ts K mg) (N : Nm K mg) : FnOk P w K mg base CX0 4 f fd ["thing"] (spTest K isA true) := by
  obtain ⟨fk, fdk, FK, gK⟩ := T.isA
  have GK : FnOk P w K mg base CX0 3 fk fdk ["thing"] (spTest K isA false) := ok_isAtom FK T N
  have bK : Binds K fdk ["thing"] [] := FK.bindsN fun _ _ _ _ _ _ us hl => match us, hl with | [_], _ => rfl
  refine F.ok scIsVal (fun vs H Q E h => ?_) (fun cdv A outer s H vs Q E hr h => ?_)
  · obtain ⟨v, d, rfl, _⟩ := h
    rfl
  · refine ⟨_, PSs.nox (pss_one (ps_ret (pe_or (pe_call GK hr (by rfl) gK FK.kp bK .nil pass0 (pa_cons (pv 0) pa_nil))
      (pe_one (pe_callB (call_isN N.dat) (by rfl) N.isi (by decide +kernel) (pa_cons (pv 0) (pa_cons (pe_glob (v := .ref (CN K)) (by rfl) N.node rfl) pa_nil))))))), ?_⟩
    obtain ⟨v, k, rfl, hv, hf, q⟩ := h
    refine ⟨_, rfl, v, k, rfl, hv, hf, _, rfl, ?_⟩
    cases k with
    | nod C => exact iteF ⟨_, rfl, v, _, rfl, hv, q⟩
    | dat d =>
      cases e : isA d with
      | true =>
        have q' : Q (.bl (isA d)) H := q
        rw [e] at q'
        show if isA d = true then _ else _
        rw [e]
        exact iteT q'
      | false =>
        have q' : Q (.bl (isA d)) H := q
        rw [e] at q'
        show if isA d = true then _ else _
        rw [e]
        exact iteF ⟨_, rfl, v, _, rfl, hv, q'⟩
end
end Kz

set_option Elab.async false
set_option linter.all false
set_option maxRecDepth 100000
set_option maxHeartbeats 2000000
namespace Kz
open PySem PySem.Spec PyProof.Rows L2 StX
theorem yesT {σ : L2.St} {H : Hp} {A B : Hp → Prop} (h : A H) : tYes σ H fun b H3 => if b = true then A H3 else B H3 := @iteT (A H) (B H) h
theorem same_updN {H H' : Hp} {p : Addr} {o : HO} (s : Same H H') (n : H p = none) : Same H (upd H' p o) := fun b u e => by
  rw [upd_ne (ne_of_none e n)]
  exact s b u e
theorem sdall_len {K : PySem.W.Frag} {H : Hp} : ∀ {xs : List V} {ds : List PyData}, SdAll K H xs ds → xs.length = ds.length
  | _, _, .nil => rfl
  | _, _, .cons _ h => by rw [List.length_cons, List.length_cons, sdall_len h]
theorem sdall_get {K : PySem.W.Frag} {H : Hp} : ∀ {xs : List V} {ds : List PyData} {i : Nat} {x : V}, SdAll K H xs ds → xs[i]? = some x → ∃ d, ds[i]? = some d ∧ Sd K H x d
  | _, _, 0, _, .cons h _, e => by
    cases e
    exact ⟨_, rfl, h⟩
  | _, _, i + 1, _, .cons _ h, e => sdall_get (i := i) h e
theorem sqT_to {K : PySem.W.Frag} {H H' : Hp} {a : Addr} {xs : List V} (s : Same H H') (h : SqT K H a xs) : SqT K H' a xs := by
  rcases h with h | h
  · rcases h with h | ⟨o, h⟩
    · exact .inl (.inl (s _ _ h))
    · exact .inl (.inr ⟨o, s _ _ h⟩)
  · exact .inr h
theorem sd_to {K : PySem.W.Frag} {H H' : Hp} {v : V} {d : PyData} (h : Sd K H v d) (s : Same H H') : Sd K H' v d := Sd.same s (fun z => sqT_to s z) h
theorem sdall_to {K : PySem.W.Frag} {H H' : Hp} {xs : List V} {ds : List PyData} (h : SdAll K H xs ds) (s : Same H H') : SdAll K H' xs ds := SdAll.same s (fun z => sqT_to s z) h
def isOct : PyData → Bool
  | .int i => decide (0 ≤ i) && decide (i < 256)
  | _ => false
def isNums : PyData → Bool
  | .tuple ds => decide (ds.length ≤ 2000) && ds.all isOct
  | _ => false
def fitsAll (d : PyData) : Prop := ∀ ds, d = .tuple ds → ∀ e ∈ ds, fits e
/-- the same test, by the program: with the limit -/
def spOcts (K : PySem.W.Frag) : Sp := fun vs H Q _ => ∃ (v : V) (d : PyData), vs = [v, .int 2000] ∧ Sd K H v d ∧ fitsAll d ∧ ∀ H', Same H H' → Q (.bl (isNums d)) H'
/-- the error with the object, to be raised at a heap that has grown -/
def Err (C : Addr) (fld : Str) (v : V) (H : Hp) (E : XK) : Prop := ∀ dd H', H dd = none → Same H H' → H' dd = some (.xd [(fld, v)]) → E (.ref C) (some dd) H'
theorem none_of {H H' : Hp} {b : Addr} (s : Same H H') (n : H' b = none) : H b = none := by
  cases e : H b with
  | none => rfl
  | some o =>
    rw [s _ _ e] at n
    cases n
theorem err_to {C : Addr} {f : Str} {v : V} {H H' : Hp} {E : XK} (s : Same H H') (h : Err C f v H E) : Err C f v H' E := fun dd H2 n s2 x => h dd H2 (none_of s n) (s.tr s2) x
theorem tv_to {K : PySem.W.Frag} {C : Addr} {H H' : Hp} {v : V} {k : Tk} (h : Tv K C H v k) (s : Same H H') : Tv K C H' v k := by
  cases k with
  | dat d => exact sd_to (show Sd K H v d from h) s
  | nod D =>
    obtain ⟨n, a, dx, fs, e, ha⟩ := h
    exact ⟨n, a, dx, fs, e, s _ _ ha⟩
/-- values, things -/
inductive TvAll (K : PySem.W.Frag) (C : Addr) (H : Hp) : List V → List Tk → Prop
  | nil : TvAll K C H [] []
  | cons {v : V} {k : Tk} {vs : List V} {ks : List Tk} : Tv K C H v k → TvAll K C H vs ks → TvAll K C H (v :: vs) (k :: ks)
theorem tvall_to {K : PySem.W.Frag} {C : Addr} {H H' : Hp} (s : Same H H') : ∀ {vs : List V} {ks : List Tk}, TvAll K C H vs ks → TvAll K C H' vs ks
  | _, _, .nil => .nil
  | _, _, .cons h t => .cons (tv_to h s) (tvall_to s t)
theorem tvall_len {K : PySem.W.Frag} {C : Addr} {H : Hp} : ∀ {vs : List V} {ks : List Tk}, TvAll K C H vs ks → vs.length = ks.length
  | _, _, .nil => rfl
  | _, _, .cons _ t => by rw [List.length_cons, List.length_cons, tvall_len t]
theorem tvall_get {K : PySem.W.Frag} {C : Addr} {H : Hp} : ∀ {vs : List V} {ks : List Tk} {i : Nat} {v : V}, TvAll K C H vs ks → vs[i]? = some v → ∃ k, ks[i]? = some k ∧ Tv K C H v k
  | _, _, 0, _, .cons h _, e => by
    cases e
    exact ⟨_, rfl, h⟩
  | _, _, i + 1, _, .cons _ t, e => tvall_get (i := i) t e
/-- the first of them that is no value -/
def okT (k : Tk) : Bool := onT isA true k
def badAt : List Tk → Option Nat
  | [] => none
  | k :: r => if okT k = true then (badAt r).map (· + 1) else some 0
/-- v is required to be a value -/
def spReq (K : PySem.W.Frag) (CE : Addr) : Sp := fun vs H Q E => ∃ (v : V) (k : Tk), vs = [v] ∧ Tv K (CN K) H v k ∧ fitsT k ∧ (okT k = true → Q .non H) ∧ (okT k = false → Err CE "value" v H E)
def spReqs (K : PySem.W.Frag) (CE : Addr) : Sp := fun vs H Q E => ∃ (t : Addr) (ws : List V) (ks : List Tk), vs = [.ref t] ∧ SqT K H t ws ∧ TvAll K (CN K) H ws ks ∧ (∀ k ∈ ks, fitsT k) ∧ (badAt ks = none → Q .non H) ∧ (∀ n v, badAt ks = some n → ws[n]? = some v → Err CE "value" v H E)
/-- a tuple is required: TyN tells the type -/
def tys : List String := ["NoneType", "bool", "int", "str", "list", "tuple", "dict"]
def spReqT (K : PySem.W.Frag) (CE : Addr) : Sp := fun vs H Q E => ∃ (v : V) (t : String), vs = [v] ∧ TyX K H v (.type t) ∧ t ∈ tys ∧ (t = "tuple" → Q .non H) ∧ (t ≠ "tuple" → Err CE "value" v H E)
section
variable {P : Program} {w : World} {K : PySem.W.Frag} {mg : Str → Option Value} {base : Heap}
abbrev sNums : Stmt := top 8
abbrev sReq : Stmt := top 23
abbrev sReqs : Stmt := top 24
abbrev sReqT : Stmt := top 25
theorem scNums : FnScope ["thing", "limit", "others", "item"] ["thing", "limit"] (defScope sNums) := ⟨rfl, rfl, rfl, by decide +kernel, rfl, by decide +kernel, by decide +kernel⟩
theorem scReq : FnScope ["value"] ["value"] (defScope sReq) := ⟨rfl, rfl, rfl, by decide +kernel, rfl, by decide +kernel, by decide +kernel⟩
theorem scReqs : FnScope ["parts", "part"] ["parts"] (defScope sReqs) := ⟨rfl, rfl, rfl, by decide +kernel, rfl, by decide +kernel, by decide +kernel⟩
theorem scReqT : FnScope ["parts"] ["parts"] (defScope sReqT) := ⟨rfl, rfl, rfl, by decide +kernel, rfl, by decide +kernel, by decide +kernel⟩
/-- the error classes -/
structure Es (P : Program) (w : World) (K : PySem.W.Frag) (mg : Str → Option Value) (base : Heap) : Prop where
  val : XK1 P w K mg base "InvalidValue" "value" (gC K "InvalidValue")
  nums : XK1 P w K mg base "InvalidNumbers" "value" (gC K "InvalidNumbers")
  idx : XK1 P w K mg base "InvalidIndex" "index" (gC K "InvalidIndex")
/-- the package's defs that require -/
structure Rq (K : PySem.W.Frag) (mg : Str → Option Value) : Prop where
  nums : ∃ f fd, FnP K "are_octets" sNums f fd ∧ mg "are_octets" = some (.ref f)
  req : ∃ f fd, FnP K "require_value" sReq f fd ∧ mg "require_value" = some (.ref f)
  reqs : ∃ f fd, FnP K "require_values" sReqs f fd ∧ mg "require_values" = some (.ref f)
  reqT : ∃ f fd, FnP K "require_tuple" sReqT f fd ∧ mg "require_tuple" = some (.ref f)
theorem sdall_snoc {K : PySem.W.Frag} {H : Hp} : ∀ {xs : List V} {ds : List PyData} {x : V} {d : PyData}, SdAll K H xs ds → Sd K H x d → SdAll K H (xs ++ [x]) (ds ++ [d])
  | _, _, _, _, .nil, h => .cons h .nil
  | _, _, _, _, .cons a r, h => .cons a (sdall_snoc r h)
/-- no plain integer -/
def notI (d : PyData) : Bool := !isI d
theorem tyN_int (d : PyData) : (!decide (tyN d = "int")) = notI d := by
  cases d <;> simp only [tyN] <;> rfl
theorem all_ints : ∀ {K : PySem.W.Frag} {H : Hp} {xs : List V} {ds : List PyData}, SdAll K H xs ds → ds.filter notI = [] → ∃ ns : List Int, xs = ns.map V.int ∧ ds = ns.map PyData.int
  | _, _, _, _, .nil, _ => ⟨[], rfl, rfl⟩
  | _, _, _, _, .cons (d := d) a r, h => by
    cases d with
    | int i =>
      have h2 := h
      rw [List.filter_cons_of_neg (by simp [notI, isI])] at h2
      obtain ⟨ns, e1, e2⟩ := all_ints r h2
      cases a
      exact ⟨i :: ns, by rw [e1]; rfl, by rw [e2]; rfl⟩
    | _ => rw [List.filter_cons_of_pos rfl] at h; cases h
theorem nums_others {ds : List PyData} (h : ds.filter notI ≠ []) : ds.all isOct = false := by
  obtain ⟨d, hd⟩ := List.exists_mem_of_ne_nil _ h
  obtain ⟨m, e⟩ := List.mem_filter.mp hd
  rw [List.all_eq_false]
  refine ⟨d, m, ?_⟩
  cases d with
  | int i => cases e
  | _ => simp [isOct]
theorem nums_ints {ns out : List Int} (h : ∀ k, k ∈ out ↔ k ∈ ns) : (out.map fun z => decide (0 ≤ z) && decide (z < 256)).all id = (ns.map PyData.int).all isOct := by
  rw [Bool.eq_iff_iff, List.all_eq_true, List.all_eq_true]
  constructor
  · intro a d hd
    obtain ⟨z, hz, rfl⟩ := List.mem_map.mp hd
    exact a _ (List.mem_map.mpr ⟨z, (h z).mpr hz, rfl⟩)
  · intro a b hb
    obtain ⟨z, hz, rfl⟩ := List.mem_map.mp hb
    exact a (.int z) (List.mem_map.mpr ⟨z, (h z).mp hz, rfl⟩)
theorem others_all {es : List PyData} (h : ∀ e ∈ es, notI e = true) : (es.map isI).all id = es.isEmpty := by
  cases es with
  | nil => rfl
  | cons e r =>
    have z := h e List.mem_cons_self
    have z2 : isI e = false := by
      unfold notI at z
      simpa using z
    simp [z2]
theorem ok_nums {f : Addr} {fd : FuncData} (F : FnP K "are_octets" sNums f fd) (N : Nm K mg) (T : Ts K mg) : FnOk P w K mg base CX0 2 f fd ["thing", "limit"] (spOcts K) := by
  obtain ⟨fi, di, FI, gI⟩ := T.isI
  obtain ⟨tn, gn⟩ := N.num
  have GI : FnOk P w K mg base CX0 1 fi di ["thing"] (spTest K isI false) := ok_isInt FI N
  have bI : Binds K di ["thing"] [] := FI.bindsN fun _ _ _ _ _ _ us hl => match us, hl with | [_], _ => rfl
  refine F.ok scNums (fun vs H Q E h => ?_) (fun cdv A outer s H vs Q E hr h => ?_)
  · obtain ⟨v, d, rfl, _⟩ := h
    rfl
  · refine ⟨_, PSs.nox (pss_cons (ps_if (PW.pt (pw_or (pt_not (pt_val (pe_callB call_isD (by rfl) N.isi (by decide +kernel) (pa_cons (pv 0) (pa_cons (pe_bltn (v := .ty "tuple") (by rfl) N.tuple (by decide +kernel) rfl) pa_nil)))))
        (pw_or1 (pt_cmpR op_gt (pe_callB call_len (by rfl) N.len PySem.boot_len (pa_cons (pv 0) pa_nil)) (pv 1) (nomark _))))) (pss_one (ps_ret pe_bl)) pss_nil)
      (pss_cons (ps_setLc (i := 2) (own := [("item", 3)]) (g := gName 3) rfl scNums.nd rfl rfl (sw_true rfl rfl rfl rfl) (pi_tup (pv 0)) (blkOk_by (own := [("item", 3)]) (N := ["thing", "limit", "others", "item"]) (sc := defScope sNums) (by decide +kernel))
        (fun _ _ _ _ _ => pg_name (i := 3) scNums.nd rfl (Or.inl rfl)) (fun _ _ _ _ _ => pts_one (pt_cmpR op_neTy (pe_callTy (show CallR _ (.type "type") (rTyD K) from call_tyD) (by rfl) N.type (by decide +kernel) (pa_cons (pv 3) pa_nil)) (pe_bltn (v := .ty "int") (by rfl) N.int (by decide +kernel) rfl) (nomark _)))
        (fun _ _ _ _ _ => pv 3))
      (pss_one (ps_ret (pe_and (pe_callB (cr_all rfl) (by rfl) N.all (by decide +kernel) (pa_cons (pe_lc (own := [("item", 3)]) (g := gName 3) (tt := tYes) rfl scNums.nd (pi_list (pv 2)) (blkOk_by (own := [("item", 3)]) (N := ["thing", "limit", "others", "item"]) (sc := defScope sNums) (by decide +kernel))
          (fun _ _ _ _ _ => pg_name (i := 3) scNums.nd rfl (Or.inl rfl)) (fun _ _ _ _ _ => pts_nil) (fun _ _ _ _ _ => pe_call GI hr (by rfl) gI FI.kp bI .nil pass0 (pa_cons (pv 3) pa_nil))) pa_nil))
        (pe_one (pe_callB (cr_all rfl) (by rfl) N.all (by decide +kernel) (pa_cons (pe_lc (own := [("item", 3)]) (g := gName 3) (tt := tYes) rfl scNums.nd
          (pi_list (pe_callB (cr_sortedSetN rfl) (by rfl) N.sorted (by decide +kernel) (pa_cons (pe_callTy (cr_setT rfl) (by rfl) N.set (by decide +kernel) (pa_cons (pv 0) pa_nil)) pa_nil)))
          (blkOk_by (own := [("item", 3)]) (N := ["thing", "limit", "others", "item"]) (sc := defScope sNums) (by decide +kernel))
          (fun _ _ _ _ _ => pg_name (i := 3) scNums.nd rfl (Or.inl rfl)) (fun _ _ _ _ _ => pts_nil) (fun _ _ _ _ _ => pe_chain op_le op_lt pe_int (pv 3) (pe_glob (v := .int 256) (by rfl) gn ⟨_, rfl⟩))) pa_nil)))))))), ?_⟩
    obtain ⟨v, d, rfl, hv, hf, k⟩ := h
    refine ⟨_, rfl, v, d, "tuple", rfl, rfl, hv, _, rfl, ?_⟩
    cases d with
    | none => exact iteT (iteT (k _ Same.refl'))
    | bool b => exact iteT (iteT (k _ Same.refl'))
    | int b => exact iteT (iteT (k _ Same.refl'))
    | str b => exact iteT (iteT (k _ Same.refl'))
    | list b => exact iteT (iteT (k _ Same.refl'))
    | dict b => exact iteT (iteT (k _ Same.refl'))
    | tuple ds =>
      refine iteF ?_
      cases hv with
      | @tup a xs _ hq ha =>
        have hl := sdall_len ha
        refine ⟨_, rfl, _, xs.length, rfl, .inr ⟨xs, hq, rfl⟩, _, rfl, _, _, rfl, rfl, _, rfl, ?_⟩
        by_cases big : (2000 : Int) < (xs.length : Int)
        · rw [decide_eq_true big]
          have e : isNums (.tuple ds) = false := by
            show (decide (ds.length ≤ 2000) && ds.all isOct) = false
            rw [decide_eq_false (by omega), Bool.false_and]
          rw [e] at k
          exact iteT (k _ Same.refl')
        · rw [decide_eq_false big]
          refine iteF ?_
          have small : ds.length ≤ 2000 := by omega
          have sm2 : 2000 < sizeLine := by decide
          have eN : isNums (.tuple ds) = ds.all isOct := by
            show (decide (ds.length ≤ 2000) && ds.all isOct) = _
            rw [decide_eq_true small, Bool.true_and]
          rw [eN] at k
          refine ⟨_, rfl, a, rfl, ⟨xs, hq⟩, fun D nD => lc_it walk_tup (fun i H' => Same H H' ∧ ∃ ys, SdAll K H ys ((ds.take i).filter notI) ∧ H' D = some (.lst ys)) ⟨same_new nD, [], .nil, upd_same⟩ (fun i H' _ z => sqT_to z.1 hq) ?_ ?_⟩
          · rintro i x H' H'' hi ⟨s1, ys, hys, hD⟩ ⟨rfl, hx⟩
            obtain ⟨e, he, hxe⟩ := sdall_get ha hx
            refine ⟨rfl, ?_⟩
            refine ⟨_, rfl, x, e, rfl, sd_to hxe s1, _, _, rfl, rfl, tyN_ok e, rfl, _, rfl, ?_⟩
            rw [tyN_int e]
            have et : (ds.take (i + 1)).filter notI = (ds.take i).filter notI ++ (if notI e = true then [e] else []) := by
              rw [List.take_add_one, he, List.filter_append]
              congr 1
              show List.filter notI [e] = _
              cases z : notI e <;> simp [z]
            have hlen : ys.length < sizeLine := by
              rw [sdall_len hys]
              refine Nat.lt_of_le_of_lt (List.length_filter_le _ _) (Nat.lt_of_le_of_lt ?_ sm2)
              rw [List.length_take]
              exact Nat.le_trans (Nat.min_le_right _ _) small
            cases z : notI e with
            | true =>
              rw [z] at et
              refine iteT ⟨_, rfl, _, hD, hlen, same_updN s1 nD, ys ++ [x], ?_, upd_same⟩
              rw [et]
              exact sdall_snoc hys hxe
            | false =>
              rw [z] at et
              refine iteF ⟨s1, ys, ?_, hD⟩
              rw [et]
              simpa using hys
          · rintro H1 ⟨s1, ys, hys, hD⟩
            rw [hl, List.take_length] at hys
            have hyl := sdall_len hys
            have hys1 : ys.length ≤ 2000 := by
              rw [hyl]
              exact Nat.le_trans (List.length_filter_le _ _) small
            refine ⟨_, rfl, D, rfl, ⟨ys, SqL.of hD⟩, fun D2 nD2 => lc_it walk_list (fun i H' => Same H1 H' ∧ H' D2 = some (.lst ((((ds.filter notI).take i).map isI).map V.bl))) ⟨same_new nD2, upd_same⟩ (fun i H' _ z => SqL.of (z.1 _ _ hD)) ?_ ?_⟩
            · rintro i x H' H'' hi ⟨s2, hD2⟩ ⟨rfl, hx⟩
              obtain ⟨e, he, hxe⟩ := sdall_get hys hx
              refine ⟨rfl, ?_⟩
              refine yesT ?_
              have hmem : e ∈ ds := (List.mem_filter.mp (List.mem_of_getElem? he)).1
              refine ⟨_, rfl, x, .dat e, rfl, sd_to hxe (s1.tr s2), hf ds rfl e hmem, _, hD2, ?_, same_updN s2 nD2, ?_⟩
              · rw [List.length_map, List.length_map, List.length_take]
                exact Nat.lt_of_le_of_lt (Nat.min_le_left _ _) (by omega)
              · rw [upd_same, List.take_add_one, he, List.map_append, List.map_append]
                rfl
            · rintro H2 ⟨s2, hD2⟩
              rw [hyl, List.take_length] at hD2
              refine ⟨D2, (ds.filter notI).map isI, rfl, SqL.of hD2, ?_⟩
              have eo := others_all (es := ds.filter notI) fun e m => (List.mem_filter.mp m).2
              refine ⟨_, rfl, ?_⟩
              rw [eo]
              cases z : (ds.filter notI).isEmpty with
              | false =>
                refine iteF ?_
                have z2 : ds.filter notI ≠ [] := fun y => by
                  rw [y] at z
                  cases z
                rw [nums_others z2] at k
                exact k _ (s1.tr s2)
              | true =>
                refine iteT ?_
                obtain ⟨ns, e1, e2⟩ := all_ints ha (List.isEmpty_iff.mp z)
                subst e1
                subst e2
                have nl : ns.length ≤ 2000 := by
                  rw [List.length_map] at small
                  exact small
                refine ⟨_, rfl, a, ns, rfl, sqT_to (s1.tr s2) hq, Nat.lt_of_le_of_lt (Nat.succ_le_succ nl) (by decide), fun S c nS hc => ?_⟩
                refine ⟨S, _, c, rfl, upd_same, Nat.le_trans (Nat.le_trans hc nl) (Nat.le_of_lt sm2), fun out p pw mem ol np => ?_⟩
                have s3 := same_new (o := SetO w S (fun j => decide (j ∈ ns)) c) nS
                have s4 := same_new (o := .lst (out.map V.int)) np
                have mem2 : ∀ k, k ∈ out ↔ k ∈ ns := fun k => by rw [mem k, decide_eq_true_eq]
                refine ⟨p, rfl, ⟨out.map V.int, SqL.of upd_same⟩, fun D3 nD3 => lc_it walk_list (fun i H' => Same (upd (upd H2 S (SetO w S (fun j => decide (j ∈ ns)) c)) p (.lst (out.map V.int))) H' ∧ H' D3 = some (.lst (((out.take i).map fun z => decide (0 ≤ z) && decide (z < 256)).map V.bl))) ⟨same_new nD3, upd_same⟩ (fun i H' _ z => SqL.of (z.1 _ _ upd_same)) ?_ ?_⟩
                · rintro i x H' H'' hi ⟨s5, hD3⟩ ⟨rfl, hx⟩
                  rw [List.getElem?_map] at hx
                  obtain ⟨z, ez, rfl⟩ := Option.map_eq_some_iff.mp hx
                  refine ⟨rfl, ?_⟩
                  refine yesT ?_
                  have ollen : ((((out.take i).map fun z => decide (0 ≤ z) && decide (z < 256)).map V.bl)).length < sizeLine := by
                    rw [List.length_map, List.length_map, List.length_take]
                    exact Nat.lt_of_le_of_lt (Nat.min_le_right _ _) (by omega)
                  refine ⟨_, rfl, _, _, rfl, rfl, _, rfl, ?_⟩
                  by_cases c0 : 0 ≤ z
                  · rw [decide_eq_true c0]
                    refine iteT ⟨_, _, rfl, rfl, _, hD3, ollen, same_updN s5 nD3, ?_⟩
                    rw [upd_same, List.take_add_one, ez, List.map_append, List.map_append]
                    simp [c0]
                  · rw [decide_eq_false c0]
                    refine iteF ⟨_, hD3, ollen, same_updN s5 nD3, ?_⟩
                    rw [upd_same, List.take_add_one, ez, List.map_append, List.map_append]
                    simp [c0]
                · rintro H4 ⟨s5, hD3⟩
                  rw [List.length_map, List.take_length] at hD3
                  refine ⟨D3, _, rfl, SqL.of hD3, ?_⟩
                  rw [nums_ints mem2]
                  exact k _ ((s1.tr s2).tr (s3.tr (s4.tr s5)))
theorem ok_req {f : Addr} {fd : FuncData} (F : FnP K "require_value" sReq f fd) (N : Nm K mg) (T : Ts K mg) (S : Es P w K mg base) : FnOk P w K mg base (L2.CX P w) 5 f fd ["value"] (spReq K (gC K "InvalidValue")) := by
  obtain ⟨fk, dk, FK, gK⟩ := T.isV
  have GK : FnOk P w K mg base CX0 4 fk dk ["thing"] (spTest K isA true) := ok_isVal FK T N
  have bK : Binds K dk ["thing"] [] := FK.bindsN fun _ _ _ _ _ _ us hl => match us, hl with | [_], _ => rfl
  refine F.ok scReq (fun vs H Q E h => ?_) (fun cdv A outer s H vs Q E hr h => ?_)
  · obtain ⟨v, d, rfl, _⟩ := h
    rfl
  · refine ⟨_, pss_one (ps_if (pt_not (pt_val (pe_call GK hr (by rfl) gK FK.kp bK .nil pass0 (pa_cons (pv 0) pa_nil)))) (pss_one (ps_x1 rfl (takes_of rfl rfl rfl rfl) S.val (hr.mono (by decide)) (by rfl) (pv 0))) pss_nil), ?_⟩
    obtain ⟨v, k, rfl, hv, hf, k1, k2⟩ := h
    refine ⟨_, rfl, v, k, rfl, hv, hf, _, rfl, ?_⟩
    cases e : onT isA true k with
    | true => exact iteF (k1 e)
    | false => exact iteT ⟨_, rfl, v, rfl, fun dd H' n s x => k2 e dd H' n s x⟩
theorem bad_step : ∀ (ks : List Tk) (i : Nat) (k : Tk), ks[i]? = some k → (∀ j : Nat, j < i → ∀ x, ks[j]? = some x → okT x = true) → okT k = false → badAt ks = some i
  | [], i, k, e, _, _ => by cases e
  | k0 :: r, 0, k, e, _, h => by
    cases e
    unfold badAt
    rw [h]
    rfl
  | k0 :: r, i + 1, k, e, h1, h => by
    have e0 : okT k0 = true := h1 0 (Nat.succ_pos _) k0 rfl
    have e1 := bad_step r i k e (fun j hj x hx => h1 (j + 1) (Nat.succ_lt_succ hj) x hx) h
    unfold badAt
    rw [e0, e1]
    rfl
theorem bad_none : ∀ (ks : List Tk), (∀ (j : Nat) x, ks[j]? = some x → okT x = true) → badAt ks = none
  | [], _ => rfl
  | k0 :: r, h => by
    unfold badAt
    rw [h 0 k0 rfl, bad_none r fun j x hx => h (j + 1) x hx]
    rfl
theorem ok_reqs {f : Addr} {fd : FuncData} (F : FnP K "require_values" sReqs f fd) (N : Nm K mg) (T : Ts K mg) (S : Es P w K mg base) (R : Rq K mg) : FnOk P w K mg base (L2.CX P w) 6 f fd ["parts"] (spReqs K (gC K "InvalidValue")) := by
  obtain ⟨fk, dk, FK, gK⟩ := R.req
  have GK : FnOk P w K mg base (L2.CX P w) 5 fk dk ["value"] (spReq K (gC K "InvalidValue")) := ok_req FK N T S
  have bK : Binds K dk ["value"] [] := FK.bindsN fun _ _ _ _ _ _ us hl => match us, hl with | [_], _ => rfl
  refine F.ok scReqs (fun vs H Q E h => ?_) (fun cdv A outer s H vs Q E hr h => ?_)
  · obtain ⟨t, ws, ks, rfl, _⟩ := h
    rfl
  · refine ⟨_, pss_one (ps_for (passes_of rfl) rfl (pi_tup (pv 0)) (pg_name (i := 1) scReqs.nd rfl (Or.inl rfl))
        (pss_one (ps_expr (pe_callS GK hr (by rfl) gK FK.kp bK (fun σ => passAt (takes_of rfl rfl rfl rfl) σ) (pa_cons (pv 1) pa_nil))))), ?_⟩
    obtain ⟨t, ws, ks, rfl, ht, hk, hf, k1, k2⟩ := h
    have hlen := tvall_len hk
    refine ⟨_, rfl, t, rfl, ⟨ws, ht⟩, for_it (walk_tup (xs := ws)) (fun i σ H' => ∃ t3 : Option V, σ = [some (.ref t), t3] ∧ H' = H ∧ ∀ j : Nat, j < i → ∀ x, ks[j]? = some x → okT x = true) ⟨none, rfl, rfl, fun j hj => absurd hj (Nat.not_lt_zero _)⟩ (fun i σ H' _ z => ?_) ?_ ?_⟩
    · obtain ⟨_, _, rfl, _⟩ := z
      exact ht
    · rintro i x σ H' H'' hi ⟨t3, rfl, rfl, hb⟩ ⟨rfl, hx⟩
      obtain ⟨k, ek, tx⟩ := tvall_get hk hx
      refine ⟨_, rfl, x, k, rfl, tx, hf k (List.mem_of_getElem? ek), fun o => ⟨_, rfl, rfl, fun j hj y hy => ?_⟩, fun o => k2 i x (bad_step ks i k ek hb o) hx⟩
      rcases Nat.lt_or_ge j i with c | c
      · exact hb j c y hy
      · have e : j = i := by omega
        subst e
        rw [ek] at hy
        cases hy
        exact o
    · rintro σ H' ⟨t3, rfl, rfl, hb⟩
      refine k1 (bad_none ks fun j x hx => hb j ?_ x hx)
      rw [hlen]
      exact (List.getElem?_eq_some_iff.mp hx).1
theorem ok_reqT {f : Addr} {fd : FuncData} (F : FnP K "require_tuple" sReqT f fd) (N : Nm K mg) (S : Es P w K mg base) : FnOk P w K mg base (L2.CX P w) 3 f fd ["parts"] (spReqT K (gC K "InvalidValue")) := by
  refine F.ok scReqT (fun vs H Q E h => ?_) (fun cdv A outer s H vs Q E hr h => ?_)
  · obtain ⟨v, t, rfl, _⟩ := h
    rfl
  · refine ⟨_, pss_one (ps_if (pt_not (pt_val (pe_callB call_isTup (by rfl) N.isi (by decide +kernel) (pa_cons (pv 0) (pa_cons (pe_bltn (v := .ty "tuple") (by rfl) N.tuple (by decide +kernel) rfl) pa_nil))))) (pss_one (ps_x1 rfl (takes_of rfl rfl rfl rfl) S.val (hr.mono (by decide)) (by rfl) (pv 0))) pss_nil), ?_⟩
    obtain ⟨v, t, rfl, ty, m, k1, k2⟩ := h
    refine ⟨_, rfl, v, t, _, rfl, ty, rfl, m, _, rfl, ?_⟩
    by_cases c : t = "tuple"
    · subst c
      exact iteF (k1 rfl)
    · rw [beq_eq_false_iff_ne.mpr c]
      exact iteT ⟨_, rfl, v, rfl, fun dd H' n s x => k2 c dd H' n s x⟩
end
end Kz

set_option Elab.async false
set_option linter.all false
set_option maxRecDepth 100000
set_option maxHeartbeats 2000000
namespace Kz
open PySem PySem.Spec PyProof.Rows L2 StX ClX
abbrev sNode : Stmt := top 18
abbrev sOct : Stmt := top 19
abbrev sPack : Stmt := top 20
abbrev sRow : Stmt := top 21
abbrev sShape : Stmt := inClass sNode 1
abbrev sChildren : Stmt := inClass sNode 2
abbrev sCont0 : Stmt := inClass sNode 3
abbrev sOctI : Stmt := inClass sOct 1
abbrev sOctN : Stmt := inClass sOct 2
abbrev sPackI : Stmt := inClass sPack 1
abbrev sPackOf : Stmt := inClass sPack 2
abbrev sPackP : Stmt := inClass sPack 3
abbrev sPackC : Stmt := inClass sPack 4
abbrev sRowI : Stmt := inClass sRow 1
abbrev sRowOf : Stmt := inClass sRow 2
abbrev sRowP : Stmt := inClass sRow 3
abbrev sRowL : Stmt := inClass sRow 4
abbrev sRowA : Stmt := inClass sRow 5
abbrev sRowC : Stmt := inClass sRow 6
/-- a method -/
abbrev FnM (K : PySem.W.Frag) (x qual : Str) (st : Stmt) (dvs : List V) (f : Addr) (fd : FuncData) : Prop := FunD K x qual (defArgs st) (defBody st) (defScope st) dvs [] f fd
theorem scOctI : FnScope ["self", "numbers"] ["self", "numbers"] (defScope sOctI) := ⟨rfl, rfl, rfl, by decide +kernel, rfl, by decide +kernel, by decide +kernel⟩
theorem scSelf1 : FnScope ["self"] ["self"] (defScope sOctN) := ⟨rfl, rfl, rfl, by decide +kernel, rfl, by decide +kernel, by decide +kernel⟩
theorem scShape : FnScope ["self"] ["self"] (defScope sShape) := ⟨rfl, rfl, rfl, by decide +kernel, rfl, by decide +kernel, by decide +kernel⟩
theorem scCont0 : FnScope ["self"] ["self"] (defScope sCont0) := ⟨rfl, rfl, rfl, by decide +kernel, rfl, by decide +kernel, by decide +kernel⟩
theorem gsChildren : GScope ["self"] ["self"] (defScope sChildren) := ⟨rfl, rfl, rfl, by decide +kernel, rfl, by decide +kernel, by decide +kernel⟩
def spOctI (K : PySem.W.Frag) (C CE : Addr) : Sp := fun vs H Q E => ∃ (a dx : Addr) (v : V) (d : PyData), vs = [.ref a, v] ∧ H a = some (.ins C dx []) ∧ Sd K H v d ∧ fitsAll d ∧ (isNums d = true → ∀ H', Same H H' → Q .non (upd H' a (.ins C dx [("_numbers", v)]))) ∧ (isNums d = false → Err CE "value" v H E)
/-- a field, read -/
def spFld (C : Addr) (f : Str) : Sp := fun vs H Q _ => ∃ (a dx : Addr) (fs : List (Str × V)) (v : V), vs = [.ref a] ∧ H a = some (.ins C dx fs) ∧ fs.lookup f = some v ∧ Q v H
section
variable {P : Program} {w : World} {K : PySem.W.Frag} {mg : Str → Option Value} {base : Heap} {C : Addr}
theorem ok_octI {f : Addr} {fd : FuncData} (c : Cls K C) (na : NoAttr K C "_numbers") {dv : List V} (F : FnM K "__init__" "Octets.__init__" sOctI dv f fd) (N : Nm K mg) (T : Ts K mg) (R : Rq K mg) (S : Es P w K mg base) : FnOk P w K mg base (L2.CX P w) 3 f fd ["self", "numbers"] (spOctI K C (gC K "InvalidNumbers")) := by
  obtain ⟨fn, dn, FN, gN⟩ := R.nums
  obtain ⟨tl, gl⟩ := N.nums
  have GN : FnOk P w K mg base CX0 2 fn dn ["thing", "limit"] (spOcts K) := ok_nums FN N T
  have bN : Binds K dn ["thing", "limit"] [] := FN.bindsN fun _ _ _ _ _ _ us hl => match us, hl with | [_, _], _ => rfl
  refine F.ok scOctI (fun vs H Q E h => ?_) (fun cdv A outer s H vs Q E hr h => ?_)
  · obtain ⟨a, dx, v, d, rfl, _⟩ := h
    rfl
  · refine ⟨_, pss_cons (ps_if (pt_not (pt_val (pe_call GN hr (by rfl) gN FN.kp bN .nil pass0 (pa_cons (pv 1) (pa_cons (pe_glob (v := .int 2000) (by rfl) gl ⟨_, rfl⟩) pa_nil))))) (pss_one (ps_x1 rfl (takes_of rfl rfl rfl rfl) S.nums hr (by rfl) (pv 1))) pss_nil)
      (pss_one (ps_fld (pv 0) (pv 1) (by rfl))), ?_⟩
    obtain ⟨a, dx, v, d, rfl, ha, hv, hf, k1, k2⟩ := h
    refine ⟨_, rfl, v, d, rfl, hv, hf, fun H1 s1 => ⟨_, rfl, ?_⟩⟩
    cases e : isNums d with
    | true =>
      refine iteF ?_
      exact ⟨_, rfl, _, rfl, a, C, dx, [], rfl, s1 _ _ ha, c, na, by decide, k1 e _ s1⟩
    | false => exact iteT ⟨_, rfl, v, rfl, fun dd H' n s x => k2 e dd H' (none_of s1 n) (s1.tr s) x⟩
theorem ok_fld {f : Addr} {fd : FuncData} {g : Str} {x qual : Str} {st : Stmt} {p1 p2 p3 : Pos} (hb : defBody st = [.Return (some (.Attribute (.Name "self" p1) g p2)) p3]) (sc : FnScope ["self"] ["self"] (defScope st)) (hvis : Vis (defScope st) "self") (c : Cls K C) (na : NoAttr K C g) (F : FnM K x qual st [] f fd) : FnOk P w K mg base CX0 1 f fd ["self"] (spFld C g) := by
  refine F.ok sc (fun vs H Q E h => ?_) (fun cdv A outer s H vs Q E hr h => ?_)
  · obtain ⟨a, dx, fs, v, rfl, _⟩ := h
    rfl
  · rw [hb]
    refine ⟨_, PSs.nox (pss_one (ps_ret (pe_fld (pe_var (i := 0) rfl hvis) (by rfl)))), ?_⟩
    obtain ⟨a, dx, fs, v, rfl, ha, hl, k⟩ := h
    exact ⟨_, rfl, a, C, dx, fs, v, rfl, ha, c, na, hl, k⟩
/-- the contents are handed out: spC is the promise of the class's _contents -/
def spKids (C : Addr) (spC : Sp) : SpY := fun vs H xs Q E => ∃ (a dx : Addr) (fs : List (Str × V)), vs = [.ref a] ∧ H a = some (.ins C dx fs) ∧ fs.lookup ("_contents" : Str) = none ∧ spC [.ref a] H (fun v H1 => ∃ t, v = .ref t ∧ H1 t = some (.tup xs) ∧ Q H1) E0
theorem ok_kids {k : Nat} {f fc : Addr} {fd fdc : FuncData} {spC : Sp} (c : Cls K C) (hm : Meth K C "_contents" fc) (F : FnM K "children" "Node.children" sChildren [] f fd) (FC : FnOk P w K mg base CX0 k fc fdc ["self"] spC) (bC : Binds K fdc ["self"] []) (mono : ∀ vs H (Q Q' : VK) E, (∀ v H, Q v H → Q' v H) → spC vs H Q E → spC vs H Q' E) : YDef P w K mg base (k + 1) f fd ["self"] (spKids C spC) := by
  refine F.okY gsChildren (fun vs H xs Q E h => ?_) (fun cdv A outer s H vs xs Q E pn hr h => ?_)
  · obtain ⟨a, dx, fs, rfl, _⟩ := h
    rfl
  · refine ⟨_, yss_cons (ys_from (yf_tup (pe_meth0 (pe_var (i := 0) rfl (by first | exact .inl rfl | rfl)) c hm FC hr bC .nil pass0)) hr.hd) yss_nil, ?_⟩
    obtain ⟨a, dx, fs, rfl, ha, hl, q⟩ := h
    refine ⟨_, rfl, a, dx, fs, rfl, ha, hl, mono _ _ _ _ _ (fun v H1 z => ?_) q⟩
    obtain ⟨t, rfl, ht, q2⟩ := z
    exact ⟨t, xs, rfl, ht, fun i y e => by rw [Nat.zero_add]; exact e, Nat.zero_add _, q2⟩
/-- the shape: the class's word -/
def spShape (C : Addr) (z : Str) : Sp := fun vs H Q _ => ∃ (a dx : Addr) (fs : List (Str × V)), vs = [.ref a] ∧ H a = some (.ins C dx fs) ∧ fs.lookup ("SHAPE" : Str) = none ∧ Q (.str z) H
theorem ok_shape {f : Addr} {fd : FuncData} {z : Str} {u : Value} (c : Cls K C) (w1 : Con K C "SHAPE" (.str z) u) (F : FnM K "shape" "Node.shape" sShape [] f fd) : FnOk P w K mg base CX0 1 f fd ["self"] (spShape C z) := by
  refine F.ok scShape (fun vs H Q E h => ?_) (fun cdv A outer s H vs Q E hr h => ?_)
  · obtain ⟨a, dx, fs, rfl, _⟩ := h
    rfl
  · refine ⟨_, PSs.nox (pss_one (ps_ret (pe_con (pv 0) (by rfl)))), ?_⟩
    obtain ⟨a, dx, fs, rfl, ha, hl, k⟩ := h
    exact ⟨_, rfl, a, C, dx, fs, _, u, rfl, ha, c, w1, hl, k⟩
/-- a node with its items -/
def NodAt (C : Addr) (fld : Str) (ho : List V → HO) (H : Hp) (n : Addr) (ws : List V) : Prop := ∃ dx p, H n = some (.ins C dx [(fld, .ref p)]) ∧ H p = some (ho ws)
def spInit (K : PySem.W.Frag) (C : Addr) (fld : Str) (ho : List V → HO) (CV : Addr) : Sp := fun vs H Q E => ∃ (a dx : Addr) (ws : List V) (ks : List Tk) (H0 : Hp), vs = .ref a :: ws ∧ H a = some (.ins C dx []) ∧ H0 a = none ∧ Same H0 H ∧ TvAll K (CN K) H0 ws ks ∧ ws.length ≤ 60 ∧ (∀ k ∈ ks, fitsT k) ∧
  (badAt ks = none → ∀ p H', Same H0 H' → H0 p = none → H' a = some (.ins C dx [(fld, .ref p)]) → H' p = some (ho ws) → Q .non H') ∧ (∀ n v, badAt ks = some n → ws[n]? = some v → Err CV "value" v H0 E)
def spInitT (K : PySem.W.Frag) (C : Addr) (fld : Str) (ho : List V → HO) (CV : Addr) : Sp := fun vs H Q E => ∃ (a t dx : Addr) (ws : List V) (ks : List Tk) (H0 : Hp), vs = [.ref a, .ref t] ∧ H0 t = none ∧ H t = some (.tup ws) ∧ H a = some (.ins C dx []) ∧ H0 a = none ∧ Same H0 H ∧ TvAll K (CN K) H0 ws ks ∧ ws.length ≤ 60 ∧ (∀ k ∈ ks, fitsT k) ∧
  (badAt ks = none → ∀ p H', Same H0 H' → H0 p = none → H' a = some (.ins C dx [(fld, .ref p)]) → H' p = some (ho ws) → Q .non H') ∧ (∀ n v, badAt ks = some n → ws[n]? = some v → Err CV "value" v H0 E)
/-- what a new node's field holds is new -/
def Fr (fld : Str) (H H' : Hp) (n : Addr) : Prop := ∀ C dx p, H' n = some (.ins C dx [(fld, .ref p)]) → H p = none
/-- a node is made of ws, or the error that is due comes -/
def MkSeq (K : PySem.W.Frag) (C : Addr) (fld : Str) (ho : List V → HO) (CV : Addr) (ws : List V) (ks : List Tk) (H : Hp) (Q : VK) (E : XK) : Prop :=
  TvAll K (CN K) H ws ks ∧ ws.length ≤ 60 ∧ (∀ k ∈ ks, fitsT k) ∧ (badAt ks = none → ∀ n H', Same H H' → H n = none → NodAt C fld ho H' n ws → Fr fld H H' n → Q (.ref n) H') ∧ (∀ n v, badAt ks = some n → ws[n]? = some v → Err CV "value" v H E)
theorem mkSeq {K : PySem.W.Frag} {C : Addr} {fld : Str} {ho : List V → HO} {CV : Addr} {ws : List V} {ks : List Tk} {H : Hp} {Q : VK} {E : XK} (m : MkSeq K C fld ho CV ws ks H Q E) (n dx : Addr) (hn : H n = none) (hd : H dx = none) (ne : dx ≠ n) :
    spInit K C fld ho CV (V.ref n :: ws) (upd (upd H dx (.own n)) n (.ins C dx [])) (fun v H2 => v = .non ∧ Q (.ref n) H2) E := by
  obtain ⟨m1, m2, m3, m4, m5⟩ := m
  have s : Same H (upd (upd H dx (.own n)) n (.ins C dx [])) := fun b o e => by
    rw [upd_ne (ne_of_none e hn), upd_ne (ne_of_none e hd)]
    exact e
  exact ⟨n, dx, ws, ks, H, rfl, upd_same, hn, s, m1, m2, m3, fun b p H' h1 hp h2 h3 => ⟨rfl, m4 b n H' h1 hn ⟨dx, p, h2, h3⟩ fun C' dx' p' z => by
    rw [h2] at z
    cases z
    exact hp⟩, m5⟩
theorem mkSeq_to {K : PySem.W.Frag} {C : Addr} {fld : Str} {ho : List V → HO} {CV : Addr} {ws : List V} {ks : List Tk} {H H1 : Hp} {Q : VK} {E : XK} (s : Same H H1) (m : MkSeq K C fld ho CV ws ks H Q E) : MkSeq K C fld ho CV ws ks H1 Q E := by
  obtain ⟨m1, m2, m3, m4, m5⟩ := m
  exact ⟨tvall_to s m1, m2, m3, fun b n H' h1 h2 h3 h4 => m4 b n H' (s.tr h1) (none_of s h2) h3 fun C' dx' p' z => none_of s (h4 C' dx' p' z), fun n v b e => err_to s (m5 n v b e)⟩
/-- C.of -/
def spOf (K : PySem.W.Frag) (C : Addr) (fld : Str) (ho : List V → HO) (CV : Addr) : Sp := fun vs H Q E => ∃ (v : V) (t : String), vs = [.ref C, v] ∧ TyX K H v (.type t) ∧ t ∈ tys ∧
  ((t ≠ "tuple" ∧ Err CV "value" v H E) ∨ (t = "tuple" ∧ ∃ a ws ks, v = .ref a ∧ SqT K H a ws ∧ MkSeq K C fld ho CV ws ks H Q E))
/-- the items, a tuple -/
def spParts (C : Addr) (fld : Str) (ho : List V → HO) : Sp := fun vs H Q _ => ∃ (a dx p : Addr) (ws : List V), vs = [.ref a] ∧ H a = some (.ins C dx [(fld, .ref p)]) ∧ H p = some (ho ws) ∧ ∀ t H', Same H H' → H' t = some (.tup ws) → Q (.ref t) H'
theorem spParts_mono {C : Addr} {fld : Str} {ho : List V → HO} {vs : List V} {H : Hp} {Q Q' : VK} {E : XK} (i : ∀ v H, Q v H → Q' v H) (h : spParts C fld ho vs H Q E) : spParts C fld ho vs H Q' E := by
  obtain ⟨a, dx, p, ws, e1, e2, e3, k⟩ := h
  exact ⟨a, dx, p, ws, e1, e2, e3, fun t H' z1 z2 => i _ _ (k t H' z1 z2)⟩
theorem scPackI : FnScope ["self", "parts"] ((["self"] : List Str) ++ (["parts"] : List Str)) (defScope sPackI) := ⟨rfl, rfl, rfl, by decide +kernel, rfl, by decide +kernel, by decide +kernel⟩
theorem scRowI : FnScope ["self", "parts"] ((["self"] : List Str) ++ (["parts"] : List Str)) (defScope sRowI) := ⟨rfl, rfl, rfl, by decide +kernel, rfl, by decide +kernel, by decide +kernel⟩
theorem ok_packI {f : Addr} {fd : FuncData} (c : Cls K C) (na : NoAttr K C "_parts") (F : FnM K "__init__" "Pack.__init__" sPackI [] f fd) (N : Nm K mg) (T : Ts K mg) (S : Es P w K mg base) (R : Rq K mg) : FnR P w K mg base (L2.CX P w) 7 f (spInit K C "_parts" HO.tup (gC K "InvalidValue")) := by
  obtain ⟨fa, da, FA, gA⟩ := R.reqs
  have GA : FnOk P w K mg base (L2.CX P w) 6 fa da ["parts"] (spReqs K (gC K "InvalidValue")) := ok_reqs FA N T S R
  have bA : Binds K da ["parts"] [] := FA.bindsN fun _ _ _ _ _ _ us hl => match us, hl with | [_], _ => rfl
  obtain ⟨oc, od, dV, kV', doc, pm, an, cdv, ct, osl, rfl, lk, hcd, hD, hK⟩ := F.ex
  obtain rfl : dV = .none := hD.elim (fun z => z.2) fun z => absurd rfl z.1
  have R := fn_star (P := P) (w := w) (mg := mg) (base := base) (CX := L2.CX P w) (k := 6) (ps := ["self"]) (pv := "parts") lk hcd scPackI cxUp (fun us rest hl => ?bind) (sp := spInitT K C "_parts" HO.tup (gC K "InvalidValue")) fun A outer s H vs Q E hr h => ?body
  case bind =>
    match us, hl with
    | [u], _ => exact bind_star1 (B := fun us => bindArgs (PySem.W.fnOf "__init__" "Pack.__init__" (defArgs sPackI) (defBody sPackI) (defScope sPackI) .none kV' doc pm an cdv ct) ⟨us, []⟩) (fun _ => rfl) (fun _ _ _ => rfl) [u] rest rfl
  case body =>
    refine ⟨_, pss_cons (ps_expr (pe_callS GA hr (by rfl) gA FA.kp bA (fun σ => passAt (takes_of rfl rfl rfl rfl) σ) (pa_cons (pv 1) pa_nil)))
      (pss_one (ps_fld (pv 0) (pv 1) (by rfl))), ?_⟩
    obtain ⟨a, t, dx, ws, ks, H0, rfl, t0, ht, ha, a0, s0, hk, hl, hf, k0, k1⟩ := h
    have nta : t ≠ a := ne_of ht ha (by intro z; cases z)
    refine ⟨_, rfl, t, ws, ks, rfl, SqT.of ht, tvall_to s0 hk, hf, fun b => ?_, fun n v b e => err_to s0 (k1 n v b e)⟩
    exact ⟨_, rfl, _, rfl, a, C, dx, [], rfl, ha, c, na, by decide, k0 b t _ (same_updN s0 a0) t0 upd_same (by rw [upd_ne nta]; exact ht)⟩
  intro A outer s H us vs Q E hr e0 r hsp
  obtain ⟨a, dx, ws, ks, H0, rfl, ha, a0, s0, hk, hl, hf, k0, k1⟩ := hsp
  refine R A outer s H us _ Q E hr e0 r ⟨[.ref a], ws, rfl, rfl, Nat.le_trans hl (by decide), fun p np => ?_⟩
  have s1 := same_new (o := .tup ws) np
  exact ⟨a, p, dx, ws, ks, H0, rfl, none_of s0 np, upd_same, s1 _ _ ha, a0, s0.tr s1, hk, hl, hf, k0, k1⟩
theorem ok_rowI {f : Addr} {fd : FuncData} (c : Cls K C) (na : NoAttr K C "_sequence") (F : FnM K "__init__" "Row.__init__" sRowI [] f fd) (N : Nm K mg) (T : Ts K mg) (S : Es P w K mg base) (R : Rq K mg) : FnR P w K mg base (L2.CX P w) 7 f (spInit K C "_sequence" HO.lst (gC K "InvalidValue")) := by
  obtain ⟨fa, da, FA, gA⟩ := R.reqs
  have GA : FnOk P w K mg base (L2.CX P w) 6 fa da ["parts"] (spReqs K (gC K "InvalidValue")) := ok_reqs FA N T S R
  have bA : Binds K da ["parts"] [] := FA.bindsN fun _ _ _ _ _ _ us hl => match us, hl with | [_], _ => rfl
  obtain ⟨oc, od, dV, kV', doc, pm, an, cdv, ct, osl, rfl, lk, hcd, hD, hK⟩ := F.ex
  obtain rfl : dV = .none := hD.elim (fun z => z.2) fun z => absurd rfl z.1
  have R := fn_star (P := P) (w := w) (mg := mg) (base := base) (CX := L2.CX P w) (k := 6) (ps := ["self"]) (pv := "parts") lk hcd scRowI cxUp (fun us rest hl => ?bind) (sp := spInitT K C "_sequence" HO.lst (gC K "InvalidValue")) fun A outer s H vs Q E hr h => ?body
  case bind =>
    match us, hl with
    | [u], _ => exact bind_star1 (B := fun us => bindArgs (PySem.W.fnOf "__init__" "Row.__init__" (defArgs sRowI) (defBody sRowI) (defScope sRowI) .none kV' doc pm an cdv ct) ⟨us, []⟩) (fun _ => rfl) (fun _ _ _ => rfl) [u] rest rfl
  case body =>
    refine ⟨_, pss_cons (ps_expr (pe_callS GA hr (by rfl) gA FA.kp bA (fun σ => passAt (takes_of rfl rfl rfl rfl) σ) (pa_cons (pv 1) pa_nil)))
      (pss_one (ps_fld (pv 0) (pe_callTy call_list_of (by rfl) N.list (by decide +kernel) (pa_cons (pv 1) pa_nil)) (by rfl))), ?_⟩
    obtain ⟨a, t, dx, ws, ks, H0, rfl, t0, ht, ha, a0, s0, hk, hl, hf, k0, k1⟩ := h
    refine ⟨_, rfl, t, ws, ks, rfl, SqT.of ht, tvall_to s0 hk, hf, fun b => ?_, fun n v b e => err_to s0 (k1 n v b e)⟩
    refine ⟨_, rfl, t, ws, rfl, .inr (SqT.of ht), fun l nl => ?_⟩
    have nla : l ≠ a := fun z => by
      rw [z, ha] at nl
      cases nl
    have ha2 : (upd H l (.lst ws)) a = some (.ins C dx []) := by rw [upd_ne nla.symm]; exact ha
    exact ⟨_, rfl, a, C, dx, [], rfl, ha2, c, na, by decide, k0 b l _ (same_updN (s0.tr (same_new nl)) a0) (none_of s0 nl) upd_same (by rw [upd_ne nla, upd_same])⟩
  intro A outer s H us vs Q E hr e0 r hsp
  obtain ⟨a, dx, ws, ks, H0, rfl, ha, a0, s0, hk, hl, hf, k0, k1⟩ := hsp
  refine R A outer s H us _ Q E hr e0 r ⟨[.ref a], ws, rfl, rfl, Nat.le_trans hl (by decide), fun p np => ?_⟩
  have s1 := same_new (o := .tup ws) np
  exact ⟨a, p, dx, ws, ks, H0, rfl, none_of s0 np, upd_same, s1 _ _ ha, a0, s0.tr s1, hk, hl, hf, k0, k1⟩
theorem scPackOf : FnScope ["cls", "parts"] ["cls", "parts"] (defScope sPackOf) := ⟨rfl, rfl, rfl, by decide +kernel, rfl, by decide +kernel, by decide +kernel⟩
theorem scRowOf : FnScope ["cls", "parts"] ["cls", "parts"] (defScope sRowOf) := ⟨rfl, rfl, rfl, by decide +kernel, rfl, by decide +kernel, by decide +kernel⟩
theorem ok_packOf {f fi : Addr} {fd : FuncData} {fld : Str} {ho : List V → HO} (F : FnM K "of" "Pack.of" sPackOf [] f fd) (N : Nm K mg) (S : Es P w K mg base) (R : Rq K mg) (M : Mk K C fi) (FI : FnR P w K mg base (L2.CX P w) 7 fi (spInit K C fld ho (gC K "InvalidValue"))) : FnOk P w K mg base (L2.CX P w) 9 f fd ["cls", "parts"] (spOf K C fld ho (gC K "InvalidValue")) := by
  obtain ⟨ft, dt, FT, gT⟩ := R.reqT
  have GT : FnOk P w K mg base (L2.CX P w) 3 ft dt ["parts"] (spReqT K (gC K "InvalidValue")) := ok_reqT FT N S
  have bT : Binds K dt ["parts"] [] := FT.bindsN fun _ _ _ _ _ _ us hl => match us, hl with | [_], _ => rfl
  refine F.ok scPackOf (fun vs H Q E h => ?_) (fun cdv A outer s H vs Q E hr h => ?_)
  · obtain ⟨v, d, rfl, _⟩ := h
    rfl
  · refine ⟨_, pss_cons (ps_expr (pe_callS GT (hr.mono (by decide)) (by rfl) gT FT.kp bT (fun σ => passAt (takes_of rfl rfl rfl rfl) σ) (pa_cons (pv 1) pa_nil)))
      (pss_one (ps_ret (pe_makeVS (i := 0) (E := E) M FI hr rfl (Or.inl rfl) (passes_call (takes_of rfl rfl rfl rfl) fun _ _ _ _ h => h) (pv 1)))), ?_⟩
    obtain ⟨v, t, rfl, ty, m, h⟩ := h
    rcases h with ⟨e, k⟩ | ⟨e, a, ws, ks, rfl, hq, mk⟩
    · exact ⟨_, rfl, v, t, rfl, ty, m, fun z => absurd z e, fun _ => k⟩
    · exact ⟨_, rfl, .ref a, t, rfl, ty, m, fun _ => ⟨rfl, _, rfl, a, ws, rfl, .inl hq, fun n dx hn hd ne => mkSeq mk n dx hn hd ne⟩, fun z => absurd e z⟩
theorem ok_rowOf {f fi : Addr} {fd : FuncData} {fld : Str} {ho : List V → HO} (F : FnM K "of" "Row.of" sRowOf [] f fd) (N : Nm K mg) (S : Es P w K mg base) (R : Rq K mg) (M : Mk K C fi) (FI : FnR P w K mg base (L2.CX P w) 7 fi (spInit K C fld ho (gC K "InvalidValue"))) : FnOk P w K mg base (L2.CX P w) 9 f fd ["cls", "parts"] (spOf K C fld ho (gC K "InvalidValue")) := by
  obtain ⟨ft, dt, FT, gT⟩ := R.reqT
  have GT : FnOk P w K mg base (L2.CX P w) 3 ft dt ["parts"] (spReqT K (gC K "InvalidValue")) := ok_reqT FT N S
  have bT : Binds K dt ["parts"] [] := FT.bindsN fun _ _ _ _ _ _ us hl => match us, hl with | [_], _ => rfl
  refine F.ok scRowOf (fun vs H Q E h => ?_) (fun cdv A outer s H vs Q E hr h => ?_)
  · obtain ⟨v, d, rfl, _⟩ := h
    rfl
  · refine ⟨_, pss_cons (ps_expr (pe_callS GT (hr.mono (by decide)) (by rfl) gT FT.kp bT (fun σ => passAt (takes_of rfl rfl rfl rfl) σ) (pa_cons (pv 1) pa_nil)))
      (pss_one (ps_ret (pe_makeVS (i := 0) (E := E) M FI hr rfl (Or.inl rfl) (passes_call (takes_of rfl rfl rfl rfl) fun _ _ _ _ h => h) (pv 1)))), ?_⟩
    obtain ⟨v, t, rfl, ty, m, h⟩ := h
    rcases h with ⟨e, k⟩ | ⟨e, a, ws, ks, rfl, hq, mk⟩
    · exact ⟨_, rfl, v, t, rfl, ty, m, fun z => absurd z e, fun _ => k⟩
    · exact ⟨_, rfl, .ref a, t, rfl, ty, m, fun _ => ⟨rfl, _, rfl, a, ws, rfl, .inl hq, fun n dx hn hd ne => mkSeq mk n dx hn hd ne⟩, fun z => absurd e z⟩
theorem scP : FnScope ["self"] ["self"] (defScope sPackP) := ⟨rfl, rfl, rfl, by decide +kernel, rfl, by decide +kernel, by decide +kernel⟩
theorem scRP : FnScope ["self"] ["self"] (defScope sRowP) := ⟨rfl, rfl, rfl, by decide +kernel, rfl, by decide +kernel, by decide +kernel⟩
theorem ok_packP {f : Addr} {fd : FuncData} (c : Cls K C) (na : NoAttr K C "_parts") (F : FnM K "parts" "Pack.parts" sPackP [] f fd) : FnOk P w K mg base CX0 1 f fd ["self"] (spParts C "_parts" HO.tup) := by
  refine F.ok scP (fun vs H Q E h => ?_) (fun cdv A outer s H vs Q E hr h => ?_)
  · obtain ⟨a, dx, p, ws, rfl, _⟩ := h
    rfl
  · refine ⟨_, PSs.nox (pss_one (ps_ret (pe_fld (pv 0) (by rfl)))), ?_⟩
    obtain ⟨a, dx, p, ws, rfl, ha, hp, k⟩ := h
    exact ⟨_, rfl, a, C, dx, _, .ref p, rfl, ha, c, na, rfl, k p H Same.refl' hp⟩
theorem ok_rowP {f : Addr} {fd : FuncData} (c : Cls K C) (na : NoAttr K C "_sequence") (F : FnM K "parts" "Row.parts" sRowP [] f fd) (N : Nm K mg) : FnOk P w K mg base CX0 1 f fd ["self"] (spParts C "_sequence" HO.lst) := by
  refine F.ok scRP (fun vs H Q E h => ?_) (fun cdv A outer s H vs Q E hr h => ?_)
  · obtain ⟨a, dx, p, ws, rfl, _⟩ := h
    rfl
  · refine ⟨_, PSs.nox (pss_one (ps_ret (pe_callTy call_tuple_of (by rfl) N.tuple (by decide +kernel) (pa_cons (pe_fld (pv 0) (by rfl)) pa_nil)))), ?_⟩
    obtain ⟨a, dx, p, ws, rfl, ha, hp, k⟩ := h
    exact ⟨_, rfl, a, C, dx, _, .ref p, rfl, ha, c, na, rfl, p, ws, rfl, .inl ⟨SqL.of hp, fun t nt => k t _ (same_new nt) upd_same⟩⟩
theorem scPC : FnScope ["self"] ["self"] (defScope sPackC) := ⟨rfl, rfl, rfl, by decide +kernel, rfl, by decide +kernel, by decide +kernel⟩
theorem scRC : FnScope ["self"] ["self"] (defScope sRowC) := ⟨rfl, rfl, rfl, by decide +kernel, rfl, by decide +kernel, by decide +kernel⟩
theorem ok_cont {f p g : Addr} {fd fdg : FuncData} {fld q : Str} {ho : List V → HO} {st : Stmt} {p1 p2 p3 : Pos} (hb : defBody st = [.Return (some (.Attribute (.Name "self" p1) "parts" p2)) p3]) (sc : FnScope ["self"] ["self"] (defScope st)) (hvis : Vis (defScope st) "self") (c : Cls K C) (hp : PropOf K C "parts" p g) (F : FnM K "_contents" q st [] f fd) (FG : FnOk P w K mg base CX0 1 g fdg ["self"] (spParts C fld ho)) (bG : Binds K fdg ["self"] []) : FnOk P w K mg base CX0 3 f fd ["self"] (spParts C fld ho) := by
  refine F.ok sc (fun vs H Q E h => ?_) (fun cdv A outer s H vs Q E hr h => ?_)
  · obtain ⟨a, dx, p, ws, rfl, _⟩ := h
    rfl
  · rw [hb]
    refine ⟨_, PSs.nox (pss_one (ps_ret (pe_prop (pe_var (i := 0) rfl hvis) c hp FG hr bG .nil pass0 (by rfl)))), ?_⟩
    obtain ⟨a, dx, p, ws, rfl, ha, hq, k⟩ := h
    exact ⟨_, rfl, a, dx, _, rfl, ha, a, dx, p, ws, rfl, ha, hq, k⟩
end
end Kz

set_option Elab.async false
set_option linter.all false
set_option maxRecDepth 100000
set_option maxHeartbeats 4000000
namespace Kz
open PySem PySem.Spec PyProof.Rows L2
/-- the cells' list of the draws at p stands at l -/
def CellsAt (H : Hp) (p l : Addr) : Prop := ∃ a b c : Int, H p = some (.dK (drawKv l a b c))
/-- all that was tracked but p stands, and the cells' list is the same -/
structure Keep (p : Addr) (H H' : Hp) : Prop where
  old : L2.Keep p H H'
  cells : ∀ l, CellsAt H p l → CellsAt H' p l
instance {p : Addr} {H H' : Hp} : CoeFun (Keep p H H') (fun _ => ∀ c o, H c = some o → c ≠ p → H' c = some o) := ⟨Keep.old⟩
theorem Keep.refl {p : Addr} {H : Hp} : Keep p H H := ⟨L2.Keep.refl, fun _ h => h⟩
theorem Keep.trans {p : Addr} {H H1 H2 : Hp} (a : Keep p H H1) (b : Keep p H1 H2) : Keep p H H2 := ⟨a.old.trans b.old, fun l h => b.cells l (a.cells l h)⟩
theorem Keep.of {p : Addr} {H H' : Hp} (s : Same H H') : Keep p H H' := ⟨L2.Keep.of s, fun _ ⟨a, b, c, h⟩ => ⟨a, b, c, s _ _ h⟩⟩
theorem cells_one {H : Hp} {p l l' : Addr} (h : CellsAt H p l) (k : CellsAt H p l') : l = l' := by
  obtain ⟨a, b, c, h⟩ := h
  obtain ⟨a', b', c', k⟩ := k
  rw [h] at k
  have z := congrArg (fun o => match o with
    | some (HO.dK ((_, V.ref x) :: _)) => x
    | _ => 0) k
  exact z
theorem Keep.upd {p l : Addr} {x y z : Int} {H : Hp} (h : CellsAt H p l) : Keep p H (upd H p (.dK (drawKv l x y z))) := ⟨L2.Keep.upd, fun l' k => by
  cases cells_one h k
  exact ⟨x, y, z, upd_same⟩⟩
def spNext : Sp := fun vs H Q _ => ∃ (p : Addr) (b : Int) (N : Nat), vs = [.ref p, .int b] ∧ DrawAt H p N ∧ N < 1000000000 ∧ 0 < b ∧ b < 1073741824 ∧ ∀ (r : Int) (H' : Hp), 0 ≤ r → r < b → DrawAt H' p (N + 1) → Keep p H H' → Q (.int r) H'
abbrev sBegin : Stmt := top 27
abbrev sMixed : Stmt := top 28
abbrev sNext : Stmt := top 29
section
variable {P : Program} {w : World} {K : PySem.W.Frag} {mg : Str → Option Value} {base : Heap}
theorem scBegin : FnScope ["script"] ["script"] (defScope sBegin) := ⟨rfl, rfl, rfl, by decide +kernel, rfl, by decide +kernel, by decide +kernel⟩
theorem scMixed : FnScope ["cell", "k", "mixed"] ["cell", "k"] (defScope sMixed) := ⟨rfl, rfl, rfl, by decide +kernel, rfl, by decide +kernel, by decide +kernel⟩
theorem scNext : FnScope ["draw", "bound", "found", "cells", "cell"] ["draw", "bound"] (defScope sNext) := ⟨rfl, rfl, rfl, by decide +kernel, rfl, by decide +kernel, by decide +kernel⟩
theorem ok_begin {f : Addr} {fd : FuncData} (F : FnP K "_law_begin" sBegin f fd) : FnOk P w K mg base CX0 1 f fd ["script"] (spBegin K) := by
  refine F.ok scBegin (fun vs H Q E h => ?_) (fun cdv A outer s H vs Q E hr h => ⟨_, PSs.nox (pss_one (ps_ret (pe_disp (pps_cons pe_str (pe_op op_catS (pv 0) (pe_lst (pa_cons pe_int pa_nil)))
    (pps_cons pe_str pe_int (pps_cons pe_str pe_int (pps_cons pe_str pe_int pps_nil)))) (by rfl) (by rfl) (fun z => by cases z) (by decide)))), ?_⟩)
  · obtain ⟨a, ns, rfl, _⟩ := h
    rfl
  · obtain ⟨a, ns, rfl, hS, hl, k⟩ := h
    intro p hp
    refine ⟨_, rfl, (by show 1 ≤ sizeLine; decide), fun q hq => ?_⟩
    have npq : p ≠ q := fun z => by rw [z, upd_same] at hq; cases hq
    have hq' : H q = none := by rw [← hq, upd_ne npq.symm]
    have s1 : Same H (upd (upd H p (.dK [])) q (.lst [V.int 0])) := fun b o e => by
      rw [upd_ne (ne_of_none e hq'), upd_ne (ne_of_none e hp)]
      exact e
    refine ⟨a, q, ns.map V.int, [V.int 0], rfl, rfl, s1.seq hS, SqL.of upd_same, (by rw [List.length_map]; show ns.length + 1 ≤ sizeLine; exact Nat.le_trans (Nat.succ_le_succ hl) (by decide)), fun l hlz => ?_⟩
    have nl : l ≠ p := fun z => by rw [z, upd_ne npq, upd_same] at hlz; cases hlz
    have nlq : l ≠ q := fun z => by rw [z, upd_same] at hlz; cases hlz
    have hl' : H l = none := by rw [upd_ne nlq, upd_ne nl] at hlz; exact hlz
    refine ⟨(by rw [upd_ne nl.symm, upd_ne npq, upd_same]), [(kCells, .ref l), (kAt, .int 0), (kLeft, .int 0), (kUsed, .int 0)], rfl, (by show 4 ≤ 15; decide), ?_⟩
    have em : mergeK [] [(kCells, V.ref l), (kAt, .int 0), (kLeft, .int 0), (kUsed, .int 0)] = drawKv l 0 0 0 := by kernel_rfl
    rw [em]
    refine k p _ hp (fun b o e => ?_) ⟨l, ns ++ [0], 0, 0, 0, upd_same, ?_, ?_, ?_, by decide, by decide, by decide, by decide, by decide⟩
    · rw [upd_ne (ne_of_none e hp), upd_ne (ne_of_none e hl')]
      exact s1 b o e
    · rw [upd_ne nl, upd_same, List.map_append]
      rfl
    · rw [List.length_append]
      exact Nat.succ_pos _
    · rw [List.length_append]
      exact Nat.succ_le_succ hl
theorem mix_lo (x : Int) : 0 ≤ x % 2147483647 / 7 := by omega
theorem mix_hi (x : Int) : x % 2147483647 / 7 < 2147483648 := by omega
theorem ok_mixed {f : Addr} {fd : FuncData} (F : FnP K "_law_mixed" sMixed f fd) : FnOk P w K mg base CX0 1 f fd ["cell", "k"] spMixed := by
  refine F.ok scMixed (fun vs H Q E h => ?_) (fun cdv A outer s H vs Q E hr h => ⟨_, PSs.nox (pss_cons (ps_set (i := 2) scMixed.nd rfl (Or.inl rfl)
      (pe_op op_mod (pe_op op_add (pe_op op_add (pe_op op_add (pe_op op_mod (pv 0) pe_int) (pe_op op_mul (pe_op op_mul pe_int (pv 1)) (pv 1))) (pe_op op_mul pe_int (pv 1))) pe_int) pe_int))
    (pss_cons (ps_set (i := 2) scMixed.nd rfl (Or.inl rfl) (pe_op op_mod (pe_op op_mul (pe_op op_mod (pe_op op_mul (pv 2) (pv 2)) pe_int) (pv 2)) pe_int))
    (pss_one (ps_ret (pe_op op_fdiv (pe_op op_mod (pe_op op_mul (pv 2) (pe_op op_add pe_int (pe_op op_mul pe_int (pe_op op_mod (pv 1) pe_int)))) pe_int) pe_int))))), ?_⟩)
  · obtain ⟨c, k, rfl, _⟩ := h
    rfl
  · obtain ⟨c, k, rfl, k0, k1, kq⟩ := h
    refine ⟨_, rfl, _, _, rfl, rfl, (by show (0 : Int) < 1000000007; decide), _, rfl, _, _, rfl, rfl, .inl ⟨by decide, by decide⟩, _, rfl, _, _, rfl, rfl, .inl ⟨by omega, by omega⟩, _, _, rfl, rfl, _, rfl, _, _, rfl, rfl, .inl ⟨by decide, by decide⟩, _, _, rfl, rfl,
      _, _, rfl, rfl, _, _, rfl, rfl, (by show (0 : Int) < 2147483647; decide), ?_⟩
    refine ⟨_, rfl, _, rfl, _, _, rfl, rfl, .inl ⟨by omega, by omega⟩, _, _, rfl, rfl, (by show (0 : Int) < 2147483647; decide), _, rfl, _, _, rfl, rfl, .inl ⟨by omega, by omega⟩, _, _, rfl, rfl, (by show (0 : Int) < 2147483629; decide), ?_⟩
    refine ⟨_, rfl, _, rfl, _, _, rfl, rfl, (by show (0 : Int) < 1000; decide), _, _, rfl, rfl, .inl ⟨by decide, by decide⟩, _, _, rfl, rfl, _, _, rfl, rfl, .inl ⟨by omega, by omega⟩, _, _, rfl, rfl, (by show (0 : Int) < 2147483647; decide), _, _, rfl, rfl, ⟨by decide, by decide⟩, ?_⟩
    exact kq _ (mix_lo _) (mix_hi _)
theorem ok_next {f fm : Addr} {fd fdm : FuncData} (F : FnP K "_law_next" sNext f fd) (FM : FnP K "_law_mixed" sMixed fm fdm) (gM : mg "_law_mixed" = some (.ref fm)) (gL : mg "len" = none) : FnOk P w K mg base CX0 2 f fd ["draw", "bound"] spNext := by
  have GM : FnOk P w K mg base CX0 1 fm fdm ["cell", "k"] spMixed := ok_mixed FM
  have bM : Binds K fdm ["cell", "k"] [] := FM.bindsN fun _ _ _ _ _ _ us hl => match us, hl with | [_, _], _ => rfl
  refine F.ok scNext (fun vs H Q E h => ?_) (fun cdv A outer s H vs Q E hr h => ?_)
  · obtain ⟨p, b, N, rfl, _⟩ := h
    rfl
  · have hu := hu_of hr
    refine ⟨_, PSs.nox (pss_cons (ps_if (pt_cmpR op_gt (pe_dget hu (pv 0) pe_str (fun _ _ => rfl)) pe_int (nomark _))
        (pss_cons (ps_set (i := 2) scNext.nd rfl (Or.inl rfl) (pe_op op_mod (pe_dget hu (pv 0) pe_str (fun _ _ => rfl)) (pv 1)))
        (pss_cons (ps_dput hu (pv 0) pe_str (pe_op op_fdiv (pe_dget hu (pv 0) pe_str (fun _ _ => rfl)) (pv 1)) rfl)
        (pss_one (ps_ret (pv 2))))) pss_nil)
      (pss_cons (ps_set (i := 3) scNext.nd rfl (Or.inl rfl) (pe_dget hu (pv 0) pe_str (fun _ _ => rfl)))
      (pss_cons (ps_set (i := 4) scNext.nd rfl (Or.inl rfl) (pe_ix ix_list (pv 3) (pe_op op_mod (pe_dget hu (pv 0) pe_str (fun _ _ => rfl)) (pe_callB call_len (by rfl) gL PySem.boot_len (pa_cons (pv 3) pa_nil))) (fun _ _ => rfl)))
      (pss_cons (ps_dput hu (pv 0) pe_str (pe_op op_add (pe_dget hu (pv 0) pe_str (fun _ _ => rfl)) pe_int) rfl)
      (pss_cons (ps_if (PW.pt (pw_and (pt_cmpR op_ge (pv 4) (pe_op op_pow pe_int pe_int) (nomark _)) (pw_and1 (pt_cmpR op_le (pe_dget hu (pv 0) pe_str (fun _ _ => rfl)) (pe_callB call_len (by rfl) gL PySem.boot_len (pa_cons (pv 3) pa_nil)) (nomark _)))))
        (pss_cons (ps_dput hu (pv 0) pe_str (pe_op op_fdiv (pv 4) (pv 1)) rfl) (pss_one (ps_ret (pe_op op_mod (pv 4) (pv 1))))) pss_nil)
      (pss_cons (ps_dput hu (pv 0) pe_str (pe_op op_add (pe_dget hu (pv 0) pe_str (fun _ _ => rfl)) pe_int) rfl)
      (pss_one (ps_ret (pe_op op_mod (pe_call GM hr (by rfl) gM FM.kp bM .nil pass0 (pa_cons (pe_call GM hr (by rfl) gM FM.kp bM .nil pass0 (pa_cons (pv 4) (pa_cons (pe_dget hu (pv 0) pe_str (fun _ _ => rfl)) pa_nil))) (pa_cons (pe_dget hu (pv 0) pe_str (fun _ _ => rfl)) pa_nil))) (pv 1)))))))))), ?_⟩
    obtain ⟨p, b, N, rfl, D, hN, b0, b1, k⟩ := h
    obtain ⟨l, cs, a, lf, us, hp, hl, l0, l1, a0, a1, f0, u0, u1⟩ := D
    have npl : l ≠ p := ne_of hl hp (by intro z; cases z)
    have hl' : ∀ o, (upd H p o) l = some (.lst (cs.map V.int)) := fun o => by rw [upd_ne npl]; exact hl
    -- if draw['left'] > 0
    refine ⟨_, rfl, p, _, rfl, (by rw [← dk_left]; exact DGet.k (k := kLeft) hp), _, _, rfl, rfl, _, rfl, ?_⟩
    have hz4 : ∀ x y z, (drawKv l x y z).length < sizeLine := fun x y z => by show 4 < sizeLine; decide
    refine ite2 (fun c => ?_) (fun c => ?_)
    · -- found = draw['left'] % bound; draw['left'] = draw['left'] // bound; return found
      have c' : 0 < lf := of_decide_eq_true c
      refine ⟨_, rfl, p, _, rfl, (by rw [← dk_left]; exact DGet.k (k := kLeft) hp), _, rfl, _, _, rfl, rfl, b0, ?_⟩
      refine ⟨_, rfl, p, _, rfl, (by rw [← dk_left]; exact DGet.k (k := kLeft) hp), _, rfl, _, _, rfl, rfl, ⟨b0, b1⟩, _, rfl, p, _, rfl, DPut.k (k := kLeft) hp (hz4 _ _ _), ?_⟩
      rw [dp_left]
      refine ⟨_, rfl, k _ _ (Int.emod_nonneg _ (by omega)) (Int.emod_lt_of_pos _ b0) ⟨l, cs, a, lf / b, us, upd_same, hl' _, l0, l1, a0, by omega, Int.ediv_nonneg (by omega) (by omega), u0, by omega⟩ (Keep.upd ⟨_, _, _, hp⟩)⟩
    · -- cells = draw['cells']; cell = cells[draw['at'] % len(cells)]
      refine ⟨_, rfl, p, _, rfl, (by rw [← dk_cells]; exact DGet.k (k := kCells) hp), ?_⟩
      have ix0 : 0 ≤ a % (cs.length : Int) := Int.emod_nonneg _ (by omega)
      have ix1 : a % (cs.length : Int) < (cs.length : Int) := Int.emod_lt_of_pos _ (by omega)
      have hlt : (a % (cs.length : Int)).toNat < cs.length := by omega
      obtain ⟨z, hz⟩ : ∃ z, cs[(a % (cs.length : Int)).toNat]? = some z := ⟨_, List.getElem?_eq_getElem hlt⟩
      refine ⟨_, rfl, _, rfl, p, _, rfl, (by rw [← dk_at]; exact DGet.k (k := kAt) hp), _, rfl, _, (cs.map V.int).length, rfl, .inl ⟨_, SqL.of hl, rfl⟩, _, _, rfl, rfl, (by rw [List.length_map]; omega), ?_⟩
      refine ⟨l, _, _, V.int z, rfl, rfl, SqL.of hl, at_of (j := (a % (cs.length : Int)).toNat) (by rw [List.length_map]; omega) (by rw [List.getElem?_map, hz]; rfl), ?_⟩
      -- draw['at'] = draw['at'] + 1
      refine ⟨_, rfl, p, _, rfl, (by rw [← dk_at]; exact DGet.k (k := kAt) hp), _, _, rfl, rfl, _, rfl, p, _, rfl, DPut.k (k := kAt) hp (hz4 _ _ _), ?_⟩
      rw [dp_at]
      have hp1 := (upd_same (H := H) (a := p) (o := .dK (drawKv l (a + 1) lf us)))
      -- the test
      refine ⟨_, rfl, _, _, rfl, rfl, ⟨by decide, by decide, by decide⟩, _, _, rfl, rfl, _, rfl, ?_⟩
      have last : ∀ H1 : Hp, H1 p = some (.dK (drawKv l (a + 1) lf us)) → H1 l = some (.lst (cs.map V.int)) → Keep p H H1 → True := fun _ _ _ _ => True.intro
      refine ite2 (fun c1 => ?_) (fun c1 => ?_)
      · refine ⟨_, rfl, p, _, rfl, (by rw [← dk_at]; exact DGet.k (k := kAt) hp1), _, rfl, _, (cs.map V.int).length, rfl, .inl ⟨_, SqL.of (hl' _), rfl⟩, _, _, rfl, rfl, _, rfl, ?_⟩
        refine ite2 (fun c2 => ?_) (fun c2 => ?_)
        · have z0 : (1000000000000000000 : Int) ≤ z := of_decide_eq_true c1
          refine ⟨_, rfl, _, rfl, _, _, rfl, rfl, ⟨b0, b1⟩, _, rfl, p, _, rfl, DPut.k (k := kLeft) hp1 (hz4 _ _ _), ?_⟩
          rw [dp_left]
          refine ⟨_, rfl, _, rfl, _, _, rfl, rfl, b0, ?_⟩
          exact k _ _ (Int.emod_nonneg _ (by omega)) (Int.emod_lt_of_pos _ b0) ⟨l, cs, a + 1, z / b, us, upd_same, by rw [upd_ne npl]; exact hl' _, l0, l1, by omega, by omega, Int.ediv_nonneg (by omega) (by omega), u0, by omega⟩ ((Keep.upd ⟨_, _, _, hp⟩).trans (Keep.upd ⟨_, _, _, upd_same⟩))
        · refine ⟨_, rfl, p, _, rfl, (by rw [← dk_used]; exact DGet.k (k := kUsed) hp1), _, _, rfl, rfl, _, rfl, p, _, rfl, DPut.k (k := kUsed) hp1 (hz4 _ _ _), ?_⟩
          rw [dp_used]
          have hp2 := (upd_same (H := upd H p (.dK (drawKv l (a + 1) lf us))) (a := p) (o := .dK (drawKv l (a + 1) lf (us + 1))))
          refine ⟨_, rfl, _, rfl, p, _, rfl, (by rw [← dk_at]; exact DGet.k (k := kAt) hp2), _, _, rfl, by omega, by omega, fun r1 _ _ => ?_⟩
          refine ⟨_, rfl, p, _, rfl, (by rw [← dk_used]; exact DGet.k (k := kUsed) hp2), _, _, rfl, by omega, by omega, fun r2 _ _ => ?_⟩
          refine ⟨_, rfl, _, _, rfl, rfl, b0, ?_⟩
          exact k _ _ (Int.emod_nonneg _ (by omega)) (Int.emod_lt_of_pos _ b0) ⟨l, cs, a + 1, lf, us + 1, hp2, by rw [upd_ne npl]; exact hl' _, l0, l1, by omega, by omega, f0, by omega, by omega⟩ ((Keep.upd ⟨_, _, _, hp⟩).trans (Keep.upd ⟨_, _, _, upd_same⟩))
      · refine iteF ?_
        refine ⟨_, rfl, p, _, rfl, (by rw [← dk_used]; exact DGet.k (k := kUsed) hp1), _, _, rfl, rfl, _, rfl, p, _, rfl, DPut.k (k := kUsed) hp1 (hz4 _ _ _), ?_⟩
        rw [dp_used]
        have hp2 := (upd_same (H := upd H p (.dK (drawKv l (a + 1) lf us))) (a := p) (o := .dK (drawKv l (a + 1) lf (us + 1))))
        refine ⟨_, rfl, _, rfl, p, _, rfl, (by rw [← dk_at]; exact DGet.k (k := kAt) hp2), _, _, rfl, by omega, by omega, fun r1 _ _ => ?_⟩
        refine ⟨_, rfl, p, _, rfl, (by rw [← dk_used]; exact DGet.k (k := kUsed) hp2), _, _, rfl, by omega, by omega, fun r2 _ _ => ?_⟩
        refine ⟨_, rfl, _, _, rfl, rfl, b0, ?_⟩
        exact k _ _ (Int.emod_nonneg _ (by omega)) (Int.emod_lt_of_pos _ b0) ⟨l, cs, a + 1, lf, us + 1, hp2, by rw [upd_ne npl]; exact hl' _, l0, l1, by omega, by omega, f0, by omega, by omega⟩ ((Keep.upd ⟨_, _, _, hp⟩).trans (Keep.upd ⟨_, _, _, upd_same⟩))
end
end Kz

set_option Elab.async false
set_option linter.all false
set_option maxRecDepth 100000
set_option maxHeartbeats 2000000
namespace Kz
open PySem PySem.Spec PyProof.Rows L2 StX
abbrev sAtom : Stmt := top 30
theorem scAtom : FnScope ["draw", "great", "some"] ["draw"] (defScope sAtom) := ⟨rfl, rfl, rfl, by decide +kernel, rfl, by decide +kernel, by decide +kernel⟩
/-- a text of real signs -/
def lowS (x : Str) : Bool := x.cps.toList.all fun c => decide (c < 16 ^ 8)
/-- an atom -/
inductive At : V → PyData → Prop
  | non : At .non .none
  | bl (b : Bool) : At (.bl b) (.bool b)
  | int (i : Int) : -big < i → i < big → At (.int i) (.int i)
  | str (x : Str) : x.length ≤ 2000 → lowS x = true → At (.str x) (.str x)
def spAtom : Sp := fun vs H Q _ => ∃ (p : Addr) (N : Nat), vs = [.ref p] ∧ DrawAt H p N ∧ N < 100000 ∧ ∀ v d H', At v d → DrawAt H' p (N + 4) → Keep p H H' → Q v H'
/-- the defs that draw -/
structure Dr (K : PySem.W.Frag) (mg : Str → Option Value) : Prop where
  begin_ : ∃ f fd, FnP K "_law_begin" sBegin f fd ∧ mg "_law_begin" = some (.ref f)
  mixed : ∃ f fd, FnP K "_law_mixed" sMixed f fd ∧ mg "_law_mixed" = some (.ref f)
  next : ∃ f fd, FnP K "_law_next" sNext f fd ∧ mg "_law_next" = some (.ref f)
theorem low_app {x y : Str} (h : lowS x = true) (k : lowS y = true) : lowS (x ++ y) = true := by
  show (x.cps ++ y.cps).toList.all _ = true
  rw [Array.toList_append, List.all_append]
  have a : (x.cps.toList.all fun c => decide (c < 16 ^ 8)) = true := h
  have b : (y.cps.toList.all fun c => decide (c < 16 ^ 8)) = true := k
  rw [a, b]
  rfl
theorem low_repA (a : Array Nat) (h : (a.toList.all fun c => decide (c < 16 ^ 8)) = true) : ∀ (n : Nat) (b : Array Nat), (b.toList.all fun c => decide (c < 16 ^ 8)) = true → (((List.replicate n a).foldl (· ++ ·) b).toList.all fun c => decide (c < 16 ^ 8)) = true
  | 0, b, k => k
  | n + 1, b, k => by
    rw [List.replicate_succ, List.foldl_cons]
    refine low_repA a h n _ ?_
    rw [Array.toList_append, List.all_append, k, h]
    rfl
theorem low_rep (n : Nat) : lowS ⟨(List.replicate n ("x" : Str).cps).foldl (· ++ ·) #[]⟩ = true := low_repA _ (by decide +kernel) n #[] rfl
theorem low_key {r : Int} (h : 0 ≤ r) (k : r < 12) : lowS ("key" ++ (toString r : Str)) = true := by
  refine low_app (by decide +kernel) ?_
  obtain ⟨j, rfl⟩ := Int.eq_ofNat_of_zero_le h
  have hj : j < 12 := by omega
  match j, hj with
  | 0, _ => decide +kernel
  | 1, _ => decide +kernel
  | 2, _ => decide +kernel
  | 3, _ => decide +kernel
  | 4, _ => decide +kernel
  | 5, _ => decide +kernel
  | 6, _ => decide +kernel
  | 7, _ => decide +kernel
  | 8, _ => decide +kernel
  | 9, _ => decide +kernel
  | 10, _ => decide +kernel
  | 11, _ => decide +kernel
theorem sz (n : Nat) (h : n ≤ 1000) : n ≤ sizeLine := Nat.le_trans h (by decide)
section
variable {P : Program} {w : World} {K : PySem.W.Frag} {mg : Str → Option Value} {base : Heap}
theorem ok_atom {f : Addr} {fd : FuncData} (F : FnP K "_law_atom" sAtom f fd) (N : Nm K mg) (D : Dr K mg) : FnOk P w K mg base CX0 3 f fd ["draw"] spAtom := by
  obtain ⟨fX, dX, FX, gX⟩ := D.next
  obtain ⟨fM, dM, FM, gM⟩ := D.mixed
  have GX : FnOk P w K mg base CX0 2 fX dX ["draw", "bound"] spNext := ok_next FX FM gM N.len
  have bX : Binds K dX ["draw", "bound"] [] := FX.bindsN fun _ _ _ _ _ _ us hl => match us, hl with | [_, _], _ => rfl
  refine F.ok scAtom (fun vs H Q E h => ?_) (fun cdv A outer s H vs Q E hr h => ?_)
  · obtain ⟨p, N, rfl, _⟩ := h
    rfl
  · refine ⟨_, PSs.nox (pss_cons (ps_set (i := 1) scAtom.nd rfl (Or.inl rfl) (pe_op op_sub (pe_op op_powW (pe_op op_pow pe_int pe_int) pe_int) pe_int))
      (pss_cons (ps_set (i := 2) scAtom.nd rfl (Or.inl rfl) (pe_lst (pa_cons pe_non (pa_cons pe_bl (pa_cons pe_bl (pa_cons (pe_op op_sub (pe_call GX hr (by rfl) gX FX.kp bX .nil pass0 (pa_cons (pv 0) (pa_cons pe_int pa_nil))) pe_int) (pa_cons (pv 1) (pa_cons (pe_op op_sub pe_int (pv 1))
          (pa_cons (pe_op op_add (pe_op op_pow pe_int pe_int) (pe_call GX hr (by rfl) gX FX.kp bX .nil pass0 (pa_cons (pv 0) (pa_cons pe_int pa_nil)))) pa_nil)))))))))
      (pss_cons (ps_set (i := 2) scAtom.nd rfl (Or.inl rfl) (pe_op op_catS (pv 2) (pe_lst (pa_cons pe_str (pa_cons pe_str (pa_cons pe_str (pa_cons pe_str (pa_cons pe_str (pa_cons (pe_op op_mulS pe_str pe_int) (pa_cons (pe_op op_add_str pe_str (pe_callTy call_str_int (by rfl) N.str (by decide +kernel) (pa_cons (pe_call GX hr (by rfl) gX FX.kp bX .nil pass0 (pa_cons (pv 0) (pa_cons pe_int pa_nil))) pa_nil)))
          (pa_cons pe_int (pa_cons pe_int pa_nil))))))))))))
      (pss_one (ps_ret (pe_ix ix_list (pv 2) (pe_call GX hr (by rfl) gX FX.kp bX .nil pass0 (pa_cons (pv 0) (pa_cons pe_int pa_nil))) (fun _ _ => rfl))))))), ?_⟩
    obtain ⟨p, n, rfl, D0, hn, k⟩ := h
    refine ⟨_, _, rfl, rfl, ⟨by decide, by decide, by decide⟩, _, _, rfl, rfl, ⟨by decide, by decide +kernel⟩, _, _, rfl, rfl, ?_⟩
    have eg : (10 ^ (60 : Int).toNat : Int) ^ (5 : Int).toNat - 1 = big - 1 := by decide +kernel
    refine ⟨_, rfl, p, 600, n, rfl, D0, by omega, by decide, by decide, fun r1 H1 a1 b1 D1 k1 => ?_⟩
    refine ⟨_, _, rfl, rfl, _, rfl, _, rfl, _, _, rfl, rfl, _, _, rfl, rfl, ⟨by decide, by decide, by decide⟩, _, rfl, p, 9, n + 1, rfl, D1, by omega, by decide, by decide, fun r2 H2 a2 b2 D2 k2 => ?_⟩
    refine ⟨_, _, rfl, rfl, sz 7 (by decide), fun l1 n1 => ?_⟩
    have s3 := same_new (o := .lst [.non, .bl true, .bl false, .int (r1 - 300), .int ((10 ^ (60 : Int).toNat : Int) ^ (5 : Int).toNat - 1), .int (0 - ((10 ^ (60 : Int).toNat : Int) ^ (5 : Int).toNat - 1)), .int (10 ^ (40 : Int).toNat + r2)]) n1
    refine ⟨_, rfl, _, 2000, rfl, rfl, by decide, by decide +kernel, by decide +kernel, _, rfl, p, 12, n + 2, rfl, D2.same s3, by omega, by decide, by decide, fun r3 H3 a3 b3 D3 k3 => ?_⟩
    have lg : r3.natAbs.log2 < 1920 := Nat.lt_of_le_of_lt (Nat.log2_le_self _) (by omega)
    have tl : ((toString r3 : Str)).length ≤ 1921 := int_text_len_1921 lg
    refine ⟨r3, rfl, lg, _, _, rfl, rfl, Nat.le_trans (Nat.add_le_add_left tl _) (by decide +kernel), sz 9 (by decide), fun l2 n2 => ?_⟩
    have nl1 : l1 ≠ p := (D2.same s3).ne upd_same fun kvs z => by cases z
    have h3 := k3 l1 _ upd_same nl1
    have s4 := same_new (o := .lst [.str "", .str "a", .str "salt", .str "two\nlines", .str "q\"\\", .str ⟨(List.replicate 2000 ("x" : Str).cps).foldl (· ++ ·) #[]⟩, .str ("key" ++ (toString r3 : Str)), .int 0, .int 1]) n2
    refine ⟨l1, l2, _, _, rfl, rfl, SqL.of (s4 _ _ h3), SqL.of upd_same, sz 16 (by decide), fun l3 n3 => ?_⟩
    have s5 := same_new (o := .lst ([.non, .bl true, .bl false, .int (r1 - 300), .int ((10 ^ (60 : Int).toNat : Int) ^ (5 : Int).toNat - 1), .int (0 - ((10 ^ (60 : Int).toNat : Int) ^ (5 : Int).toNat - 1)), .int (10 ^ (40 : Int).toNat + r2)] ++ [.str "", .str "a", .str "salt", .str "two\nlines", .str "q\"\\", .str ⟨(List.replicate 2000 ("x" : Str).cps).foldl (· ++ ·) #[]⟩, .str ("key" ++ (toString r3 : Str)), .int 0, .int 1])) n3
    have D5 := (D3.same s4).same s5
    refine ⟨_, rfl, _, rfl, p, 16, n + 3, rfl, D5, by omega, by decide, by decide, fun r4 H4 a4 b4 D4 k4 => ?_⟩
    have nl3 : l3 ≠ p := D5.ne upd_same fun kvs z => by cases z
    have h5 := k4 l3 _ upd_same nl3
    have kp : Keep p H H4 := k1.trans (k2.trans ((Keep.of s3).trans (k3.trans ((Keep.of s4).trans ((Keep.of s5).trans k4)))))
    obtain ⟨j, rfl⟩ := Int.eq_ofNat_of_zero_le a4
    have hj : j < 16 := by omega
    rw [eg] at h5
    have key : ∃ v d, ([.non, .bl true, .bl false, .int (r1 - 300), .int (big - 1), .int (0 - (big - 1)), .int (10 ^ (40 : Int).toNat + r2)] ++ [.str "", .str "a", .str "salt", .str "two\nlines", .str "q\"\\", .str ⟨(List.replicate 2000 ("x" : Str).cps).foldl (· ++ ·) #[]⟩, .str ("key" ++ (toString r3 : Str)), .int 0, .int 1] : List V)[j]? = some v ∧ At v d := by
      have c1 : (1000 : Int) < big := by decide +kernel
      have c2 : (10 ^ (40 : Int).toNat : Int) + 1000 < big := by decide +kernel
      have c3 : (0 : Int) ≤ 10 ^ (40 : Int).toNat := by decide +kernel
      match j, hj with
      | 0, _ => exact ⟨_, _, rfl, .non⟩
      | 1, _ => exact ⟨_, _, rfl, .bl _⟩
      | 2, _ => exact ⟨_, _, rfl, .bl _⟩
      | 3, _ => exact ⟨_, _, rfl, .int _ (by omega) (by omega)⟩
      | 4, _ => exact ⟨_, _, rfl, .int _ (by omega) (by omega)⟩
      | 5, _ => exact ⟨_, _, rfl, .int _ (by omega) (by omega)⟩
      | 6, _ => exact ⟨_, _, rfl, .int _ (by omega) (by omega)⟩
      | 7, _ => exact ⟨_, _, rfl, .str _ (by decide) (by decide +kernel)⟩
      | 8, _ => exact ⟨_, _, rfl, .str _ (by decide) (by decide +kernel)⟩
      | 9, _ => exact ⟨_, _, rfl, .str _ (by decide) (by decide +kernel)⟩
      | 10, _ => exact ⟨_, _, rfl, .str _ (by decide) (by decide +kernel)⟩
      | 11, _ => exact ⟨_, _, rfl, .str _ (by decide) (by decide +kernel)⟩
      | 12, _ => exact ⟨_, _, rfl, .str _ (by show Array.size _ ≤ 2000; rw [size_rep]; decide) (low_rep 2000)⟩
      | 13, _ => exact ⟨_, _, rfl, .str _ (by rw [strLen_append]; exact Nat.le_trans (Nat.add_le_add_left tl _) (by decide)) (low_key a3 b3)⟩
      | 14, _ => exact ⟨_, _, rfl, .int _ (by omega) (by omega)⟩
      | 15, _ => exact ⟨_, _, rfl, .int _ (by omega) (by omega)⟩
    obtain ⟨v, d, hv, ha⟩ := key
    exact ⟨l3, _, _, v, rfl, rfl, SqL.of h5, at_of rfl hv, k v d H4 ha D4 kp⟩
/-- what is short enough to be shown -/
structure Shw (d : PyData) : Prop where
  show_ : d.showable = true
  wt_ : wt d ≤ 20200
  dep : d.depth ≤ 9
theorem low_lenS {x : Str} (h : lowS x = true) (hl : x.length ≤ 2001) : wt (.str x) ≤ 20100 := by
  have z := StrLaws.reprText_len x fun c m => of_decide_eq_true (List.all_eq_true.mp h c m)
  show (reprText x).length ≤ 20100
  omega
theorem int_show {i : Int} (h : i.natAbs ≤ big.toNat) : (PyData.int i).showable = true := by
  show decide (i.natAbs.log2 < 1920) = true
  rw [decide_eq_true_iff]
  by_cases z : i.natAbs = 0
  · rw [z]
    decide
  · rw [Nat.log2_lt z]
    have b : big.toNat < 2 ^ 1920 := by decide +kernel
    exact Nat.lt_of_le_of_lt h b
theorem at_ok {v : V} {d : PyData} (h : At v d) : fits d ∧ Shw d ∧ isA d = true ∧ ∀ K H, Sd K H v d := by
  cases h with
  | non => exact ⟨fun x e => (by cases e), ⟨rfl, by decide, Nat.zero_le _⟩, rfl, fun _ _ => .non⟩
  | bl b => exact ⟨fun x e => (by cases e), ⟨rfl, (by show 5 ≤ 20200; decide), Nat.zero_le _⟩, rfl, fun _ _ => .bl b⟩
  | int i h1 h2 =>
    refine ⟨fun x e => (by cases e), ⟨int_show (by omega), (by show 1921 ≤ 20200; decide), Nat.zero_le _⟩, ?_, fun _ _ => .int i⟩
    show (decide (-big < i) && decide (i < big)) = true
    rw [decide_eq_true h1, decide_eq_true h2]
    rfl
  | str x hl hw =>
    refine ⟨fun y e => (by cases e; exact Nat.le_trans hl (by decide)), ⟨rfl, Nat.le_trans (low_lenS hw (by omega)) (by decide), Nat.zero_le _⟩, ?_, fun _ _ => .str x⟩
    show decide (x.length ≤ 2000) = true
    exact decide_eq_true hl
abbrev bE : Int := (10 ^ (60 : Int).toNat) ^ (5 : Int).toNat
theorem bE_eq : bE = big := by decide +kernel
theorem odd_str {x : Str} (h : 2000 < x.length) : isA (.str x) = false := by
  show decide (x.length ≤ 2000) = false
  exact decide_eq_false (by omega)
/-- no value -/
abbrev sOdd : Stmt := top 31
theorem scOdd : FnScope ["draw", "great"] ["draw"] (defScope sOdd) := ⟨rfl, rfl, rfl, by decide +kernel, rfl, by decide +kernel, by decide +kernel⟩
structure OddD (d : PyData) : Prop where
  fit : fits d
  shw : Shw d
  no : isA d = false
def spOdd (K : PySem.W.Frag) : Sp := fun vs H Q _ => ∃ (p : Addr) (N : Nat), vs = [.ref p] ∧ DrawAt H p N ∧ N < 100000 ∧ ∀ v d H', OddD d → (∀ H2, Keep p H' H2 → Sd K H2 v d) → DrawAt H' p (N + 1) → Keep p H H' → Q v H'
theorem ok_odd {f : Addr} {fd : FuncData} (F : FnP K "_law_odd" sOdd f fd) (N : Nm K mg) (D : Dr K mg) : FnOk P w K mg base CX0 3 f fd ["draw"] (spOdd K) := by
  obtain ⟨fX, dX, FX, gX⟩ := D.next
  obtain ⟨fM, dM, FM, gM⟩ := D.mixed
  have GX : FnOk P w K mg base CX0 2 fX dX ["draw", "bound"] spNext := ok_next FX FM gM N.len
  have bX : Binds K dX ["draw", "bound"] [] := FX.bindsN fun _ _ _ _ _ _ us hl => match us, hl with | [_, _], _ => rfl
  refine F.ok scOdd (fun vs H Q E h => ?_) (fun cdv A outer s H vs Q E hr h => ?_)
  · obtain ⟨p, N, rfl, _⟩ := h
    rfl
  · refine ⟨_, PSs.nox (pss_cons (ps_set (i := 1) scOdd.nd rfl (Or.inl rfl) (pe_op op_powW (pe_op op_pow pe_int pe_int) pe_int))
      (pss_one (ps_ret (pe_ix ix_list (pe_lst (pa_cons (pv 1) (pa_cons (pe_op op_sub pe_int (pv 1)) (pa_cons (pe_op op_mulS pe_str pe_int) (pa_cons (pe_lst (pa_cons pe_int pa_nil)) (pa_cons (pe_tup (pa_cons pe_int pa_nil)) (pa_cons pe_dnewK
          (pa_cons (pe_disp (pps_cons pe_str pe_int pps_nil) (by rfl) (by rfl) (fun z => by cases z) (by decide)) (pa_cons (pe_tup pa_nil) (pa_cons (pe_lst pa_nil) (pa_cons (pe_tup (pa_cons pe_str (pa_cons pe_int pa_nil))) pa_nil)))))))))))
        (pe_call GX hr (by rfl) gX FX.kp bX .nil pass0 (pa_cons (pv 0) (pa_cons pe_int pa_nil))) (fun _ _ => rfl))))), ?_⟩
    obtain ⟨p, n, rfl, D0, hn, k⟩ := h
    refine ⟨_, _, rfl, rfl, ⟨by decide, by decide, by decide⟩, _, _, rfl, rfl, ⟨by decide, by decide +kernel⟩, ?_⟩
    refine ⟨_, rfl, _, rfl, _, _, rfl, rfl, _, 2001, rfl, rfl, by decide, by decide +kernel, by decide +kernel, sz 1 (by decide), fun a1 n1 => ⟨sz 1 (by decide), fun a2 n2 => fun a3 n3 => fun a4 n4 => ⟨upd_same, [(.inr "a", .int 1)], rfl, by decide, Nat.zero_le _, fun a5 n5 => ⟨Nat.zero_le _, fun a6 n6 => ⟨sz 2 (by decide), fun a7 n7 => ⟨sz 10 (by decide), fun l nl => ?_⟩⟩⟩⟩⟩⟩
    have em : mergeK [] [((.inr "a" : Key), V.int 1)] = [(.inr "a", .int 1)] := by kernel_rfl
    rw [em] at *
    have u1 := same_new (o := .lst [.int 1]) n1
    have u2 := same_new (o := .tup [.int 1]) n2
    have u3 := same_new (o := .dK []) n3
    have u4 : Same (upd (upd (upd H a1 (.lst [.int 1])) a2 (.tup [.int 1])) a3 (.dK [])) (upd (upd (upd (upd (upd H a1 (.lst [.int 1])) a2 (.tup [.int 1])) a3 (.dK [])) a4 (.dK [])) a4 (.dK [(.inr "a", .int 1)])) := same_updN (same_new n4) n4
    have u5 := same_new (o := .tup []) n5
    have u6 := same_new (o := .lst []) n6
    have u7 := same_new (o := .tup [.str "a", .int 2]) n7
    have u8 := same_new (o := .lst [.int bE, .int (0 - bE), .str ⟨(List.replicate 2001 ("x" : Str).cps).foldl (· ++ ·) #[]⟩, .ref a1, .ref a2, .ref a3, .ref a4, .ref a5, .ref a6, .ref a7]) nl
    have t7 := u7.tr u8
    have t6 := u6.tr t7
    have t5 := u5.tr t6
    have t4 := u4.tr t5
    have t3 := u3.tr t4
    have t2 := u2.tr t3
    have t1 := u1.tr t2
    have D1 := D0.same t1
    have p0 : ∃ o, H p = some o := by
      obtain ⟨_, _, _, _, _, h1, _⟩ := D0
      exact ⟨_, h1⟩
    have nep : ∀ {H1 : Hp} {a : Addr}, Same H H1 → H1 a = none → a ≠ p := fun s n z => by
      obtain ⟨o, h1⟩ := p0
      rw [z, s _ _ h1] at n
      cases n
    refine ⟨_, rfl, p, 10, n, rfl, D1, by omega, by decide, by decide, fun r H1 ra rb D2 k2 => ?_⟩
    have kp : Keep p H H1 := (Keep.of t1).trans k2
    have q1 := k2 a1 _ (t2 _ _ upd_same) (nep Same.refl' n1)
    have q2 := k2 a2 _ (t3 _ _ upd_same) (nep u1 n2)
    have q3 := k2 a3 _ (t4 _ _ upd_same) (nep (u1.tr u2) n3)
    have q4 := k2 a4 _ (t5 _ _ upd_same) (nep (u1.tr (u2.tr u3)) n4)
    have q5 := k2 a5 _ (t6 _ _ upd_same) (nep (u1.tr (u2.tr (u3.tr u4))) n5)
    have q6 := k2 a6 _ (t7 _ _ upd_same) (nep (u1.tr (u2.tr (u3.tr (u4.tr u5)))) n6)
    have q7 := k2 a7 _ (u8 _ _ upd_same) (nep (u1.tr (u2.tr (u3.tr (u4.tr (u5.tr u6))))) n7)
    have ql := k2 l _ upd_same (nep (u1.tr (u2.tr (u3.tr (u4.tr (u5.tr (u6.tr u7)))))) nl)
    obtain ⟨v, d, hv, hd, hs⟩ : ∃ v d, ([.int bE, .int (0 - bE), .str ⟨(List.replicate 2001 ("x" : Str).cps).foldl (· ++ ·) #[]⟩, .ref a1, .ref a2, .ref a3, .ref a4, .ref a5, .ref a6, .ref a7] : List V)[r.toNat]? = some v ∧ OddD d ∧ ∀ H2, Keep p H1 H2 → Sd K H2 v d := by
      obtain ⟨j, rfl⟩ := Int.eq_ofNat_of_zero_le ra
      have hj : j < 10 := by omega
      match j, hj with
      | 0, _ => exact ⟨_, .int bE, rfl, ⟨fun x e => (by cases e), ⟨int_show (by rw [bE_eq]; decide +kernel), (by show 1921 ≤ 20200; decide), Nat.zero_le _⟩, by decide +kernel⟩, fun _ _ => .int _⟩
      | 1, _ => exact ⟨_, .int (0 - bE), rfl, ⟨fun x e => (by cases e), ⟨int_show (by rw [bE_eq]; decide +kernel), (by show 1921 ≤ 20200; decide), Nat.zero_le _⟩, by decide +kernel⟩, fun _ _ => .int _⟩
      | 2, _ => exact ⟨_, .str _, rfl, ⟨fun x e => (by cases e; show Array.size _ ≤ sizeLine; rw [size_rep]; decide), ⟨rfl, Nat.le_trans (low_lenS (low_rep 2001) (by show Array.size _ ≤ 2001; rw [size_rep]; decide)) (by decide), Nat.zero_le _⟩, odd_str (by show 2000 < Array.size _; rw [size_rep]; decide)⟩, fun _ _ => .str _⟩
      | 3, _ => exact ⟨_, .list [.int 1], rfl, ⟨fun x e => (by cases e), ⟨by decide, by decide, by decide⟩, rfl⟩, fun H2 k3 => .lst (SqL.of (k3 a1 _ q1 (nep Same.refl' n1))) (.cons (.int 1) .nil)⟩
      | 4, _ => exact ⟨_, .tuple [.int 1], rfl, ⟨fun x e => (by cases e), ⟨by decide, by decide, by decide⟩, rfl⟩, fun H2 k3 => .tup (SqT.of (k3 a2 _ q2 (nep u1 n2))) (.cons (.int 1) .nil)⟩
      | 5, _ => exact ⟨_, .dict [], rfl, ⟨fun x e => (by cases e), ⟨by decide, by decide, by decide⟩, rfl⟩, fun H2 k3 => .emp (k3 a3 _ q3 (nep (u1.tr u2) n3))⟩
      | 6, _ => exact ⟨_, .dict [(.str "a", .int 1)], rfl, ⟨fun x e => (by cases e), ⟨by decide, by decide +kernel, by decide⟩, rfl⟩, fun H2 k3 => .one (k := .inr "a") (k3 a4 _ q4 (nep (u1.tr (u2.tr u3)) n4)) (.int 1)⟩
      | 7, _ => exact ⟨_, .tuple [], rfl, ⟨fun x e => (by cases e), ⟨by decide, by decide, by decide⟩, rfl⟩, fun H2 k3 => .tup (SqT.of (k3 a5 _ q5 (nep (u1.tr (u2.tr (u3.tr u4))) n5))) .nil⟩
      | 8, _ => exact ⟨_, .list [], rfl, ⟨fun x e => (by cases e), ⟨by decide, by decide, by decide⟩, rfl⟩, fun H2 k3 => .lst (SqL.of (k3 a6 _ q6 (nep (u1.tr (u2.tr (u3.tr (u4.tr u5)))) n6))) .nil⟩
      | 9, _ => exact ⟨_, .tuple [.str "a", .int 2], rfl, ⟨fun x e => (by cases e), ⟨by decide, by decide +kernel, by decide⟩, rfl⟩, fun H2 k3 => .tup (SqT.of (k3 a7 _ q7 (nep (u1.tr (u2.tr (u3.tr (u4.tr (u5.tr u6))))) n7))) (.cons (.str _) (.cons (.int 2) .nil))⟩
    exact ⟨l, _, _, v, rfl, rfl, SqL.of ql, at_of (Int.toNat_of_nonneg ra).symm hv, k v d H1 hd hs D2 kp⟩
end
end Kz

set_option Elab.async false
set_option linter.all false
set_option maxRecDepth 100000
set_option maxHeartbeats 2000000
namespace Kz
open PySem PySem.Spec PyProof.Rows L2 StX ClX
abbrev sLike : Stmt := top 32
abbrev sAll : Stmt := top 33
theorem scLike : FnScope ["one", "other"] ["one", "other"] (defScope sLike) := ⟨rfl, rfl, rfl, by decide +kernel, rfl, by decide +kernel, by decide +kernel⟩
theorem scAll : FnScope ["some", "others", "k"] ["some", "others"] (defScope sAll) := ⟨rfl, rfl, rfl, by decide +kernel, rfl, by decide +kernel, by decide +kernel⟩
/-- a thing that can be shown, if it is to be -/
def shwT : Tk → Prop
  | .dat d => Shw d
  | .nod _ => True
theorem Shw.fit {d : PyData} (h : Shw d) : d.depth ≤ 40 ∧ d.shown.length ≤ sizeLine := ⟨Nat.le_trans h.dep (by decide), shown_fits h.show_ (Nat.le_trans h.wt_ (by decide))⟩
/-- alike: the same -/
def spLike (K : PySem.W.Frag) : Sp := fun vs H Q _ => ∃ (v : V) (k : Tk), vs = [v, v] ∧ Tv K (CN K) H v k ∧ shwT k ∧ Q (.bl true) H
/-- a list or tuple of these -/
def Sq (K : PySem.W.Frag) (H : Hp) (a : Addr) (ws : List V) : Prop := SqL K H a ws ∨ SqT K H a ws
theorem Sq.to {K : PySem.W.Frag} {H H' : Hp} {a : Addr} {ws : List V} (s : Same H H') (h : Sq K H a ws) : Sq K H' a ws := h.imp (fun z => s.seq z) (fun z => sqT_to s z)
def spAll (K : PySem.W.Frag) : Sp := fun vs H Q _ => ∃ (a b : Addr) (ws : List V) (ks : List Tk), vs = [.ref a, .ref b] ∧ Sq K H a ws ∧ Sq K H b ws ∧ TvAll K (CN K) H ws ks ∧ (∀ k ∈ ks, shwT k) ∧ ws.length ≤ 100 ∧ ∀ H', Same H H' → Q (.bl true) H'
section
variable {P : Program} {w : World} {K : PySem.W.Frag} {mg : Str → Option Value} {base : Heap}
theorem ok_like {f : Addr} {fd : FuncData} (F : FnP K "_law_like" sLike f fd) (N : Nm K mg) (SY : SysK K) : FnG P w K mg base CX0 2 f fd ["one", "other"] (spLike K) := by
  refine F.okG scLike (fun vs H Q E h => ?_) (fun cdv A outer s H vs Q E hgu hr h => ?_)
  · obtain ⟨v, k, rfl, _⟩ := h
    rfl
  · have hu1 := Nat.lt_of_succ_lt (hu_of hr)
    refine ⟨_, PSs.nox (pss_cons (ps_if (PW.pt (pw_or (pt_val (pe_callB (call_isN N.dat) (by rfl) N.isi (by decide +kernel) (pa_cons (pv 0) (pa_cons (pe_glob (v := .ref (CN K)) (by rfl) N.node rfl) pa_nil))))
          (pw_or1 (pt_val (pe_callB (call_isN N.dat) (by rfl) N.isi (by decide +kernel) (pa_cons (pv 1) (pa_cons (pe_glob (v := .ref (CN K)) (by rfl) N.node rfl) pa_nil)))))))
        (pss_one (ps_ret (pe_cmpR (op_eqO hu1) (pv 0) (pv 1) (nomark _)))) pss_nil)
      (pss_one (ps_ret (pe_cmpR op_eq (pe_callB (call_repr hgu hr SY) (by rfl) N.repr boot_repr (pa_cons (pv 0) pa_nil)) (pe_callB (call_repr hgu hr SY) (by rfl) N.repr boot_repr (pa_cons (pv 1) pa_nil)) (nomark _))))), ?_⟩
    obtain ⟨v, k, rfl, hv, hs, q⟩ := h
    refine ⟨_, rfl, v, k, rfl, hv, _, rfl, ?_⟩
    cases k with
    | nod C =>
      obtain ⟨n, a, dx, fs, rfl, e⟩ := hv
      refine iteT (iteT ⟨_, rfl, _, rfl, a, a, C, C, dx, dx, fs, fs, true, rfl, rfl, e, e, n.eqc, n.eqc, n.mro, ?_⟩)
      rw [decide_eq_true rfl]
      exact q
    | dat d =>
      refine iteF ⟨_, rfl, v, _, rfl, hv, _, rfl, iteF ?_⟩
      have hs' : Shw d := hs
      refine ⟨_, rfl, v, d, rfl, hv, hs'.show_, hs'.fit.1, hs'.fit.2, _, rfl, v, d, rfl, hv, hs'.show_, hs'.fit.1, hs'.fit.2, rfl, ?_⟩
      rw [decide_eq_true rfl]
      exact q
theorem ok_all {f : Addr} {fd : FuncData} (F : FnP K "_law_all_like" sAll f fd) (N : Nm K mg) (SY : SysK K) (L : ∃ f fd, FnP K "_law_like" sLike f fd ∧ mg "_law_like" = some (.ref f)) : FnG P w K mg base CX0 3 f fd ["some", "others"] (spAll K) := by
  obtain ⟨fl, dl, FL, gL⟩ := L
  have GL : FnG P w K mg base CX0 2 fl dl ["one", "other"] (spLike K) := ok_like FL N SY
  have bL : Binds K dl ["one", "other"] [] := FL.bindsN fun _ _ _ _ _ _ us hl => match us, hl with | [_, _], _ => rfl
  refine F.okG scAll (fun vs H Q E h => ?_) (fun cdv A outer s H vs Q E hgu hr h => ?_)
  · obtain ⟨a, b, ws, ks, rfl, _⟩ := h
    rfl
  · have hu1 := Nat.lt_of_succ_lt (hu_of hr)
    refine ⟨_, PSs.nox (pss_cons (ps_if (pt_cmpR op_ne (pe_callB call_len (by rfl) N.len PySem.boot_len (pa_cons (pv 0) pa_nil)) (pe_callB call_len (by rfl) N.len PySem.boot_len (pa_cons (pv 1) pa_nil)) (nomark _)) (pss_one (ps_ret pe_bl)) pss_nil)
      (pss_one (ps_ret (pe_cmpR (op_eqN hu1) (pe_lc (own := [("k", 2)]) (g := gName 2) rfl scAll.nd (pi_range1 (by rfl) N.rng (pa_cons (pe_callB call_len (by rfl) N.len PySem.boot_len (pa_cons (pv 0) pa_nil)) pa_nil)) (blkOk_by (own := [("k", 2)]) (N := ["some", "others", "k"]) (sc := defScope sAll) (by decide +kernel))
          (fun _ _ _ _ _ => pg_name (i := 2) scAll.nd rfl (Or.inl rfl)) (fun _ _ _ _ _ => pts_one (pt_not (pt_val (pe_callG hgu GL hr (by rfl) gL FL.kp bL .nil pass0 (pa_cons (pe_ix (show IxR _ (rIx K) from ix_seq) (pv 0) (pv 2) (fun _ _ => rfl)) (pa_cons (pe_ix (show IxR _ (rIx K) from ix_seq) (pv 1) (pv 2) (fun _ _ => rfl)) pa_nil)))))) (fun _ _ _ _ _ => pv 2)) (pe_lst pa_nil) (nomark _))))), ?_⟩
    obtain ⟨a, b, ws, ks, rfl, ha, hb, hk, hs, hl, q⟩ := h
    have lenOf : ∀ {H' : Hp} {c : Addr}, Sq K H' c ws → (∃ xs, SqL K H' c xs ∧ ws.length = xs.length) ∨ ∃ xs, SqT K H' c xs ∧ ws.length = xs.length := fun h => h.imp (fun z => ⟨ws, z, rfl⟩) (fun z => ⟨ws, z, rfl⟩)
    have ixOf : ∀ {H' : Hp} {c : Addr} {i : Nat} {v : V} {Qx : VK}, Sq K H' c ws → ws[i]? = some v → Qx v H' → rIx K (.ref c) (.int (0 + (i : Int))) H' Qx := fun {H' c i v Qx} h e z => by
      rcases h with h | h
      · exact .inl ⟨c, ws, _, v, rfl, rfl, h, at_of (Int.zero_add _) e, z⟩
      · exact .inr (.inl ⟨c, ws, _, v, rfl, rfl, h, at_of (Int.zero_add _) e, z⟩)
    refine ⟨_, rfl, _, ws.length, rfl, lenOf ha, _, rfl, _, ws.length, rfl, lenOf hb, rfl, false, by rw [decide_eq_true rfl]; rfl, iteF ?_⟩
    refine ⟨_, rfl, _, ws.length, rfl, lenOf ha, _, rfl, by omega, by omega, fun D nD => lc_it walk_range (fun i H' => Same H H' ∧ H' D = some (.lst [])) ⟨same_new nD, upd_same⟩ (fun _ _ _ _ => True.intro) ?_ ?_⟩
    · rintro i x H' H'' hi ⟨s1, hD⟩ ⟨rfl, rfl⟩
      have hi' : i < ws.length := by omega
      obtain ⟨v, hv⟩ : ∃ v, ws[i]? = some v := ⟨_, List.getElem?_eq_getElem hi'⟩
      obtain ⟨k, ek, tv⟩ := tvall_get hk hv
      refine ⟨rfl, ?_⟩
      refine ⟨_, rfl, _, rfl, ixOf (ha.to s1) hv ⟨_, rfl, _, rfl, ixOf (hb.to s1) hv ⟨v, k, rfl, tv_to tv s1, hs k (List.mem_of_getElem? ek), _, rfl, iteF ⟨s1, hD⟩⟩⟩⟩
    · rintro H1 ⟨s1, hD⟩
      exact ⟨Nat.zero_le _, fun p np => ⟨D, p, [], rfl, rfl, SqL.of ((same_new np) _ _ hD), SqL.of upd_same, q _ (s1.tr (same_new np))⟩⟩
end
end Kz

set_option Elab.async false
set_option linter.all false
set_option maxRecDepth 100000
set_option maxHeartbeats 2000000
namespace Kz
open PySem PySem.Spec PyProof.Rows L2 StX ClX
/-- an error that the law catches -/
structure CatchF (K : PySem.W.Frag) (mg : Str → Option Value) (CE : Addr) (x fld : Str) : Prop where
  fam : ∃ CJ CS CM : Addr, mg "JarError" = some (.ref CJ) ∧ mg "StateError" = some (.ref CS) ∧ mg "MissingError" = some (.ref CM) ∧ PySem.W.exmAny K (.ref CE) [.ref CJ, .ref CS, .ref CM] = some true
  xc : Xc K CE
  no : PySem.W.findIn K (.ref CE) fld = some none
  nm : mg x = some (.ref CE)
  kit : PySem.W.kitOne K (.ref CE) (.ref CE) = some true
abbrev CP (K : PySem.W.Frag) : Addr := gC K "Pack"
abbrev CR (K : PySem.W.Frag) : Addr := gC K "Row"
abbrev CV (K : PySem.W.Frag) : Addr := gC K "InvalidValue"
abbrev CI (K : PySem.W.Frag) : Addr := gC K "InvalidIndex"
/-- the classes Pack and Row -/
structure PackF (K : PySem.W.Frag) (mg : Str → Option Value) : Prop where
  cls : Cls K (CP K)
  noP : NoAttr K (CP K) "_parts"
  nm : mg "Pack" = some (.ref (CP K))
  nod : NodC K (CN K) (CP K)
  init : ∃ f fd, Mk K (CP K) f ∧ FnM K "__init__" "Pack.__init__" sPackI [] f fd
  of : ∃ mc p g fd, CRead K (CP K) mc ∧ CMet K (CP K) mc "of" p g ∧ FnM K "of" "Pack.of" sPackOf [] g fd
  parts : ∃ p g fd, PropOf K (CP K) "parts" p g ∧ FnM K "parts" "Pack.parts" sPackP [] g fd
  shape : ∃ p g fd u, PropOf K (CP K) "shape" p g ∧ FnM K "shape" "Node.shape" sShape [] g fd ∧ Con K (CP K) "SHAPE" (.str "pack") u
  kids : ∃ f fd, Meth K (CP K) "children" f ∧ FnM K "children" "Node.children" sChildren [] f fd
  cont : ∃ f fd, Meth K (CP K) "_contents" f ∧ FnM K "_contents" "Pack._contents" sPackC [] f fd
structure RowF (K : PySem.W.Frag) (mg : Str → Option Value) : Prop where
  cls : Cls K (CR K)
  noS : NoAttr K (CR K) "_sequence"
  nm : mg "Row" = some (.ref (CR K))
  nod : NodC K (CN K) (CR K)
  init : ∃ f fd, Mk K (CR K) f ∧ FnM K "__init__" "Row.__init__" sRowI [] f fd
  of : ∃ mc p g fd, CRead K (CR K) mc ∧ CMet K (CR K) mc "of" p g ∧ FnM K "of" "Row.of" sRowOf [] g fd
  parts : ∃ p g fd, PropOf K (CR K) "parts" p g ∧ FnM K "parts" "Row.parts" sRowP [] g fd
  shape : ∃ p g fd u, PropOf K (CR K) "shape" p g ∧ FnM K "shape" "Node.shape" sShape [] g fd ∧ Con K (CR K) "SHAPE" (.str "row") u
  kids : ∃ f fd, Meth K (CR K) "children" f ∧ FnM K "children" "Node.children" sChildren [] f fd
  cont : ∃ f fd, Meth K (CR K) "_contents" f ∧ FnM K "_contents" "Row._contents" sRowC [] f fd
  putL : ∃ f fd, Meth K (CR K) "put_last" f ∧ FnM K "put_last" "Row.put_last" sRowL [] f fd
  putA : ∃ f fd, Meth K (CR K) "put_at" f ∧ FnM K "put_at" "Row.put_at" sRowA [] f fd
def NodK (K : PySem.W.Frag) (kind : Int) (H : Hp) (n : Addr) (ws : List V) : Prop := (kind = 0 ∧ NodAt (CP K) "_parts" HO.tup H n ws) ∨ (kind = 1 ∧ NodAt (CR K) "_sequence" HO.lst H n ws)
def MkK (K : PySem.W.Frag) (kind : Int) (ws : List V) (ks : List Tk) (H : Hp) (Q : VK) (E : XK) : Prop :=
  TvAll K (CN K) H ws ks ∧ ws.length ≤ 60 ∧ (∀ k ∈ ks, fitsT k) ∧ (badAt ks = none → ∀ n H', Same H H' → H n = none → NodK K kind H' n ws → Fr "_sequence" H H' n → Q (.ref n) H') ∧ (∀ n v, badAt ks = some n → ws[n]? = some v → Err (CV K) "value" v H E)
theorem MkK.p {K : PySem.W.Frag} {ws : List V} {ks : List Tk} {H : Hp} {Q : VK} {E : XK} (m : MkK K 0 ws ks H Q E) : MkSeq K (CP K) "_parts" HO.tup (CV K) ws ks H Q E :=
  ⟨m.1, m.2.1, m.2.2.1, fun b n H' h1 h2 h3 _ => m.2.2.2.1 b n H' h1 h2 (.inl ⟨rfl, h3⟩) (fun C dx p z => by
    obtain ⟨dx', p', h, _⟩ := h3
    rw [h] at z
    cases z), m.2.2.2.2⟩
theorem MkK.r {K : PySem.W.Frag} {ws : List V} {ks : List Tk} {H : Hp} {Q : VK} {E : XK} (m : MkK K 1 ws ks H Q E) : MkSeq K (CR K) "_sequence" HO.lst (CV K) ws ks H Q E :=
  ⟨m.1, m.2.1, m.2.2.1, fun b n H' h1 h2 h3 h4 => m.2.2.2.1 b n H' h1 h2 (.inr ⟨rfl, h3⟩) h4, m.2.2.2.2⟩
theorem MkK.to {K : PySem.W.Frag} {kind : Int} {ws : List V} {ks : List Tk} {H H1 : Hp} {Q : VK} {E : XK} (s : Same H H1) (m : MkK K kind ws ks H Q E) : MkK K kind ws ks H1 Q E := by
  obtain ⟨m1, m2, m3, m4, m5⟩ := m
  exact ⟨tvall_to s m1, m2, m3, fun b n H' h1 h2 h3 h4 => m4 b n H' (s.tr h1) (none_of s h2) h3 fun C' dx' p' z => none_of s (h4 C' dx' p' z), fun n v b e => err_to s (m5 n v b e)⟩
def spPutL (K : PySem.W.Frag) : Sp := fun vs H Q E => ∃ (a dx q : Addr) (xs : List V) (v : V) (k : Tk), vs = [.ref a, v] ∧ H a = some (.ins (CR K) dx [("_sequence", .ref q)]) ∧ H q = some (.lst xs) ∧ xs.length < 1000 ∧ Tv K (CN K) H v k ∧ fitsT k ∧
  (okT k = true → Q .non (upd H q (.lst (xs ++ [v])))) ∧ (okT k = false → Err (CV K) "value" v H E)
/-- the index is one -/
def ixT (n : Nat) : Tk → Option Nat
  | .dat (.int i) => if 0 ≤ i ∧ i < n then some i.toNat else none
  | _ => none
def spPutA (K : PySem.W.Frag) : Sp := fun vs H Q E => ∃ (a dx q : Addr) (xs : List V) (iv v : V) (ki k : Tk), vs = [.ref a, iv, v] ∧ H a = some (.ins (CR K) dx [("_sequence", .ref q)]) ∧ H q = some (.lst xs) ∧ xs.length < 1000 ∧ Tv K (CN K) H iv ki ∧ fitsT ki ∧ Tv K (CN K) H v k ∧ fitsT k ∧
  (∀ j, ixT xs.length ki = some j → (okT k = true → Q .non (upd H q (.lst (xs.set j v)))) ∧ (okT k = false → Err (CV K) "value" v H E)) ∧ (ixT xs.length ki = none → Err (CI K) "index" iv H E)
def spSingle (K : PySem.W.Frag) : Sp := fun vs H Q E => ∃ (kind : Int) (l : Addr) (ws : List V) (ks : List Tk), vs = [.int kind, .ref l] ∧ (kind = 0 ∨ kind = 1) ∧ SqL K H l ws ∧ ws.length < 4 ∧ MkK K kind ws ks H Q E
def spMade (K : PySem.W.Frag) : Sp := fun vs H Q _ => ∃ (kind : Int) (l : Addr) (ws : List V) (ks : List Tk), vs = [.int kind, .ref l] ∧ (kind = 0 ∨ kind = 1) ∧ SqL K H l ws ∧ TvAll K (CN K) H ws ks ∧ ws.length ≤ 60 ∧ (∀ k ∈ ks, fitsT k) ∧
  (badAt ks = none → ∀ n p H', Same H H' → H n = none → NodK K kind H' n ws → H' p = some (.lst [.str "made", .ref n]) → Q (.ref p) H') ∧
  (∀ i v, badAt ks = some i → ws[i]? = some v → ∀ p H', Same H H' → H' p = some (.lst [.str "value", v]) → Q (.ref p) H')
section
variable {P : Program} {w : World} {K : PySem.W.Frag} {mg : Str → Option Value} {base : Heap}
theorem scRowL : FnScope ["self", "value"] ["self", "value"] (defScope sRowL) := ⟨rfl, rfl, rfl, by decide +kernel, rfl, by decide +kernel, by decide +kernel⟩
theorem scRowA : FnScope ["self", "index", "value"] ["self", "index", "value"] (defScope sRowA) := ⟨rfl, rfl, rfl, by decide +kernel, rfl, by decide +kernel, by decide +kernel⟩
theorem ok_putL {f : Addr} {fd : FuncData} (B : RowF K mg) (F : FnM K "put_last" "Row.put_last" sRowL [] f fd) (N : Nm K mg) (T : Ts K mg) (S : Es P w K mg base) (R : Rq K mg) : FnOk P w K mg base (L2.CX P w) 6 f fd ["self", "value"] (spPutL K) := by
  obtain ⟨fr, dr, FR, gR⟩ := R.req
  have GR : FnOk P w K mg base (L2.CX P w) 5 fr dr ["value"] (spReq K (gC K "InvalidValue")) := ok_req FR N T S
  have bR : Binds K dr ["value"] [] := FR.bindsN fun _ _ _ _ _ _ us hl => match us, hl with | [_], _ => rfl
  refine F.ok scRowL (fun vs H Q E h => ?_) (fun cdv A outer s H vs Q E hr h => ?_)
  · obtain ⟨a, dx, q, xs, v, k, rfl, _⟩ := h
    rfl
  · refine ⟨_, pss_cons (ps_expr (pe_callS GR hr (by rfl) gR FR.kp bR (fun σ => passAt (takes_of rfl rfl rfl rfl) σ) (pa_cons (pv 1) pa_nil)))
      (pss_one (ps_expr (pe_bm PySem.F.plainAttrs_list PySem.F.slot_list_append PySem.F.type_list_append mt_append (pe_fld (pv 0) (by rfl)) (pa_cons (pv 1) pa_nil)))), ?_⟩
    obtain ⟨a, dx, q, xs, v, k, rfl, ha, hq, hl, tv, hf, k1, k2⟩ := h
    refine ⟨_, rfl, v, k, rfl, tv, hf, fun o => ?_, fun o => k2 o⟩
    exact ⟨_, rfl, a, CR K, dx, _, .ref q, rfl, ha, B.cls, B.noS, rfl, .inl ⟨rfl, _, SqL.of hq⟩, _, rfl, q, xs, v, rfl, rfl, hq, Nat.lt_of_lt_of_le hl (by decide), k1 o⟩
theorem ok_putA {f : Addr} {fd : FuncData} (B : RowF K mg) (F : FnM K "put_at" "Row.put_at" sRowA [] f fd) (N : Nm K mg) (T : Ts K mg) (S : Es P w K mg base) (R : Rq K mg) : FnOk P w K mg base (L2.CX P w) 6 f fd ["self", "index", "value"] (spPutA K) := by
  obtain ⟨fr, dr, FR, gR⟩ := R.req
  obtain ⟨fi, di, FI, gI⟩ := T.isI
  have GR : FnOk P w K mg base (L2.CX P w) 5 fr dr ["value"] (spReq K (gC K "InvalidValue")) := ok_req FR N T S
  have GI : FnOk P w K mg base CX0 1 fi di ["thing"] (spTest K isI false) := ok_isInt FI N
  have bR : Binds K dr ["value"] [] := FR.bindsN fun _ _ _ _ _ _ us hl => match us, hl with | [_], _ => rfl
  have bI : Binds K di ["thing"] [] := FI.bindsN fun _ _ _ _ _ _ us hl => match us, hl with | [_], _ => rfl
  refine F.ok scRowA (fun vs H Q E h => ?_) (fun cdv A outer s H vs Q E hr h => ?_)
  · obtain ⟨a, dx, q, xs, iv, v, ki, k, rfl, _⟩ := h
    rfl
  · refine ⟨_, pss_cons (ps_if (PW.pt (pw_or (pt_not (pt_val (pe_call GI (hr.mono (by decide)) (by rfl) gI FI.kp bI .nil pass0 (pa_cons (pv 1) pa_nil))))
          (pw_or1 (pt_not (pt_chain op_le op_lt pe_int (pv 1) (pe_callB call_len (by rfl) N.len PySem.boot_len (pa_cons (pe_fld (pv 0) (by rfl)) pa_nil)))))))
        (pss_one (ps_x1 rfl (takes_of rfl rfl rfl rfl) S.idx (hr.mono (by decide)) (by rfl) (pv 1))) pss_nil)
      (pss_cons (ps_expr (pe_callS GR hr (by rfl) gR FR.kp bR (fun σ => passAt (takes_of rfl rfl rfl rfl) σ) (pa_cons (pv 2) pa_nil)))
      (pss_one (ps_asg (pv 2) (pg_sub (pe_fld (pv 0) (by rfl)) (pv 1) set_list)))), ?_⟩
    obtain ⟨a, dx, q, xs, iv, v, ki, k, rfl, ha, hq, hl, ti, fi', tv, fv, k1, k2⟩ := h
    have bad : ixT xs.length ki = none → Err (CI K) "index" iv H E := k2
    refine ⟨_, rfl, iv, ki, rfl, ti, fi', _, rfl, ?_⟩
    cases ki with
    | nod C => exact iteT (iteT ⟨_, rfl, iv, rfl, fun dd H' n s x => bad rfl dd H' n s x⟩)
    | dat d =>
      cases d with
      | int i =>
        obtain rfl : iv = V.int i := by
          cases ti
          rfl
        refine iteF ⟨_, rfl, _, _, rfl, rfl, _, rfl, ?_⟩
        by_cases c1 : 0 ≤ i
        · rw [decide_eq_true c1]
          refine iteT ⟨_, rfl, a, CR K, dx, _, .ref q, rfl, ha, B.cls, B.noS, rfl, _, xs.length, rfl, .inl ⟨xs, SqL.of hq, rfl⟩, _, _, rfl, rfl, _, rfl, ?_⟩
          by_cases c2 : i < (xs.length : Int)
          · rw [decide_eq_true c2]
            have ei : ixT xs.length (.dat (.int i)) = some i.toNat := if_pos ⟨c1, c2⟩
            obtain ⟨g1, g2⟩ := k1 _ ei
            refine iteF ⟨_, rfl, v, k, rfl, tv, fv, fun o => ?_, fun o => g2 o⟩
            refine ⟨_, rfl, _, rfl, a, CR K, dx, _, .ref q, rfl, ha, B.cls, B.noS, rfl, _, rfl, q, xs, i, i.toNat, rfl, rfl, hq, ?_, g1 o⟩
            show (if 0 ≤ i then (if i < (xs.length : Int) then some i.toNat else none) else _) = some i.toNat
            rw [if_pos c1, if_pos c2]
          · rw [decide_eq_false c2]
            exact iteT ⟨_, rfl, _, rfl, fun dd H' n s x => bad (if_neg fun z => c2 z.2) dd H' n s x⟩
        · rw [decide_eq_false c1]
          exact iteF ⟨_, rfl, iteT ⟨_, rfl, _, rfl, fun dd H' n s x => bad (if_neg fun z => c1 z.1) dd H' n s x⟩⟩
      | none => exact iteT (iteT ⟨_, rfl, iv, rfl, fun dd H' n s x => bad rfl dd H' n s x⟩)
      | bool b => exact iteT (iteT ⟨_, rfl, iv, rfl, fun dd H' n s x => bad rfl dd H' n s x⟩)
      | str b => exact iteT (iteT ⟨_, rfl, iv, rfl, fun dd H' n s x => bad rfl dd H' n s x⟩)
      | list b => exact iteT (iteT ⟨_, rfl, iv, rfl, fun dd H' n s x => bad rfl dd H' n s x⟩)
      | tuple b => exact iteT (iteT ⟨_, rfl, iv, rfl, fun dd H' n s x => bad rfl dd H' n s x⟩)
      | dict b => exact iteT (iteT ⟨_, rfl, iv, rfl, fun dd H' n s x => bad rfl dd H' n s x⟩)
/-! ### the law makes nodes -/
abbrev sSingle : Stmt := top 34
abbrev sMade : Stmt := top 35
theorem scSingle : FnScope ["kind", "some"] ["kind", "some"] (defScope sSingle) := ⟨rfl, rfl, rfl, by decide +kernel, rfl, by decide +kernel, by decide +kernel⟩
theorem ok_single {f : Addr} {fd : FuncData} (F : FnP K "_law_single" sSingle f fd) (N : Nm K mg) (T : Ts K mg) (S : Es P w K mg base) (R : Rq K mg) (BP : PackF K mg) (BR : RowF K mg) : FnOk P w K mg base (L2.CX P w) 9 f fd ["kind", "some"] (spSingle K) := by
  obtain ⟨fp, dp, MP, FP⟩ := BP.init
  obtain ⟨fr, dr, MR, FR⟩ := BR.init
  have GP : FnR P w K mg base (L2.CX P w) 7 fp (spInit K (CP K) "_parts" HO.tup (gC K "InvalidValue")) := ok_packI BP.cls BP.noP FP N T S R
  have GR : FnR P w K mg base (L2.CX P w) 7 fr (spInit K (CR K) "_sequence" HO.lst (gC K "InvalidValue")) := ok_rowI BR.cls BR.noS FR N T S R
  refine F.ok scSingle (fun vs H Q E h => ?_) (fun cdv A outer s H vs Q E hr h => ?_)
  · obtain ⟨v, d, ws, ks, rfl, _⟩ := h
    rfl
  · have hu1 := Nat.lt_of_succ_lt (hu_of hr)
    have tk : Takes (cxOf (L2.CX P w) P w K mg base ["kind", "some"] "_law_single" (defScope sSingle) f cdv A outer s H E) (fun cls d _ H => E cls d H) := takes_of rfl rfl rfl rfl
    refine ⟨_, pss_cons (ps_if (pt_cmpR op_eq (pv 0) pe_int (nomark _))
        (pss_cons (ps_if (pt_cmpR op_lt (pe_callB call_len (by rfl) N.len PySem.boot_len (pa_cons (pv 1) pa_nil)) pe_int (nomark _))
            (pss_one (ps_ret (pe_ifExp (pt_cmpR (op_eqN hu1) (pv 1) (pe_lst pa_nil) (nomark _))
              (pe_makeR0 MP GP hr (by rfl) BP.nm (passes_call tk fun _ _ _ _ h => h))
              (pe_makeR MP GP hr (by rfl) BP.nm (passes_call tk fun _ _ _ _ h => h) (pa_cons (pe_ix ix_list (pv 1) pe_int (fun _ _ => rfl)) pa_nil))))) pss_nil)
          (pss_one (ps_ret (pe_ifExp (pt_cmpR op_eq (pe_callB call_len (by rfl) N.len PySem.boot_len (pa_cons (pv 1) pa_nil)) pe_int (nomark _))
            (pe_makeR MP GP hr (by rfl) BP.nm (passes_call tk fun _ _ _ _ h => h) (pa_cons (pe_ix ix_list (pv 1) pe_int (fun _ _ => rfl)) (pa_cons (pe_ix ix_list (pv 1) pe_int (fun _ _ => rfl)) pa_nil)))
            (pe_makeR MP GP hr (by rfl) BP.nm (passes_call tk fun _ _ _ _ h => h) (pa_cons (pe_ix ix_list (pv 1) pe_int (fun _ _ => rfl)) (pa_cons (pe_ix ix_list (pv 1) pe_int (fun _ _ => rfl)) (pa_cons (pe_ix ix_list (pv 1) pe_int (fun _ _ => rfl)) pa_nil)))))))) pss_nil)
      (pss_cons (ps_if (pt_cmpR op_lt (pe_callB call_len (by rfl) N.len PySem.boot_len (pa_cons (pv 1) pa_nil)) pe_int (nomark _))
            (pss_one (ps_ret (pe_ifExp (pt_cmpR (op_eqN hu1) (pv 1) (pe_lst pa_nil) (nomark _))
              (pe_makeR0 MR GR hr (by rfl) BR.nm (passes_call tk fun _ _ _ _ h => h))
              (pe_makeR MR GR hr (by rfl) BR.nm (passes_call tk fun _ _ _ _ h => h) (pa_cons (pe_ix ix_list (pv 1) pe_int (fun _ _ => rfl)) pa_nil))))) pss_nil)
        (pss_one (ps_ret (pe_ifExp (pt_cmpR op_eq (pe_callB call_len (by rfl) N.len PySem.boot_len (pa_cons (pv 1) pa_nil)) pe_int (nomark _))
            (pe_makeR MR GR hr (by rfl) BR.nm (passes_call tk fun _ _ _ _ h => h) (pa_cons (pe_ix ix_list (pv 1) pe_int (fun _ _ => rfl)) (pa_cons (pe_ix ix_list (pv 1) pe_int (fun _ _ => rfl)) pa_nil)))
            (pe_makeR MR GR hr (by rfl) BR.nm (passes_call tk fun _ _ _ _ h => h) (pa_cons (pe_ix ix_list (pv 1) pe_int (fun _ _ => rfl)) (pa_cons (pe_ix ix_list (pv 1) pe_int (fun _ _ => rfl)) (pa_cons (pe_ix ix_list (pv 1) pe_int (fun _ _ => rfl)) pa_nil)))))))), ?_⟩
    obtain ⟨kind, l, ws, ks, rfl, hk, hq, hl, m⟩ := h
    rcases hk with rfl | rfl
    · have m := m.p
      refine ⟨_, rfl, rfl, true, by rw [decide_eq_true rfl], iteT ?_⟩
      refine ⟨_, rfl, _, ws.length, rfl, .inl ⟨ws, hq, rfl⟩, _, _, rfl, rfl, _, rfl, ?_⟩
      match ws, hq, m, hl with
      | [], hq, m, _ =>
        refine iteT ⟨_, rfl, Nat.zero_le _, fun q nq => ⟨l, q, [], rfl, rfl, (same_new nq).seq hq, SqL.of upd_same, _, rfl, iteT ?_⟩⟩
        exact fun n dx hn hd ne => mkSeq (mkSeq_to (same_new nq) m) n dx hn hd ne
      | [a], hq, m, _ =>
        refine iteT ⟨_, rfl, Nat.zero_le _, fun q nq => ⟨l, q, [a], rfl, rfl, (same_new nq).seq hq, SqL.of upd_same, _, rfl, iteF ?_⟩⟩
        exact ⟨_, rfl, l, _, 0, _, rfl, rfl, (same_new nq).seq hq, at_of (j := 0) rfl rfl, fun n dx hn hd ne => mkSeq (mkSeq_to (same_new nq) m) n dx hn hd ne⟩
      | [a, b], hq, m, _ =>
        refine iteF ⟨_, rfl, _, 2, rfl, .inl ⟨_, hq, rfl⟩, rfl, _, rfl, iteT ?_⟩
        exact ⟨_, rfl, l, _, 0, _, rfl, rfl, hq, at_of (j := 0) rfl rfl, _, rfl, l, _, 1, _, rfl, rfl, hq, at_of (j := 1) rfl rfl, fun n dx hn hd ne => mkSeq m n dx hn hd ne⟩
      | [a, b, d], hq, m, _ =>
        refine iteF ⟨_, rfl, _, 3, rfl, .inl ⟨_, hq, rfl⟩, rfl, _, rfl, iteF ?_⟩
        exact ⟨_, rfl, l, _, 0, _, rfl, rfl, hq, at_of (j := 0) rfl rfl, _, rfl, l, _, 1, _, rfl, rfl, hq, at_of (j := 1) rfl rfl, _, rfl, l, _, 2, _, rfl, rfl, hq, at_of (j := 2) rfl rfl, fun n dx hn hd ne => mkSeq m n dx hn hd ne⟩
      | _ :: _ :: _ :: _ :: r, _, _, hl => exact absurd hl (by simp only [List.length_cons]; omega)
    · have m := m.r
      refine ⟨_, rfl, rfl, false, by rw [decide_eq_false (by decide)], iteF ?_⟩
      refine ⟨_, rfl, _, ws.length, rfl, .inl ⟨ws, hq, rfl⟩, _, _, rfl, rfl, _, rfl, ?_⟩
      match ws, hq, m, hl with
      | [], hq, m, _ =>
        refine iteT ⟨_, rfl, Nat.zero_le _, fun q nq => ⟨l, q, [], rfl, rfl, (same_new nq).seq hq, SqL.of upd_same, _, rfl, iteT ?_⟩⟩
        exact fun n dx hn hd ne => mkSeq (mkSeq_to (same_new nq) m) n dx hn hd ne
      | [a], hq, m, _ =>
        refine iteT ⟨_, rfl, Nat.zero_le _, fun q nq => ⟨l, q, [a], rfl, rfl, (same_new nq).seq hq, SqL.of upd_same, _, rfl, iteF ?_⟩⟩
        exact ⟨_, rfl, l, _, 0, _, rfl, rfl, (same_new nq).seq hq, at_of (j := 0) rfl rfl, fun n dx hn hd ne => mkSeq (mkSeq_to (same_new nq) m) n dx hn hd ne⟩
      | [a, b], hq, m, _ =>
        refine iteF ⟨_, rfl, _, 2, rfl, .inl ⟨_, hq, rfl⟩, rfl, _, rfl, iteT ?_⟩
        exact ⟨_, rfl, l, _, 0, _, rfl, rfl, hq, at_of (j := 0) rfl rfl, _, rfl, l, _, 1, _, rfl, rfl, hq, at_of (j := 1) rfl rfl, fun n dx hn hd ne => mkSeq m n dx hn hd ne⟩
      | [a, b, d], hq, m, _ =>
        refine iteF ⟨_, rfl, _, 3, rfl, .inl ⟨_, hq, rfl⟩, rfl, _, rfl, iteF ?_⟩
        exact ⟨_, rfl, l, _, 0, _, rfl, rfl, hq, at_of (j := 0) rfl rfl, _, rfl, l, _, 1, _, rfl, rfl, hq, at_of (j := 1) rfl rfl, _, rfl, l, _, 2, _, rfl, rfl, hq, at_of (j := 2) rfl rfl, fun n dx hn hd ne => mkSeq m n dx hn hd ne⟩
      | _ :: _ :: _ :: _ :: r, _, _, hl => exact absurd hl (by simp only [List.length_cons]; omega)
end
end Kz

set_option Elab.async false
set_option linter.all false
set_option maxRecDepth 100000
set_option maxHeartbeats 4000000
namespace Kz
open PySem PySem.Spec PyProof.Rows L2 StX ClX
theorem NodAt.to {C : Addr} {fld : Str} {ho : List V → HO} {H H' : Hp} {n : Addr} {ws : List V} (s : Same H H') (h : NodAt C fld ho H n ws) : NodAt C fld ho H' n ws := by
  obtain ⟨dx, p, h1, h2⟩ := h
  exact ⟨dx, p, s _ _ h1, s _ _ h2⟩
theorem NodK.to {K : PySem.W.Frag} {kind : Int} {H H' : Hp} {n : Addr} {ws : List V} (h : NodK K kind H n ws) (s : Same H H') : NodK K kind H' n ws := h.imp (fun z => ⟨z.1, z.2.to s⟩) (fun z => ⟨z.1, z.2.to s⟩)
def rTupOf (K : PySem.W.Frag) : List V → Hp → VK → Prop := fun xs H Q => ∃ p ys, xs = [V.ref p] ∧ ((SqL K H p ys ∧ ∀ (l : Addr), H l = none → Q (V.ref l) (upd H l (HO.tup ys))) ∨ SqT K H p ys ∧ Q (V.ref p) H)
def rLenK (K : PySem.W.Frag) : List V → Hp → VK → Prop := fun xs H Q => ∃ (x : V) (n : Nat), xs = [x] ∧ LenV K x H n ∧ Q (V.int (n : Int)) H
abbrev NM : List Str := ["kind", "some", "caught", "found", "e"]
theorem scMade : FnScope NM ["kind", "some"] (defScope sMade) := ⟨rfl, rfl, rfl, by decide +kernel, rfl, by decide +kernel, by decide +kernel⟩
section
variable {P : Program} {w : World} {K : PySem.W.Frag} {mg : Str → Option Value} {base : Heap}
theorem ok_made {f : Addr} {fd : FuncData} (F : FnP K "_law_made" sMade f fd) (N : Nm K mg) (T : Ts K mg) (S : Es P w K mg base) (R : Rq K mg) (BP : PackF K mg) (BR : RowF K mg) (CF : CatchF K mg (CV K) "InvalidValue" "value") (LS : ∃ f fd, FnP K "_law_single" sSingle f fd ∧ mg "_law_single" = some (.ref f)) :
    FnOk P w K mg base CX0 10 f fd ["kind", "some"] (spMade K) := by
  obtain ⟨fp, dp, MP, FP⟩ := BP.init
  obtain ⟨fr, dr, MR, FR⟩ := BR.init
  obtain ⟨mp, pp, gp, dO, rP, cP, FOP⟩ := BP.of
  obtain ⟨mr, pr, gr, dR, rR, cR, FOR⟩ := BR.of
  obtain ⟨fs, ds, FS, gS⟩ := LS
  obtain ⟨CJ, CSt, CM, mJ, mS, mM, exm⟩ := CF.fam
  have GP : FnR P w K mg base (L2.CX P w) 7 fp (spInit K (CP K) "_parts" HO.tup (gC K "InvalidValue")) := ok_packI BP.cls BP.noP FP N T S R
  have GR : FnR P w K mg base (L2.CX P w) 7 fr (spInit K (CR K) "_sequence" HO.lst (gC K "InvalidValue")) := ok_rowI BR.cls BR.noS FR N T S R
  have OP : FnOk P w K mg base (L2.CX P w) 9 gp dO ["cls", "parts"] (spOf K (CP K) "_parts" HO.tup (gC K "InvalidValue")) := ok_packOf FOP N S R MP GP
  have OR_ : FnOk P w K mg base (L2.CX P w) 9 gr dR ["cls", "parts"] (spOf K (CR K) "_sequence" HO.lst (gC K "InvalidValue")) := ok_rowOf FOR N S R MR GR
  have GS : FnOk P w K mg base (L2.CX P w) 9 fs ds ["kind", "some"] (spSingle K) := ok_single FS N T S R BP BR
  have bS : Binds K ds ["kind", "some"] [] := FS.bindsN fun _ _ _ _ _ _ us hl => match us, hl with | [_, _], _ => rfl
  have kP : ∀ (s : Shared) (ws : List Value), K.In s.heap → ws.length = 1 → BindsTo s dO ⟨[Value.ref (CP K)], (["parts"] : List Str).zip ws⟩ ((["cls", "parts"] : List Str).zip (Value.ref (CP K) :: ws)) := fun s ws hK hl => by
    obtain ⟨oc, od, dV, kV, doc, pm, an, cdv, ct, osl, rfl, lk, hcd, hD, hK'⟩ := FOP.ex
    obtain rfl : dV = .none := hD.elim (fun z => z.2) fun z => absurd rfl z.1
    match ws, hl with
    | [_], _ => exact .of_eq rfl
  have kR : ∀ (s : Shared) (ws : List Value), K.In s.heap → ws.length = 1 → BindsTo s dR ⟨[Value.ref (CR K)], (["parts"] : List Str).zip ws⟩ ((["cls", "parts"] : List Str).zip (Value.ref (CR K) :: ws)) := fun s ws hK hl => by
    obtain ⟨oc, od, dV, kV, doc, pm, an, cdv, ct, osl, rfl, lk, hcd, hD, hK'⟩ := FOR.ex
    obtain rfl : dV = .none := hD.elim (fun z => z.2) fun z => absurd rfl z.1
    match ws, hl with
    | [_], _ => exact .of_eq rfl
  refine F.ok scMade (fun vs H Q E h => ?_) (fun cdv A outer s H vs Q E hr h => ?_)
  · obtain ⟨v, d, ws, ks, rfl, _⟩ := h
    rfl
  · refine ⟨_, pss_cons (ps_asg (pe_tup (pa_cons pe_non (pa_cons pe_non pa_nil))) (pg_tup rfl (pgs_cons (pg_name (i := 2) scMade.nd rfl (Or.inl rfl)) (pgs_cons (pg_name (i := 3) scMade.nd rfl (Or.inl rfl)) pgs_nil))))
      (pss_cons (ps_try_kept (i := 4) (j := 2) (Wout := fun _ _ _ _ => False) rfl rfl rfl scMade.nd rfl rfl rfl rfl (by rfl) mJ (by rfl) mS (by rfl) mM (fun u s' z => by obtain ⟨_, _, _, _, _, _, _, _, _, _, _, _, _, _, _, _, z⟩ := z; exact z.elim)
        (fun W pn xe tk' _ => pss_one (ps_if (pt_cmpR op_lt (pe_callB (show CallR _ (.builtin "len") (rLenK K) from call_len) (by rfl) N.len PySem.boot_len (pa_cons (pv 1) pa_nil)) pe_int (nomark _))
          (pss_one (ps_set (i := 3) scMade.nd rfl (Or.inl rfl) (pe_callS (E := WE W) GS hr (by rfl) gS FS.kp bS (fun σ => passAt tk' σ) (pa_cons (pv 0) (pa_cons (pv 1) pa_nil)))))
          (pss_one (ps_set (i := 3) scMade.nd rfl (Or.inl rfl) (pe_ifExp (pt_cmpR op_eq (pv 0) pe_int (nomark _))
            (pe_cmethKSg (E := WE W) (gv := fun ws => ws) (gV := fun zs => zs) (ks := ["parts"]) (pe_glob (v := .ref (CP K)) (by rfl) BP.nm rfl) rP cP OP hr (fun σ => passAt tk' σ) kP (fun r => r) (pk_cons (pe_callTy (show CallR _ (.type "tuple") (rTupOf K) from call_tuple_of) (by rfl) N.tuple (by decide +kernel) (pa_cons (pv 1) pa_nil)) pk_nil))
            (pe_cmethKSg (E := WE W) (gv := fun ws => ws) (gV := fun zs => zs) (ks := ["parts"]) (pe_glob (v := .ref (CR K)) (by rfl) BR.nm rfl) rR cR OR_ hr (fun σ => passAt tk' σ) kR (fun r => r) (pk_cons (pe_callTy (show CallR _ (.type "tuple") (rTupOf K) from call_tuple_of) (by rfl) N.tuple (by decide +kernel) (pa_cons (pv 1) pa_nil)) pk_nil))))))))
      (pss_cons (ps_if (pt_cmp (pc_isN (pv 2))) (pss_one (ps_ret (pe_lst (pa_cons pe_str (pa_cons (pv 3) pa_nil))))) pss_nil)
      (pss_one (ps_ret (pe_ifExp (pt_val (pe_callB call_isX (by rfl) N.isi (by decide +kernel) (pa_cons (pv 2) (pa_cons (pe_glob (v := .ref (CV K)) (by rfl) CF.nm rfl) pa_nil))))
        (pe_lst (pa_cons pe_str (pa_cons (pe_xfd (pv 2)) pa_nil))) (pe_lst (pa_cons pe_str pa_nil))))))), ?_⟩
    obtain ⟨kind, l, ws, ks, rfl, hk, hq, tv, hl, hf, k1, k2⟩ := h
    refine ⟨sz 2 (by decide), fun p0 n0 => ⟨p0, _, rfl, SqT.of upd_same, rfl, _, _, rfl, _, _, rfl, rfl, ?_⟩⟩
    have s0 := same_new (o := .tup [V.non, V.non]) n0
    have hq0 := s0.seq hq
    refine ⟨_, rfl, _, ws.length, rfl, .inl ⟨ws, hq0, rfl⟩, _, _, rfl, rfl, _, rfl, ?_⟩
    by_cases c : (ws.length : Int) < 4
    · rw [decide_eq_true c]
      refine iteT ⟨_, rfl, _, rfl, kind, l, ws, ks, rfl, hk, hq0, by omega, tvall_to s0 tv, hl, hf, fun b n H2 s2 nn nk _ => ?_, fun i v b e dd H2 nd' s2 hx => ⟨true, exm, fun _ => ⟨_, dd, rfl, rfl, fun a na => ?_⟩, fun z => by cases z⟩⟩
      · refine ⟨_, rfl, true, rfl, iteT ⟨_, rfl, sz 2 (by decide), fun p np => ?_⟩⟩
        exact k1 b n p _ (s0.tr (s2.tr (same_new np))) (none_of s0 nn) (nk.to (same_new np)) upd_same
      · have s3 := same_new (o := exV a (CV K) dd) na
        have ex : ExAt (upd H2 a (exV a (CV K) dd)) a (CV K) [("value", v)] := ⟨dd, upd_same, s3 _ _ hx⟩
        refine ⟨_, rfl, false, rfl, iteF ⟨_, rfl, a, _, _, _, _, true, rfl, ex, CF.xc, fun u r => r, CF.kit, _, rfl, iteT ?_⟩⟩
        exact ⟨_, rfl, a, _, _, v, rfl, ex, CF.xc, CF.no, rfl, sz 2 (by decide), fun p np => k2 i v b e p _ (s0.tr (s2.tr (s3.tr (same_new np)))) upd_same⟩
    · rw [decide_eq_false c]
      refine iteF ?_
      rcases hk with rfl | rfl
      · refine ⟨_, rfl, rfl, true, by rw [decide_eq_true rfl], iteT ⟨rfl, _, rfl, l, ws, rfl, .inl ⟨hq0, fun t nt => ⟨rfl, .ref t, "tuple", rfl, ty_tup (SqT.of upd_same), by decide, .inr ⟨rfl, t, ws, ks, rfl, SqT.of upd_same, mkSeq_to (same_new nt) (MkK.p ⟨tvall_to s0 tv, hl, hf, ?_, ?_⟩)⟩⟩⟩⟩⟩
        · intro b n H2 s2 nn nk _
          refine ⟨_, rfl, true, rfl, iteT ⟨_, rfl, sz 2 (by decide), fun p np => ?_⟩⟩
          exact k1 b n p _ (s0.tr (s2.tr (same_new np))) (none_of s0 nn) (nk.to (same_new np)) upd_same
        · intro i v b e dd H2 nd' s2 hx
          refine ⟨true, exm, fun _ => ⟨_, dd, rfl, rfl, fun a na => ?_⟩, fun z => by cases z⟩
          have s3 := same_new (o := exV a (CV K) dd) na
          have ex : ExAt (upd H2 a (exV a (CV K) dd)) a (CV K) [("value", v)] := ⟨dd, upd_same, s3 _ _ hx⟩
          refine ⟨_, rfl, false, rfl, iteF ⟨_, rfl, a, _, _, _, _, true, rfl, ex, CF.xc, fun u r => r, CF.kit, _, rfl, iteT ?_⟩⟩
          exact ⟨_, rfl, a, _, _, v, rfl, ex, CF.xc, CF.no, rfl, sz 2 (by decide), fun p np => k2 i v b e p _ (s0.tr (s2.tr (s3.tr (same_new np)))) upd_same⟩
      · refine ⟨_, rfl, rfl, false, by rw [decide_eq_false (by decide)], iteF ⟨rfl, _, rfl, l, ws, rfl, .inl ⟨hq0, fun t nt => ⟨rfl, .ref t, "tuple", rfl, ty_tup (SqT.of upd_same), by decide, .inr ⟨rfl, t, ws, ks, rfl, SqT.of upd_same, mkSeq_to (same_new nt) (MkK.r ⟨tvall_to s0 tv, hl, hf, ?_, ?_⟩)⟩⟩⟩⟩⟩
        · intro b n H2 s2 nn nk _
          refine ⟨_, rfl, true, rfl, iteT ⟨_, rfl, sz 2 (by decide), fun p np => ?_⟩⟩
          exact k1 b n p _ (s0.tr (s2.tr (same_new np))) (none_of s0 nn) (nk.to (same_new np)) upd_same
        · intro i v b e dd H2 nd' s2 hx
          refine ⟨true, exm, fun _ => ⟨_, dd, rfl, rfl, fun a na => ?_⟩, fun z => by cases z⟩
          have s3 := same_new (o := exV a (CV K) dd) na
          have ex : ExAt (upd H2 a (exV a (CV K) dd)) a (CV K) [("value", v)] := ⟨dd, upd_same, s3 _ _ hx⟩
          refine ⟨_, rfl, false, rfl, iteF ⟨_, rfl, a, _, _, _, _, true, rfl, ex, CF.xc, fun u r => r, CF.kit, _, rfl, iteT ?_⟩⟩
          exact ⟨_, rfl, a, _, _, v, rfl, ex, CF.xc, CF.no, rfl, sz 2 (by decide), fun p np => k2 i v b e p _ (s0.tr (s2.tr (s3.tr (same_new np)))) upd_same⟩
end
end Kz

set_option Elab.async false
set_option linter.all false
set_option maxRecDepth 100000
set_option maxHeartbeats 4000000
namespace Kz
open PySem PySem.Spec PyProof.Rows L2 StX ClX
abbrev sHolds : Stmt := top 36
abbrev NH : List Str := ["node", "kind", "some", "one"]
theorem scHolds : FnScope NH ["node", "kind", "some"] (defScope sHolds) := ⟨rfl, rfl, rfl, by decide +kernel, rfl, by decide +kernel, by decide +kernel⟩
def spHoldsC (K : PySem.W.Frag) (kind : Int) (C : Addr) (fld : Str) (ho : List V → HO) : Sp := fun vs H Q _ => ∃ (n l : Addr) (ws : List V) (ks : List Tk), vs = [.ref n, .int kind, .ref l] ∧ NodAt C fld ho H n ws ∧ SqL K H l ws ∧ TvAll K (CN K) H ws ks ∧ (∀ k ∈ ks, shwT k) ∧ ws.length ≤ 100 ∧ ∀ H', Same H H' → Q (.bl true) H'
def spHolds (K : PySem.W.Frag) : Sp := fun vs H Q _ => ∃ (kind : Int) (n l : Addr) (ws : List V) (ks : List Tk), vs = [.ref n, .int kind, .ref l] ∧ NodK K kind H n ws ∧ SqL K H l ws ∧ TvAll K (CN K) H ws ks ∧ (∀ k ∈ ks, shwT k) ∧ ws.length ≤ 100 ∧ ∀ H', Same H H' → Q (.bl true) H'
/-- the defs of the law that look -/
structure LkF (K : PySem.W.Frag) (mg : Str → Option Value) : Prop where
  like : ∃ f fd, FnP K "_law_like" sLike f fd ∧ mg "_law_like" = some (.ref f)
  all : ∃ f fd, FnP K "_law_all_like" sAll f fd ∧ mg "_law_all_like" = some (.ref f)
section
variable {P : Program} {w : World} {K : PySem.W.Frag} {mg : Str → Option Value} {base : Heap}
theorem holds_body {f : Addr} {fd : FuncData} {kind : Int} {C : Addr} {fld : Str} {ho : List V → HO} {z : Str} (hz : (kind = 0 ∧ z = "pack") ∨ (kind = 1 ∧ z = "row")) (hf1 : ([(fld, V.non)] : List (Str × V)).lookup ("SHAPE" : Str) = none) (hf2 : ([(fld, V.non)] : List (Str × V)).lookup ("children" : Str) = none) (hf3 : ([(fld, V.non)] : List (Str × V)).lookup ("_contents" : Str) = none)
    (F : FnP K "_law_holds" sHolds f fd) (N : Nm K mg) (SY : SysK K) (L : LkF K mg) (cls : Cls K C)
    {pS gS : Addr} {dS : FuncData} (PS' : PropOf K C "shape" pS gS) (FS : FnM K "shape" "Node.shape" sShape [] gS dS) {u : Value} (CS : Con K C "SHAPE" (.str z) u)
    {pQ gQ : Addr} {dQ : FuncData} (PQ : PropOf K C "parts" pQ gQ) (GQ : FnOk P w K mg base CX0 1 gQ dQ ["self"] (spParts C fld ho)) (bQ : Binds K dQ ["self"] [])
    {fC : Addr} {dC : FuncData} (MC : Meth K C "children" fC) (FC : FnM K "children" "Node.children" sChildren [] fC dC)
    {f0 : Addr} {d0 : FuncData} (M0 : Meth K C "_contents" f0) (G0 : FnOk P w K mg base CX0 3 f0 d0 ["self"] (spParts C fld ho)) (b0 : Binds K d0 ["self"] []) :
    FnG P w K mg base CX0 6 f fd ["node", "kind", "some"] (spHoldsC K kind C fld ho) := by
  obtain ⟨fa, da, FA, gA⟩ := L.all
  have GA : FnG P w K mg base CX0 3 fa da ["some", "others"] (spAll K) := ok_all FA N SY L.like
  have bA : Binds K da ["some", "others"] [] := FA.bindsN fun _ _ _ _ _ _ us hl => match us, hl with | [_, _], _ => rfl
  have GS : FnOk P w K mg base CX0 1 gS dS ["self"] (spShape C z) := ok_shape cls CS FS
  have bS : Binds K dS ["self"] [] := FS.bindsN fun _ _ _ _ _ _ us hl => match us, hl with | [_], _ => rfl
  have bC : Binds K dC ["self"] [] := FC.bindsN fun _ _ _ _ _ _ us hl => match us, hl with | [_], _ => rfl
  have YC : YDef P w K mg base 4 fC dC ["self"] (spKids C (spParts C fld ho)) := ok_kids cls M0 FC G0 b0 fun vs H Q Q' E h z => spParts_mono h z
  have lk : ∀ {m : Str} (v : V), ([(fld, V.non)] : List (Str × V)).lookup m = none → ([(fld, v)] : List (Str × V)).lookup m = none := fun {m} v h => by
    rw [List.lookup_cons] at h ⊢
    cases e : (m == fld) with
    | true =>
      rw [e] at h
      cases h
    | false => rfl
  refine F.okG scHolds (fun vs H Q E h => ?_) (fun cdv A outer s H vs Q E hgu hr h => ?_)
  · obtain ⟨n, l, ws, ks, rfl, _⟩ := h
    rfl
  · refine ⟨_, PSs.nox (pss_cons (ps_if (PW.pt (pw_or (pt_cmpR op_ne (pe_prop (pv 0) cls PS' GS (hr.mono (by decide)) bS .nil pass0 (by rfl)) (pe_ix ix_list (pe_lst (pa_cons pe_str (pa_cons pe_str pa_nil))) (pv 1) (fun _ _ => rfl)) (nomark _))
          (pw_or1 (pt_not (pt_val (pe_callB call_isTup (by rfl) N.isi (by decide +kernel) (pa_cons (pe_prop (pv 0) cls PQ GQ (hr.mono (by decide)) bQ .nil pass0 (by rfl)) (pa_cons (pe_bltn (v := .ty "tuple") (by rfl) N.tuple (by decide +kernel) rfl) pa_nil))))))))
        (pss_one (ps_ret pe_bl)) pss_nil)
      (pss_one (ps_ret (pe_and (pe_callG hgu GA (hr.mono (by decide)) (by rfl) gA FA.kp bA .nil pass0 (pa_cons (pe_prop (pv 0) cls PQ GQ (hr.mono (by decide)) bQ .nil pass0 (by rfl)) (pa_cons (pv 2) pa_nil)))
        (pe_one (pe_callG hgu GA (hr.mono (by decide)) (by rfl) gA FA.kp bA .nil pass0 (pa_cons (pe_lcY (py_meth0 (pv 0) cls MC YC (hr.mono (by decide)) bC) (hr.mono (by decide)) rfl (by decide +kernel) (by decide +kernel) rfl) (pa_cons (pv 2) pa_nil)))))))), ?_⟩
    obtain ⟨n, l, ws, ks, rfl, ⟨dx, p, hn, hp⟩, hq, tv, sh, hl, k⟩ := h
    refine ⟨_, rfl, n, dx, _, rfl, hn, n, dx, _, rfl, hn, lk _ hf1, sz 2 (by decide), fun a1 n1 => ?_⟩
    have s1 := same_new (o := .lst [.str "pack", .str "row"]) n1
    have hz2 : atI ([.str "pack", .str "row"] : List V) kind = some (.str z) := by
      rcases hz with ⟨rfl, rfl⟩ | ⟨rfl, rfl⟩
      · exact at_of (j := 0) rfl rfl
      · exact at_of (j := 1) rfl rfl
    have hn1 := s1 _ _ hn
    have hp1 := s1 _ _ hp
    refine ⟨_, rfl, a1, _, kind, .str z, rfl, rfl, SqL.of upd_same, hz2, rfl, false, by rw [decide_eq_true rfl]; rfl, iteF ?_⟩
    refine ⟨_, rfl, n, dx, _, rfl, hn1, n, dx, p, ws, rfl, hn1, hp1, fun t2 H2 s2 ht2 => ?_⟩
    refine ⟨.ref t2, "tuple", true, rfl, ty_tup (SqT.of ht2), rfl, by decide, _, rfl, iteF ?_⟩
    have s12 := s1.tr s2
    refine ⟨_, rfl, n, dx, _, rfl, s2 _ _ hn1, n, dx, p, ws, rfl, s2 _ _ hn1, s2 _ _ hp1, fun t3 H3 s3 ht3 => ?_⟩
    have s13 := s12.tr s3
    refine ⟨_, rfl, t3, l, ws, ks, rfl, .inr (SqT.of ht3), .inl (s13.seq hq), tvall_to s13 tv, sh, hl, fun H4 s4 => ⟨_, rfl, iteT ?_⟩⟩
    have s14 := s13.tr s4
    have hn4 := s14 _ _ hn
    have hp4 := s14 _ _ hp
    refine ⟨ws, sz _ (by omega), _, rfl, n, dx, _, rfl, hn4, lk _ hf2, n, dx, _, rfl, hn4, lk _ hf3, n, dx, p, ws, rfl, hn4, hp4, fun t5 H5 s5 ht5 => ⟨t5, rfl, ht5, fun D nD => ?_⟩⟩
    have s15 := s14.tr (s5.tr (same_new (o := .lst ws) nD))
    exact ⟨_, rfl, D, l, ws, ks, rfl, .inl (SqL.of upd_same), .inl (s15.seq hq), tvall_to s15 tv, sh, hl, fun H6 s6 => k _ (s15.tr s6)⟩
theorem ok_holds {f : Addr} {fd : FuncData} (F : FnP K "_law_holds" sHolds f fd) (N : Nm K mg) (SY : SysK K) (L : LkF K mg) (BP : PackF K mg) (BR : RowF K mg) : FnG P w K mg base CX0 6 f fd ["node", "kind", "some"] (spHolds K) := by
  have A : FnG P w K mg base CX0 6 f fd ["node", "kind", "some"] (spHoldsC K 0 (CP K) "_parts" HO.tup) := by
    obtain ⟨pQ, gQ, dQ, PQ, FQ⟩ := BP.parts
    obtain ⟨pS, gS, dS, uS, PS', FS, CS⟩ := BP.shape
    obtain ⟨fC, dC, MC, FC⟩ := BP.kids
    obtain ⟨f0, d0, M0, F0⟩ := BP.cont
    have GQ : FnOk P w K mg base CX0 1 gQ dQ ["self"] (spParts (CP K) "_parts" HO.tup) := ok_packP BP.cls BP.noP FQ
    have bQ : Binds K dQ ["self"] [] := FQ.bindsN fun _ _ _ _ _ _ us hl => match us, hl with | [_], _ => rfl
    have b0 : Binds K d0 ["self"] [] := F0.bindsN fun _ _ _ _ _ _ us hl => match us, hl with | [_], _ => rfl
    exact holds_body (.inl ⟨rfl, rfl⟩) rfl rfl rfl F N SY L BP.cls PS' FS CS PQ GQ bQ MC FC M0 (ok_cont rfl scPC (.inl rfl) BP.cls PQ F0 GQ bQ) b0
  have B : FnG P w K mg base CX0 6 f fd ["node", "kind", "some"] (spHoldsC K 1 (CR K) "_sequence" HO.lst) := by
    obtain ⟨pQ, gQ, dQ, PQ, FQ⟩ := BR.parts
    obtain ⟨pS, gS, dS, uS, PS', FS, CS⟩ := BR.shape
    obtain ⟨fC, dC, MC, FC⟩ := BR.kids
    obtain ⟨f0, d0, M0, F0⟩ := BR.cont
    have GQ : FnOk P w K mg base CX0 1 gQ dQ ["self"] (spParts (CR K) "_sequence" HO.lst) := ok_rowP BR.cls BR.noS FQ N
    have bQ : Binds K dQ ["self"] [] := FQ.bindsN fun _ _ _ _ _ _ us hl => match us, hl with | [_], _ => rfl
    have b0 : Binds K d0 ["self"] [] := F0.bindsN fun _ _ _ _ _ _ us hl => match us, hl with | [_], _ => rfl
    exact holds_body (.inr ⟨rfl, rfl⟩) rfl rfl rfl F N SY L BR.cls PS' FS CS PQ GQ bQ MC FC M0 (ok_cont rfl scRC (.inl rfl) BR.cls PQ F0 GQ bQ) b0
  refine ⟨fun vs H Q E h => ?_, fun A0 hg hr outer s H args us vs Q E e0 hb r h => ?_⟩
  · obtain ⟨kind, n, l, ws, ks, rfl, _⟩ := h
    rfl
  · obtain ⟨kind, n, l, ws, ks, rfl, nk, h⟩ := h
    rcases nk with ⟨rfl, nk⟩ | ⟨rfl, nk⟩
    · exact A.run A0 hg hr outer s H args us _ Q E e0 hb r ⟨n, l, ws, ks, rfl, nk, h⟩
    · exact B.run A0 hg hr outer s H args us _ Q E e0 hb r ⟨n, l, ws, ks, rfl, nk, h⟩
end
end Kz

set_option Elab.async false
set_option linter.all false
set_option maxRecDepth 100000
set_option maxHeartbeats 4000000
namespace Kz
open PySem PySem.Spec PyProof.Rows L2 StX ClX
abbrev sOfR : Stmt := top 37
abbrev NO : List Str := ["kind", "some", "node", "what", "caught", "e"]
theorem scOfR : FnScope NO ["kind", "some"] (defScope sOfR) := ⟨rfl, rfl, rfl, by decide +kernel, rfl, by decide +kernel, by decide +kernel⟩
def spOfR (K : PySem.W.Frag) : Sp := fun vs H Q _ => ∃ (kind : Int) (l : Addr) (ws : List V) (ks : List Tk), vs = [.int kind, .ref l] ∧ (kind = 0 ∨ kind = 1) ∧ SqL K H l ws ∧ TvAll K (CN K) H ws ks ∧ ws.length ≤ 60 ∧ (∀ k ∈ ks, fitsT k) ∧ (∀ k ∈ ks, shwT k) ∧ badAt ks = none ∧ ∀ H', Same H H' → Q (.bl true) H'
/-- what the law hands of, that is no tuple -/
theorem odd_ty (K : PySem.W.Frag) {H : Hp} {lc d0 : Addr} {ws : List V} {i : Nat} {x : V} (h1 : H lc = some (.lst ws)) (h2 : H d0 = some (.dK [])) (hx : ([.ref lc, .non, .int 7, .str "ab", .ref d0, .bl true] : List V)[i]? = some x) :
    ∃ t, TyX K H x (.type t) ∧ t ∈ tys ∧ t ≠ "tuple" ∧ ∀ H2, Same H H2 → ∀ Q : VK, Q (.bl false) H2 → rNeS K x x H2 Q := by
  match i, hx with
  | 0, hx =>
    cases hx
    exact ⟨"list", ty_lst (SqL.of h1), by decide, by decide, fun H2 s Q q => .inr (.inl ⟨lc, ws, rfl, rfl, SqL.of (s _ _ h1), q⟩)⟩
  | 1, hx =>
    cases hx
    exact ⟨"NoneType", .base .non, by decide, by decide, fun H2 s Q q => .inl ⟨.none, .none, .non, .non, by decide, by decide, q⟩⟩
  | 2, hx =>
    cases hx
    exact ⟨"int", .base (.int 7), by decide, by decide, fun H2 s Q q => .inl ⟨.int 7, .int 7, .int 7, .int 7, by decide, by decide, q⟩⟩
  | 3, hx =>
    cases hx
    exact ⟨"str", .base (.str _), by decide, by decide, fun H2 s Q q => .inl ⟨.str "ab", .str "ab", .str _, .str _, by decide +kernel, by decide +kernel, q⟩⟩
  | 4, hx =>
    cases hx
    exact ⟨"dict", .base (.dK h2), by decide, by decide, fun H2 s Q q => .inr (.inr ⟨d0, d0, [], [], rfl, rfl, s _ _ h2, s _ _ h2, rfl, fun p m => (List.not_mem_nil m).elim, q⟩)⟩
  | 5, hx =>
    cases hx
    exact ⟨"bool", .base (.bl true), by decide, by decide, fun H2 s Q q => .inl ⟨.bool true, .bool true, .bl true, .bl true, by decide, by decide, q⟩⟩
  | n + 6, hx => cases hx
section
variable {P : Program} {w : World} {K : PySem.W.Frag} {mg : Str → Option Value} {base : Heap}
theorem ok_ofr {f : Addr} {fd : FuncData} (F : FnP K "_law_of_right" sOfR f fd) (N : Nm K mg) (T : Ts K mg) (S : Es P w K mg base) (R : Rq K mg) (SY : SysK K) (L : LkF K mg) (BP : PackF K mg) (BR : RowF K mg) (CF : CatchF K mg (CV K) "InvalidValue" "value") (LH : ∃ f fd, FnP K "_law_holds" sHolds f fd ∧ mg "_law_holds" = some (.ref f)) :
    FnG P w K mg base CX0 10 f fd ["kind", "some"] (spOfR K) := by
  obtain ⟨fp, dp, MP, FP⟩ := BP.init
  obtain ⟨fr, dr, MR, FR⟩ := BR.init
  obtain ⟨mp, pp, gp, dO, rP, cP, FOP⟩ := BP.of
  obtain ⟨mr, pr, gr, dR, rR, cR, FOR⟩ := BR.of
  obtain ⟨fh, dh, FH, gH⟩ := LH
  obtain ⟨CJ, CSt, CM, mJ, mS, mM, exm⟩ := CF.fam
  have GP : FnR P w K mg base (L2.CX P w) 7 fp (spInit K (CP K) "_parts" HO.tup (gC K "InvalidValue")) := ok_packI BP.cls BP.noP FP N T S R
  have GR : FnR P w K mg base (L2.CX P w) 7 fr (spInit K (CR K) "_sequence" HO.lst (gC K "InvalidValue")) := ok_rowI BR.cls BR.noS FR N T S R
  have OP : FnOk P w K mg base (L2.CX P w) 9 gp dO ["cls", "parts"] (spOf K (CP K) "_parts" HO.tup (gC K "InvalidValue")) := ok_packOf FOP N S R MP GP
  have OR_ : FnOk P w K mg base (L2.CX P w) 9 gr dR ["cls", "parts"] (spOf K (CR K) "_sequence" HO.lst (gC K "InvalidValue")) := ok_rowOf FOR N S R MR GR
  have GH : FnG P w K mg base CX0 6 fh dh ["node", "kind", "some"] (spHolds K) := ok_holds FH N SY L BP BR
  have bP : Binds K dO ["cls", "parts"] [] := FOP.bindsN fun _ _ _ _ _ _ us hl => match us, hl with | [_, _], _ => rfl
  have bR : Binds K dR ["cls", "parts"] [] := FOR.bindsN fun _ _ _ _ _ _ us hl => match us, hl with | [_, _], _ => rfl
  have bH : Binds K dh ["node", "kind", "some"] [] := FH.bindsN fun _ _ _ _ _ _ us hl => match us, hl with | [_, _, _], _ => rfl
  refine F.okG scOfR (fun vs H Q E h => ?_) (fun cdv A outer s H vs Q E hgu hr h => ?_)
  · obtain ⟨v, d, ws, ks, rfl, _⟩ := h
    rfl
  · refine ⟨_, pss_cons (ps_set (i := 2) scOfR.nd rfl (Or.inl rfl) (pe_ifExp (pt_cmpR op_eq (pv 0) pe_int (nomark _))
        (pe_cmethSg (E := fun _ => E0) (pe_glob (v := .ref (CP K)) (by rfl) BP.nm rfl) rP cP OP hr bP (fun σ _ _ _ _ _ _ z => (no_cx z).elim) (pa_cons (pe_callTy call_tuple_of (by rfl) N.tuple (by decide +kernel) (pa_cons (pv 1) pa_nil)) pa_nil))
        (pe_cmethSg (E := fun _ => E0) (pe_glob (v := .ref (CR K)) (by rfl) BR.nm rfl) rR cR OR_ hr bR (fun σ _ _ _ _ _ _ z => (no_cx z).elim) (pa_cons (pe_callTy call_tuple_of (by rfl) N.tuple (by decide +kernel) (pa_cons (pv 1) pa_nil)) pa_nil))))
      (pss_cons (ps_if (pt_not (pt_val (pe_callG hgu GH (hr.mono (by decide)) (by rfl) gH FH.kp bH .nil pass0 (pa_cons (pv 2) (pa_cons (pv 0) (pa_cons (pv 1) pa_nil)))))) (pss_one (ps_ret pe_bl)) pss_nil)
      (pss_cons (ps_for (passes_of rfl) rfl (pi_list (pe_lst (pa_cons (pe_callTy call_list_of (by rfl) N.list (by decide +kernel) (pa_cons (pv 1) pa_nil)) (pa_cons pe_non (pa_cons pe_int (pa_cons pe_str (pa_cons pe_dnewK (pa_cons pe_bl pa_nil)))))))) (pg_name (i := 3) scOfR.nd rfl (Or.inl rfl))
        (pss_cons (ps_set (i := 4) scOfR.nd rfl (Or.inl rfl) pe_non)
        (pss_cons (ps_try_kept (i := 5) (j := 4) (Wout := fun _ _ _ _ => False) rfl rfl rfl scOfR.nd rfl rfl rfl rfl (by rfl) mJ (by rfl) mS (by rfl) mM (fun u s' z => by obtain ⟨_, _, _, _, _, _, _, _, _, _, _, _, _, _, _, _, z⟩ := z; exact z.elim)
          (fun W pn xe tk' _ => pss_one (ps_expr (pe_ifExp (pt_cmpR op_eq (pv 0) pe_int (nomark _))
            (pe_cmethSg (E := WE W) (pe_glob (v := .ref (CP K)) (by rfl) BP.nm rfl) rP cP OP hr bP (fun σ => passAt tk' σ) (pa_cons (pv 3) pa_nil))
            (pe_cmethSg (E := WE W) (pe_glob (v := .ref (CR K)) (by rfl) BR.nm rfl) rR cR OR_ hr bR (fun σ => passAt tk' σ) (pa_cons (pv 3) pa_nil))))))
        (pss_one (ps_if (PW.pt (pw_or (pt_not (pt_val (pe_callB call_isX (by rfl) N.isi (by decide +kernel) (pa_cons (pv 4) (pa_cons (pe_glob (v := .ref (CV K)) (by rfl) CF.nm rfl) pa_nil)))))
            (pw_or1 (pt_cmpR (op_neS hr.units) (pe_xfd (pv 4)) (pv 3) (nomark _))))) (pss_one (ps_ret pe_bl)) pss_nil)))))
      (pss_one (ps_ret pe_bl)))), ?_⟩
    obtain ⟨kind, l, ws, ks, rfl, hk, hq, tv, hl, hf, sh, hb, k⟩ := h
    rcases hk with rfl | rfl
    · refine ⟨_, rfl, rfl, true, by rw [decide_eq_true rfl], iteT ⟨rfl, _, rfl, l, ws, rfl, .inl ⟨hq, fun t nt => ⟨.ref t, "tuple", rfl, ty_tup (SqT.of upd_same), by decide, .inr ⟨rfl, t, ws, ks, rfl, SqT.of upd_same, mkSeq_to (same_new nt) (MkK.p ⟨tv, hl, hf, ?_, ?_⟩)⟩⟩⟩⟩⟩
      · intro _ n H2 s2 nn nk _
        refine ⟨_, rfl, _, rfl, _, rfl, 0, n, l, ws, ks, rfl, nk, s2.seq hq, tvall_to s2 tv, sh, by omega, fun H3 s3 => ⟨_, rfl, iteF ?_⟩⟩
        have s23 := s2.tr s3
        refine ⟨_, rfl, l, ws, rfl, .inl (s23.seq hq), fun lc nlc => fun d0 nd0 => ⟨sz 6 (by decide), fun D nD => ⟨D, rfl, ⟨_, SqL.of upd_same⟩, ?_⟩⟩⟩
        have v1 := same_new (o := .lst ws) nlc
        have v2 := same_new (o := .dK []) nd0
        have v3 := same_new (o := .lst [.ref lc, .non, .int 7, .str "ab", .ref d0, .bl true]) nD
        refine for_it (walk_list (xs := [.ref lc, .non, .int 7, .str "ab", .ref d0, .bl true])) (fun i σ H' => ∃ t2 t3 t4 t5 : Option V, σ = [some (.int 0), some (.ref l), t2, t3, t4, t5] ∧ Same H H' ∧ H' lc = some (.lst ws) ∧ H' d0 = some (.dK []) ∧ H' D = some (.lst [.ref lc, .non, .int 7, .str "ab", .ref d0, .bl true]))
          ⟨_, _, _, _, rfl, s23.tr (v1.tr (v2.tr v3)), v3 _ _ (v2 _ _ upd_same), v3 _ _ upd_same, upd_same⟩ (fun i σ H' _ z => ?_) ?_ ?_
        · obtain ⟨_, _, _, _, _, _, _, _, h1⟩ := z
          exact SqL.of h1
        · rintro i x σ H' H'' hi ⟨t2, t3, t4, t5, rfl, sH, hlc, hd0, hD⟩ ⟨rfl, hx⟩
          obtain ⟨t, ty, tm, nt, ne⟩ := odd_ty K hlc hd0 hx
          refine ⟨_, rfl, rfl, true, by rw [decide_eq_true rfl], iteT ⟨rfl, _, rfl, x, t, rfl, ty, tm, .inl ⟨nt, fun dd H4 nd' s4 hx4 => ⟨true, exm, fun _ => ⟨_, dd, rfl, rfl, fun a na => ?_⟩, fun z => by cases z⟩⟩⟩⟩
          have s5 := same_new (o := exV a (CV K) dd) na
          have ex : ExAt (upd H4 a (exV a (CV K) dd)) a (CV K) [("value", x)] := ⟨dd, upd_same, s5 _ _ hx4⟩
          have s45 := s4.tr s5
          refine ⟨_, rfl, a, _, _, _, _, true, rfl, ex, CF.xc, fun u r => r, CF.kit, _, rfl, iteF ?_⟩
          refine ⟨_, rfl, a, _, _, x, rfl, ex, CF.xc, CF.no, rfl, _, rfl, ne _ s45 _ ⟨false, rfl, iteF ?_⟩⟩
          exact ⟨_, _, _, _, rfl, sH.tr s45, s45 _ _ hlc, s45 _ _ hd0, s45 _ _ hD⟩
        · rintro σ H' ⟨t2, t3, t4, t5, rfl, sH, _⟩
          exact k _ sH
      · intro i v b
        rw [hb] at b
        cases b
    · refine ⟨_, rfl, rfl, false, by rw [decide_eq_false (by decide)], iteF ⟨rfl, _, rfl, l, ws, rfl, .inl ⟨hq, fun t nt => ⟨.ref t, "tuple", rfl, ty_tup (SqT.of upd_same), by decide, .inr ⟨rfl, t, ws, ks, rfl, SqT.of upd_same, mkSeq_to (same_new nt) (MkK.r ⟨tv, hl, hf, ?_, ?_⟩)⟩⟩⟩⟩⟩
      · intro _ n H2 s2 nn nk _
        refine ⟨_, rfl, _, rfl, _, rfl, 1, n, l, ws, ks, rfl, nk, s2.seq hq, tvall_to s2 tv, sh, by omega, fun H3 s3 => ⟨_, rfl, iteF ?_⟩⟩
        have s23 := s2.tr s3
        refine ⟨_, rfl, l, ws, rfl, .inl (s23.seq hq), fun lc nlc => fun d0 nd0 => ⟨sz 6 (by decide), fun D nD => ⟨D, rfl, ⟨_, SqL.of upd_same⟩, ?_⟩⟩⟩
        have v1 := same_new (o := .lst ws) nlc
        have v2 := same_new (o := .dK []) nd0
        have v3 := same_new (o := .lst [.ref lc, .non, .int 7, .str "ab", .ref d0, .bl true]) nD
        refine for_it (walk_list (xs := [.ref lc, .non, .int 7, .str "ab", .ref d0, .bl true])) (fun i σ H' => ∃ t2 t3 t4 t5 : Option V, σ = [some (.int 1), some (.ref l), t2, t3, t4, t5] ∧ Same H H' ∧ H' lc = some (.lst ws) ∧ H' d0 = some (.dK []) ∧ H' D = some (.lst [.ref lc, .non, .int 7, .str "ab", .ref d0, .bl true]))
          ⟨_, _, _, _, rfl, s23.tr (v1.tr (v2.tr v3)), v3 _ _ (v2 _ _ upd_same), v3 _ _ upd_same, upd_same⟩ (fun i σ H' _ z => ?_) ?_ ?_
        · obtain ⟨_, _, _, _, _, _, _, _, h1⟩ := z
          exact SqL.of h1
        · rintro i x σ H' H'' hi ⟨t2, t3, t4, t5, rfl, sH, hlc, hd0, hD⟩ ⟨rfl, hx⟩
          obtain ⟨t, ty, tm, nt, ne⟩ := odd_ty K hlc hd0 hx
          refine ⟨_, rfl, rfl, false, by rw [decide_eq_false (by decide)], iteF ⟨rfl, _, rfl, x, t, rfl, ty, tm, .inl ⟨nt, fun dd H4 nd' s4 hx4 => ⟨true, exm, fun _ => ⟨_, dd, rfl, rfl, fun a na => ?_⟩, fun z => by cases z⟩⟩⟩⟩
          have s5 := same_new (o := exV a (CV K) dd) na
          have ex : ExAt (upd H4 a (exV a (CV K) dd)) a (CV K) [("value", x)] := ⟨dd, upd_same, s5 _ _ hx4⟩
          have s45 := s4.tr s5
          refine ⟨_, rfl, a, _, _, _, _, true, rfl, ex, CF.xc, fun u r => r, CF.kit, _, rfl, iteF ?_⟩
          refine ⟨_, rfl, a, _, _, x, rfl, ex, CF.xc, CF.no, rfl, _, rfl, ne _ s45 _ ⟨false, rfl, iteF ?_⟩⟩
          exact ⟨_, _, _, _, rfl, sH.tr s45, s45 _ _ hlc, s45 _ _ hd0, s45 _ _ hD⟩
        · rintro σ H' ⟨t2, t3, t4, t5, rfl, sH, _⟩
          exact k _ sH
      · intro i v b
        rw [hb] at b
        cases b
end
end Kz

set_option Elab.async false
set_option linter.all false
set_option maxRecDepth 100000
set_option maxHeartbeats 4000000
namespace Kz
open PySem PySem.Spec PyProof.Rows L2 StX ClX
abbrev sWord : Stmt := top 38
abbrev NW : List Str := ["way", "row", "what", "one", "caught", "found", "e"]
theorem scWord : FnScope NW ["way", "row", "what", "one"] (defScope sWord) := ⟨rfl, rfl, rfl, by decide +kernel, rfl, by decide +kernel, by decide +kernel⟩
/-- a Row with its list -/
def RowAt (K : PySem.W.Frag) (H : Hp) (a q : Addr) (xs : List V) : Prop := ∃ dx, H a = some (.ins (CR K) dx [("_sequence", .ref q)]) ∧ H q = some (.lst xs)
theorem same_upd2 {H H' : Hp} {q : Addr} {o : HO} (s : Same H H') : Same (upd H q o) (upd H' q o) := fun b u e => by
  by_cases c : b = q
  · subst c
    rw [upd_same] at e ⊢
    exact e
  · rw [upd_ne c] at e ⊢
    exact s b u e
/-- way 0: put_last, otherwise put_at -/
def spWord (K : PySem.W.Frag) : Sp := fun vs H Q _ => ∃ (way : Int) (a q : Addr) (xs : List V) (iv v : V) (ki k : Tk), vs = [.int way, .ref a, iv, v] ∧ RowAt K H a q xs ∧ xs.length < 1000 ∧ Tv K (CN K) H iv ki ∧ fitsT ki ∧ Tv K (CN K) H v k ∧ fitsT k ∧
  (okT k = true → way = 0 → ∀ p H', Same (upd H q (.lst (xs ++ [v]))) H' → H' p = some (.lst [.str "done"]) → Q (.ref p) H') ∧
  (okT k = true → way ≠ 0 → ∀ j, ixT xs.length ki = some j → ∀ p H', Same (upd H q (.lst (xs.set j v))) H' → H' p = some (.lst [.str "done"]) → Q (.ref p) H') ∧
  (okT k = false → way = 0 ∨ (∃ j, ixT xs.length ki = some j) → ∀ p H', Same H H' → H' p = some (.lst [.str "value", v]) → Q (.ref p) H') ∧
  (way ≠ 0 → ixT xs.length ki = none → ∀ p H', Same H H' → H' p = some (.lst [.str "index", iv]) → Q (.ref p) H')
section
variable {P : Program} {w : World} {K : PySem.W.Frag} {mg : Str → Option Value} {base : Heap}
theorem ok_word {f : Addr} {fd : FuncData} (F : FnP K "_law_word" sWord f fd) (N : Nm K mg) (T : Ts K mg) (S : Es P w K mg base) (R : Rq K mg) (BR : RowF K mg) (CF : CatchF K mg (CV K) "InvalidValue" "value") (CG : CatchF K mg (CI K) "InvalidIndex" "index") (no : PySem.W.kitOne K (.ref (CV K)) (.ref (CI K)) = some false) :
    FnOk P w K mg base CX0 7 f fd ["way", "row", "what", "one"] (spWord K) := by
  obtain ⟨fl, dl, ML, FL⟩ := BR.putL
  obtain ⟨fa, da, MA, FA⟩ := BR.putA
  obtain ⟨CJ, CSt, CM, mJ, mS, mM, exm⟩ := CF.fam
  obtain ⟨CJ', CSt', CM', mJ', mS', mM', exm'⟩ := CG.fam
  obtain rfl : CJ = CJ' := by rw [mJ] at mJ'; cases mJ'; rfl
  obtain rfl : CSt = CSt' := by rw [mS] at mS'; cases mS'; rfl
  obtain rfl : CM = CM' := by rw [mM] at mM'; cases mM'; rfl
  have GL : FnOk P w K mg base (L2.CX P w) 6 fl dl ["self", "value"] (spPutL K) := ok_putL BR FL N T S R
  have GA : FnOk P w K mg base (L2.CX P w) 6 fa da ["self", "index", "value"] (spPutA K) := ok_putA BR FA N T S R
  have kL : ∀ (s : Shared) (a : Addr) (ws : List Value), K.In s.heap → ws.length = 1 → BindsTo s dl ⟨[Value.ref a], (["value"] : List Str).zip ws⟩ ((["self", "value"] : List Str).zip (Value.ref a :: ws)) := fun s a ws hK hl => by
    obtain ⟨oc, od, dV, kV, doc, pm, an, cdv, ct, osl, rfl, lk, hcd, hD, hK'⟩ := FL.ex
    obtain rfl : dV = .none := hD.elim (fun z => z.2) fun z => absurd rfl z.1
    match ws, hl with
    | [_], _ => exact .of_eq rfl
  have kA : ∀ (s : Shared) (a : Addr) (ws : List Value), K.In s.heap → ws.length = 2 → BindsTo s da ⟨[Value.ref a], (["index", "value"] : List Str).zip ws⟩ ((["self", "index", "value"] : List Str).zip (Value.ref a :: ws)) := fun s a ws hK hl => by
    obtain ⟨oc, od, dV, kV, doc, pm, an, cdv, ct, osl, rfl, lk, hcd, hD, hK'⟩ := FA.ex
    obtain rfl : dV = .none := hD.elim (fun z => z.2) fun z => absurd rfl z.1
    match ws, hl with
    | [_, _], _ => exact .of_eq rfl
  refine F.ok scWord (fun vs H Q E h => ?_) (fun cdv A outer s H vs Q E hr h => ?_)
  · obtain ⟨way, a, q, xs, iv, v, ki, k, rfl, _⟩ := h
    rfl
  · refine ⟨_, pss_cons (ps_asg (pe_tup (pa_cons pe_non (pa_cons pe_str pa_nil))) (pg_tup rfl (pgs_cons (pg_name (i := 4) scWord.nd rfl (Or.inl rfl)) (pgs_cons (pg_name (i := 5) scWord.nd rfl (Or.inl rfl)) pgs_nil))))
      (pss_cons (ps_try_kept (i := 6) (j := 4) (Wout := fun _ _ _ _ => False) rfl rfl rfl scWord.nd rfl rfl rfl rfl (by rfl) mJ (by rfl) mS (by rfl) mM (fun u s' z => by obtain ⟨_, _, _, _, _, _, _, _, _, _, _, _, _, _, _, _, z⟩ := z; exact z.elim)
        (fun W pn xe tk' _ => pss_one (ps_set (i := 5) scWord.nd rfl (Or.inl rfl) (pe_ifExp (pt_cmpR op_eq (pv 0) pe_int (nomark _))
            (pe_methKSg (E := WE W) (gv := fun ws => ws) (gV := fun zs => zs) (ks := ["value"]) (pv 1) BR.cls ML GL hr (fun σ => passAt tk' σ) kL (fun r => r) (pk_cons (pv 3) pk_nil))
            (pe_methKSg (E := WE W) (gv := fun ws => ws) (gV := fun zs => zs) (ks := ["index", "value"]) (pv 1) BR.cls MA GA hr (fun σ => passAt tk' σ) kA (fun r => r) (pk_cons (pv 2) (pk_cons (pv 3) pk_nil)))))))
      (pss_cons (ps_if (pt_cmp (pc_isN (pv 4))) (pss_one (ps_ret (pe_ifExp (pt_cmp (pc_isN (pv 5))) (pe_lst (pa_cons pe_str pa_nil)) (pe_lst (pa_cons pe_str pa_nil))))) pss_nil)
      (pss_cons (ps_if (pt_val (pe_callB call_isX (by rfl) N.isi (by decide +kernel) (pa_cons (pv 4) (pa_cons (pe_glob (v := .ref (CI K)) (by rfl) CG.nm rfl) pa_nil)))) (pss_one (ps_ret (pe_lst (pa_cons pe_str (pa_cons (pe_xfd (pv 4)) pa_nil))))) pss_nil)
      (pss_one (ps_ret (pe_ifExp (pt_val (pe_callB call_isX (by rfl) N.isi (by decide +kernel) (pa_cons (pv 4) (pa_cons (pe_glob (v := .ref (CV K)) (by rfl) CF.nm rfl) pa_nil))))
        (pe_lst (pa_cons pe_str (pa_cons (pe_xfd (pv 4)) pa_nil))) (pe_lst (pa_cons pe_str pa_nil)))))))), ?_⟩
    obtain ⟨way, a, q, xs, iv, v, ki, k, rfl, ⟨dx, ha, hq⟩, hl, ti, fi, tv, fv, k1, k2, k3, k4⟩ := h
    refine ⟨sz 2 (by decide), fun p0 n0 => ⟨p0, _, rfl, SqT.of upd_same, rfl, _, _, rfl, _, _, rfl, rfl, ?_⟩⟩
    have s0 := same_new (o := .tup [V.non, V.str "more"]) n0
    by_cases c : way = 0
    · refine ⟨_, rfl, rfl, true, by rw [decide_eq_true (p := V.int way = V.int 0) (by rw [c])], ?_⟩
      refine iteT ⟨_, rfl, a, dx, _, rfl, s0 _ _ ha, rfl, _, rfl, rfl, a, dx, q, xs, v, k, rfl, s0 _ _ ha, s0 _ _ hq, hl, tv_to tv s0, fv, fun o => ?_, fun o dd H2 nd' s2 hx => ⟨true, exm, fun _ => ⟨_, dd, rfl, rfl, fun b nb => ?_⟩, fun z => by cases z⟩⟩
      · refine ⟨_, rfl, true, rfl, iteT ⟨_, rfl, true, rfl, iteT ⟨sz 1 (by decide), fun p np => ?_⟩⟩⟩
        exact k1 o c p _ ((same_upd2 s0).tr (same_new np)) upd_same
      · have s3 := same_new (o := exV b (CV K) dd) nb
        have ex : ExAt (upd H2 b (exV b (CV K) dd)) b (CV K) [("value", v)] := ⟨dd, upd_same, s3 _ _ hx⟩
        refine ⟨_, rfl, false, rfl, iteF ⟨_, rfl, b, _, _, _, _, false, rfl, ex, CF.xc, fun u r => r, no, _, rfl, iteF ?_⟩⟩
        refine ⟨_, rfl, b, _, _, _, _, true, rfl, ex, CF.xc, fun u r => r, CF.kit, _, rfl, iteT ?_⟩
        exact ⟨_, rfl, b, _, _, v, rfl, ex, CF.xc, CF.no, rfl, sz 2 (by decide), fun p np => k3 o (.inl c) p _ (s0.tr (s2.tr (s3.tr (same_new np)))) upd_same⟩
    · refine ⟨_, rfl, rfl, false, by rw [decide_eq_false (p := V.int way = V.int 0) (fun z => c (by cases z; rfl))], ?_⟩
      refine iteF ⟨_, rfl, a, dx, _, rfl, s0 _ _ ha, rfl, _, rfl, _, rfl, rfl, a, dx, q, xs, iv, v, ki, k, rfl, s0 _ _ ha, s0 _ _ hq, hl, tv_to ti s0, fi, tv_to tv s0, fv, fun j ej => ⟨fun o => ?_, fun o dd H2 nd' s2 hx => ⟨true, exm, fun _ => ⟨_, dd, rfl, rfl, fun b nb => ?_⟩, fun z => by cases z⟩⟩, fun en dd H2 nd' s2 hx => ⟨true, exm', fun _ => ⟨_, dd, rfl, rfl, fun b nb => ?_⟩, fun z => by cases z⟩⟩
      · refine ⟨_, rfl, true, rfl, iteT ⟨_, rfl, true, rfl, iteT ⟨sz 1 (by decide), fun p np => ?_⟩⟩⟩
        exact k2 o c j ej p _ ((same_upd2 s0).tr (same_new np)) upd_same
      · have s3 := same_new (o := exV b (CV K) dd) nb
        have ex : ExAt (upd H2 b (exV b (CV K) dd)) b (CV K) [("value", v)] := ⟨dd, upd_same, s3 _ _ hx⟩
        refine ⟨_, rfl, false, rfl, iteF ⟨_, rfl, b, _, _, _, _, false, rfl, ex, CF.xc, fun u r => r, no, _, rfl, iteF ?_⟩⟩
        refine ⟨_, rfl, b, _, _, _, _, true, rfl, ex, CF.xc, fun u r => r, CF.kit, _, rfl, iteT ?_⟩
        exact ⟨_, rfl, b, _, _, v, rfl, ex, CF.xc, CF.no, rfl, sz 2 (by decide), fun p np => k3 o (.inr ⟨j, ej⟩) p _ (s0.tr (s2.tr (s3.tr (same_new np)))) upd_same⟩
      · have s3 := same_new (o := exV b (CI K) dd) nb
        have ex : ExAt (upd H2 b (exV b (CI K) dd)) b (CI K) [("index", iv)] := ⟨dd, upd_same, s3 _ _ hx⟩
        refine ⟨_, rfl, false, rfl, iteF ⟨_, rfl, b, _, _, _, _, true, rfl, ex, CG.xc, fun u r => r, CG.kit, _, rfl, iteT ?_⟩⟩
        exact ⟨_, rfl, b, _, _, iv, rfl, ex, CG.xc, CG.no, rfl, sz 2 (by decide), fun p np => k4 c en p _ (s0.tr (s2.tr (s3.tr (same_new np)))) upd_same⟩
end
end Kz

set_option Elab.async false
set_option linter.all false
set_option maxRecDepth 100000
set_option maxHeartbeats 4000000
namespace Kz
open PySem PySem.Spec PyProof.Rows L2 StX ClX
/-- an atom of the law, or a node -/
def Ev (K : PySem.W.Frag) (H : Hp) (v : V) : Tk → Prop
  | .dat d => At v d
  | .nod C => NodC K (CN K) C ∧ ∃ a dx fs, v = .ref a ∧ H a = some (.ins C dx fs)
inductive EvAll (K : PySem.W.Frag) (H : Hp) : List V → List Tk → Prop
  | nil : EvAll K H [] []
  | cons {v : V} {k : Tk} {vs : List V} {ks : List Tk} : Ev K H v k → EvAll K H vs ks → EvAll K H (v :: vs) (k :: ks)
/-- the objects of the program's own classes stand -/
def KI (H H' : Hp) : Prop := ∀ a C dx fs, H a = some (.ins C dx fs) → H' a = some (.ins C dx fs)
theorem KI.of {H H' : Hp} (s : Same H H') : KI H H' := fun _ _ _ _ e => s _ _ e
theorem KI.tr {H H1 H2 : Hp} (a : KI H H1) (b : KI H1 H2) : KI H H2 := fun x C dx fs e => b x C dx fs (a x C dx fs e)
theorem KI.lst {H : Hp} {q : Addr} {xs : List V} {o : HO} (h : H q = some (.lst xs)) : KI H (upd H q o) := fun a C dx fs e => by
  rw [upd_ne (fun z => by rw [z, h] at e; cases e)]
  exact e
theorem KI.keep {H H' : Hp} {p l : Addr} (c : CellsAt H p l) (k : Keep p H H') : KI H H' := fun a C dx fs e => k a _ e fun z => by
  obtain ⟨x, y, z', h⟩ := c
  rw [z, h] at e
  cases e
section
variable {K : PySem.W.Frag} {H H' : Hp}
theorem Ev.to {v : V} {k : Tk} (h : Ev K H v k) (s : KI H H') : Ev K H' v k := by
  cases k with
  | dat d => exact h
  | nod C =>
    obtain ⟨n, a, dx, fs, e, ha⟩ := h
    exact ⟨n, a, dx, fs, e, s _ _ _ _ ha⟩
theorem Ev.tv {v : V} {k : Tk} (h : Ev K H v k) : Tv K (CN K) H v k := by
  cases k with
  | dat d => exact (at_ok (show At v d from h)).2.2.2 K H
  | nod C => exact h
theorem Ev.fit {v : V} {k : Tk} (h : Ev K H v k) : fitsT k ∧ shwT k ∧ okT k = true := by
  cases k with
  | dat d =>
    obtain ⟨a, b, c, _⟩ := at_ok (show At v d from h)
    exact ⟨a, b, c⟩
  | nod C => exact ⟨True.intro, True.intro, rfl⟩
theorem EvAll.to : ∀ {vs : List V} {ks : List Tk}, EvAll K H vs ks → KI H H' → EvAll K H' vs ks
  | _, _, .nil, _ => .nil
  | _, _, .cons h t, s => .cons (h.to s) (t.to s)
theorem EvAll.tv : ∀ {vs : List V} {ks : List Tk}, EvAll K H vs ks → TvAll K (CN K) H vs ks
  | _, _, .nil => .nil
  | _, _, .cons h t => .cons h.tv t.tv
theorem EvAll.fit : ∀ {vs : List V} {ks : List Tk}, EvAll K H vs ks → (∀ k ∈ ks, fitsT k) ∧ (∀ k ∈ ks, shwT k) ∧ (∀ k ∈ ks, okT k = true)
  | _, _, .nil => ⟨fun _ m => (List.not_mem_nil m).elim, fun _ m => (List.not_mem_nil m).elim, fun _ m => (List.not_mem_nil m).elim⟩
  | _, _, .cons h t => by
    obtain ⟨a, b, c⟩ := t.fit
    obtain ⟨x, y, z⟩ := h.fit
    refine ⟨fun k m => ?_, fun k m => ?_, fun k m => ?_⟩
    · rcases List.mem_cons.mp m with m | m
      · rw [m]; exact x
      · exact a k m
    · rcases List.mem_cons.mp m with m | m
      · rw [m]; exact y
      · exact b k m
    · rcases List.mem_cons.mp m with m | m
      · rw [m]; exact z
      · exact c k m
theorem EvAll.ok {vs : List V} {ks : List Tk} (h : EvAll K H vs ks) : badAt ks = none := bad_none ks fun j x hx => h.fit.2.2 x (List.mem_of_getElem? hx)
theorem EvAll.app : ∀ {vs ws : List V} {ks ls : List Tk}, EvAll K H vs ks → EvAll K H ws ls → EvAll K H (vs ++ ws) (ks ++ ls)
  | _, _, _, _, .nil, b => b
  | _, _, _, _, .cons h a, b => .cons h (a.app b)
theorem EvAll.set : ∀ {vs : List V} {ks : List Tk} (j : Nat) {v : V} {k : Tk}, EvAll K H vs ks → Ev K H v k → EvAll K H (vs.set j v) (ks.set j k)
  | _, _, _, _, _, .nil, _ => .nil
  | _, _, 0, _, _, .cons h a, b => .cons b a
  | _, _, j + 1, _, _, .cons h a, b => .cons h (a.set j b)
theorem EvAll.len : ∀ {vs : List V} {ks : List Tk}, EvAll K H vs ks → vs.length = ks.length
  | _, _, .nil => rfl
  | _, _, .cons _ t => by rw [List.length_cons, List.length_cons, t.len]
theorem EvAll.get : ∀ {vs : List V} {ks : List Tk} {i : Nat} {v : V}, EvAll K H vs ks → vs[i]? = some v → ∃ k, ks[i]? = some k ∧ Ev K H v k
  | _, _, 0, _, .cons h _, e => by
    cases e
    exact ⟨_, rfl, h⟩
  | _, _, i + 1, _, .cons _ a, e => a.get e
end
/-- the class Octets -/
structure OctF (K : PySem.W.Frag) (mg : Str → Option Value) : Prop where
  cls : Cls K (gC K "Octets")
  noN : NoAttr K (gC K "Octets") "_numbers"
  nm : mg "Octets" = some (.ref (gC K "Octets"))
  nod : NodC K (CN K) (gC K "Octets")
  init : ∃ f fd t, Mk K (gC K "Octets") f ∧ FnM K "__init__" "Octets.__init__" sOctI [V.ref t] f fd
/-- two texts or a text and a datum, in a list -/
theorem pair_shw {z : Str} {d : PyData} (hz : (reprText z).length ≤ 100) (h : Shw d) : (PyData.list [.str z, d]).showable = true ∧ (PyData.list [.str z, d]).depth ≤ 40 ∧ (PyData.list [.str z, d]).shown.length ≤ sizeLine := by
  have s1 : (PyData.list [.str z, d]).showable = true := by
    show (true && (d.showable && true)) = true
    rw [h.show_]
    rfl
  refine ⟨s1, ?_, shown_fits s1 ?_⟩
  · have e := h.dep
    show max 0 (max d.depth 0) + 1 ≤ 40
    omega
  · have e := h.wt_
    show (reprText z).length + 2 + (wt d + 2 + 0) + 2 ≤ sizeLine
    have : 30000 ≤ sizeLine := by decide
    omega
theorem pairs_shw {z : Str} {d : PyData} (hz : (reprText z).length ≤ 100) (h : Shw d) : (PyData.list [.list [.str z, d], .list [.str z, d]]).showable = true ∧ (PyData.list [.list [.str z, d], .list [.str z, d]]).depth ≤ 40 ∧ (PyData.list [.list [.str z, d], .list [.str z, d]]).shown.length ≤ sizeLine := by
  have s1 : (PyData.list [.list [.str z, d], .list [.str z, d]]).showable = true := by
    show ((true && (d.showable && true)) && ((true && (d.showable && true)) && true)) = true
    rw [h.show_]
    rfl
  refine ⟨s1, ?_, shown_fits s1 ?_⟩
  · have e := h.dep
    show max (max 0 (max d.depth 0) + 1) (max (max 0 (max d.depth 0) + 1) 0) + 1 ≤ 40
    omega
  · have e := h.wt_
    show ((reprText z).length + 2 + (wt d + 2 + 0) + 2) + 2 + (((reprText z).length + 2 + (wt d + 2 + 0) + 2) + 2 + 0) + 2 ≤ sizeLine
    have : 60000 ≤ sizeLine := by decide
    omega
theorem draw_upd {H : Hp} {p l a : Addr} {N : Nat} {o : HO} (d : DrawAt H p N) (c : CellsAt H p l) (n1 : a ≠ p) (n2 : a ≠ l) : DrawAt (upd H a o) p N ∧ CellsAt (upd H a o) p l := by
  obtain ⟨l', cs, x, y, z, h1, h2, r⟩ := d
  obtain rfl := cells_one ⟨x, y, z, h1⟩ c
  have e1 : (upd H a o) p = some (.dK (drawKv l' x y z)) := by rw [upd_ne n1.symm]; exact h1
  exact ⟨⟨l', cs, x, y, z, e1, by rw [upd_ne n2.symm]; exact h2, r⟩, ⟨x, y, z, e1⟩⟩
theorem draw_cells {H : Hp} {p : Addr} {N : Nat} (d : DrawAt H p N) : ∃ l, CellsAt H p l ∧ ∃ o, H l = some o := by
  obtain ⟨l, cs, x, y, z, h1, h2, r⟩ := d
  exact ⟨l, ⟨x, y, z, h1⟩, _, h2⟩
theorem cells_same {H H' : Hp} {p l : Addr} (c : CellsAt H p l) (s : Same H H') : CellsAt H' p l := by
  obtain ⟨x, y, z, h⟩ := c
  exact ⟨x, y, z, s _ _ h⟩
/-- what stands while a Row grows -/
structure Gw (K : PySem.W.Frag) (p a q l t s0 lc : Addr) (ws : List V) (kw : List Tk) (N : Nat) (xs : List V) (ks : List Tk) (H : Hp) : Prop where
  drw : DrawAt H p N
  cel : CellsAt H p lc
  row : RowAt K H a q xs
  kep : H l = some (.lst xs)
  bef : H t = some (.tup ws)
  som : H s0 = some (.lst ws)
  ev : EvAll K H xs ks
  ew : EvAll K H ws kw
structure Ds (q l lc s0 : Addr) : Prop where
  ql : q ≠ l
  qc : q ≠ lc
  lc_ : l ≠ lc
  qs : q ≠ s0
  ls : l ≠ s0
section
variable {K : PySem.W.Frag} {p a q l t s0 lc : Addr} {ws xs : List V} {kw ks : List Tk} {N : Nat} {H H' : Hp}
theorem Gw.same (g : Gw K p a q l t s0 lc ws kw N xs ks H) (s : Same H H') : Gw K p a q l t s0 lc ws kw N xs ks H' := by
  obtain ⟨g1, g2, ⟨dx, g3, g3'⟩, g4, g5, g6, g7, g8⟩ := g
  exact ⟨g1.same s, cells_same g2 s, ⟨dx, s _ _ g3, s _ _ g3'⟩, s _ _ g4, s _ _ g5, s _ _ g6, g7.to (.of s), g8.to (.of s)⟩
theorem Gw.np (g : Gw K p a q l t s0 lc ws kw N xs ks H) {b : Addr} {o : HO} (h : H b = some o) (ho : ∀ kv, o ≠ .dK kv) : b ≠ p := fun z => by
  obtain ⟨x, y, w, h1⟩ := g.cel
  rw [z, h1] at h
  cases h
  exact ho _ rfl
theorem Gw.keep (g : Gw K p a q l t s0 lc ws kw N xs ks H) (k : Keep p H H') {M : Nat} (d : DrawAt H' p M) : Gw K p a q l t s0 lc ws kw M xs ks H' := by
  have n := @Gw.np _ _ _ _ _ _ _ _ _ _ _ _ _ _ g
  have ki := KI.keep g.cel k
  obtain ⟨dx, g3, g3'⟩ := g.row
  exact ⟨d, k.cells _ g.cel, ⟨dx, k _ _ g3 (n g3 fun _ z => by cases z), k _ _ g3' (n g3' fun _ z => by cases z)⟩, k _ _ g.kep (n g.kep fun _ z => by cases z), k _ _ g.bef (n g.bef fun _ z => by cases z), k _ _ g.som (n g.som fun _ z => by cases z), g.ev.to ki, g.ew.to ki⟩
theorem Gw.step (g : Gw K p a q l t s0 lc ws kw N xs ks H) (d : Ds q l lc s0) {ys : List V} {ls : List Tk} (e : EvAll K H ys ls) : Gw K p a q l t s0 lc ws kw N ys ls (upd (upd H l (.lst ys)) q (.lst ys)) := by
  have n := @Gw.np _ _ _ _ _ _ _ _ _ _ _ _ _ _ g
  obtain ⟨dx, g3, g3'⟩ := g.row
  have k1 : KI H (upd (upd H l (.lst ys)) q (.lst ys)) := (KI.lst g.kep).tr (KI.lst (xs := xs) (by rw [upd_ne d.ql]; exact g3'))
  obtain ⟨d1, c1⟩ := draw_upd (o := .lst ys) g.drw g.cel (n g.kep fun _ z => by cases z) d.lc_
  obtain ⟨d2, c2⟩ := draw_upd (o := .lst ys) d1 c1 (n g3' fun _ z => by cases z) d.qc
  refine ⟨d2, c2, ⟨dx, k1 _ _ _ _ g3, upd_same⟩, by rw [upd_ne d.ql.symm, upd_same], ?_, ?_, e.to k1, g.ew.to k1⟩
  · have t1 : t ≠ q := ne_of g.bef g3' (by intro z; cases z)
    have t2 : t ≠ l := ne_of g.bef g.kep (by intro z; cases z)
    rw [upd_ne t1, upd_ne t2]
    exact g.bef
  · rw [upd_ne d.qs.symm, upd_ne d.ls.symm]
    exact g.som
end
end Kz

set_option Elab.async false
set_option linter.all false
set_option maxRecDepth 100000
set_option maxHeartbeats 4000000
namespace Kz
open PySem PySem.Spec PyProof.Rows L2 StX ClX
abbrev sGrown : Stmt := top 39
abbrev NG : List Str := ["draw", "some", "row", "kept", "before", "k", "one", "at", "odd", "what", "which"]
theorem scGrown : FnScope NG ["draw", "some"] (defScope sGrown) := ⟨rfl, rfl, rfl, by decide +kernel, rfl, by decide +kernel, by decide +kernel⟩
def spGrown (K : PySem.W.Frag) : Sp := fun vs H Q _ => ∃ (p s0 : Addr) (N : Nat) (ws : List V) (kw : List Tk), vs = [.ref p, .ref s0] ∧ DrawAt H p N ∧ N < 50000 ∧ H s0 = some (.lst ws) ∧ EvAll K H ws kw ∧ ws.length ≤ 6 ∧ ∀ H', DrawAt H' p (N + 60) → Q (.bl true) H'
/-- the last objects -/
theorem what_ok (K : PySem.W.Frag) {H : Hp} {tp : Addr} {n : Nat} {i : Nat} {x : V} (hn : n ≤ 100) (h1 : H tp = some (.tup [.int 0])) (hx : ([.int n, .int (0 - 1), .non, .bl true, .bl false, .str "0", .ref tp, .int (10 ^ (30 : Int).toNat)] : List V)[i]? = some x) :
    ∃ d, Sd K H x d ∧ fits d ∧ Shw d ∧ ixT n (.dat d) = none := by
  match i, hx with
  | 0, hx =>
    cases hx
    refine ⟨.int n, .int _, (fun x e => by cases e), ⟨?_, (by show 1921 ≤ 20200; decide), Nat.zero_le _⟩, if_neg (by omega)⟩
    refine int_show (i := (n : Int)) ?_
    have : 1000 ≤ big.toNat := by decide +kernel
    omega
  | 1, hx =>
    cases hx
    exact ⟨.int (0 - 1), .int _, (fun x e => by cases e), ⟨by decide +kernel, (by show 1921 ≤ 20200; decide), Nat.zero_le _⟩, by show (if (0 : Int) ≤ 0 - 1 ∧ (0 - 1 : Int) < n then some ((0 - 1 : Int)).toNat else none) = none; exact if_neg (by omega)⟩
  | 2, hx =>
    cases hx
    exact ⟨.none, .non, (fun x e => by cases e), ⟨rfl, by decide, Nat.zero_le _⟩, rfl⟩
  | 3, hx =>
    cases hx
    exact ⟨.bool true, .bl _, (fun x e => by cases e), ⟨rfl, (by show 5 ≤ 20200; decide), Nat.zero_le _⟩, rfl⟩
  | 4, hx =>
    cases hx
    exact ⟨.bool false, .bl _, (fun x e => by cases e), ⟨rfl, (by show 5 ≤ 20200; decide), Nat.zero_le _⟩, rfl⟩
  | 5, hx =>
    cases hx
    exact ⟨.str "0", .str _, (fun x e => by cases e; decide), ⟨rfl, by decide +kernel, Nat.zero_le _⟩, rfl⟩
  | 6, hx =>
    cases hx
    exact ⟨.tuple [.int 0], .tup (SqT.of h1) (.cons (.int 0) .nil), (fun x e => by cases e), ⟨by decide, by decide, by decide⟩, rfl⟩
  | 7, hx =>
    cases hx
    refine ⟨.int (10 ^ (30 : Int).toNat), .int _, (fun x e => by cases e), ⟨by decide +kernel, (by show 1921 ≤ 20200; decide), Nat.zero_le _⟩, if_neg (fun z => ?_)⟩
    have e : (1000 : Int) < 10 ^ (30 : Int).toNat := by decide +kernel
    omega
  | n + 8, hx => cases hx
theorem Gw.mono_ {K : PySem.W.Frag} {p a q l t s0 lc : Addr} {ws xs : List V} {kw ks : List Tk} {N M : Nat} {H : Hp} (g : Gw K p a q l t s0 lc ws kw N xs ks H) (h : N ≤ M) : Gw K p a q l t s0 lc ws kw M xs ks H := ⟨g.drw.mono h, g.cel, g.row, g.kep, g.bef, g.som, g.ev, g.ew⟩
theorem spInit_mono {K : PySem.W.Frag} {C : Addr} {fld : Str} {ho : List V → HO} {CV : Addr} {vs : List V} {H : Hp} {Q Q' : VK} {E : XK} (h : spInit K C fld ho CV vs H Q E) (i : ∀ v H, Q v H → Q' v H) : spInit K C fld ho CV vs H Q' E := by
  obtain ⟨a, dx, ws, ks, H0, e1, e2, e3, e4, e5, e6, e7, q, r⟩ := h
  exact ⟨a, dx, ws, ks, H0, e1, e2, e3, e4, e5, e6, e7, fun b p H' z1 z2 z3 z4 => i _ _ (q b p H' z1 z2 z3 z4), r⟩
section
variable {P : Program} {w : World} {K : PySem.W.Frag} {mg : Str → Option Value} {base : Heap}
theorem ok_grown {f : Addr} {fd : FuncData} (F : FnP K "_law_grown_right" sGrown f fd) (N : Nm K mg) (T : Ts K mg) (S : Es P w K mg base) (R : Rq K mg) (SY : SysK K) (L : LkF K mg) (D : Dr K mg) (BP : PackF K mg) (BR : RowF K mg) (OF : OctF K mg) (CF : CatchF K mg (CV K) "InvalidValue" "value") (CG : CatchF K mg (CI K) "InvalidIndex" "index") (no : PySem.W.kitOne K (.ref (CV K)) (.ref (CI K)) = some false)
    (LH : ∃ f fd, FnP K "_law_holds" sHolds f fd ∧ mg "_law_holds" = some (.ref f)) (LA : ∃ f fd, FnP K "_law_atom" sAtom f fd ∧ mg "_law_atom" = some (.ref f)) (LO : ∃ f fd, FnP K "_law_odd" sOdd f fd ∧ mg "_law_odd" = some (.ref f)) (LW : ∃ f fd, FnP K "_law_word" sWord f fd ∧ mg "_law_word" = some (.ref f)) :
    FnG P w K mg base CX0 10 f fd ["draw", "some"] (spGrown K) := by
  obtain ⟨fI, dI, t0, MO, FI⟩ := OF.init
  obtain ⟨fp, dp, MP, FP⟩ := BP.init
  obtain ⟨fr, dr, MR, FR⟩ := BR.init
  obtain ⟨mr, pr, gr, dR, rR, cR, FOR⟩ := BR.of
  obtain ⟨pQ, gQ, dQ, PQ, FQ⟩ := BR.parts
  obtain ⟨f2, d2, F2, g2⟩ := D.mixed
  obtain ⟨f3, d3, F3, g3⟩ := D.next
  obtain ⟨f4, d4, F4, g4⟩ := LA
  obtain ⟨f5, d5, F5, g5⟩ := LO
  obtain ⟨fw, dw, FW, gW⟩ := LW
  obtain ⟨fh, dh, FH, gH⟩ := LH
  obtain ⟨fa, da, FA, gA⟩ := L.all
  have GI : FnOk P w K mg base (L2.CX P w) 3 fI dI ["self", "numbers"] (spOctI K (gC K "Octets") (gC K "InvalidNumbers")) := ok_octI OF.cls OF.noN FI N T R S
  have GP : FnR P w K mg base (L2.CX P w) 7 fp (spInit K (CP K) "_parts" HO.tup (gC K "InvalidValue")) := ok_packI BP.cls BP.noP FP N T S R
  have GR : FnR P w K mg base (L2.CX P w) 7 fr (spInit K (CR K) "_sequence" HO.lst (gC K "InvalidValue")) := ok_rowI BR.cls BR.noS FR N T S R
  have OR_ : FnOk P w K mg base (L2.CX P w) 9 gr dR ["cls", "parts"] (spOf K (CR K) "_sequence" HO.lst (gC K "InvalidValue")) := ok_rowOf FOR N S R MR GR
  have GQ : FnOk P w K mg base CX0 1 gQ dQ ["self"] (spParts (CR K) "_sequence" HO.lst) := ok_rowP BR.cls BR.noS FQ N
  have G3 : FnOk P w K mg base CX0 2 f3 d3 ["draw", "bound"] spNext := ok_next F3 F2 g2 N.len
  have G4 : FnOk P w K mg base CX0 3 f4 d4 ["draw"] spAtom := ok_atom F4 N D
  have G5 : FnOk P w K mg base CX0 3 f5 d5 ["draw"] (spOdd K) := ok_odd F5 N D
  have GW : FnOk P w K mg base CX0 7 fw dw ["way", "row", "what", "one"] (spWord K) := ok_word FW N T S R BR CF CG no
  have GH : FnG P w K mg base CX0 6 fh dh ["node", "kind", "some"] (spHolds K) := ok_holds FH N SY L BP BR
  have GA : FnG P w K mg base CX0 3 fa da ["some", "others"] (spAll K) := ok_all FA N SY L.like
  have bQ : Binds K dQ ["self"] [] := FQ.bindsN fun _ _ _ _ _ _ us hl => match us, hl with | [_], _ => rfl
  have bR : Binds K dR ["cls", "parts"] [] := FOR.bindsN fun _ _ _ _ _ _ us hl => match us, hl with | [_, _], _ => rfl
  have b3 : Binds K d3 ["draw", "bound"] [] := F3.bindsN fun _ _ _ _ _ _ us hl => match us, hl with | [_, _], _ => rfl
  have b4 : Binds K d4 ["draw"] [] := F4.bindsN fun _ _ _ _ _ _ us hl => match us, hl with | [_], _ => rfl
  have b5 : Binds K d5 ["draw"] [] := F5.bindsN fun _ _ _ _ _ _ us hl => match us, hl with | [_], _ => rfl
  have bW : Binds K dw ["way", "row", "what", "one"] [] := FW.bindsN fun _ _ _ _ _ _ us hl => match us, hl with | [_, _, _, _], _ => rfl
  have bH : Binds K dh ["node", "kind", "some"] [] := FH.bindsN fun _ _ _ _ _ _ us hl => match us, hl with | [_, _, _], _ => rfl
  have bA : Binds K da ["some", "others"] [] := FA.bindsN fun _ _ _ _ _ _ us hl => match us, hl with | [_, _], _ => rfl
  obtain ⟨dsI, vdsI, bI⟩ : ∃ ds, Vals (([V.ref t0] : List V).drop 1) ds ∧ Binds K dI ["self", "numbers"] ds := FI.binds1 2 1 (by simp) rfl fun _ _ _ _ _ _ _ us its hl hi => match us, its, hl, hi with | [_, _], [_], _, _ => ⟨_, rfl, rfl⟩
  refine F.okG scGrown (fun vs H Q E h => ?_) (fun cdv A outer s H vs Q E hgu hr h => ?_)
  · obtain ⟨p, s0, n, ws, kw, rfl, _⟩ := h
    rfl
  · have pN0 : ∀ {X : Cx}, Passes (L2.CX X.prog X.w) X E0 := fun _ _ _ _ _ _ _ z => (no_cx z).elim
    refine ⟨_, PSs.nox (pss_cons (ps_asg (pe_tup (pa_cons (pe_cmethSg (E := fun _ => E0) (pe_glob (v := .ref (CR K)) (by rfl) BR.nm rfl) rR cR OR_ hr bR (fun σ _ _ _ _ _ _ z => (no_cx z).elim) (pa_cons (pe_callTy call_tuple_of (by rfl) N.tuple (by decide +kernel) (pa_cons (pv 1) pa_nil)) pa_nil))
          (pa_cons (pe_callTy call_list_of (by rfl) N.list (by decide +kernel) (pa_cons (pv 1) pa_nil)) pa_nil))) (pg_tup rfl (pgs_cons (pg_name (i := 2) scGrown.nd rfl (Or.inr rfl)) (pgs_cons (pg_name (i := 3) scGrown.nd rfl (Or.inl rfl)) pgs_nil))))
      (pss_cons (ps_set (i := 4) scGrown.nd rfl (Or.inl rfl) (pe_prop (pv 2) BR.cls PQ GQ (hr.mono (by decide)) bQ .nil pass0 (by rfl)))
      (pss_cons (ps_for PassesOwn.never rfl (pi_range1 (by rfl) N.rng (pa_cons (pe_op op_add pe_int (pe_call G3 (hr.mono (by decide)) (by rfl) g3 F3.kp b3 .nil pass0 (pa_cons (pv 0) (pa_cons pe_int pa_nil)))) pa_nil)) (pg_name (i := 5) scGrown.nd rfl (Or.inl rfl))
        (pss_cons (ps_set (i := 6) scGrown.nd rfl (Or.inl rfl) (pe_ix ix_list (pe_lst (pa_cons (pe_call G4 (hr.mono (by decide)) (by rfl) g4 F4.kp b4 .nil pass0 (pa_cons (pv 0) pa_nil)) (pa_cons (pv 2)
            (pa_cons (pe_make (E := E0) MO GI (hr.mono (by decide)) (by rfl) OF.nm bI vdsI (fun _ _ _ _ _ _ _ z => (no_cx z).elim) (pa_cons (pe_tup (pa_cons (pv 5) pa_nil)) pa_nil))
            (pa_cons (pe_makeR (E := E0) MP GP (hr.mono (by decide)) (by rfl) BP.nm (fun _ _ _ _ _ _ _ z => (no_cx z).elim) (pa_cons (pv 2) pa_nil)) pa_nil)))))
            (pe_call G3 (hr.mono (by decide)) (by rfl) g3 F3.kp b3 .nil pass0 (pa_cons (pv 0) (pa_cons pe_int pa_nil))) (fun _ _ => rfl)))
        (pss_cons (ps_set (i := 7) scGrown.nd rfl (Or.inl rfl) (pe_call G3 (hr.mono (by decide)) (by rfl) g3 F3.kp b3 .nil pass0 (pa_cons (pv 0) (pa_cons (pe_op op_add (pe_callB call_len (by rfl) N.len PySem.boot_len (pa_cons (pv 3) pa_nil)) pe_int) pa_nil))))
        (pss_cons (ps_if (pt_cmpR op_eq (pv 7) (pe_callB call_len (by rfl) N.len PySem.boot_len (pa_cons (pv 3) pa_nil)) (nomark _))
            (pss_cons (ps_expr (pe_bm PySem.F.plainAttrs_list PySem.F.slot_list_append PySem.F.type_list_append mt_append (pv 3) (pa_cons (pv 6) pa_nil)))
              (pss_one (ps_if (pt_cmpR (op_neD hr.units) (pe_call GW (hr.mono (by decide)) (by rfl) gW FW.kp bW .nil pass0 (pa_cons pe_int (pa_cons (pv 2) (pa_cons pe_int (pa_cons (pv 6) pa_nil))))) (pe_lst (pa_cons pe_str pa_nil)) (nomark _)) (pss_one (ps_ret pe_bl)) pss_nil)))
            (pss_cons (ps_asg (pv 6) (pg_sub (pv 3) (pv 7) set_list))
              (pss_one (ps_if (pt_cmpR (op_neD hr.units) (pe_call GW (hr.mono (by decide)) (by rfl) gW FW.kp bW .nil pass0 (pa_cons pe_int (pa_cons (pv 2) (pa_cons (pv 7) (pa_cons (pv 6) pa_nil))))) (pe_lst (pa_cons pe_str pa_nil)) (nomark _)) (pss_one (ps_ret pe_bl)) pss_nil))))
        (pss_one (ps_if (pt_not (pt_val (pe_callG hgu GH (hr.mono (by decide)) (by rfl) gH FH.kp bH .nil pass0 (pa_cons (pv 2) (pa_cons pe_int (pa_cons (pv 3) pa_nil)))))) (pss_one (ps_ret pe_bl)) pss_nil))))))
      (pss_cons (ps_asg (pe_tup (pa_cons (pe_call G5 (hr.mono (by decide)) (by rfl) g5 F5.kp b5 .nil pass0 (pa_cons (pv 0) pa_nil))
          (pa_cons (pe_ix ix_list (pe_lst (pa_cons (pe_callB call_len (by rfl) N.len PySem.boot_len (pa_cons (pv 3) pa_nil)) (pa_cons (pe_op op_sub pe_int pe_int) (pa_cons pe_non (pa_cons pe_bl (pa_cons pe_bl (pa_cons pe_str (pa_cons (pe_tup (pa_cons pe_int pa_nil)) (pa_cons (pe_op op_pow pe_int pe_int) pa_nil)))))))))
            (pe_call G3 (hr.mono (by decide)) (by rfl) g3 F3.kp b3 .nil pass0 (pa_cons (pv 0) (pa_cons pe_int pa_nil))) (fun _ _ => rfl)) pa_nil))) (pg_tup rfl (pgs_cons (pg_name (i := 8) scGrown.nd rfl (Or.inr rfl)) (pgs_cons (pg_name (i := 9) scGrown.nd rfl (Or.inl rfl)) pgs_nil))))
      (pss_cons (ps_if (pt_cmpR op_ne (pe_callB (call_repr hgu hr SY) (by rfl) N.repr boot_repr (pa_cons (pe_lc (own := [("which", 10)]) (g := gName 10) (tt := tYes) rfl scGrown.nd (pi_range1 (by rfl) N.rng (pa_cons pe_int pa_nil)) (blkOk_by (own := [("which", 10)]) (N := NG) (sc := defScope sGrown) (by decide +kernel))
            (fun _ _ _ _ _ => pg_name (i := 10) scGrown.nd rfl (Or.inl rfl)) (fun _ _ _ _ _ => pts_nil) (fun _ _ _ _ _ => pe_call GW (hr.mono (by decide)) (by rfl) gW FW.kp bW .nil pass0 (pa_cons (pv 10) (pa_cons (pv 2) (pa_cons pe_int (pa_cons (pv 8) pa_nil)))))) pa_nil))
          (pe_callB (call_repr hgu hr SY) (by rfl) N.repr boot_repr (pa_cons (pe_op op_rep (pe_lst (pa_cons (pe_lst (pa_cons pe_str (pa_cons (pv 8) pa_nil))) pa_nil)) pe_int) pa_nil)) (nomark _)) (pss_one (ps_ret pe_bl)) pss_nil)
      (pss_cons (ps_if (pt_cmpR op_ne (pe_callB (call_repr hgu hr SY) (by rfl) N.repr boot_repr (pa_cons (pe_call GW (hr.mono (by decide)) (by rfl) gW FW.kp bW .nil pass0 (pa_cons pe_int (pa_cons (pv 2) (pa_cons (pv 9) (pa_cons (pv 8) pa_nil))))) pa_nil))
          (pe_callB (call_repr hgu hr SY) (by rfl) N.repr boot_repr (pa_cons (pe_lst (pa_cons pe_str (pa_cons (pv 9) pa_nil))) pa_nil)) (nomark _)) (pss_one (ps_ret pe_bl)) pss_nil)
      (pss_one (ps_ret (pe_and (pe_callG hgu GH (hr.mono (by decide)) (by rfl) gH FH.kp bH .nil pass0 (pa_cons (pv 2) (pa_cons pe_int (pa_cons (pv 3) pa_nil))))
        (pe_one (pe_callG hgu GA (hr.mono (by decide)) (by rfl) gA FA.kp bA .nil pass0 (pa_cons (pv 4) (pa_cons (pv 1) pa_nil))))))))))))), ?_⟩
    obtain ⟨p, s0, n, ws, kw, rfl, D0, hn, hs0, ew, hl, k⟩ := h
    have ft := ew.fit
    obtain ⟨lc, hc, oc, hoc⟩ := draw_cells D0
    refine ⟨rfl, _, rfl, s0, ws, rfl, .inl ⟨SqL.of hs0, fun t nt => ⟨.ref t, "tuple", rfl, ty_tup (SqT.of upd_same), by decide, .inr ⟨rfl, t, ws, kw, rfl, SqT.of upd_same, mkSeq_to (same_new nt) ⟨ew.tv, by omega, ft.1, ?_, ?_⟩⟩⟩⟩⟩
    rotate_left
    · intro i v b
      rw [ew.ok] at b
      cases b
    intro _ a H2 s2 na nk fr
    obtain ⟨dx, q, ha, hq⟩ := nk
    have nq : H q = none := fr _ _ _ ha
    refine ⟨_, rfl, s0, ws, rfl, .inl (SqL.of (s2 _ _ hs0)), fun l nl => ⟨sz 2 (by decide), fun p0 n0 => ⟨p0, _, rfl, SqT.of upd_same, rfl, _, _, rfl, _, _, rfl, rfl, ?_⟩⟩⟩
    have s3 := same_new (o := .lst ws) nl
    have s4 := same_new (o := .tup [V.ref a, V.ref l]) n0
    have s24 := s3.tr s4
    have ha4 := s24 _ _ ha
    have hq4 := s24 _ _ hq
    refine ⟨_, rfl, a, dx, _, rfl, ha4, a, dx, q, ws, rfl, ha4, hq4, fun t H5 s5 ht => ?_⟩
    have s25 := s24.tr s5
    have dist : Ds q l lc s0 := by
      refine ⟨fun z => ?_, fun z => ?_, fun z => ?_, fun z => ?_, fun z => ?_⟩
      · rw [← z, hq] at nl
        cases nl
      · rw [z, hoc] at nq
        cases nq
      · rw [z, s2 _ _ hoc] at nl
        cases nl
      · rw [z, hs0] at nq
        cases nq
      · rw [z, s2 _ _ hs0] at nl
        cases nl
    have g0 : Gw K p a q l t s0 lc ws kw n ws kw H5 := by
      have s05 := s2.tr s25
      exact ⟨D0.same s05, cells_same hc s05, ⟨dx, s25 _ _ ha, s25 _ _ hq⟩, s5 _ _ (s4 _ _ upd_same), ht, s05 _ _ hs0, ew.to (.of s05), ew.to (.of s05)⟩
    refine ⟨_, rfl, p, 4, n, rfl, g0.drw, by omega, by decide, by decide, fun r6 H6 a6 b6 D6 k6 => ?_⟩
    have g6 := g0.keep k6 D6
    refine ⟨_, _, rfl, rfl, _, rfl, by omega, by omega, ?_⟩
    refine for_range (fun i σ H' => ∃ t5 t6 t7 t8 t9 t10 : Option V, σ = [some (.ref p), some (.ref s0), some (.ref a), some (.ref l), some (.ref t), t5, t6, t7, t8, t9, t10] ∧ ∃ xs ks, Gw K p a q l t s0 lc ws kw (n + 1 + 6 * i) xs ks H' ∧ xs.length ≤ ws.length + i ∧ (0 < i → 0 < xs.length)) ⟨_, _, _, _, _, _, rfl, ws, kw, g6, Nat.le_refl _, fun z => absurd z (Nat.lt_irrefl 0)⟩ ?_ ?_
    · rintro i σ H' hi ⟨t5, t6, t7, t8, t9, t10, rfl, xs, ks, g, hx, hx0⟩
      have hi6 : i < 6 := by omega
      refine ⟨_, rfl, p, _, rfl, g.drw, by omega, fun v4 d4 H7 at4 D7 k7 => ?_⟩
      have g7 := g.keep k7 D7
      obtain ⟨dx7, ha7, hq7⟩ := g7.row
      refine ⟨_, rfl, _, rfl, sz 1 (by decide), fun a8 n8 => fun x dx8 nx nd ne => ⟨x, dx8, .ref a8, .tuple [.int (0 + (i : Int))], rfl, upd_same, ?_, ?_, fun _ H9 s9 => ⟨rfl, ?_⟩, fun z => ?_⟩⟩
      · have na8 : a8 ≠ x := fun z => by
          rw [← z, upd_same] at nx
          cases nx
        have na8' : a8 ≠ dx8 := fun z => by
          rw [← z, upd_same] at nd
          cases nd
        exact .tup (SqT.of (by rw [upd_ne na8, upd_ne na8', upd_same])) (.cons (.int _) .nil)
      · intro ds e d m
        cases e
        cases List.mem_singleton.mp m
        intro y z
        cases z
      rotate_left
      · refine absurd z ?_
        show ¬ ((decide (1 ≤ 2000) && ((decide (0 ≤ (0 : Int) + i) && decide ((0 : Int) + i < 256)) && true)) = false)
        rw [decide_eq_true (p := (0 : Int) ≤ 0 + i) (by omega), decide_eq_true (p := (0 : Int) + i < 256) (by omega)]
        decide
      -- the Octets stand
      have s8 := same_new (o := .tup [V.int (0 + (i : Int))]) n8
      have nx7 : H7 x = none := none_of s8 nx
      have s79 : Same H7 (upd H9 x (.ins (gC K "Octets") dx8 [("_numbers", .ref a8)])) := by
        have z : Same (upd H7 a8 (.tup [V.int (0 + (i : Int))])) (upd (upd (upd H7 a8 (.tup [V.int (0 + (i : Int))])) dx8 (.own x)) x (.ins (gC K "Octets") dx8 [])) := fun b o e => by
          rw [upd_ne (ne_of_none e nx), upd_ne (ne_of_none e nd)]
          exact e
        exact same_updN (s8.tr (z.tr s9)) nx7
      have g9 := g7.same s79
      have ho9 : (upd H9 x (.ins (gC K "Octets") dx8 [("_numbers", .ref a8)])) x = some (.ins (gC K "Octets") dx8 [("_numbers", .ref a8)]) := upd_same
      generalize upd H9 x (.ins (gC K "Octets") dx8 [("_numbers", .ref a8)]) = H10 at *
      obtain ⟨dx9, ha9, hq9⟩ := g9.row
      refine ⟨_, rfl, fun y dx10 hy hdy hne => spInit_mono (mkSeq (ws := [V.ref a]) (ks := [.nod (CR K)]) (Q := fun u H3 => ∃ y, u = V.ref y ∧ Same H10 H3 ∧ NodAt (CP K) "_parts" HO.tup H3 y [V.ref a]) ⟨.cons (show Tv K (CN K) H10 (.ref a) (.nod (CR K)) from ⟨BR.nod, a, dx9, _, rfl, ha9⟩) .nil, (by show 1 ≤ 60; decide), (fun k m => by cases List.mem_singleton.mp m; exact True.intro), fun _ y H11 s11 _ ny _ => ⟨y, rfl, s11, ny⟩, fun i v b => by cases b⟩ y dx10 hy hdy hne) fun u H11 z => ?_⟩
      obtain ⟨rfl, y', zz, s11, hny⟩ := z
      cases zz
      refine ⟨rfl, sz 4 (by decide), fun L12 n12 => ?_⟩
      have s12 := same_new (o := .lst [v4, .ref a, .ref x, .ref y]) n12
      obtain ⟨dxy, py, hyy, _⟩ := hny
      have ho12 := s12 _ _ (s11 _ _ ho9)
      have hy12 := s12 _ _ hyy
      have hL12 : (upd H11 L12 (.lst [v4, .ref a, .ref x, .ref y])) L12 = some (.lst [v4, .ref a, .ref x, .ref y]) := upd_same
      have g12 := (g9.same s11).same s12
      generalize upd H11 L12 (.lst [v4, .ref a, .ref x, .ref y]) = H12 at *
      have nLp : L12 ≠ p := g12.np hL12 fun _ z => by cases z
      refine ⟨_, rfl, p, 4, _, rfl, g12.drw, by omega, by decide, by decide, fun r13 H13 a13 b13 D13 k13 => ?_⟩
      have g13 := g12.keep k13 D13
      have ho13 := k13 _ _ ho12 (g12.np ho12 fun _ z => by cases z)
      have hy13 := k13 _ _ hy12 (g12.np hy12 fun _ z => by cases z)
      have hL13 := k13 _ _ hL12 nLp
      obtain ⟨dx13, ha13, hq13⟩ := g13.row
      obtain ⟨v, kv, hv, ev⟩ : ∃ v kv, ([v4, .ref a, .ref x, .ref y] : List V)[r13.toNat]? = some v ∧ Ev K H13 v kv := by
        obtain ⟨j, rfl⟩ := Int.eq_ofNat_of_zero_le a13
        have hj : j < 4 := by omega
        match j, hj with
        | 0, _ => exact ⟨_, .dat d4, rfl, at4⟩
        | 1, _ => exact ⟨_, .nod (CR K), rfl, BR.nod, a, _, _, rfl, ha13⟩
        | 2, _ => exact ⟨_, .nod (gC K "Octets"), rfl, OF.nod, x, _, _, rfl, ho13⟩
        | 3, _ => exact ⟨_, .nod (CP K), rfl, BP.nod, y, _, _, rfl, hy13⟩
      refine ⟨L12, _, _, v, rfl, rfl, SqL.of hL13, at_of (Int.toNat_of_nonneg a13).symm hv, ?_⟩
      -- at
      refine ⟨_, rfl, _, rfl, _, xs.length, rfl, .inl ⟨_, SqL.of g13.kep, rfl⟩, _, _, rfl, rfl, p, _, _, rfl, D13, by omega, by omega, by omega, fun r14 H14 a14 b14 D14 k14 => ?_⟩
      have g14 := g13.keep k14 D14
      have ev14 := ev.to (KI.keep g13.cel k14)
      have fe := ev14.fit
      have lx : xs.length ≤ 100 := by omega
      have hdone : ∀ {H15 : Hp} {r L : Addr}, H15 r = some (.lst [.str "done"]) → H15 L = none → Dp K (upd H15 L (.lst [.str "done"])) (.ref r) (.list [.str "done"]) ∧ Dp K (upd H15 L (.lst [.str "done"])) (.ref L) (.list [.str "done"]) := fun h n => ⟨.lst (SqL.of (same_new n _ _ h)) (.cons (.str _) .nil), .lst (SqL.of upd_same) (.cons (.str _) .nil)⟩
      by_cases c : r14 = (xs.length : Int)
      · refine ⟨_, rfl, _, rfl, _, xs.length, rfl, .inl ⟨_, SqL.of g14.kep, rfl⟩, rfl, true, by rw [decide_eq_true (p := V.int r14 = V.int xs.length) (by rw [c])], iteT ?_⟩
        refine ⟨_, rfl, .inl ⟨rfl, _, SqL.of g14.kep⟩, _, rfl, l, xs, v, rfl, rfl, g14.kep, Nat.lt_of_le_of_lt lx (by decide), ?_⟩
        obtain ⟨dx14, ha14, hq14⟩ := g14.row
        have ki : KI H14 (upd H14 l (.lst (xs ++ [v]))) := KI.lst g14.kep
        have g15 := (g14.step dist (g14.ev.app (.cons ev14 .nil))).mono_ (M := n + 1 + 6 * (i + 1)) (by omega)
        refine ⟨_, rfl, _, rfl, 0, a, q, xs, .int 0, v, .dat (.int 0), kv, rfl, ⟨dx14, ki _ _ _ _ ha14, by rw [upd_ne dist.ql]; exact hq14⟩, by omega, .int 0, (fun x z => by cases z), (ev14.to ki).tv, fe.1, fun _ _ r15 H15 s15 hr15 => ?_, fun _ z => absurd rfl z, fun z => ?_, fun z => absurd rfl z⟩
        · refine ⟨sz 1 (by decide), fun L15 nL15 => ?_⟩
          obtain ⟨p1, p2⟩ := hdone hr15 nL15
          refine ⟨_, _, p1, p2, by decide +kernel, by decide +kernel, false, by decide +kernel, iteF ?_⟩
          have g16 := (g15.same s15).same (same_new (o := .lst [.str "done"]) nL15)
          obtain ⟨dx16, ha16, hq16⟩ := g16.row
          refine ⟨_, rfl, _, rfl, 1, a, l, _, _, rfl, .inr ⟨rfl, dx16, q, ha16, hq16⟩, SqL.of g16.kep, g16.ev.tv, g16.ev.fit.2.1, by rw [List.length_append, List.length_singleton]; omega, fun H17 s17 => ⟨_, rfl, iteF ?_⟩⟩
          exact ⟨_, _, _, _, _, _, rfl, _, _, g16.same s17, by rw [List.length_append, List.length_singleton]; omega, fun _ => by rw [List.length_append, List.length_singleton]; omega⟩
        · rw [fe.2.2] at z
          cases z
      · refine ⟨_, rfl, _, rfl, _, xs.length, rfl, .inl ⟨_, SqL.of g14.kep, rfl⟩, rfl, false, by rw [decide_eq_false (p := V.int r14 = V.int xs.length) (fun z => c (by cases z; rfl))], iteF ?_⟩
        have lt14 : r14 < (xs.length : Int) := by omega
        obtain ⟨j, rfl⟩ := Int.eq_ofNat_of_zero_le a14
        have eix : ixT xs.length (.dat (.int (j : Int))) = some j := by
          show (if 0 ≤ (j : Int) ∧ (j : Int) < (xs.length : Int) then some (j : Int).toNat else none) = some j
          rw [if_pos ⟨by omega, lt14⟩]
          rfl
        have g15 := (g14.step dist (g14.ev.set j ev14)).mono_ (M := n + 1 + 6 * (i + 1)) (by omega)
        have lset : (xs.set j v).length = xs.length := List.length_set
        refine ⟨_, rfl, _, rfl, _, rfl, l, xs, _, j, rfl, rfl, g14.kep, ?_, ?_⟩
        · show (if 0 ≤ (j : Int) then (if (j : Int) < (xs.length : Int) then some (j : Int).toNat else none) else _) = some j
          rw [if_pos (by omega), if_pos lt14]
          rfl
        obtain ⟨dx14, ha14, hq14⟩ := g14.row
        have ki : KI H14 (upd H14 l (.lst (xs.set j v))) := KI.lst g14.kep
        refine ⟨_, rfl, _, rfl, _, rfl, 1, a, q, xs, .int (j : Int), v, .dat (.int (j : Int)), kv, rfl, ⟨dx14, ki _ _ _ _ ha14, by rw [upd_ne dist.ql]; exact hq14⟩, by omega, .int _, (fun x z => by cases z), (ev14.to ki).tv, fe.1, fun _ z => absurd z (by decide), fun _ _ j' ej r15 H15 s15 hr15 => ?_, fun z => ?_, fun _ z => ?_⟩
        · obtain rfl : j = j' := by
            rw [eix] at ej
            cases ej
            rfl
          refine ⟨sz 1 (by decide), fun L15 nL15 => ?_⟩
          obtain ⟨p1, p2⟩ := hdone hr15 nL15
          refine ⟨_, _, p1, p2, by decide +kernel, by decide +kernel, false, by decide +kernel, iteF ?_⟩
          have g16 := (g15.same s15).same (same_new (o := .lst [.str "done"]) nL15)
          obtain ⟨dx16, ha16, hq16⟩ := g16.row
          refine ⟨_, rfl, _, rfl, 1, a, l, _, _, rfl, .inr ⟨rfl, dx16, q, ha16, hq16⟩, SqL.of g16.kep, g16.ev.tv, g16.ev.fit.2.1, by omega, fun H17 s17 => ⟨_, rfl, iteF ?_⟩⟩
          exact ⟨_, _, _, _, _, _, rfl, _, _, g16.same s17, by omega, fun _ => by omega⟩
        · rw [fe.2.2] at z
          cases z
        · rw [eix] at z
          cases z
    · rintro σ H' ⟨t5, t6, t7, t8, t9, t10, rfl, xs, ks, g, hx, hx0⟩
      have x0 : 0 < xs.length := hx0 (by omega)
      have lx : xs.length ≤ 100 := by omega
      refine ⟨_, rfl, p, _, rfl, g.drw, by omega, fun ov od Ho oD osd oDr oK => ?_⟩
      have go := g.keep oK oDr
      refine ⟨_, rfl, _, xs.length, rfl, .inl ⟨_, SqL.of go.kep, rfl⟩, _, _, rfl, rfl, sz 1 (by decide), fun tp ntp => ⟨_, _, rfl, rfl, ⟨by decide, by decide, by decide⟩, sz 8 (by decide), fun L8 n8 => ?_⟩⟩
      have u1 := same_new (o := .tup [.int 0]) ntp
      have u2 := same_new (o := .lst [.int xs.length, .int (0 - 1), .non, .bl true, .bl false, .str "0", .ref tp, .int (10 ^ (30 : Int).toNat)]) n8
      have gw := (go.same u1).same u2
      have htp := u2 _ _ (upd_same (H := Ho) (a := tp) (o := .tup [.int 0]))
      refine ⟨_, rfl, p, 8, _, rfl, gw.drw, by omega, by decide, by decide, fun r9 H9 a9 b9 D9 k9 => ?_⟩
      have g9 := gw.keep k9 D9
      have hL9 := k9 _ _ (upd_same (H := upd Ho tp (.tup [.int 0])) (a := L8) (o := .lst [.int xs.length, .int (0 - 1), .non, .bl true, .bl false, .str "0", .ref tp, .int (10 ^ (30 : Int).toNat)])) (gw.np upd_same fun _ z => by cases z)
      have htp9 := k9 _ _ htp (gw.np htp fun _ z => by cases z)
      obtain ⟨wv, hwv⟩ : ∃ wv, ([.int xs.length, .int (0 - 1), .non, .bl true, .bl false, .str "0", .ref tp, .int (10 ^ (30 : Int).toNat)] : List V)[r9.toNat]? = some wv := ⟨_, List.getElem?_eq_getElem (by show r9.toNat < 8; omega)⟩
      obtain ⟨wd, wsd, wf, wsh, wix⟩ := what_ok K lx htp9 hwv
      have osd9 : Sd K H9 ov od := osd _ ((Keep.of (u1.tr u2)).trans k9)
      refine ⟨L8, _, _, wv, rfl, rfl, SqL.of hL9, at_of (Int.toNat_of_nonneg a9).symm hwv, sz 2 (by decide), fun p0 n0 => ⟨p0, _, rfl, SqT.of upd_same, rfl, _, _, rfl, _, _, rfl, rfl, ?_⟩⟩
      have u3 := same_new (o := .tup [ov, wv]) n0
      have g10 := g9.same u3
      have osd10 := sd_to osd9 u3
      have wsd10 := sd_to wsd u3
      generalize upd H9 p0 (.tup [ov, wv]) = H10 at *
      refine ⟨2, rfl, by decide, by decide, fun D nD => lc_it walk_range (fun i H1 => ∃ rs : List V, Same H10 H1 ∧ H1 D = some (.lst rs) ∧ rs.length = i ∧ ∀ r ∈ rs, ∃ b, r = V.ref b ∧ H1 b = some (.lst [.str "value", ov])) ⟨[], same_new nD, upd_same, rfl, fun _ m => (List.not_mem_nil m).elim⟩ (fun _ _ _ _ => True.intro) ?_ ?_⟩
      · rintro j x H1 H2' hj ⟨rs, s1, hD, lr, hr'⟩ ⟨rfl, rfl⟩
        have g11 := g10.same s1
        have osd11 := sd_to osd10 s1
        refine ⟨rfl, yesT ⟨_, rfl, _, rfl, _, rfl, _, a, q, xs, .int 0, ov, .dat (.int 0), .dat od, rfl, g11.row, by omega, .int 0, (fun x z => by cases z), osd11, oD.fit, fun z => ?_, fun z => ?_, fun _ _ r12 H12 s12 hr12 => ?_, fun _ z => ?_⟩⟩
        · rw [show okT (.dat od) = false from oD.no] at z
          cases z
        · rw [show okT (.dat od) = false from oD.no] at z
          cases z
        · have hD12 := s12 _ _ hD
          have ne : ∀ b, H12 b = some (.lst [.str "value", ov]) → b ≠ D := fun b hb z => by
            rw [z, hD12] at hb
            cases hb
            obtain ⟨b', e', _⟩ := hr' _ List.mem_cons_self
            cases e'
          refine ⟨rs, hD12, Nat.lt_of_le_of_lt (m := 100) (by omega) (by decide), rs ++ [.ref r12], same_updN (s1.tr s12) nD, upd_same, by rw [List.length_append, List.length_singleton, lr], fun r m => ?_⟩
          rcases List.mem_append.mp m with m | m
          · obtain ⟨b, e, hb⟩ := hr' r m
            have hb12 := s12 _ _ hb
            exact ⟨b, e, by rw [upd_ne (ne b hb12)]; exact hb12⟩
          · rw [List.mem_singleton.mp m]
            exact ⟨r12, rfl, by rw [upd_ne (ne r12 hr12)]; exact hr12⟩
        · have z' : (if 0 ≤ (0 : Int) ∧ (0 : Int) < (xs.length : Int) then some ((0 : Int)).toNat else none) = none := z
          rw [if_pos ⟨by omega, by omega⟩] at z'
          cases z'
      · rintro H11 ⟨rs, s11, hD, lr, hr'⟩
        have g11 := g10.same s11
        have osd11 := sd_to osd10 s11
        have wsd11 := sd_to wsd10 s11
        have v100 : (reprText "value").length ≤ 100 := by decide +kernel
        have i100 : (reprText "index").length ≤ 100 := by decide +kernel
        obtain ⟨e1, e2, e3⟩ := pairs_shw v100 oD.shw
        have sdrs : Sd K H11 (.ref D) (.list [.list [.str "value", od], .list [.str "value", od]]) := by
          match rs, lr with
          | [ra, rb], _ =>
            obtain ⟨b1, rfl, h1⟩ := hr' _ List.mem_cons_self
            obtain ⟨b2, rfl, h2⟩ := hr' _ (List.mem_cons_of_mem _ List.mem_cons_self)
            exact .lst (SqL.of hD) (.cons (.lst (SqL.of h1) (.cons (.str _) (.cons osd11 .nil))) (.cons (.lst (SqL.of h2) (.cons (.str _) (.cons osd11 .nil))) .nil))
        refine ⟨_, _, rfl, sdrs, e1, e2, e3, _, rfl, sz 2 (by decide), fun L12 n12 => ⟨sz 1 (by decide), fun L13 n13 => ?_⟩⟩
        have u12 := same_new (o := .lst [.str "value", ov]) n12
        have u13 := same_new (o := .lst [.ref L12]) n13
        refine ⟨L13, 2, _, rfl, rfl, upd_same, by decide, by decide, (by show 1 * 2 ≤ sizeLine; decide), fun L14 n14 => ?_⟩
        have u14 := same_new (o := .lst (List.replicate (2 : Int).toNat [V.ref L12]).flatten) n14
        have u24 := u12.tr (u13.tr u14)
        have h12 := u14 _ _ (u13 _ _ (upd_same (H := H11) (a := L12) (o := .lst [.str "value", ov])))
        have osd14 := sd_to osd11 u24
        have sd14 : Sd K (upd (upd (upd H11 L12 (.lst [.str "value", ov])) L13 (.lst [.ref L12])) L14 (.lst (List.replicate (2 : Int).toNat [V.ref L12]).flatten)) (.ref L14) (.list [.list [.str "value", od], .list [.str "value", od]]) :=
          .lst (SqL.of (xs := [V.ref L12, V.ref L12]) upd_same) (.cons (.lst (SqL.of h12) (.cons (.str _) (.cons osd14 .nil))) (.cons (.lst (SqL.of h12) (.cons (.str _) (.cons osd14 .nil))) .nil))
        refine ⟨_, _, rfl, sd14, e1, e2, e3, rfl, false, by rw [decide_eq_true rfl]; rfl, iteF ?_⟩
        have g14 := g11.same u24
        have wsd14 := sd_to wsd11 u24
        generalize upd (upd (upd H11 L12 (.lst [.str "value", ov])) L13 (.lst [.ref L12])) L14 (.lst (List.replicate (2 : Int).toNat [V.ref L12]).flatten) = H14 at *
        refine ⟨_, rfl, _, rfl, _, rfl, 1, a, q, xs, wv, ov, .dat wd, .dat od, rfl, g14.row, by omega, wsd14, wf, osd14, oD.fit, fun z => ?_, fun z => ?_, fun _ z => ?_, fun _ _ r15 H15 s15 hr15 => ?_⟩
        · rw [show okT (.dat od) = false from oD.no] at z
          cases z
        · rw [show okT (.dat od) = false from oD.no] at z
          cases z
        · rcases z with z | ⟨j, z⟩
          · exact absurd z (by decide)
          · rw [wix] at z
            cases z
        obtain ⟨c1, c2, c3⟩ := pair_shw i100 wsh
        refine ⟨.ref r15, .list [.str "index", wd], rfl, .lst (SqL.of hr15) (.cons (.str _) (.cons (sd_to wsd14 s15) .nil)), c1, c2, c3, _, rfl, sz 2 (by decide), fun L16 n16 => ?_⟩
        have u16 := same_new (o := .lst [.str "index", wv]) n16
        refine ⟨.ref L16, .list [.str "index", wd], rfl, .lst (SqL.of upd_same) (.cons (.str _) (.cons (sd_to wsd14 (s15.tr u16)) .nil)), c1, c2, c3, rfl, false, by rw [decide_eq_true rfl]; rfl, iteF ?_⟩
        have g16 := (g14.same s15).same u16
        obtain ⟨dx16, ha16, hq16⟩ := g16.row
        refine ⟨_, rfl, _, rfl, 1, a, l, _, _, rfl, .inr ⟨rfl, dx16, q, ha16, hq16⟩, SqL.of g16.kep, g16.ev.tv, g16.ev.fit.2.1, lx, fun H17 s17 => ⟨_, rfl, iteT ?_⟩⟩
        have g17 := g16.same s17
        exact ⟨_, rfl, _, rfl, t, s0, ws, kw, rfl, .inr (SqT.of g17.bef), .inl (SqL.of g17.som), g17.ew.tv, g17.ew.fit.2.1, by omega, fun H18 s18 => k _ ((g17.same s18).drw.mono (by omega))⟩
end
end Kz

set_option Elab.async false
set_option linter.all false
set_option maxRecDepth 100000
set_option maxHeartbeats 4000000
namespace Kz
open PySem PySem.Spec PyProof.Rows L2 StX ClX
abbrev sLaw : Stmt := top 40
abbrev NL : List Str := ["script", "draw", "turn", "base", "some", "k", "odd", "at", "bad", "kind", "found"]
theorem scLaw : FnScope NL ["script"] (defScope sLaw) := ⟨rfl, rfl, rfl, by decide +kernel, rfl, by decide +kernel, by decide +kernel⟩
def spLaw (K : PySem.W.Frag) : Sp := fun vs H Q _ => ∃ (a : Addr) (ns : List Int), vs = [.ref a] ∧ SqL K H a (ns.map V.int) ∧ ns.length ≤ 63 ∧ ∀ H', Q (.bl true) H'
/-- the defs that law calls -/
structure LF (K : PySem.W.Frag) (mg : Str → Option Value) : Prop where
  dr : Dr K mg
  lk : LkF K mg
  atom : ∃ f fd, FnP K "_law_atom" sAtom f fd ∧ mg "_law_atom" = some (.ref f)
  odd : ∃ f fd, FnP K "_law_odd" sOdd f fd ∧ mg "_law_odd" = some (.ref f)
  single : ∃ f fd, FnP K "_law_single" sSingle f fd ∧ mg "_law_single" = some (.ref f)
  made : ∃ f fd, FnP K "_law_made" sMade f fd ∧ mg "_law_made" = some (.ref f)
  holds : ∃ f fd, FnP K "_law_holds" sHolds f fd ∧ mg "_law_holds" = some (.ref f)
  ofr : ∃ f fd, FnP K "_law_of_right" sOfR f fd ∧ mg "_law_of_right" = some (.ref f)
  word : ∃ f fd, FnP K "_law_word" sWord f fd ∧ mg "_law_word" = some (.ref f)
  grown : ∃ f fd, FnP K "_law_grown_right" sGrown f fd ∧ mg "_law_grown_right" = some (.ref f)
theorem EvAll.cut {K : PySem.W.Frag} {H : Hp} : ∀ {vs : List V} {ks : List Tk}, EvAll K H vs ks → ∀ n m, EvAll K H ((vs.drop n).take m) ((ks.drop n).take m)
  | _, _, .nil, n, m => by
    rw [List.drop_nil, List.drop_nil, List.take_nil, List.take_nil]
    exact .nil
  | _, _, .cons h a, 0, 0 => .nil
  | _, _, .cons h a, 0, m + 1 => .cons h (by
      have z := a.cut 0 m
      rw [List.drop_zero, List.drop_zero] at z
      exact z)
  | _, _, .cons h a, n + 1, m => a.cut n m
theorem tvall_app {K : PySem.W.Frag} {C : Addr} {H : Hp} : ∀ {vs ws : List V} {ks ls : List Tk}, TvAll K C H vs ks → TvAll K C H ws ls → TvAll K C H (vs ++ ws) (ks ++ ls)
  | _, _, _, _, .nil, b => b
  | _, _, _, _, .cons h a, b => .cons h (tvall_app a b)
theorem bad_at {ks ls : List Tk} {k : Tk} (h : ∀ x ∈ ks, okT x = true) (e : okT k = false) : badAt (ks ++ (k :: ls)) = some ks.length :=
  bad_step _ _ k (by rw [List.getElem?_append_right (Nat.le_refl _), Nat.sub_self]; rfl) (fun j hj x hx => by
    rw [List.getElem?_append_left hj] at hx
    exact h x (List.mem_of_getElem? hx)) e
section
variable {P : Program} {w : World} {K : PySem.W.Frag} {mg : Str → Option Value} {base : Heap}
theorem ok_law {f : Addr} {fd : FuncData} (F : FnP K "law" sLaw f fd) (N : Nm K mg) (T : Ts K mg) (S : Es P w K mg base) (R : Rq K mg) (SY : SysK K) (L : LF K mg) (BP : PackF K mg) (BR : RowF K mg) (OF : OctF K mg) (CF : CatchF K mg (CV K) "InvalidValue" "value") (CG : CatchF K mg (CI K) "InvalidIndex" "index") (no : PySem.W.kitOne K (.ref (CV K)) (.ref (CI K)) = some false) :
    FnG P w K mg base CX0 11 f fd ["script"] (spLaw K) := by
  obtain ⟨fI, dI, t0, MO, FI⟩ := OF.init
  obtain ⟨fr, dr, MR, FR⟩ := BR.init
  obtain ⟨f1, d1, F1, g1⟩ := L.dr.begin_
  obtain ⟨f2, d2, F2, g2⟩ := L.dr.mixed
  obtain ⟨f3, d3, F3, g3⟩ := L.dr.next
  obtain ⟨f4, d4, F4, g4⟩ := L.atom
  obtain ⟨f5, d5, F5, g5⟩ := L.odd
  obtain ⟨fm, dm, FM, gM⟩ := L.made
  obtain ⟨fh, dh, FH, gH⟩ := L.holds
  obtain ⟨fo, do_, FO, gO⟩ := L.ofr
  obtain ⟨fg, dg, FG, gG⟩ := L.grown
  have GI : FnOk P w K mg base (L2.CX P w) 3 fI dI ["self", "numbers"] (spOctI K (gC K "Octets") (gC K "InvalidNumbers")) := ok_octI OF.cls OF.noN FI N T R S
  have GR : FnR P w K mg base (L2.CX P w) 7 fr (spInit K (CR K) "_sequence" HO.lst (gC K "InvalidValue")) := ok_rowI BR.cls BR.noS FR N T S R
  have G1 : FnOk P w K mg base CX0 1 f1 d1 ["script"] (spBegin K) := ok_begin F1
  have G3 : FnOk P w K mg base CX0 2 f3 d3 ["draw", "bound"] spNext := ok_next F3 F2 g2 N.len
  have G4 : FnOk P w K mg base CX0 3 f4 d4 ["draw"] spAtom := ok_atom F4 N L.dr
  have G5 : FnOk P w K mg base CX0 3 f5 d5 ["draw"] (spOdd K) := ok_odd F5 N L.dr
  have GM : FnOk P w K mg base CX0 10 fm dm ["kind", "some"] (spMade K) := ok_made FM N T S R BP BR CF L.single
  have GH : FnG P w K mg base CX0 6 fh dh ["node", "kind", "some"] (spHolds K) := ok_holds FH N SY L.lk BP BR
  have GO : FnG P w K mg base CX0 10 fo do_ ["kind", "some"] (spOfR K) := ok_ofr FO N T S R SY L.lk BP BR CF L.holds
  have GG : FnG P w K mg base CX0 10 fg dg ["draw", "some"] (spGrown K) := ok_grown FG N T S R SY L.lk L.dr BP BR OF CF CG no L.holds L.atom L.odd L.word
  have b1 : Binds K d1 ["script"] [] := F1.bindsN fun _ _ _ _ _ _ us hl => match us, hl with | [_], _ => rfl
  have b3 : Binds K d3 ["draw", "bound"] [] := F3.bindsN fun _ _ _ _ _ _ us hl => match us, hl with | [_, _], _ => rfl
  have b4 : Binds K d4 ["draw"] [] := F4.bindsN fun _ _ _ _ _ _ us hl => match us, hl with | [_], _ => rfl
  have b5 : Binds K d5 ["draw"] [] := F5.bindsN fun _ _ _ _ _ _ us hl => match us, hl with | [_], _ => rfl
  have bM : Binds K dm ["kind", "some"] [] := FM.bindsN fun _ _ _ _ _ _ us hl => match us, hl with | [_, _], _ => rfl
  have bH : Binds K dh ["node", "kind", "some"] [] := FH.bindsN fun _ _ _ _ _ _ us hl => match us, hl with | [_, _, _], _ => rfl
  have bO : Binds K do_ ["kind", "some"] [] := FO.bindsN fun _ _ _ _ _ _ us hl => match us, hl with | [_, _], _ => rfl
  have bG : Binds K dg ["draw", "some"] [] := FG.bindsN fun _ _ _ _ _ _ us hl => match us, hl with | [_, _], _ => rfl
  obtain ⟨dsI, vdsI, bI⟩ : ∃ ds, Vals (([V.ref t0] : List V).drop 1) ds ∧ Binds K dI ["self", "numbers"] ds := FI.binds1 2 1 (by simp) rfl fun _ _ _ _ _ _ _ us its hl hi => match us, its, hl, hi with | [_, _], [_], _, _ => ⟨_, rfl, rfl⟩
  refine F.okG scLaw (fun vs H Q E h => ?_) (fun cdv A outer s H vs Q E hgu hr h => ?_)
  · obtain ⟨a, ns, rfl, _⟩ := h
    rfl
  · have hu1 := Nat.lt_of_succ_lt (hu_of hr)
    refine ⟨_, PSs.nox (pss_cons (ps_set (i := 1) scLaw.nd rfl (Or.inr rfl) (pe_call G1 (hr.mono (by decide)) (by rfl) g1 F1.kp b1 .nil pass0 (pa_cons (pv 0) pa_nil)))
      (pss_cons (ps_for PassesOwn.never rfl (pi_range1 (by rfl) N.rng (pa_cons (pe_callB (call_min2 rfl) (by rfl) N.min boot_min (pa_cons pe_int (pa_cons (pe_op op_add pe_int (pe_callB call_len (by rfl) N.len PySem.boot_len (pa_cons (pv 0) pa_nil))) pa_nil))) pa_nil)) (pg_name (i := 2) scLaw.nd rfl (Or.inl rfl))
        (pss_cons (ps_set (i := 3) scLaw.nd rfl (Or.inr rfl) (pe_makeR (E := E0) MR GR (hr.mono (by decide)) (by rfl) BR.nm (fun _ _ _ _ _ _ _ z => (no_cx z).elim) (pa_cons (pe_make (E := E0) MO GI (hr.mono (by decide)) (by rfl) OF.nm bI vdsI (fun _ _ _ _ _ _ _ z => (no_cx z).elim) (pa_cons (pe_tup (pa_cons (pv 2) pa_nil)) pa_nil)) pa_nil)))
        (pss_cons (ps_setLc (i := 4) (own := [("k", 5)]) (g := gName 5) (tt := tYes) rfl scLaw.nd rfl rfl (sw_true rfl rfl rfl rfl) (pi_range1 (by rfl) N.rng (pa_cons (pe_call G3 (hr.mono (by decide)) (by rfl) g3 F3.kp b3 .nil pass0 (pa_cons (pv 1) (pa_cons pe_int pa_nil))) pa_nil)) (blkOk_by (own := [("k", 5)]) (N := NL) (sc := defScope sLaw) (by decide +kernel))
          (fun _ _ _ _ _ => pg_name (i := 5) scLaw.nd rfl (Or.inl rfl)) (fun _ _ _ _ _ => pts_nil)
          (fun _ _ _ _ _ => pe_ifExp (pt_cmpR op_gt (pe_call G3 (hr.mono (by decide)) (by rfl) g3 F3.kp b3 .nil pass0 (pa_cons (pv 1) (pa_cons pe_int pa_nil))) pe_int (nomark _)) (pe_call G4 (hr.mono (by decide)) (by rfl) g4 F4.kp b4 .nil pass0 (pa_cons (pv 1) pa_nil)) (pv 3)))
        (pss_cons (ps_par (i := 6) (j := 7) rfl scLaw.nd rfl rfl (by decide) rfl rfl (pa_cons (pe_call G5 (hr.mono (by decide)) (by rfl) g5 F5.kp b5 .nil pass0 (pa_cons (pv 1) pa_nil)) (pa_cons (pe_call G3 (hr.mono (by decide)) (by rfl) g3 F3.kp b3 .nil pass0 (pa_cons (pv 1) (pa_cons (pe_op op_add (pe_callB call_len (by rfl) N.len PySem.boot_len (pa_cons (pv 4) pa_nil)) pe_int) pa_nil))) pa_nil)) (by rfl))
        (pss_cons (ps_set (i := 8) scLaw.nd rfl (Or.inl rfl) (pe_op op_cat (pe_op op_cat (pe_op op_cat (pe_slice sl_list (pv 4) po_none (po_some (pv 7))) (pe_lst (pa_cons (pv 6) pa_nil))) (pe_slice sl_list (pv 4) (po_some (pv 7)) po_none)) (pe_lst (pa_cons pe_dnewK pa_nil))))
        (pss_cons (ps_for PassesOwn.never rfl (pi_range1 (by rfl) N.rng (pa_cons pe_int pa_nil)) (pg_name (i := 9) scLaw.nd rfl (Or.inl rfl))
          (pss_cons (ps_set (i := 10) scLaw.nd rfl (Or.inl rfl) (pe_call GM hr (by rfl) gM FM.kp bM .nil pass0 (pa_cons (pv 9) (pa_cons (pv 4) pa_nil))))
          (pss_cons (ps_if (PW.pt (pw_or (pt_cmpR op_ne (pe_ix ix_list (pv 10) pe_int (fun _ _ => rfl)) pe_str (nomark _)) (pw_or (pt_not (pt_val (pe_callG hgu GH (hr.mono (by decide)) (by rfl) gH FH.kp bH .nil pass0 (pa_cons (pe_ix ix_list (pv 10) pe_int (fun _ _ => rfl)) (pa_cons (pv 9) (pa_cons (pv 4) pa_nil))))))
              (pw_or1 (pt_not (pt_val (pe_callG hgu GO hr (by rfl) gO FO.kp bO .nil pass0 (pa_cons (pv 9) (pa_cons (pv 4) pa_nil))))))))) (pss_one (ps_ret pe_bl)) pss_nil)
          (pss_cons (ps_if (pt_cmpR op_ne (pe_callB (call_repr hgu hr SY) (by rfl) N.repr boot_repr (pa_cons (pe_lst (pa_cons (pe_call GM hr (by rfl) gM FM.kp bM .nil pass0 (pa_cons (pv 9) (pa_cons (pv 8) pa_nil))) (pa_cons (pe_call GM hr (by rfl) gM FM.kp bM .nil pass0 (pa_cons (pv 9) (pa_cons (pe_lst (pa_cons (pv 6) pa_nil)) pa_nil))) pa_nil))) pa_nil))
              (pe_callB (call_repr hgu hr SY) (by rfl) N.repr boot_repr (pa_cons (pe_op op_rep (pe_lst (pa_cons (pe_lst (pa_cons pe_str (pa_cons (pv 6) pa_nil))) pa_nil)) pe_int) pa_nil)) (nomark _)) (pss_one (ps_ret pe_bl)) pss_nil)
          (pss_one (ps_if (PW.pt (pw_or (pt_cmpR (op_eqO hu1) (pe_ix ix_list (pv 10) pe_int (fun _ _ => rfl)) (pe_ix ix_list (pe_call GM hr (by rfl) gM FM.kp bM .nil pass0 (pa_cons (pv 9) (pa_cons (pv 4) pa_nil))) pe_int (fun _ _ => rfl)) (nomark _))
              (pw_or1 (pt_not (pt_cmpR (op_eqO hu1) (pe_ix ix_list (pv 10) pe_int (fun _ _ => rfl)) (pe_ix ix_list (pv 10) pe_int (fun _ _ => rfl)) (nomark _)))))) (pss_one (ps_ret pe_bl)) pss_nil))))))
        (pss_one (ps_if (pt_not (pt_val (pe_callG hgu GG hr (by rfl) gG FG.kp bG .nil pass0 (pa_cons (pv 1) (pa_cons (pv 4) pa_nil))))) (pss_one (ps_ret pe_bl)) pss_nil))))))))
      (pss_one (ps_ret pe_bl)))), ?_⟩
    obtain ⟨a, ns, rfl, hS, hl, k⟩ := h
    refine ⟨_, rfl, a, ns, rfl, hS, hl, fun p H1 hp s1 D1 => ?_⟩
    refine ⟨_, rfl, _, _, rfl, .inl ⟨_, s1.seq hS, rfl⟩, _, _, rfl, rfl, _, _, rfl, _, rfl, ?_, ?_, ?_⟩
    · rw [List.length_map]
      split <;> omega
    · rw [List.length_map]
      split <;> omega
    rw [List.length_map]
    refine for_range (fun i σ H' => ∃ t0 t2 t3 t4 t5 t6 t7 t8 t9 t10 : Option V, σ = [t0, some (.ref p), t2, t3, t4, t5, t6, t7, t8, t9, t10] ∧ DrawAt H' p (100 * i)) ⟨_, _, _, _, _, _, _, _, _, _, rfl, D1⟩ ?_ ?_
    rotate_left
    · rintro σ H4 ⟨t0, t2, t3, t4, t5, t6, t7, t8, t9, t10, rfl, D2⟩
      exact k _
    rintro i σ H4 hi ⟨t0, t2, t3, t4, t5, t6, t7, t8, t9, t10, rfl, D2⟩
    have hi2 : i < 17 := by
      revert hi
      split <;> omega
    refine ⟨_, rfl, sz 1 (by decide), fun a8 n8 => fun x dx8 nx nd ne => ⟨x, dx8, .ref a8, .tuple [.int (0 + (i : Int))], rfl, upd_same, ?_, ?_, fun _ H9 s9 => ⟨rfl, ?_⟩, fun z => ?_⟩⟩
    · have na8 : a8 ≠ x := fun z => by
        rw [← z, upd_same] at nx
        cases nx
      have na8' : a8 ≠ dx8 := fun z => by
        rw [← z, upd_same] at nd
        cases nd
      exact .tup (SqT.of (by rw [upd_ne na8, upd_ne na8', upd_same])) (.cons (.int _) .nil)
    · intro ds e d m
      cases e
      cases List.mem_singleton.mp m
      intro y z
      cases z
    rotate_left
    · refine absurd z ?_
      show ¬ ((decide (1 ≤ 2000) && ((decide (0 ≤ (0 : Int) + i) && decide ((0 : Int) + i < 256)) && true)) = false)
      rw [decide_eq_true (p := (0 : Int) ≤ 0 + i) (by omega), decide_eq_true (p := (0 : Int) + i < 256) (by omega)]
      decide
    have s8 := same_new (o := .tup [V.int (0 + (i : Int))]) n8
    have nx7 : H4 x = none := none_of s8 nx
    have s49 : Same H4 (upd H9 x (.ins (gC K "Octets") dx8 [("_numbers", .ref a8)])) := by
      have z : Same (upd H4 a8 (.tup [V.int (0 + (i : Int))])) (upd (upd (upd H4 a8 (.tup [V.int (0 + (i : Int))])) dx8 (.own x)) x (.ins (gC K "Octets") dx8 [])) := fun b o e => by
        rw [upd_ne (ne_of_none e nx), upd_ne (ne_of_none e nd)]
        exact e
      exact same_updN (s8.tr (z.tr s9)) nx7
    have ho9 : (upd H9 x (.ins (gC K "Octets") dx8 [("_numbers", .ref a8)])) x = some (.ins (gC K "Octets") dx8 [("_numbers", .ref a8)]) := upd_same
    have D9 := D2.same s49
    clear s9 ne nd nx
    generalize upd H9 x (.ins (gC K "Octets") dx8 [("_numbers", .ref a8)]) = H10 at *
    refine fun y dx10 hy hdy hne => spInit_mono (mkSeq (ws := [V.ref x]) (ks := [.nod (gC K "Octets")]) (Q := fun u H3 => ∃ y, u = V.ref y ∧ Same H10 H3 ∧ NodAt (CR K) "_sequence" HO.lst H3 y [V.ref x]) ⟨.cons (show Tv K (CN K) H10 (.ref x) (.nod (gC K "Octets")) from ⟨OF.nod, x, dx8, _, rfl, ho9⟩) .nil, (by show 1 ≤ 60; decide), (fun k m => by cases List.mem_singleton.mp m; exact True.intro), fun _ y H11 s11 _ ny _ => ⟨y, rfl, s11, ny⟩, fun i v b => by cases b⟩ y dx10 hy hdy hne) fun u H11 z => ?_
    obtain ⟨rfl, y', zz, s11, ⟨dy, py, hyy, _⟩⟩ := z
    cases zz
    clear hy hdy hne
    have D11 := D9.same s11
    refine ⟨rfl, ?_⟩
    -- some
    refine ⟨_, rfl, p, 7, _, rfl, D11, by omega, by decide, by decide, fun r12 H12 a12 b12 D12 k12 => ⟨r12, rfl, by omega, by omega, fun DL nDL => ?_⟩⟩
    obtain ⟨lc, hc, oc, hoc⟩ := draw_cells D12
    have nyp : y ≠ p := D11.ne hyy fun kvs z => by cases z
    have hy12 := k12 _ _ hyy nyp
    have nep : DL ≠ p := fun e => by
      obtain ⟨x, y, z, h1⟩ := hc
      rw [e, h1] at nDL
      cases nDL
    have nel : DL ≠ lc := fun e => by
      rw [e, hoc] at nDL
      cases nDL
    have ney : DL ≠ y := fun e => by
      rw [e, hy12] at nDL
      cases nDL
    refine lc_it walk_range (fun j H' => ∃ vs ks, EvAll K H' vs ks ∧ vs.length = j ∧ H' DL = some (.lst vs) ∧ DrawAt H' p (100 * i + 1 + 5 * j) ∧ CellsAt H' p lc ∧ H' y = some (.ins (CR K) dy [("_sequence", .ref py)])) ⟨[], [], .nil, rfl, upd_same, (draw_upd D12 hc nep nel).1, (draw_upd D12 hc nep nel).2, by rw [upd_ne ney.symm]; exact hy12⟩ (fun _ _ _ _ => True.intro) ?_ ?_
    · rintro j x H' H'' hj ⟨vs, ks, ea, lv, hD, DD, cc, hy'⟩ ⟨rfl, rfl⟩
      refine ⟨rfl, yesT ⟨_, rfl, p, 3, _, rfl, DD, by omega, by decide, by decide, fun r13 H13 a13 b13 D13 k13 => ⟨_, _, rfl, rfl, _, rfl, ?_⟩⟩⟩
      have ki := KI.keep cc k13
      have hy13 := ki _ _ _ _ hy'
      have c13 := k13.cells _ cc
      have hD13 := k13 _ _ hD nep
      have lj : vs.length < sizeLine := Nat.lt_of_le_of_lt (m := 100) (by omega) (by decide)
      have e13 := ea.to ki
      refine ite2 (fun c => ?_) (fun c => ?_)
      · refine ⟨_, rfl, p, _, rfl, D13, by omega, fun v d H14 av D14 k14 => ⟨vs, k14 _ _ hD13 nep, lj, vs ++ [v], ks ++ [.dat d], ?_, by rw [List.length_append, lv]; rfl, upd_same, ?_⟩⟩
        · exact ((e13.to (KI.keep c13 k14)).to (KI.lst (k14 _ _ hD13 nep))).app (.cons (show At v d from av) .nil)
        · obtain ⟨q1, q2⟩ := draw_upd (o := .lst (vs ++ [v])) (D14.mono (M := 100 * i + 1 + 5 * (j + 1)) (by omega)) (k14.cells _ c13) nep nel
          exact ⟨q1, q2, by rw [upd_ne ney.symm]; exact KI.keep c13 k14 _ _ _ _ hy13⟩
      · refine ⟨_, rfl, vs, hD13, lj, vs ++ [.ref y], ks ++ [.nod (CR K)], ?_, by rw [List.length_append, lv]; rfl, upd_same, ?_⟩
        · have k2 := KI.lst (o := .lst (vs ++ [.ref y])) hD13
          exact (e13.to k2).app (.cons ⟨BR.nod, y, _, _, rfl, k2 _ _ _ _ hy13⟩ .nil)
        · obtain ⟨q1, q2⟩ := draw_upd (o := .lst (vs ++ [.ref y])) (D13.mono (M := 100 * i + 1 + 5 * (j + 1)) (by omega)) c13 nep nel
          exact ⟨q1, q2, by rw [upd_ne ney.symm]; exact hy13⟩
    rintro H13 ⟨vs, ks, ea, lv, hD, D13, cc, hy13⟩
    have lv6 : vs.length ≤ 6 := by omega
    clear hyy hy12 D11 D12 k12 hoc hc ho9 s11 s49 D9 nx7 s8
    -- odd, at
    have nDp : DL ≠ p := nep
    refine ⟨_, rfl, p, _, rfl, D13, by omega, fun od dd H14 oD osd D14 k14 => ?_⟩
    have hD14 := k14 _ _ hD nDp
    refine ⟨_, rfl, _, rfl, _, vs.length, rfl, .inl ⟨_, SqL.of hD14, rfl⟩, _, _, rfl, rfl, p, _, _, rfl, D14, by omega, by omega, by omega, fun r15 H15 a15 b15 D15 k15 => ⟨_, _, rfl, ?_⟩⟩
    have hD15 := k15 _ _ hD14 nDp
    have ki : KI H13 H15 := (KI.keep cc k14).tr (KI.keep (k14.cells _ cc) k15)
    have e15 := ea.to ki
    have osd15 := osd _ k15
    clear hy13 cc k14 D14 hD14 hD D13 ki ea osd
    -- bad
    refine ⟨_, rfl, _, rfl, r15, rfl, DL, vs, rfl, SqL.of hD15, fun a1 n1 => ⟨_, rfl, sz 1 (by decide), fun a2 n2 => ?_⟩⟩
    have v1 := same_new (o := .lst (cutV vs none (some r15))) n1
    have v2 := same_new (o := .lst [od]) n2
    have c1 : (cutV vs none (some r15)).length ≤ 6 := Nat.le_trans (cutV_length _ _ _) lv6
    have c4 : (cutV vs (some r15) none).length ≤ 6 := Nat.le_trans (cutV_length _ _ _) lv6
    obtain ⟨q1, e1⟩ : ∃ q1, EvAll K H15 (cutV vs none (some r15)) q1 := ⟨_, e15.cut _ _⟩
    obtain ⟨q4, e4⟩ : ∃ q4, EvAll K H15 (cutV vs (some r15) none) q4 := ⟨_, e15.cut _ _⟩
    refine ⟨a1, a2, _, _, rfl, rfl, v2 _ _ upd_same, upd_same, sz _ (by rw [List.length_singleton]; omega), fun a3 n3 => ?_⟩
    have v3 := same_new (o := .lst (cutV vs none (some r15) ++ [od])) n3
    have v13 := v1.tr (v2.tr v3)
    refine ⟨_, rfl, _, rfl, r15, rfl, DL, vs, rfl, SqL.of (v13 _ _ hD15), fun a4 n4 => ?_⟩
    have v4 := same_new (o := .lst (cutV vs (some r15) none)) n4
    refine ⟨a3, a4, _, _, rfl, rfl, v4 _ _ upd_same, upd_same, sz _ (by rw [List.length_append, List.length_singleton]; omega), fun a5 n5 => ?_⟩
    have v5 := same_new (o := .lst (cutV vs none (some r15) ++ [od] ++ cutV vs (some r15) none)) n5
    refine fun a6 n6 => ⟨sz 1 (by decide), fun a7 n7 => ?_⟩
    have v6 := same_new (o := .dK []) n6
    have v7 := same_new (o := .lst [V.ref a6]) n7
    refine ⟨a5, a7, _, _, rfl, rfl, v7 _ _ (v6 _ _ upd_same), upd_same, sz _ (by rw [List.length_append, List.length_append, List.length_singleton, List.length_singleton]; omega), fun B nB => ?_⟩
    have v8 := same_new (o := .lst (cutV vs none (some r15) ++ [od] ++ cutV vs (some r15) none ++ [V.ref a6])) nB
    have v18 := v13.tr (v4.tr (v5.tr (v6.tr (v7.tr v8))))
    obtain ⟨kb, nb, bad1, bad2, tvb, fitb, lenb⟩ : ∃ kb nb, badAt kb = some nb ∧ (cutV vs none (some r15) ++ [od] ++ cutV vs (some r15) none ++ [V.ref a6])[nb]? = some od ∧ (∀ H2, KI H15 H2 → Sd K H2 od dd → H2 a6 = some (.dK []) → TvAll K (CN K) H2 (cutV vs none (some r15) ++ [od] ++ cutV vs (some r15) none ++ [V.ref a6]) kb) ∧ (∀ k ∈ kb, fitsT k) ∧ (cutV vs none (some r15) ++ [od] ++ cutV vs (some r15) none ++ [V.ref a6]).length ≤ 60 := by
      refine ⟨_, _, bad_at (k := .dat dd) (ls := q4 ++ [.dat (.dict [])]) e1.fit.2.2 oD.no, ?_, fun H2 ki sd hd => ?_, fun k m => ?_, ?_⟩
      · rw [← e1.len, List.append_assoc, List.append_assoc, List.getElem?_append_right (Nat.le_refl _), Nat.sub_self]
        rfl
      · have z := tvall_app (e1.to ki).tv (.cons (show Tv K (CN K) H2 od (.dat dd) from sd) (tvall_app (e4.to ki).tv (.cons (show Tv K (CN K) H2 (.ref a6) (.dat (.dict [])) from .emp hd) .nil)))
        rw [List.append_assoc, List.append_assoc]
        exact z
      · rcases List.mem_append.mp m with m | m
        · exact e1.fit.1 k m
        · rcases List.mem_cons.mp m with m | m
          · rw [m]
            exact oD.fit
          · rcases List.mem_append.mp m with m | m
            · exact e4.fit.1 k m
            · rw [List.mem_singleton.mp m]
              intro x z
              cases z
      · rw [List.length_append, List.length_append, List.length_append, List.length_singleton, List.length_singleton]
        omega
    have D18 := D15.same v18
    have e18 := e15.to (.of v18)
    have osd18 := sd_to osd15 v18
    have hD18 := v18 _ _ hD15
    have tvb18 := tvb _ (.of v18) osd18 (v8 _ _ (v7 _ _ upd_same))
    have hB18 : (upd (upd (upd (upd (upd (upd (upd (upd H15 a1 (.lst (cutV vs none (some r15)))) a2 (.lst [od])) a3 (.lst (cutV vs none (some r15) ++ [od]))) a4 (.lst (cutV vs (some r15) none))) a5 (.lst (cutV vs none (some r15) ++ [od] ++ cutV vs (some r15) none))) a6 (.dK [])) a7 (.lst [V.ref a6])) B (.lst (cutV vs none (some r15) ++ [od] ++ cutV vs (some r15) none ++ [V.ref a6]))) B = some (.lst (cutV vs none (some r15) ++ [od] ++ cutV vs (some r15) none ++ [V.ref a6])) := upd_same
    clear tvb
    generalize (upd (upd (upd (upd (upd (upd (upd (upd H15 a1 (.lst (cutV vs none (some r15)))) a2 (.lst [od])) a3 (.lst (cutV vs none (some r15) ++ [od]))) a4 (.lst (cutV vs (some r15) none))) a5 (.lst (cutV vs none (some r15) ++ [od] ++ cutV vs (some r15) none))) a6 (.dK [])) a7 (.lst [V.ref a6])) B (.lst (cutV vs none (some r15) ++ [od] ++ cutV vs (some r15) none ++ [V.ref a6]))) = Hb at *
    generalize cutV vs none (some r15) ++ [od] ++ cutV vs (some r15) none ++ [V.ref a6] = bs at *
    have ft := e18.fit
    refine ⟨2, rfl, by decide, by decide, for_range (fun j σ H' => ∃ t0 t2 t3 t5 t7 t9 t10 : Option V, σ = [t0, some (.ref p), t2, t3, some (.ref DL), t5, some od, t7, some (.ref B), t9, t10] ∧ Same Hb H') ⟨_, _, _, _, _, _, _, rfl, Same.refl'⟩ ?_ ?_⟩
    · rintro j σ H2 hj ⟨t0, t2, t3, t5, t7, t9, t10, rfl, s2⟩
      have hk : (0 + (j : Int) = 0) ∨ (0 + (j : Int) = 1) := by omega
      generalize (0 + (j : Int)) = kind at *
      have e2 := e18.to (.of s2)
      refine ⟨_, rfl, _, rfl, kind, DL, vs, ks, rfl, hk, SqL.of (s2 _ _ hD18), e2.tv, by omega, ft.1, fun _ n p' H3 s3 nn nk hp' => ?_, fun i v b => ?_⟩
      rotate_left
      · rw [e18.ok] at b
        cases b
      have s23 := s2.tr s3
      refine ⟨_, rfl, p', _, 0, .str "made", rfl, rfl, SqL.of hp', at_of (j := 0) rfl rfl, rfl, false, by rw [decide_eq_true rfl]; rfl, iteF ?_⟩
      refine ⟨_, rfl, p', _, 1, .ref n, rfl, rfl, SqL.of hp', at_of (j := 1) rfl rfl, _, rfl, _, rfl, kind, n, DL, vs, ks, rfl, nk, SqL.of (s23 _ _ hD18), (e18.to (.of s23)).tv, ft.2.1, by omega, fun H4 s4 => ⟨_, rfl, iteF ?_⟩⟩
      have s24 := s23.tr s4
      refine ⟨_, rfl, _, rfl, kind, DL, vs, ks, rfl, hk, SqL.of (s24 _ _ hD18), (e18.to (.of s24)).tv, by omega, ft.1, ft.2.1, e18.ok, fun H5 s5 => ⟨_, rfl, iteF ?_⟩⟩
      have s25 := s24.tr s5
      -- what is bad
      refine ⟨_, rfl, _, rfl, kind, B, _, kb, rfl, hk, SqL.of (s25 _ _ hB18), tvall_to s25 tvb18, lenb, fitb, fun b => ?_, fun i v b ev p1 H6 s6 hp1 => ?_⟩
      · rw [bad1] at b
        cases b
      obtain rfl : nb = i := by
        rw [bad1] at b
        cases b
        rfl
      obtain rfl : od = v := by
        rw [bad2] at ev
        cases ev
        rfl
      have s26 := s25.tr s6
      refine ⟨_, rfl, _, rfl, sz 1 (by decide), fun a9 n9 => ⟨kind, a9, [od], [.dat dd], rfl, hk, SqL.of upd_same, ?_, (by show 1 ≤ 60; decide), ?_, fun b => ?_, fun i2 v2 b2 ev2 p2 H7 s7 hp2 => ⟨sz 2 (by decide), fun L8 n8 => ?_⟩⟩⟩
      · exact .cons (show Tv K (CN K) _ od (.dat dd) from sd_to osd18 (s26.tr (same_new n9))) .nil
      · intro k m
        rw [List.mem_singleton.mp m]
        exact oD.fit
      · have z : badAt [Tk.dat dd] = some 0 := bad_at (ks := []) (fun _ m => (List.not_mem_nil m).elim) oD.no
        rw [z] at b
        cases b
      have z : badAt [Tk.dat dd] = some 0 := bad_at (ks := []) (fun _ m => (List.not_mem_nil m).elim) oD.no
      rw [z] at b2
      cases b2
      cases ev2
      have s67 := (same_new (o := .lst [od]) n9).tr s7
      have s8 := same_new (o := .lst [.ref p1, .ref p2]) n8
      have s68 := s67.tr s8
      have s28 := s26.tr s68
      have osd28 := sd_to osd18 s28
      have v100 : (reprText "value").length ≤ 100 := by decide +kernel
      obtain ⟨f1, f2, f3⟩ := pairs_shw v100 oD.shw
      refine ⟨.ref L8, .list [.list [.str "value", dd], .list [.str "value", dd]], rfl, .lst (SqL.of upd_same) (.cons (.lst (SqL.of (s68 _ _ hp1)) (.cons (.str _) (.cons osd28 .nil))) (.cons (.lst (SqL.of (s8 _ _ hp2)) (.cons (.str _) (.cons osd28 .nil))) .nil)), f1, f2, f3, _, rfl, sz 2 (by decide), fun L12 n12 => ⟨sz 1 (by decide), fun L13 n13 => ?_⟩⟩
      have u12 := same_new (o := .lst [.str "value", od]) n12
      have u13 := same_new (o := .lst [.ref L12]) n13
      refine ⟨L13, 2, _, rfl, rfl, upd_same, by decide, by decide, (by show 1 * 2 ≤ sizeLine; decide), fun L14 n14 => ?_⟩
      have u14 := same_new (o := .lst (List.replicate (2 : Int).toNat [V.ref L12]).flatten) n14
      have u24 := u12.tr (u13.tr u14)
      have h12 := u14 _ _ (u13 _ _ (upd_same (a := L12) (o := .lst [.str "value", od])))
      have osd14 := sd_to osd28 u24
      refine ⟨.ref L14, .list [.list [.str "value", dd], .list [.str "value", dd]], rfl, .lst (SqL.of (xs := [V.ref L12, V.ref L12]) upd_same) (.cons (.lst (SqL.of h12) (.cons (.str _) (.cons osd14 .nil))) (.cons (.lst (SqL.of h12) (.cons (.str _) (.cons osd14 .nil))) .nil)), f1, f2, f3, rfl, false, by rw [decide_eq_true rfl]; rfl, iteF ?_⟩
      -- two nodes
      have s214 := s28.tr u24
      have t314 := s4.tr (s5.tr (s6.tr (s68.tr u24)))
      have hp14 := t314 _ _ hp'
      refine ⟨_, rfl, p', _, 1, .ref n, rfl, rfl, SqL.of hp14, at_of (j := 1) rfl rfl, _, rfl, _, rfl, kind, DL, vs, ks, rfl, hk, SqL.of (s214 _ _ hD18), (e18.to (.of s214)).tv, by omega, ft.1, fun _ n2 p2' H15 s15 nn2 nk2 hp2' => ?_, fun i v b => ?_⟩
      rotate_left
      · rw [e18.ok] at b
        cases b
      have nk14 := nk.to (t314.tr s15)
      obtain ⟨C, dx, fs, dx2, fs2, hn, hn2, nC⟩ : ∃ C dx fs dx2 fs2, H15 n = some (.ins C dx fs) ∧ H15 n2 = some (.ins C dx2 fs2) ∧ NodC K (CN K) C := by
        rcases nk14 with ⟨k0, da, pa, ha, _⟩ | ⟨k0, da, pa, ha, _⟩
        · rcases nk2 with ⟨k2, db, pb, hb, _⟩ | ⟨k2, db, pb, hb, _⟩
          · exact ⟨CP K, _, _, _, _, ha, hb, BP.nod⟩
          · rw [k0] at k2
            cases k2
        · rcases nk2 with ⟨k2, db, pb, hb, _⟩ | ⟨k2, db, pb, hb, _⟩
          · rw [k0] at k2
            cases k2
          · exact ⟨CR K, _, _, _, _, ha, hb, BR.nod⟩
      have ne : n ≠ n2 := fun z => by
        have hnb : ∃ o, (upd (upd (upd (upd H7 L8 (.lst [.ref p1, .ref p2])) L12 (.lst [.str "value", od])) L13 (.lst [.ref L12])) L14 (.lst (List.replicate (2 : Int).toNat [V.ref L12]).flatten)) n = some o := by
          rcases nk.to t314 with ⟨_, da, pa, ha, _⟩ | ⟨_, da, pa, ha, _⟩
          · exact ⟨_, ha⟩
          · exact ⟨_, ha⟩
        obtain ⟨o, hnb⟩ := hnb
        rw [z, nn2] at hnb
        cases hnb
      refine ⟨p2', _, 1, .ref n2, rfl, rfl, SqL.of hp2', at_of (j := 1) rfl rfl, n, n2, C, C, dx, dx2, fs, fs2, true, rfl, rfl, hn, hn2, nC.eqc, nC.eqc, nC.mro, false, by rw [decide_eq_false ne], iteF ?_⟩
      have hp15 := s15 _ _ hp14
      refine ⟨_, rfl, p', _, 1, .ref n, rfl, rfl, SqL.of hp15, at_of (j := 1) rfl rfl, _, rfl, p', _, 1, .ref n, rfl, rfl, SqL.of hp15, at_of (j := 1) rfl rfl, n, n, C, C, dx, dx, fs, fs, true, rfl, rfl, hn, hn, nC.eqc, nC.eqc, nC.mro, true, by rw [decide_eq_true rfl], iteF ?_⟩
      exact ⟨_, _, _, _, _, _, _, rfl, s214.tr s15⟩
    · rintro σ H2 ⟨t0, t2, t3, t5, t7, t9, t10, rfl, s2⟩
      refine ⟨_, rfl, _, rfl, p, DL, _, vs, ks, rfl, D18.same s2, by omega, s2 _ _ hD18, e18.to (.of s2), lv6, fun H3 D3 => ⟨_, rfl, iteF ?_⟩⟩
      exact ⟨_, _, _, _, _, _, _, _, _, _, rfl, D3.mono (by omega)⟩
end
end Kz

set_option Elab.async false
set_option linter.all false
set_option maxRecDepth 100000
set_option maxHeartbeats 4000000
namespace Kz
open PySem PySem.Spec PyProof.Rows L2 StX ClX
/-! ### where the defs stand -/
def gAt (x : Str) : PySem.W.Frag → Addr := fun K => He.ga K x
def mAt (C m : Str) : PySem.W.Frag → Addr := fun K => He.ma K (He.ga K C) m
def wAt (C : Str) (T : String) (m : Str) : PySem.W.Frag → Addr := fun K => He5.wf K (He.ga K C) T m
def dF (x : Str) (i : Nat) : He5.DefA := ⟨gAt x, x, x, defArgs (top i), defBody (top i), defScope (top i), [], []⟩
def dM (a : PySem.W.Frag → Addr) (x qual : Str) (st : Stmt) (ds : List He.Dv) : He5.DefA := ⟨a, x, qual, defArgs st, defBody st, defScope st, ds, []⟩
def oDf : PySem.W.Frag → Addr := He.dflAt ("Octets", some "__init__") 0
def fn : List He5.DefA := [dF "is_integer" 4, dF "is_text" 5, dF "is_key" 6, dF "is_atom" 7, dF "is_atom_or_node" 22, dF "are_octets" 8, dF "require_value" 23, dF "require_values" 24, dF "require_tuple" 25, dF "_law_begin" 27, dF "_law_mixed" 28, dF "_law_next" 29, dF "_law_atom" 30, dF "_law_odd" 31, dF "_law_like" 32, dF "_law_all_like" 33, dF "_law_single" 34, dF "_law_made" 35, dF "_law_holds" 36, dF "_law_of_right" 37, dF "_law_word" 38, dF "_law_grown_right" 39, dF "law" 40,
  dM (mAt "InvalidValue" "__init__") "__init__" "InvalidValue.__init__" (inClass (top 13) 0) [], dM (mAt "InvalidNumbers" "__init__") "__init__" "InvalidNumbers.__init__" (inClass (top 14) 0) [], dM (mAt "InvalidIndex" "__init__") "__init__" "InvalidIndex.__init__" (inClass (top 15) 0) [],
  dM (mAt "Octets" "__init__") "__init__" "Octets.__init__" sOctI [.adr oDf],
  dM (mAt "Pack" "__init__") "__init__" "Pack.__init__" sPackI [], dM (wAt "Pack" "classmethod" "of") "of" "Pack.of" sPackOf [], dM (wAt "Pack" "property" "parts") "parts" "Pack.parts" sPackP [], dM (wAt "Pack" "property" "shape") "shape" "Node.shape" sShape [],
  dM (mAt "Pack" "children") "children" "Node.children" sChildren [], dM (mAt "Pack" "_contents") "_contents" "Pack._contents" sPackC [],
  dM (mAt "Row" "__init__") "__init__" "Row.__init__" sRowI [], dM (wAt "Row" "classmethod" "of") "of" "Row.of" sRowOf [], dM (wAt "Row" "property" "parts") "parts" "Row.parts" sRowP [], dM (wAt "Row" "property" "shape") "shape" "Node.shape" sShape [],
  dM (mAt "Row" "children") "children" "Node.children" sChildren [], dM (mAt "Row" "_contents") "_contents" "Row._contents" sRowC [], dM (mAt "Row" "put_last") "put_last" "Row.put_last" sRowL [], dM (mAt "Row" "put_at") "put_at" "Row.put_at" sRowA []]
def fa : List He.Fa := [.glo "is_integer", .glo "is_text", .glo "is_key", .glo "is_atom", .glo "is_atom_or_node", .glo "are_octets", .glo "require_value", .glo "require_values", .glo "require_tuple", .glo "_law_begin", .glo "_law_mixed", .glo "_law_next", .glo "_law_atom", .glo "_law_odd", .glo "_law_like", .glo "_law_all_like", .glo "_law_single", .glo "_law_made", .glo "_law_holds", .glo "_law_of_right", .glo "_law_word", .glo "_law_grown_right", .glo "law",
  .glo "InvalidValue", .glo "InvalidNumbers", .glo "InvalidIndex", .glo "JarError", .glo "StateError", .glo "MissingError", .glo "Octets", .glo "Pack", .glo "Row", .glo "Node",
  .free "isinstance", .free "int", .free "bool", .free "str", .free "tuple", .free "len", .free "all", .free "list", .free "repr", .free "range", .free "min",
  .int "ATOM_LIMIT" big, .int "TEXT_LIMIT" 2000, .int "NUMBERS_LIMIT" 2000, .int "OCTET_LIMIT" 256,
  .cls "Octets", .noat "Octets" "_numbers", .mkr "Octets",
  .cls "Pack", .noat "Pack" "_parts", .meth "Pack" "children", .meth "Pack" "_contents", .mkr "Pack",
  .cls "Row", .noat "Row" "_sequence", .meth "Row" "children", .meth "Row" "_contents", .mkr "Row", .meth "Row" "put_last", .meth "Row" "put_at", .free "type", .free "set", .free "sorted"]
/-! ### the rest, as one Bool -/
def errB (K : PySem.W.Frag) (x fld : Str) : Bool :=
  decide (PySem.W.findIn K (.ref (gC K x)) "__init__" = some (some (.ref (mAt x "__init__" K)))) && (decide (PySem.W.typeIn K (.ref (mAt x "__init__" K)) = some (.type "function")) && (decide (PySem.W.findIn K (.ref (gC K x)) fld = some none) &&
  (decide (PySem.W.kitOne K (.ref (gC K x)) (.ref (gC K x)) = some true) && decide (PySem.W.exmAny K (.ref (gC K x)) [.ref (gC K "JarError"), .ref (gC K "StateError"), .ref (gC K "MissingError")] = some true))))
def propB (K : PySem.W.Frag) (C m : Str) : Bool :=
  He.eqO (PySem.W.findIn K (.ref (gC K C)) m) (some (some (.ref (mAt C m K)))) && (He.eqO (PySem.W.specialIn K (.ref (mAt C m K)) "__get__") (some (some (.builtin "property.__get__"))) && (decide (PySem.W.takesIn K (.ref (mAt C m K)) = some true) &&
  (match PySem.W.recIn K (mAt C m K) "property" with
    | some (.ref _ :: _) => true
    | _ => false)))
def eqB (K : PySem.W.Frag) (C : Str) : Bool :=
  He.eqO (PySem.W.findIn K (.ref (gC K C)) "__eq__") (some (some (.builtin "object.__eq__"))) && (decide (PySem.W.mroIn K (gC K C) (.type "object") = some true) && decide (PySem.W.mroIn K (gC K C) (.ref (gC K C)) = some true))
def nodB (K : PySem.W.Frag) (C : Str) : Bool :=
  He.eqO (PySem.W.findIn K (.ref (gC K C)) "__class__") (some (some (.builtin "object.__class__"))) && (He.eqO (PySem.W.specialIn K (.builtin "object.__class__") "__get__") (some (some (.builtin "getset_descriptor.__get__"))) && (decide (PySem.W.takesIn K (.builtin "object.__class__") = some true) &&
  ((["int", "bool", "str", "tuple", "list", "dict"] : List String).all (fun t => decide (PySem.W.kitOne K (.ref (gC K C)) (.type t) = some false)) && (decide (PySem.W.kitOne K (.ref (gC K C)) (.ref (CN K)) = some true) && eqB K C))))
def datB (K : PySem.W.Frag) : Bool := (["NoneType", "bool", "int", "str", "list", "tuple", "dict"] : List String).all (fun t => decide (PySem.W.kitOne K (.type t) (.ref (CN K)) = some false))
def cmB (K : PySem.W.Frag) (C : Str) : Bool := PySem.W.readsIn K (gC K C) (.type "type") && (He5.wrapB K (gC K C) "classmethod" "classmethod.__get__" "of" && PySem.W.fnIn K (wAt C "classmethod" "of" K))
def chk (K : PySem.W.Frag) : Bool :=
  sysB K && (xcB K (gC K "InvalidValue") bmVE "ValueError.__new__" && (xcB K (gC K "InvalidNumbers") bmVE "ValueError.__new__" && (xcB K (gC K "InvalidIndex") bmVE "ValueError.__new__" &&
  (errB K "InvalidValue" "value" && (errB K "InvalidNumbers" "value" && (errB K "InvalidIndex" "index" && (decide (PySem.W.kitOne K (.ref (gC K "InvalidValue")) (.ref (gC K "InvalidIndex")) = some false) &&
  (propB K "Pack" "parts" && (propB K "Pack" "shape" && (propB K "Row" "parts" && (propB K "Row" "shape" &&
  (He.conB K "Pack" "SHAPE" (.str "pack") && (He.conB K "Row" "SHAPE" (.str "row") && (nodB K "Octets" && (nodB K "Pack" && (nodB K "Row" && (datB K && (cmB K "Pack" && cmB K "Row"))))))))))))))))))
section
variable {P : Program} {w : World} {K : PySem.W.Frag} {mg : Str → Option Value} {base : Heap}
structure ErrI (K : PySem.W.Frag) (x fld : Str) : Prop where
  ini : PySem.W.findIn K (.ref (gC K x)) "__init__" = some (some (.ref (mAt x "__init__" K)))
  fn : PySem.W.typeIn K (.ref (mAt x "__init__" K)) = some (.type "function")
  no : PySem.W.findIn K (.ref (gC K x)) fld = some none
  kit : PySem.W.kitOne K (.ref (gC K x)) (.ref (gC K x)) = some true
  exm : PySem.W.exmAny K (.ref (gC K x)) [.ref (gC K "JarError"), .ref (gC K "StateError"), .ref (gC K "MissingError")] = some true
theorem err_ok {x fld : Str} (h : errB K x fld = true) : ErrI K x fld := by
  obtain ⟨h1, h⟩ := band h
  obtain ⟨h2, h⟩ := band h
  obtain ⟨h3, h⟩ := band h
  obtain ⟨h4, h5⟩ := band h
  exact ⟨of_decide_eq_true h1, of_decide_eq_true h2, of_decide_eq_true h3, of_decide_eq_true h4, of_decide_eq_true h5⟩
theorem prop_ok {C m : Str} (h : propB K C m = true) : PropOf K (gC K C) m (mAt C m K) (wAt C "property" m K) := by
  obtain ⟨h1, h⟩ := band h
  obtain ⟨h2, h⟩ := band h
  obtain ⟨h3, h4⟩ := band h
  refine ⟨He.eqO_ok h1, He.eqO_ok h2, of_decide_eq_true h3, ?_⟩
  show ∃ rest, PySem.W.recIn K (mAt C m K) "property" = some (.ref (match PySem.W.recIn K (mAt C m K) "property" with
    | some (.ref f :: _) => f
    | _ => 0) :: rest)
  split at h4
  · rename_i f r e
    exact ⟨r, by rw [e]⟩
  · cases h4
theorem eq_ok {C : Str} (h : eqB K C = true) : VxS.EqC K (gC K C) ∧ PySem.W.mroIn K (gC K C) (.ref (gC K C)) = some true := by
  obtain ⟨h1, h⟩ := band h
  obtain ⟨h2, h3⟩ := band h
  exact ⟨⟨He.eqO_ok h1, of_decide_eq_true h2⟩, of_decide_eq_true h3⟩
theorem read_ok {C : Addr} (h : PySem.W.readsIn K C (.type "type") = true) : ClX.CRead K C (.type "type") := by
  refine ⟨h, ?_⟩
  unfold PySem.W.readsIn at h
  obtain ⟨h, _⟩ := band h
  obtain ⟨h, _⟩ := band h
  obtain ⟨h, h3⟩ := band h
  obtain ⟨_, h2⟩ := band h
  unfold PySem.W.specialIn
  rw [beq_iff_eq.mp h2, Option.bind_some]
  exact beq_iff_eq.mp h3
abbrev FnI (K : PySem.W.Frag) (x : Str) (i : Nat) (fd : FuncData) : Prop := FunD K "__init__" (x ++ ".__init__") (defArgs (inClass (top i) 0)) (defBody (inClass (top i) 0)) (defScope (inClass (top i) 0)) [] [] (mAt x "__init__" K) fd
theorem xk_v (T : Xc K (gC K "InvalidValue")) (c : ErrI K "InvalidValue" "value") (F : ∃ fd, FnI K "InvalidValue" 13 fd) (hm : mg "InvalidValue" = some (.ref (gC K "InvalidValue"))) : XK1 P w K mg base "InvalidValue" "value" (gC K "InvalidValue") := by
  obtain ⟨fd, F⟩ := F
  have sc : FnScope ["self", "value"] ["self", "value"] (defScope (inClass (top 13) 0)) := ⟨rfl, rfl, rfl, by decide +kernel, rfl, by decide +kernel, by decide +kernel⟩
  refine ⟨T, hm, c.no, _, fd, c.ini, c.fn, F.ok sc (fun vs H Q E h => ?_) (fun cdv A outer s H vs Q E hr h => ⟨_, PSs.nox (pss_one (ps_xst (pv 0) (pv 1))), ?_⟩), F.bindsN (fun _ _ _ _ _ _ us hl => match us, hl with | [_, _], _ => rfl), fun s a ws kin hl => ?_⟩
  · obtain ⟨a, v, rfl, _⟩ := h
    rfl
  · obtain ⟨a, v, rfl, ha, k⟩ := h
    exact ⟨_, rfl, _, rfl, a, _, rfl, T, c.no, .inl ⟨ha, fun dx n ne => k dx n ne⟩⟩
  · obtain ⟨oc, od, dV, kV, doc, pm, an, cdv, ct, osl, rfl, lk, hcd, hD, hK⟩ := F.ex
    rcases hD with ⟨_, rfl⟩ | ⟨e, _⟩
    · match ws, hl with
      | [r], _ => exact .of_eq rfl
    · exact absurd rfl e
theorem xk_n (T : Xc K (gC K "InvalidNumbers")) (c : ErrI K "InvalidNumbers" "value") (F : ∃ fd, FnI K "InvalidNumbers" 14 fd) (hm : mg "InvalidNumbers" = some (.ref (gC K "InvalidNumbers"))) : XK1 P w K mg base "InvalidNumbers" "value" (gC K "InvalidNumbers") := by
  obtain ⟨fd, F⟩ := F
  have sc : FnScope ["self", "value"] ["self", "value"] (defScope (inClass (top 14) 0)) := ⟨rfl, rfl, rfl, by decide +kernel, rfl, by decide +kernel, by decide +kernel⟩
  refine ⟨T, hm, c.no, _, fd, c.ini, c.fn, F.ok sc (fun vs H Q E h => ?_) (fun cdv A outer s H vs Q E hr h => ⟨_, PSs.nox (pss_one (ps_xst (pv 0) (pv 1))), ?_⟩), F.bindsN (fun _ _ _ _ _ _ us hl => match us, hl with | [_, _], _ => rfl), fun s a ws kin hl => ?_⟩
  · obtain ⟨a, v, rfl, _⟩ := h
    rfl
  · obtain ⟨a, v, rfl, ha, k⟩ := h
    exact ⟨_, rfl, _, rfl, a, _, rfl, T, c.no, .inl ⟨ha, fun dx n ne => k dx n ne⟩⟩
  · obtain ⟨oc, od, dV, kV, doc, pm, an, cdv, ct, osl, rfl, lk, hcd, hD, hK⟩ := F.ex
    rcases hD with ⟨_, rfl⟩ | ⟨e, _⟩
    · match ws, hl with
      | [r], _ => exact .of_eq rfl
    · exact absurd rfl e
theorem xk_i (T : Xc K (gC K "InvalidIndex")) (c : ErrI K "InvalidIndex" "index") (F : ∃ fd, FnI K "InvalidIndex" 15 fd) (hm : mg "InvalidIndex" = some (.ref (gC K "InvalidIndex"))) : XK1 P w K mg base "InvalidIndex" "index" (gC K "InvalidIndex") := by
  obtain ⟨fd, F⟩ := F
  have sc : FnScope ["self", "index"] ["self", "index"] (defScope (inClass (top 15) 0)) := ⟨rfl, rfl, rfl, by decide +kernel, rfl, by decide +kernel, by decide +kernel⟩
  refine ⟨T, hm, c.no, _, fd, c.ini, c.fn, F.ok sc (fun vs H Q E h => ?_) (fun cdv A outer s H vs Q E hr h => ⟨_, PSs.nox (pss_one (ps_xst (pv 0) (pv 1))), ?_⟩), F.bindsN (fun _ _ _ _ _ _ us hl => match us, hl with | [_, _], _ => rfl), fun s a ws kin hl => ?_⟩
  · obtain ⟨a, v, rfl, _⟩ := h
    rfl
  · obtain ⟨a, v, rfl, ha, k⟩ := h
    exact ⟨_, rfl, _, rfl, a, _, rfl, T, c.no, .inl ⟨ha, fun dx n ne => k dx n ne⟩⟩
  · obtain ⟨oc, od, dV, kV, doc, pm, an, cdv, ct, osl, rfl, lk, hcd, hD, hK⟩ := F.ex
    rcases hD with ⟨_, rfl⟩ | ⟨e, _⟩
    · match ws, hl with
      | [r], _ => exact .of_eq rfl
    · exact absurd rfl e
theorem nod_ok {C : Str} (hc : Cls K (gC K C)) (h : nodB K C = true) : NodC K (CN K) (gC K C) := by
  obtain ⟨h1, h⟩ := band h
  obtain ⟨h2, h⟩ := band h
  obtain ⟨h3, h⟩ := band h
  obtain ⟨h4, h⟩ := band h
  obtain ⟨h5, h6⟩ := band h
  obtain ⟨e1, e2⟩ := eq_ok h6
  exact ⟨hc, He.eqO_ok h1, He.eqO_ok h2, of_decide_eq_true h3, e1, fun t m => of_decide_eq_true (List.all_eq_true.mp h4 t m), of_decide_eq_true h5, e2⟩
theorem dat_ok (h : datB K = true) : DatN K (CN K) := fun t m => of_decide_eq_true (List.all_eq_true.mp h t m)
theorem cm_ok {C : Str} (h : cmB K C = true) : ClX.CRead K (gC K C) (.type "type") ∧ ClX.CMet K (gC K C) (.type "type") "of" (He.ma K (gC K C) "of") (wAt C "classmethod" "of" K) := by
  obtain ⟨h1, h⟩ := band h
  obtain ⟨h2, h3⟩ := band h
  exact ⟨read_ok h1, He5.cmet_of h2 h3⟩
end
end Kz
namespace He
open PySem PySem.Spec PyProof.Rows L2
/-- sys.modules beside the module's names, defs at any address, one Bool more -/
def obsSA (n : Nat) (fa : List Fa) (fn : List He5.DefA) (chk : PySem.W.Frag → Bool) (g : Addr → Option Obj) : AlD × Bool := (He5.obsA fa fn (frG g (sysModules :: He5.asA g n)), chk (frG g (sysModules :: He5.asA g n)))
def hookSA (n : Nat) (fa : List Fa) (fn : List He5.DefA) (chk : PySem.W.Frag → Bool) : PySem.W.Hook where
  α := AlD × Bool
  obs := fun s => obsSA n fa fn chk s.heap.get?
  val := fun _ => (He5.valA fn, true)
  says := fun _ h => ∃ K : PySem.W.Frag, K.In h ∧ He5.SaysA fa fn K ∧ chk K = true
  of := fun _ _ e => ⟨_, frG_in, congrArg Prod.fst e, congrArg Prod.snd e⟩
  keeps := fun _ _ _ ⟨K, hK, c⟩ k => ⟨K, PySem.W.Frag.In.keeps hK k, c⟩
theorem obsSA_eq {n : Nat} {fa : List Fa} {fn : List He5.DefA} {chk : PySem.W.Frag → Bool} {g : Addr → Option Obj} {s : Shared} (h : ∀ a, g a = s.heap.get? a) : obsSA n fa fn chk g = (hookSA n fa fn chk).obs s := by
  have e : g = s.heap.get? := funext h
  rw [e] <;> rfl
end He

set_option Elab.async false
set_option linter.all false
set_option maxRecDepth 100000
set_option maxHeartbeats 0
namespace Kz
open PySem PySem.Spec PyProof.Rows L2
abbrev R : PySem.W.OpenRow := PySem.W.OpenLaw.row PySem.Challenge.rw_brinejar_k03_packs_and_rows
abbrev hk : PySem.W.Hook := He.hookSA 6 fa fn chk
def ob (s : PySem.W.SharedT) : He.AlD × Bool := He.obsSA 6 fa fn chk (HandSHeadRun.getT s)
theorem ob_eq (s : PySem.W.SharedT) : ob s = hk.obs s.abs := He.obsSA_eq (HandSHeadRun.getT_eq s)
def loose : List Str := (["__name__", "ATOM_LIMIT", "TEXT_LIMIT", "OCTET_LIMIT", "is_integer", "is_text", "is_key", "is_atom", "are_octets", "JarError", "StateError", "MissingError", "InvalidValue", "InvalidNumbers", "InvalidIndex", "NUMBERS_LIMIT"] : List Str) ++ (["Node", "Octets", "Pack", "Row", "is_atom_or_node", "require_value", "require_values", "require_tuple", "_law_begin", "_law_mixed", "_law_next", "_law_atom", "_law_odd", "_law_like", "_law_all_like", "_law_single", "_law_made", "_law_holds", "_law_of_right", "_law_word", "_law_grown_right"] : List Str)
theorem run (w : World) : HandSHeadRun.RunEq R (PySem.W.view R.prog [40]) hk ob 8000 loose w := by
  intro os
  kernel_rfl
end Kz

set_option Elab.async false
set_option linter.all false
set_option maxRecDepth 100000
set_option maxHeartbeats 4000000
namespace Kz
open PySem PySem.Spec PyProof.Rows L2 StX ClX
section
variable {P : Program} {w : World} {K : PySem.W.Frag} {mg : Str → Option Value} {h : Heap}
theorem fn_glo (c : He5.SaysA fa fn K) (X : K.In h) (G : h.Ns mainGlobals mg) (i : Nat) {x : Str} {n : Nat} (e1 : fn[i]? = some (dF x n)) (e2 : fa[i]? = some (.glo x)) : ∃ f fd, FnP K x (top n) f fd ∧ mg x = some (.ref f) := by
  obtain ⟨fd, F⟩ := c.def_ i e1
  exact ⟨He.ga K x, fd, F, He.glo_ok X G (c.fact i e2)⟩
theorem fn_m (c : He5.SaysA fa fn K) (i : Nat) {a : PySem.W.Frag → Addr} {x q : Str} {st : Stmt} (e1 : fn[i]? = some (dM a x q st [])) : ∃ fd, FnM K x q st [] (a K) fd := c.def_ i e1
theorem nm_of (c : He5.SaysA fa fn K) (X : K.In h) (G : h.Ns mainGlobals mg) (d : DatN K (CN K)) : Nm K mg where
  isi := He.free_ok X G (c.fact 33 (f := .free "isinstance") rfl)
  int := He.free_ok X G (c.fact 34 (f := .free "int") rfl)
  bool := He.free_ok X G (c.fact 35 (f := .free "bool") rfl)
  str := He.free_ok X G (c.fact 36 (f := .free "str") rfl)
  tuple := He.free_ok X G (c.fact 37 (f := .free "tuple") rfl)
  len := He.free_ok X G (c.fact 38 (f := .free "len") rfl)
  all := He.free_ok X G (c.fact 39 (f := .free "all") rfl)
  list := He.free_ok X G (c.fact 40 (f := .free "list") rfl)
  repr := He.free_ok X G (c.fact 41 (f := .free "repr") rfl)
  rng := He.free_ok X G (c.fact 42 (f := .free "range") rfl)
  min := He.free_ok X G (c.fact 43 (f := .free "min") rfl)
  atom := He.int_ok X G (c.fact 44 (f := .int "ATOM_LIMIT" big) rfl)
  text := He.int_ok X G (c.fact 45 (f := .int "TEXT_LIMIT" 2000) rfl)
  nums := He.int_ok X G (c.fact 46 (f := .int "NUMBERS_LIMIT" 2000) rfl)
  num := He.int_ok X G (c.fact 47 (f := .int "OCTET_LIMIT" 256) rfl)
  node := He.glo_ok X G (c.fact 32 (f := .glo "Node") rfl)
  type := He.free_ok X G (c.fact 63 (f := .free "type") rfl)
  set := He.free_ok X G (c.fact 64 (f := .free "set") rfl)
  sorted := He.free_ok X G (c.fact 65 (f := .free "sorted") rfl)
  dat := d
theorem ts_of (c : He5.SaysA fa fn K) (X : K.In h) (G : h.Ns mainGlobals mg) : Ts K mg :=
  ⟨fn_glo c X G 0 rfl rfl, fn_glo c X G 1 rfl rfl, fn_glo c X G 2 rfl rfl, fn_glo c X G 3 rfl rfl, fn_glo c X G 4 rfl rfl⟩
theorem rq_of (c : He5.SaysA fa fn K) (X : K.In h) (G : h.Ns mainGlobals mg) : Rq K mg :=
  ⟨fn_glo c X G 5 rfl rfl, fn_glo c X G 6 rfl rfl, fn_glo c X G 7 rfl rfl, fn_glo c X G 8 rfl rfl⟩
theorem lf_of (c : He5.SaysA fa fn K) (X : K.In h) (G : h.Ns mainGlobals mg) : LF K mg where
  dr := ⟨fn_glo c X G 9 rfl rfl, fn_glo c X G 10 rfl rfl, fn_glo c X G 11 rfl rfl⟩
  lk := ⟨fn_glo c X G 14 rfl rfl, fn_glo c X G 15 rfl rfl⟩
  atom := fn_glo c X G 12 rfl rfl
  odd := fn_glo c X G 13 rfl rfl
  single := fn_glo c X G 16 rfl rfl
  made := fn_glo c X G 17 rfl rfl
  holds := fn_glo c X G 18 rfl rfl
  ofr := fn_glo c X G 19 rfl rfl
  word := fn_glo c X G 20 rfl rfl
  grown := fn_glo c X G 21 rfl rfl
/-- the Bool's parts -/
structure Ck (K : PySem.W.Frag) : Prop where
  sys : SysK K
  tv : Xc K (gC K "InvalidValue")
  tn : Xc K (gC K "InvalidNumbers")
  ti : Xc K (gC K "InvalidIndex")
  ev : ErrI K "InvalidValue" "value"
  en : ErrI K "InvalidNumbers" "value"
  ei : ErrI K "InvalidIndex" "index"
  no : PySem.W.kitOne K (.ref (gC K "InvalidValue")) (.ref (gC K "InvalidIndex")) = some false
  pp : PropOf K (gC K "Pack") "parts" (mAt "Pack" "parts" K) (wAt "Pack" "property" "parts" K)
  ps : PropOf K (gC K "Pack") "shape" (mAt "Pack" "shape" K) (wAt "Pack" "property" "shape" K)
  rp : PropOf K (gC K "Row") "parts" (mAt "Row" "parts" K) (wAt "Row" "property" "parts" K)
  rs : PropOf K (gC K "Row") "shape" (mAt "Row" "shape" K) (wAt "Row" "property" "shape" K)
  cp : ∃ u, Con K (gC K "Pack") "SHAPE" (.str "pack") u
  cr : ∃ u, Con K (gC K "Row") "SHAPE" (.str "row") u
  no_ : nodB K "Octets" = true
  np_ : nodB K "Pack" = true
  nr_ : nodB K "Row" = true
  dat : DatN K (CN K)
  mp : ClX.CRead K (gC K "Pack") (.type "type") ∧ ClX.CMet K (gC K "Pack") (.type "type") "of" (He.ma K (gC K "Pack") "of") (wAt "Pack" "classmethod" "of" K)
  mr : ClX.CRead K (gC K "Row") (.type "type") ∧ ClX.CMet K (gC K "Row") (.type "type") "of" (He.ma K (gC K "Row") "of") (wAt "Row" "classmethod" "of" K)
theorem ck_of (k : chk K = true) : Ck K := by
  obtain ⟨h1, k⟩ := band k
  obtain ⟨h2, k⟩ := band k
  obtain ⟨h3, k⟩ := band k
  obtain ⟨h4, k⟩ := band k
  obtain ⟨h5, k⟩ := band k
  obtain ⟨h6, k⟩ := band k
  obtain ⟨h7, k⟩ := band k
  obtain ⟨h8, k⟩ := band k
  obtain ⟨h9, k⟩ := band k
  obtain ⟨h10, k⟩ := band k
  obtain ⟨h11, k⟩ := band k
  obtain ⟨h12, k⟩ := band k
  obtain ⟨h13, k⟩ := band k
  obtain ⟨h14, k⟩ := band k
  obtain ⟨h15, k⟩ := band k
  obtain ⟨h16, k⟩ := band k
  obtain ⟨h17, k⟩ := band k
  obtain ⟨h18, k⟩ := band k
  obtain ⟨h19, h20⟩ := band k
  exact ⟨sys_of h1, xc_VE h2, xc_VE h3, xc_VE h4, err_ok h5, err_ok h6, err_ok h7, of_decide_eq_true h8, prop_ok h9, prop_ok h10, prop_ok h11, prop_ok h12, He.conB_ok h13, He.conB_ok h14, h15, h16, h17, dat_ok h18, cm_ok h19, cm_ok h20⟩
theorem es_of (c : He5.SaysA fa fn K) (X : K.In h) (G : h.Ns mainGlobals mg) (k : Ck K) (base : Heap) : Es P w K mg base :=
  ⟨xk_v k.tv k.ev (c.def_ 23 rfl) (He.glo_ok X G (c.fact 23 (f := .glo "InvalidValue") rfl)), xk_n k.tn k.en (c.def_ 24 rfl) (He.glo_ok X G (c.fact 24 (f := .glo "InvalidNumbers") rfl)), xk_i k.ti k.ei (c.def_ 25 rfl) (He.glo_ok X G (c.fact 25 (f := .glo "InvalidIndex") rfl))⟩
theorem catch_of (c : He5.SaysA fa fn K) (X : K.In h) (G : h.Ns mainGlobals mg) {x fld : Str} (T : Xc K (gC K x)) (e : ErrI K x fld) (g : mg x = some (.ref (gC K x))) : CatchF K mg (gC K x) x fld :=
  ⟨⟨_, _, _, He.glo_ok X G (c.fact 26 (f := .glo "JarError") rfl), He.glo_ok X G (c.fact 27 (f := .glo "StateError") rfl), He.glo_ok X G (c.fact 28 (f := .glo "MissingError") rfl), e.exm⟩, T, e.no, g, e.kit⟩
theorem oct_of (c : He5.SaysA fa fn K) (X : K.In h) (G : h.Ns mainGlobals mg) (k : Ck K) : OctF K mg where
  cls := He.cls_ok (c.fact 48 (f := .cls "Octets") rfl)
  noN := He.noat_ok (c.fact 49 (f := .noat "Octets" "_numbers") rfl)
  nm := He.glo_ok X G (c.fact 29 (f := .glo "Octets") rfl)
  nod := nod_ok (He.cls_ok (c.fact 48 (f := .cls "Octets") rfl)) k.no_
  init := by
    obtain ⟨fd, F⟩ := c.def_ 26 rfl
    exact ⟨_, fd, _, He.mkr_ok (c.fact 50 (f := .mkr "Octets") rfl), F⟩
theorem pack_of (c : He5.SaysA fa fn K) (X : K.In h) (G : h.Ns mainGlobals mg) (k : Ck K) : PackF K mg where
  cls := He.cls_ok (c.fact 51 (f := .cls "Pack") rfl)
  noP := He.noat_ok (c.fact 52 (f := .noat "Pack" "_parts") rfl)
  nm := He.glo_ok X G (c.fact 30 (f := .glo "Pack") rfl)
  nod := nod_ok (He.cls_ok (c.fact 51 (f := .cls "Pack") rfl)) k.np_
  init := by
    obtain ⟨fd, F⟩ := fn_m c 27 rfl
    exact ⟨_, fd, He.mkr_ok (c.fact 55 (f := .mkr "Pack") rfl), F⟩
  of := by
    obtain ⟨fd, F⟩ := fn_m c 28 rfl
    exact ⟨_, _, _, fd, k.mp.1, k.mp.2, F⟩
  parts := by
    obtain ⟨fd, F⟩ := fn_m c 29 rfl
    exact ⟨_, _, fd, k.pp, F⟩
  shape := by
    obtain ⟨fd, F⟩ := fn_m c 30 rfl
    obtain ⟨u, hu⟩ := k.cp
    exact ⟨_, _, fd, u, k.ps, F, hu⟩
  kids := by
    obtain ⟨fd, F⟩ := fn_m c 31 rfl
    exact ⟨_, fd, He.meth_ok (c.fact 53 (f := .meth "Pack" "children") rfl), F⟩
  cont := by
    obtain ⟨fd, F⟩ := fn_m c 32 rfl
    exact ⟨_, fd, He.meth_ok (c.fact 54 (f := .meth "Pack" "_contents") rfl), F⟩
theorem row_of (c : He5.SaysA fa fn K) (X : K.In h) (G : h.Ns mainGlobals mg) (k : Ck K) : RowF K mg where
  cls := He.cls_ok (c.fact 56 (f := .cls "Row") rfl)
  noS := He.noat_ok (c.fact 57 (f := .noat "Row" "_sequence") rfl)
  nm := He.glo_ok X G (c.fact 31 (f := .glo "Row") rfl)
  nod := nod_ok (He.cls_ok (c.fact 56 (f := .cls "Row") rfl)) k.nr_
  init := by
    obtain ⟨fd, F⟩ := fn_m c 33 rfl
    exact ⟨_, fd, He.mkr_ok (c.fact 60 (f := .mkr "Row") rfl), F⟩
  of := by
    obtain ⟨fd, F⟩ := fn_m c 34 rfl
    exact ⟨_, _, _, fd, k.mr.1, k.mr.2, F⟩
  parts := by
    obtain ⟨fd, F⟩ := fn_m c 35 rfl
    exact ⟨_, _, fd, k.rp, F⟩
  shape := by
    obtain ⟨fd, F⟩ := fn_m c 36 rfl
    obtain ⟨u, hu⟩ := k.cr
    exact ⟨_, _, fd, u, k.rs, F, hu⟩
  kids := by
    obtain ⟨fd, F⟩ := fn_m c 37 rfl
    exact ⟨_, fd, He.meth_ok (c.fact 58 (f := .meth "Row" "children") rfl), F⟩
  cont := by
    obtain ⟨fd, F⟩ := fn_m c 38 rfl
    exact ⟨_, fd, He.meth_ok (c.fact 59 (f := .meth "Row" "_contents") rfl), F⟩
  putL := by
    obtain ⟨fd, F⟩ := fn_m c 39 rfl
    exact ⟨_, fd, He.meth_ok (c.fact 61 (f := .meth "Row" "put_last") rfl), F⟩
  putA := by
    obtain ⟨fd, F⟩ := fn_m c 40 rfl
    exact ⟨_, fd, He.meth_ok (c.fact 62 (f := .meth "Row" "put_at") rfl), F⟩
theorem facts {f : Addr} (X : K.In h) (G : h.Ns mainGlobals mg) (hfa : mg ("law" : Str) = some (.ref f)) (c : He5.SaysA fa fn K) (k : chk K = true) :
    ∃ fd : FuncData, (∀ (s : Shared) (v : Value), BindsTo s fd ⟨[v], []⟩ [("script", v)]) ∧ ∀ base : Heap, K.In base → base.Ns mainGlobals mg → FnG P w K mg base CX0 11 f fd ["script"] (spLaw K) := by
  have k := ck_of k
  obtain ⟨fL, fd, F, g⟩ := fn_glo c X G 22 (x := "law") (n := 40) rfl rfl
  have e := hfa.symm.trans g
  cases e
  have b := FunD.bindsA (ps := ["script"]) F fun _ _ _ _ _ _ us hl => match us, hl with | [_], _ => rfl
  have cv := catch_of c X G k.tv k.ev (He.glo_ok X G (c.fact 23 (f := .glo "InvalidValue") rfl))
  have ci := catch_of c X G k.ti k.ei (He.glo_ok X G (c.fact 25 (f := .glo "InvalidIndex") rfl))
  exact ⟨fd, fun s v => b s [v] rfl, fun base _ _ => ok_law F (nm_of c X G k.dat) (ts_of c X G) (es_of c X G k base) (rq_of c X G) k.sys (lf_of c X G) (pack_of c X G k) (row_of c X G k) (oct_of c X G k) cv ci k.no⟩
end
end Kz
open PySem PySem.W PySem.Calls PyProof.Rows
theorem PySem.Challenge.cw_brinejar_k03_packs_and_rows_holds : PySem.Challenge.rw_brinejar_k03_packs_and_rows.Holds := by
  w_on
  o_law
  refine HandSHeadRun.head_any (r := OpenLaw.row PySem.Challenge.rw_brinejar_k03_packs_and_rows) (q := view (OpenLaw.row PySem.Challenge.rw_brinejar_k03_packs_and_rows).prog [40]) (H := Kz.hk) (ob := Kz.ob) (M := 8000) (loose := Kz.loose) (d := HandSHeadRun.topDef (OpenLaw.row PySem.Challenge.rw_brinejar_k03_packs_and_rows).prog 40) (kwd := []) Kz.ob_eq
    (by kernel_rfl) (fun s => by kernel_rfl) Kz.run (by kernel_rfl) (by kernel_rfl) (by kernel_rfl) (by rfl) (by first | assumption | decide +kernel) (by decide +kernel) ⟨rfl, rfl, rfl, rfl, rfl, by decide +kernel⟩ ?hw ?hc
  case hw => w_witness2
  case hc =>
    refine L2.walk_ofG (l := PySem.Challenge.rw_brinejar_k03_packs_and_rows) (n := 63) (k := 11) (x := "script") rfl (by decide) (by kernel_rfl) ⟨rfl, by decide, by decide⟩ ?F
    intro w mg fa h Y G hmg0
    obtain ⟨K, KX, c, k⟩ := Y
    have hmg : mg ("law" : PySem.Str) = some (.ref fa) := by
      have e : (HandSHeadRun.topDef (OpenLaw.row PySem.Challenge.rw_brinejar_k03_packs_and_rows).prog 40).name = ("law" : PySem.Str) := by kernel_rfl
      rw [← e]
      exact hmg0
    obtain ⟨fd, hb, hF⟩ := Kz.facts (P := (PySem.Challenge.rw_brinejar_k03_packs_and_rows).prog) (w := w) KX G hmg c k
    exact ⟨K, fd, Kz.spLaw K, KX, hb, fun H a ns hl _ hS => ⟨a, ns, rfl, hS, hl, fun _ => rfl⟩, hF⟩
