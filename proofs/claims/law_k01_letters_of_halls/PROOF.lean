import PyProof.Rows.All
import Wide.All
import OpenK.AllK
import Wide.FinOn
import HandS.ForMost
import HandS.More
import HandS.Set
import HandS.ClsMeth
import HandS.ExcInit
import HandS.Lambda
import HandS.TryMany
import HandS.ExcField
import HandS.SetTxt0
import HandS.SetFor
import KE.GoesMore
import HandS.Walk
import HandS.DictComp
import HandS.WordsExc
import HandS.Defaults
import PySem.Challenge.RW_nearcall_k01_letters_of_halls
import HandS.IsInst
import KE.GoesZip
import KE.GoesEnum
import HandS.OwnEq
import PyProof.InstSpecial
import PyProof.TupleOfSeq
import HandS.Style
import HandS.Text
import PyProof.Rows.StrStep
import HandS.StrMore
import HandS.Deep
import HandS.EndTab
set_option Elab.async false
set_option linter.all false
set_option maxRecDepth 100000
namespace NC
open PySem PySem.Spec PyProof.Rows L2
def sg (c : Nat) : Str := ⟨#[c]⟩
def sgs (x : Str) : List Str := x.cps.toList.map sg
section
variable {X : Cx}
theorem mt_swap : MtR X "str.swapcase" (fun x xs H Q => ∃ a, x = .str a ∧ xs = [] ∧ a.length ≤ 1000 ∧ Q (.str (Txt.swapcase a)) H) :=
  mt0 (C := fun a => a.length ≤ 1000) (g := fun a => .str (Txt.swapcase a)) fun a _ s _ hc h =>
    PySem.SC.swapcase (short24 (by have h1 : a.length ≤ 1000 := hc; have := len_swapcase a; omega)) (h _ (s.toks + 1) ⟨_, rfl⟩)
theorem items_strs {x : Str} {acc : Array Value} (h : ItemsOf (SignAt x) acc x.cps.size) : StrsAre acc.toList (sgs x) := by
  refine strs_at (by simp [sgs, h.1]) fun j v e => ?_
  obtain ⟨c, u, hc, hv⟩ := h.2 j v (by simpa using e)
  exact ⟨sg c, u, by simp [sgs, hc], hv⟩
/-- list(text) -/
theorem cr_listS (hc : X.calm = true) : CallR X (.type "list") (fun xs H Q => ∃ z, xs = [.str z] ∧ z.length ≤ sizeLine ∧ ∀ l, H l = none → Q (.ref l) (upd H l (.lst ((sgs z).map V.str)))) := by
  intro pins s σ H xs us Q I r h
  obtain ⟨z, rfl, hz, q⟩ := h
  obtain ⟨u, rfl, t, rfl⟩ := vals1 r
  refine call_list_str (I.ok.hd hc) z t (hn := hz) fun h' tk acc' c' hk hS' hacc => ?_
  have hl : ((sgs z).map V.str).length ≤ sizeLine := by
    rw [List.length_map]; unfold sgs; rw [List.length_map, Array.length_toList]; exact hz
  refine ⟨.ref s.heap.objs.size, upd H s.heap.objs.size (.lst ((sgs z).map V.str)), I.laid hk (Nat.le_refl _) ⟨hl, acc'.toList, c', vals_of_strs (items_strs hacc), by simpa using hS'⟩, rfl, q _ (I.hok.fresh (Nat.le_refl _))⟩
/-- sorted(v), where what is gathered of v are fewer than 64 texts -/
theorem srt_str {pins : List (Addr × Obj)} {s : Shared} {σ : L2.St} {H : Hp} {Q : VK} (I : Inv X pins σ H s) (v : Value) (ks : List Str) (h64 : ks.length < 64)
    (hcol : ∀ (E : Value → Shared → Prop) (Q' : List Value → Shared → Prop), (∀ s' out ks', s'.os = s.os → s'.gens = s.gens → (∀ b o, s.heap.get? b = some o → s'.heap.get? b = some o) → StrsAre out ks' → ks'.Perm ks → Q' out s') →
      wpAny (model X.prog X.w) X.A.in1 (collect v) Q' E s)
    (q : ∀ ys p, ys.Perm ks → sortedS ys = true → H p = none → Q (.ref p) (upd H p (.lst (ys.map V.str)))) :
    wpAny (model X.prog X.w) X.A (call (.builtin "sorted") [v]) (EP X pins σ Q) X.xe s := by
  have go : wpAny (model X.prog X.w) X.A.in1 (collect v) (fun out s1 => ∃ ks', s1.os = s.os ∧ s1.gens = s.gens ∧ (∀ b o, s.heap.get? b = some o → s1.heap.get? b = some o) ∧ StrsAre out ks' ∧ ks'.Perm ks) X.xe s := hcol _ _ fun s1 out ks' e1 e2 e3 e4 e5 => ⟨ks', e1, e2, e3, e4, e5⟩
  refine Calls.call_function_entry PyProof.Rows.kind_sorted PyProof.Rows.plain_sorted PyProof.Rows.entry_sorted (PyProof.Rows.args_sorted1 _) (show wpAny _ X.A.in1 (Builtin.«sorted» _) _ _ _ from ?_)
  unfold Builtin.«sorted»
  refine wpAny_bind (wpAny_pure (wpAny_bind (thn go fun out t g => ?_)))
  obtain ⟨ks', io, gn, stay, sts, perm⟩ := g
  have J : Inv X pins σ H t := I.call' (ch := []) io (Un.kept stay) (I.hok.kept stay) (gn.symm ▸ I.bare) nofun
  have few : out.length < 64 := by
    have l1 := StrsAre.len_eq sts
    have l2 := perm.length_eq
    omega
  obtain ⟨hp, gs, dr, tk, os⟩ := t
  have lst : (hp.push (seqObj "list" out.toArray 0)).get? hp.objs.size = some (seqObj "list" out.toArray 0) := Heap.get?_push_size _ rfl
  refine wpAny_bind (wpAny_newList (wpAny_bind (wpAny_holding (wpAny_call_entry PyProof.Rows.slot_list_sort ⟨_, lst, rfl⟩ PyProof.Rows.entry_list_sort (list_sort_treeK strKind_oneLt lst sts.keysOf (fun _ _ _ e => keyKind_strs (e ▸ sts)) few fun st p1 p2 => ⟨_, rfl, ?_⟩)
    (PyProof.Rows.args_list_sort _)))) (by rw [sizeLine_eq]; omega))
  obtain ⟨ys, is, py, so⟩ := sorted_out_str sts p1 p2
  obtain ⟨ep, at_⟩ := PyProof.Rows.sortedHeap_at (vs := out) (out := (arrOf st).map (·.2)) lst
  have pk : ys.Perm ks := py.trans perm
  have sz : (ys.map V.str).length ≤ sizeLine := by
    have l3 := pk.length_eq
    rw [sizeLine_eq, List.length_map]
    omega
  have old : ∀ (b : Addr) (o : Obj), hp.get? b = some o → (sortedHeap (hp.push (seqObj "list" out.toArray 0)) hp.objs.size out ((arrOf st).map (·.2))).get? b = some o := fun b o e => by
    have lo := Heap.lt_size e
    rw [PyProof.Rows.sortedHeap_old (Nat.ne_of_lt lo) (by rw [size_push']; exact Nat.lt_succ_of_lt lo), Heap.get?_push_of_some _ e]
  exact wpAny_pure ⟨_, rfl, .ref hp.objs.size, upd H hp.objs.size (.lst (ys.map V.str)), J.laid (t' := tk) old (Nat.le_refl _) (show ObjOk X.prog X.w _ _ _ (.lst (ys.map V.str)) from ⟨sz, ((arrOf st).map (·.2)).toList, ep, vals_of_strs is, Array.toArray_toList.symm ▸ at_⟩), rfl, q ys _ pk so (J.hok.fresh (Nat.le_refl _))⟩
/-- sorted(text) -/
theorem cr_sortedT (hc : X.calm = true) : CallR X (.builtin "sorted") (fun xs H Q => ∃ z, xs = [.str z] ∧ z.length < 64 ∧ ∀ ys p, ys.Perm (sgs z) → sortedS ys = true → H p = none → Q (.ref p) (upd H p (.lst (ys.map V.str)))) := by
  intro pins s σ H xs us Q I r h
  obtain ⟨z, rfl, hz, q⟩ := h
  obtain ⟨u, rfl, t, rfl⟩ := vals1 r
  have hl : (sgs z).length < 64 := by unfold sgs; rw [List.length_map, Array.length_toList]; exact hz
  refine srt_str I (.str z t) (sgs z) hl (fun E Q' hQ => ?_) q
  refine wpAny_collect_str (A := X.A.in1) (I.ok.hd hc) z t (hn := by show z.length ≤ sizeLine; rw [sizeLine_eq]; omega) fun s' acc hk hg hd ho hacc => ?_
  exact hQ s' _ _ ho hg hk (items_strs hacc) (List.Perm.refl _)
end
end NC
namespace NC
open PySem PySem.Spec PyProof.Rows L2
section
variable {X : Cx} {CX : CXT} {k : Nat} {C f : Addr} {mc : Value} {sp : Sp} {E : XK} {e : Expr} {es : List Expr} {x m : Str} {pos p1 p2 : Pos} {t : TA} {pl : Sem Bool}
  {fd : FuncData} {ps : List Str} {dvs : List V} {ds : List Value}
/-- C.m(e, ..), C an own class by its name, m a plain def of it -/
theorem pe_clsfn (hg : Gl X x) (hm : X.mg x = some (.ref C)) (rd : ClX.CRead X.K C mc) (kv : PySem.W.findCls X.K (.ref C) mc m = some (.val (.ref f)))
    (F : FnOk X.prog X.w X.K X.mg X.base CX k f fd ps sp) (hr : Room k X.A) (hk : PySem.W.keepIn X.K (.ref f) = true) (hb : Binds X.K fd ps ds) (hd : Vals dvs ds) (hx : Passes CX X E) (ha : PA X (e :: es) t)
    (hdb : (x == ("__debug__" : Str)) = false := by decide)
    (hst : starEach (e :: es) X.env = (false, eval e X.env) :: starEach es X.env := by rfl) (hpl : (backTo pos (starEach es X.env)).any (·.1) = false := by rfl)
    (ht : eval (.Call (.Attribute (.Name x p1) m p2) (e :: es) [] pos) X.env = (do
      let ov ← eval (.Name x p1) X.env
      standAt p2.atName
      let (g, first) ← holding [ov] (getMethod ov m pl)
      callWith pos g first (backTo pos (starEach (e :: es) X.env)) (backToKw pos (keywordEach [] X.env))) := by rfl) :
    PE X (.Call (.Attribute (.Name x p1) m p2) (e :: es) [] pos) (tCall sp dvs E t) := by
  refine ⟨fun pins s0 σ H Q I0 h0 => ?_⟩
  refine PySem.W.methodCall_KW (pl := pl) (ld_glob I0 hg hm ?_ hdb) ht
  refine PySem.W.method_cls I0.kIn rd.ga (ClX.getcval_ok (v := .ref f) I0 rd ⟨kv, rfl⟩ fun s1 I1 => ?_)
  refine PySem.W.callWith_K (first := []) (h₀ := X.base) I1.ok.mod.kin hk (thn (ha.run pos pins s1 σ H _ I1 h0) fun us s2 ⟨vs, H2, I2, r2, q2⟩ => ⟨I2.kIn, ?_⟩) hst hpl
  exact run_fn (us := us) (vs := vs) F hr hb hd hx I2 r2 q2
end
end NC
namespace NC
open PySem PySem.Spec PyProof.Rows L2
open PySem.Froz (SD sObj runD addTx tailTx TxOk sing itObj finU two)
/-- the table rises and may be walked -/
def TxG (b : Bool) (D : SD) : Prop := Ris D.2.2.place.toList ∧ D.2.2.led = b
theorem txg_tail {b : Bool} {ep : Nat} {es : Array (Int × Value)} {t : SetTable} {d : Bool} (h : Ris t.place.toList ∧ t.led = b) : TxG b (tailTx ep es t d) := by
  unfold tailTx
  by_cases c : (!d && t.tooFull) = true
  · rw [if_pos c]; exact ⟨relayAll_ris _ _ _, (relayAll_led _ _ _).trans h.2⟩
  · rw [if_neg c]; exact h
theorem txg_add {b : Bool} {D : SD} {hv : Int} {v : Value} (h : TxG b D) : TxG b (addTx hv v D) := by
  unfold addTx
  have h1 := layNew_ris D.2.2 D.1 hv v h.1
  have h2 := (layNew_led D.2.2 D.1 hv v).trans h.2
  refine txg_tail ?_
  split
  · exact ⟨h1, h2⟩
  · exact ⟨h1, h2⟩
theorem run_good {P : Program} {w : World} {b : Bool} : ∀ (cs : List Nat) (tk : Tok) (D : SD) (l : List Str), TxG b D → TxOk P w D l → ∃ l', TxG b (runD w cs tk D) ∧ TxOk P w (runD w cs tk D) l' ∧ l'.Perm (l ++ cs.map sg)
  | [], tk, D, l, g, o => ⟨l, g, o, by simp⟩
  | c :: r, tk, D, l, g, o => by
    obtain ⟨l', g', o', p⟩ := run_good r (tk + 2) _ (sing c :: l) (txg_add g) (Froz.add_ok (k := sing c) tk o)
    refine ⟨l', g', o', p.trans ?_⟩
    show (sg c :: (l ++ r.map sg)).Perm (l ++ (sg c :: r.map sg))
    exact List.perm_middle.symm
theorem loop_txt {P : Program} {w : World} {A : Around} {R : Result → Shared → Prop} {s : Shared} {a it : Addr} {x : Str} {u : Tok} {led : Bool} (hh : A.handled = none) (hne : a ≠ it)
    (ha : s.heap.get? a = some (sObj "set" (#[], 0, .fresh 0 0 led))) (hit : s.heap.get? it = some (itObj x u 0)) (hnd : x.cps.toList.Nodup) (hb : x.cps.toList.length < 64)
    (h : ∀ (h' : Heap) (tk : Nat) (D : SD) (l : List Str), h'.get? a = some (sObj "set" D) → TxG led D → TxOk P w D l → l.Perm (sgs x) →
      (∀ b o, b ≠ a → b ≠ it → s.heap.get? b = some o → h'.get? b = some o) → R (.ok (.ret .none)) { s with heap := h', toks := tk }) :
    codeAny (model P w) A (.builtin "set.update.loop" ⟨[.ref a, .ref it], []⟩) R s := by
  have g0 : TxG led ((#[], 0, .fresh 0 0 led) : SD) := ⟨List.Pairwise.nil, rfl⟩
  have o0 : TxOk P w ((#[], 0, .fresh 0 0 led) : SD) [] := Froz.TxOk.nil rfl
  obtain ⟨l', g1, o1, p1⟩ := run_good (P := P) (w := w) x.cps.toList s.toks _ [] g0 o0
  refine Froz.code_update (T := "set") (u := u) hne hh x.cps.toList 0 _ [] s rfl ha hit o0 (fun c _ z => nomatch z) hnd (by show 0 + x.cps.toList.length < scanBound; unfold scanBound; omega) ?_
  unfold finU two
  have e1 := Froz.get_upd (sObj "set" (runD w x.cps.toList s.toks (#[], 0, .fresh 0 0 led))) ha rfl
  refine h _ _ _ l' (Heap.get?_push_of_some _ (Heap.get?_push_of_some _ (Heap.get?_update_of_ne _ (Ne.symm hne) e1))) g1 o1 (p1.trans (by simp [sgs])) fun b o h1 h2 e => ?_
  exact Heap.get?_push_of_some _ (Heap.get?_push_of_some _ (Heap.get?_update_of_ne _ (Ne.symm h2) (Heap.get?_update_of_ne _ (Ne.symm h1) e)))
set_option maxHeartbeats 3200000 in
/-- set(text), its signs unlike -/
theorem call_set_txt {P : Program} {w : World} {A : Around} {E : Value → Shared → Prop} {s : Shared} {x : Str} {t : Tok} {Q : Value → Shared → Prop} (hh : A.handled = none) (hA : x.cps.all (· < 128) = true)
    (hnd : x.cps.toList.Nodup) (hb : x.cps.toList.length < 64)
    (h : ∀ (h' : Heap) (tk : Nat) (D : SD) (l : List Str), h'.get? s.heap.objs.size = some (sObj "set" D) → TxG (!w.params.followText "set-order") D → TxOk P w D l → l.Perm (sgs x) →
      (∀ b o, s.heap.get? b = some o → h'.get? b = some o) → Q (.ref s.heap.objs.size) { s with heap := h', toks := tk }) :
    wpAny (model P w) A (call (.type "set") [.str x t]) Q E s := by
  obtain ⟨c, tl, hmro⟩ := PySem.F.called_set.mro
  have hmade := PySem.F.called_set.made
  have hsub := PySem.F.called_set.sub
  generalize hled : (!w.params.followText "set-order") = led at h
  refine wpAny_call (codeAny_of_tree ?_)
  show wpAny _ _ (callAny (.type "set") _) _ _ _
  refine wpAny_pure ⟨Code.quiet_builtin _ (by decide +kernel), codeAny_builtin PySem.F.entry_type_call ?_⟩
  rw [Around.under_plain (weight_type_call_type "set" [.str x t] []) rfl]
  have n1 := PySem.F.called_set.notType
  have n2 := PySem.F.called_set.canCreate
  have hct := PySem.F.typeCall_set_1 (.str x t)
  repeat (any_goals (first | assumption | wp_step))
  refine codeAny_mono (code_set_led1 (.str x t) (E := E) (Q₁ := fun ob s1 => ob = .ref s.heap.objs.size ∧ s1 = { s with heap := s.heap.push (sObj "set" (#[], 0, .fresh 0 0 led)) }) ⟨rfl, by rw [hled]; rfl⟩) fun r s1 hr => ?_
  cases r with
  | error e => exact hr
  | ok fl =>
    cases fl with
    | ret ob =>
      obtain ⟨rfl, rfl⟩ := hr
      have hS : (s.heap.push (sObj "set" (#[], 0, .fresh 0 0 led))).get? s.heap.objs.size = some (sObj "set" (#[], 0, .fresh 0 0 led)) := Heap.get?_push_size _ rfl
      have hT : Shared.TypeIs { s with heap := s.heap.push (sObj "set" (#[], 0, .fresh 0 0 led)) } (.ref s.heap.objs.size) "set" := ⟨_, hS, rfl⟩
      have hli := PySem.F.called_set.init.lookup
      have hbi := PySem.F.called_set.init.bind (.ref s.heap.objs.size)
      repeat (any_goals (first | assumption | wp_step))
      refine codeAny_mono (codeAny_call_builtin (R := wants (fun r s2 => r = .none ∧ Q (.ref s.heap.objs.size) s2) E) PySem.F.called_set.init.plain PySem.F.entry_set_init (check_set_init_1 hT ?_)) fun r2 s2 hr2 => ?_
      · unfold Builtin.«set.__init__» noKeywords Builtin.Frozenset.updateFrom
        have b1 : isSubtype (.type "str") (.type "set") = pure false := by rw [isSubtype_type]; kernel_rfl
        have b2 : isSubtype (.type "str") (.type "frozenset") = pure false := by rw [isSubtype_type]; kernel_rfl
        have b3 : (Value.type "str" == Value.type "dict") = false := by decide
        generalize hPI : pyIter = PI
        wp_walk
        subst hPI
        refine wpAny_pyIter_ascii hA ?_
        refine wpAny_bind (wpAny_runValue ?_)
        have hz : (s.heap.push (sObj "set" (#[], 0, .fresh 0 0 led))).objs.size = s.heap.objs.size + 1 := Heap.size_push ..
        refine loop_txt (A := A.in1.in1) (u := t) (by simp [hh]) (by show s.heap.objs.size ≠ (s.heap.push _).objs.size; rw [hz]; omega) (Heap.get?_push_of_some _ hS) (Heap.get?_push_size _ rfl) hnd hb fun h' tk D l e1 e2 e3 e4 e5 => ?_
        refine wpAny_pure ?_
        show wpAny _ _ (ret Value.none) _ _ _
        refine wpAny_pure ⟨rfl, h h' tk D l e1 e2 e3 e4 fun b o e => e5 b o ?_ ?_ (Heap.get?_push_of_some _ (Heap.get?_push_of_some _ e))⟩
        · exact Nat.ne_of_lt (Heap.lt_size e)
        · show b ≠ (s.heap.push _).objs.size
          rw [hz]
          exact Nat.ne_of_lt (Nat.lt_succ_of_lt (Heap.lt_size e))
      · cases r2 with
        | error e => exact hr2
        | ok f2 =>
          cases f2 with
          | ret r =>
            obtain ⟨rfl, hq⟩ := hr2
            repeat (any_goals (first | assumption | wp_step))
          | _ => exact hr2.elim
    | _ => exact hr.elim
/-- a set of the texts l -/
def SetTx (P : Program) (w : World) (a : Addr) (l : List Str) : HO := .ext fun h => ∃ D : SD, h.get? a = some (sObj "set" D) ∧ TxG (!w.params.followText "set-order") D ∧ TxOk P w D l
section
variable {X : Cx}
theorem setTx_ok {H : Hp} {h : Heap} {a : Addr} {l : List Str} {D : SD} (e : h.get? a = some (sObj "set" D)) (g : TxG (!X.w.params.followText "set-order") D) (o : TxOk X.prog X.w D l) : ObjOk X.prog X.w H h a (SetTx X.prog X.w a l) :=
  ⟨⟨D, e, g, o⟩, ⟨_, e⟩, fun h1 h2 ⟨D', e', r'⟩ k => ⟨D', k _ e', r'⟩⟩
theorem cr_setT (hc : X.calm = true) : CallR X (.type "set") (fun xs H Q => ∃ z, xs = [.str z] ∧ z.cps.all (· < 128) = true ∧ z.cps.toList.Nodup ∧ z.cps.toList.length < 64 ∧
    ∀ p l, H p = none → l.Perm (sgs z) → Q (.ref p) (upd H p (SetTx X.prog X.w p l))) := by
  intro pins s σ H xs us Q I r h
  obtain ⟨z, rfl, hA, hn, hl, q⟩ := h
  obtain ⟨u, rfl, t, rfl⟩ := vals1 r
  refine call_set_txt (P := X.prog) (w := X.w) (I.ok.hd hc) hA hn hl fun h' tk D l e1 e2 e3 e4 e5 => ?_
  exact ⟨.ref s.heap.objs.size, _, I.laid e5 (Nat.le_refl _) (setTx_ok e1 e2 e3), rfl, q _ l (I.hok.fresh (Nat.le_refl _)) e4⟩
theorem strs_map : ∀ vs : List Value, (∀ v ∈ vs, ∃ y u, v = Value.str y u) → StrsAre vs (vs.map strOf)
  | [], _ => .nil
  | v :: r, h => by
    obtain ⟨y, u, rfl⟩ := h v (List.mem_cons_self ..)
    exact .cons y u (strs_map r fun z hz => h z (List.mem_cons_of_mem _ hz))
theorem strs_perm {vs out : List Value} {ks : List Str} (h : StrsAre vs ks) (p : out.Perm vs) : ∃ ks', StrsAre out ks' ∧ ks'.Perm ks := by
  refine ⟨_, strs_map out fun v hv => h.all v (p.mem_iff.mp hv), ?_⟩
  rw [← h.strs]
  exact p.map _
theorem nd_perm : ∀ (l ks : List Str), l.Nodup → (∀ y ∈ l, y ∈ ks) → ks.length ≤ l.length → ks.Perm l
  | [], ks, _, _, h => by
    have e : ks = [] := List.length_eq_zero_iff.mp (by simpa using h)
    rw [e]
  | y :: r, ks, hn, hs, h => by
    obtain ⟨n1, n2⟩ := List.nodup_cons.mp hn
    have m : y ∈ ks := hs y (List.mem_cons_self ..)
    have hl := List.length_erase_of_mem m
    have q := nd_perm r (ks.erase y) n2 (fun z hz => (List.mem_erase_of_ne (fun e : z = y => n1 (by rw [← e]; exact hz))).mpr (hs z (List.mem_cons_of_mem _ hz))) (by
      rw [List.length_cons] at h
      omega)
    exact (List.perm_cons_erase m).trans (q.cons y)
theorem tx_strs {P : Program} {w : World} {D : SD} {l : List Str} (o : TxOk P w D l) (hn : l.Nodup) : ∃ ks, StrsAre (D.1.toList.map (·.2)) ks ∧ ks.Perm l := by
  have sh : ∀ e ∈ D.1.toList, ∃ k u, e.2 = Value.str k u ∧ (strKind P w).is k e.2 = true := fun e he => by
    obtain ⟨⟨k, hk, _⟩, _⟩ := o.el e he
    obtain ⟨u, eu⟩ := Value.isStrOf_shape (x := k) (v := e.2) hk
    exact ⟨k, u, eu, hk⟩
  refine ⟨_, strs_map _ fun v hv => ?_, nd_perm l _ hn (fun k hk => ?_) ?_⟩
  · obtain ⟨e, he, rfl⟩ := List.mem_map.mp hv
    obtain ⟨k, u, eu, _⟩ := sh e he
    exact ⟨k, u, eu⟩
  · obtain ⟨e, he, z⟩ := (o.mem k).mp hk
    obtain ⟨u, eu⟩ := Value.isStrOf_shape (x := k) (v := e.2) z
    refine List.mem_map.mpr ⟨e.2, List.mem_map.mpr ⟨e, he, rfl⟩, ?_⟩
    rw [eu]
    rfl
  · rw [List.length_map, List.length_map, Array.length_toList, o.sz]
    exact Nat.le_refl _
theorem cr_sortedSetT (hc : X.calm = true) : CallR X (.builtin "sorted") (fun xs H Q => ∃ a l, xs = [.ref a] ∧ H a = some (SetTx X.prog X.w a l) ∧ l.Nodup ∧ l.length < 64 ∧
    ∀ ys p, ys.Perm l → sortedS ys = true → H p = none → Q (.ref p) (upd H p (.lst (ys.map V.str)))) := by
  intro pins s σ H xs us Q I r h
  obtain ⟨a, l, rfl, ha, hn, hl, q⟩ := h
  rw [Vals.ref1 r]
  obtain ⟨⟨D, e, g, o⟩, _, _⟩ := I.hok a _ ha
  obtain ⟨ks, hS, hp⟩ := tx_strs o hn
  have hsz : D.1.size < scanBound := by rw [o.sz]; unfold scanBound; omega
  refine srt_str I (.ref a) l hl (fun E Q' hQ => ?_) q
  refine collect_set (A := X.A.in1) (P := X.prog) (w := X.w) (es := D.1) (ep := D.2.1) (t := D.2.2) (I.ok.hd hc) ⟨_, e, rfl, rfl⟩ o.fit hsz g.1 ?_ fun s' out k1 k2 k3 k4 k5 => ?_
  · rw [g.2]
    cases X.w.params.followText "set-order"
    · exact .inr rfl
    · exact .inl rfl
  · obtain ⟨ks', hS', hp'⟩ := strs_perm hS k5
    exact hQ s' out ks' k4 k3 k1 hS' (hp'.trans hp)
end
end NC
/-! enumerate of a tuple: the call, one turn, the end -/
namespace NC
open PySem PySem.Spec PyProof.Rows L2
/-- the two objects that enumerate(t) lays, t at l -/
abbrev titO (l : Addr) : Obj := { cls := .type "tuple_iterator", data := .fields #[.ref l, .int 0 0] }
abbrev enuO (it : Addr) : Obj := { cls := .type "enumerate", data := .fields #[.none, .bool false, .ref it, rawInt 0, .none, .none] }
theorem meets_enumT (l : Addr) (ob : Obj) (items : Array Value) (n : Nat) (hc : ob.cls = .type "tuple") (hd : ob.data = .seq items n) :
    Meets (Builtin.«enumerate.__new__» ⟨[.type "enumerate", .ref l], []⟩) (fun _ R s => s.heap.get? l = some ob ∧ R (.ok (.ret (.ref (s.heap.push (titO l)).objs.size))) { s with heap := (s.heap.push (titO l)).push (enuO s.heap.objs.size) }) :=
  .of_wp fun P w A R t h => by
    obtain ⟨oc, od, dt, sl⟩ := ob
    cases (show oc = _ from hc)
    cases (show dt = _ from hd)
    have tup : t.heap.IsTuple l items := ⟨_, h.1, rfl, n, rfl⟩
    have sb := sub_enumerate
    obtain ⟨hp, g, d, tk, os⟩ := t
    have ld := h.1
    wp_walk using AutoSeq1.wpAny_loadPart' ld
    refine wpAny_stack_any fun _ => wpAny_pure ?_
    split
    · rename_i k _ _ _ _ _
      cases (k == Value.type "enumerate") <;> (wp_walk using AutoSeq1.wpAny_loadPart' ld, wpAny_pyIter_tuple tup; exact ⟨_, rfl, h.2⟩)
    · wp_walk using AutoSeq1.wpAny_loadPart' ld, wpAny_pyIter_tuple tup
      exact ⟨_, rfl, h.2⟩
theorem call_enumT {P : Program} {w : World} {A : Around} {E Q : Value → Shared → Prop} {t : Shared} {l : Addr} {items : Array Value} (tup : t.heap.IsTuple l items)
    (h : ∀ g, IsEnum g (t.heap.objs.size + 1) t.heap.objs.size 0 .none → g.IsTupleIter t.heap.objs.size l 0 → (∀ b o, t.heap.get? b = some o → g.get? b = some o) → Q (.ref (t.heap.objs.size + 1)) { t with heap := g }) :
    wpAny (model P w) A (call (.type "enumerate") [.ref l]) Q E t := by
  obtain ⟨ob, ho, oc, n, od⟩ := tup
  have sz : (t.heap.push (titO l)).objs.size = t.heap.objs.size + 1 := Heap.size_push ..
  have laid : IsEnum ((t.heap.push (titO l)).push (enuO t.heap.objs.size)) (t.heap.objs.size + 1) t.heap.objs.size 0 .none := by
    have z := Heap.get?_push_size (t.heap.push (titO l)) (o := enuO t.heap.objs.size) rfl
    exact sz ▸ z
  refine callType_new F.called_enumerate (by decide) (F.typeCall_enumerate_1 _) (F.newCall_enumerate_1 _) (fun z => F.args_object_init_2 z _) F.entry_enumerate_new (meets_enumT l ob items n oc od) ⟨ho, ?_⟩
  show _ ∧ _
  rw [sz]
  exact ⟨⟨_, laid, rfl⟩, h _ laid ⟨_, Heap.get?_push_of_some _ (Heap.get?_push_size _ rfl), rfl, rfl⟩ fun _ _ z => Heap.get?_push_of_some _ (Heap.get?_push_of_some _ z)⟩
/-- the walk: at turn i a new pair of i and the item -/
def ItET (K : PySem.W.Frag) (a : Addr) : It :=
  ⟨fun i H => ∃ (xs : List V) (x : V), SqT K H a xs ∧ xs[i]? = some x, fun i H v H' => ∃ T x, v = .ref T ∧ H T = none ∧ H' = upd H T (.tup [.int (i : Nat), x]) ∧ ∀ xs, SqT K H a xs → xs[i]? = some x,
    fun i H => ∃ xs : List V, SqT K H a xs ∧ xs.length ≤ i⟩
/-- the state ahead of turn i: the enumerate object at e, its iterator at it -/
def AtE (a e it : Addr) (i : Nat) (h : Heap) : Prop := (∃ last, IsEnum h e it ((i : Nat) : Int) last) ∧ h.IsTupleIter it a i ∧ e ≠ it
theorem AtE.apart {a e it : Addr} {i : Nat} {h : Heap} {vs : Array Value} (st : AtE a e it i h) (t : h.IsTuple a vs) : a ≠ it ∧ e ≠ a := by
  obtain ⟨⟨_, g1⟩, ⟨o2, g2, c2, _⟩, _⟩ := st
  obtain ⟨o3, g3, c3, _⟩ := t
  have g1 : h.get? e = _ := g1
  refine ⟨fun z => ?_, fun z => ?_⟩
  · rw [z, g2] at g3
    exact absurd (c2.symm.trans ((Option.some.inj g3) ▸ c3)) (by decide)
  · rw [z, g3] at g1
    have c4 : o3.cls = .type "enumerate" := (Option.some.inj g1) ▸ rfl
    exact absurd (c3.symm.trans c4) (by decide)
theorem AtE.olds {a e it : Addr} {i : Nat} {h : Heap} (st : AtE a e it i h) {b : Addr} (m : b ∈ [e, it]) : b < h.objs.size := by
  obtain ⟨⟨_, g1⟩, ⟨o2, g2, _⟩, _⟩ := st
  rcases List.mem_cons.mp m with rfl | m
  · exact Heap.lt_size g1
  · exact (List.mem_singleton.mp m) ▸ Heap.lt_size g2
theorem turn_enumT {P : Program} {w : World} {K : PySem.W.Frag} {elts : List Expr} {kk : Nat} {tpos : Pos} (a e it : Addr) : Turn P w K (.Tuple elts kk tpos) (ItET K a) [e, it] e (AtE a e it) where
  mem := .head _
  obj := fun i h st b m => by
    rcases List.mem_cons.mp m with rfl | m
    · exact st.1.elim fun _ g => ⟨_, g, nofun⟩
    · obtain ⟨o, g, _, k⟩ := st.2.1
      exact ⟨o, (List.mem_singleton.mp m) ▸ g, fun v z => nomatch k.symm.trans z⟩
  keep := fun i h h' st k => ⟨st.1.imp fun _ g => k e (.head _) _ g, st.2.1.at fun o g => k it (.tail _ (.head _)) o g, st.2.2⟩
  item := by
    rintro X rfl rfl rfl calm i ps t σ H E I fre st ⟨xs, x, sq, ax⟩
    obtain ⟨its, vl, tp, _⟩ := I.tuple sq
    have tup : t.heap.IsTuple a its.toArray := tp
    obtain ⟨u, au, rel⟩ := vl.get ax
    have lt : i < its.toArray.size := by simpa using (List.getElem?_eq_some_iff.mp au).1
    obtain ⟨n1, n2⟩ := st.apart tup
    obtain ⟨_, enu⟩ := st.1
    have old : e < t.heap.objs.size := st.olds (.head _)
    refine wpAny_pyNext_enum_itemD (Draws.tuple (prog := X.prog) (w := X.w) (A := X.A.in1) (I.ok.hd calm) it a n1 its.toArray) enu ⟨st.2.1, tup⟩ lt st.2.2 (by simp [st.2.2, n2]) fun y g tk ay own on pair _ stay => ?_
    obtain rfl : y = u := Option.some.inj ((show its[i]? = some y by simpa using ay).symm.trans au)
    refine ⟨_, rfl, wpAny_letOwnedTupleGo_enum (s := { t with heap := g, toks := tk + 1 }) own fun g2 enu2 but => ?_⟩
    have pair2 : g2.get? t.heap.objs.size = some { cls := .type "tuple", data := .seq #[.int i tk, y] } := (but.2 _ (Nat.ne_of_gt old)).trans pair
    refine ⟨.ref t.heap.objs.size, upd H t.heap.objs.size (.tup [.int (i : Nat), x]), I.turnedNew (ch := [e, it]) (fun b o nb z => (but.2 b fun q => nb (by simp [q])).trans (stay b o (fun q => nb (by simp [q])) (fun q => nb (by simp [q])) z)) fre (Nat.le_refl _)
        ⟨by show 2 ≤ sizeLine; decide, [.int i tk, y], .cons ⟨_, rfl⟩ (.cons rel .nil), ⟨_, pair2, rfl, _, rfl⟩⟩, rfl, ⟨_, x, rfl, I.hok.fresh (Nat.le_refl _), rfl, fun ys sy => I.tuple_inj sy sq ▸ ax⟩, ⟨⟨y, ?_⟩, on.1.at fun o z => (but.2 it (Ne.symm st.2.2)).trans z, st.2.2⟩, fun b m => ?_⟩
    · exact (show ((i + 1 : Nat) : Int) = (i : Int) + 1 by omega) ▸ enu2
    · exact (upd_ne (Nat.ne_of_lt (st.olds m))).trans (fre b m).1
  done := by
    rintro X rfl rfl rfl calm i ps t σ H E I fre st ⟨xs, sq, le⟩
    obtain ⟨its, vl, tp, _⟩ := I.tuple sq
    have tup : t.heap.IsTuple a its.toArray := tp
    obtain ⟨_, enu⟩ := st.1
    have ty : t.TypeIs (.ref e) "enumerate" := ⟨_, enu, rfl⟩
    have end_ : its.toArray[i]? = none := by
      have := vl.length
      simp
      omega
    have fr := fre it (.tail _ (.head _))
    unfold pyNext
    refine wpAny_bind (wpAny_attempt (wpAny_callSpecial?_slot (name := Str.ofString "__next__") ty F.slot_enumerate_next (wpAny_call_entry F.slot_enumerate_next ty F.entry_enumerate_next ?_ (F.args_enumerate_next_1 _))))
    show wpAny _ _ (field (.ref e) 2 >>= fun _ => _) _ _ _
    refine wpAny_bind (wpAny_field enu rfl (x := .ref it) rfl (wpAny_bind (wpAny_nextOf_tuple_end (I.ok.hd calm) st.2.1 tup end_ fun g z but hz => ?_)))
    exact wpAny_bind (wpAny_isInstance (T := "StopIteration") (b := true) hz isSubtype_stop (wpAny_pure ⟨rfl, I.turned (t' := t.toks) (fun b o nb q => but b o nb q) fr.1 fr.2.1 fr.2.2.2.1 fr.2.2.2.2.1 fr.2.2.2.2.2⟩))
  self := fun _ _ _ _ _ st h => st.1.elim fun _ g => wpAny_pyIter_enum g h
def iEnumT (K : PySem.W.Frag) (ta : TA) : TI := fun σ H R => ta σ H fun vs H1 => ∃ a, vs = [.ref a] ∧ ((∃ xs, SqL K H1 a xs) ∧ R (Ite K a) H1 ∨ (∃ xs, SqT K H1 a xs) ∧ R (ItET K a) H1)
/-- enumerate of a list or of a tuple -/
theorem pi_enumT {X : Cx} {e : Expr} {ta : TA} {p pos tpos : Pos} {elts : List Expr} {kk : Nat} (gl : Gl X "enumerate") (bi : X.mg "enumerate" = none) (arg : PA X [e] ta) (one : starEach [e] X.env = [(false, eval e X.env)] := by rfl) :
    PI X (.Tuple elts kk tpos) (.Call (.Name "enumerate" p) [e] [] pos) (iEnumT X.K ta) := by
  refine ⟨fun ps t σ H R I h => Call_ (ld_blt I gl bi boot_enumerate (PyProof.Rows.callWith_type1 (thn (arg.run pos ps t σ H _ I h) fun us v r => ?_) one rfl))⟩
  obtain ⟨vs, G, J, rv, a, rfl, r⟩ := r
  cases Vals.ref1 rv
  have new : ∀ b ∈ [v.heap.objs.size + 1, v.heap.objs.size], FpOk X ps G b := fun b m => by
    have up : v.heap.objs.size ≤ b := by
      simp at m
      omega
    exact J.fpOk up (J.hok.fresh up)
  rcases r with ⟨⟨xs, sq⟩, r⟩ | ⟨⟨xs, sq⟩, r⟩
  · obtain ⟨_, _, k, _⟩ := J.list sq
    exact call_enumerate_list k.isList fun g enu iter _ stay => wpAny_pyIter_enum enu ⟨v.heap.objs.size + 1, _, _, _, G, rfl, J.kept (t' := v.toks) stay, turn_enum a (v.heap.objs.size + 1) v.heap.objs.size, ⟨⟨.none, enu⟩, iter, Nat.succ_ne_self _⟩, new, r⟩
  · obtain ⟨its, _, k, _⟩ := J.tuple sq
    exact call_enumT (show v.heap.IsTuple a its.toArray from k) fun g enu iter stay => wpAny_pyIter_enum enu ⟨v.heap.objs.size + 1, _, _, _, G, rfl, J.kept (t' := v.toks) stay, turn_enumT a (v.heap.objs.size + 1) v.heap.objs.size, ⟨⟨.none, enu⟩, iter, Nat.succ_ne_self _⟩, new, r⟩
end NC
namespace NC
open PySem PySem.Spec PyProof.Rows L2
/-! ### signs and texts -/
def tx (l : List Nat) : Str := ⟨l.toArray⟩
def upc (c : Nat) : Nat := if 97 ≤ c ∧ c ≤ 122 then c - 32 else c
def lwc (c : Nat) : Nat := if 65 ≤ c ∧ c ≤ 90 then c + 32 else c
def swp (c : Nat) : Nat := if 97 ≤ c ∧ c ≤ 122 then c - 32 else if 65 ≤ c ∧ c ≤ 90 then c + 32 else c
theorem sg_tx (c : Nat) : sg c = tx [c] := rfl
theorem tx_list (l : List Nat) : (tx l).cps.toList = l := by simp [tx]
theorem tx_len (l : List Nat) : (tx l).length = l.length := by show (tx l).cps.size = l.length; simp [tx]
theorem tx_inj {a b : List Nat} (h : tx a = tx b) : a = b := by rw [← tx_list a, h, tx_list]
theorem sg_inj {a b : Nat} (h : sg a = sg b) : a = b := by
  have := tx_inj (a := [a]) (b := [b]) h
  simpa using this
theorem tx_app (a b : List Nat) : tx a ++ tx b = tx (a ++ b) := by
  show Str.mk (a.toArray ++ b.toArray) = Str.mk (a ++ b).toArray
  simp
theorem sgs_tx (l : List Nat) : sgs (tx l) = l.map sg := by simp [sgs, tx_list]
theorem up1_eq : ∀ c : Nat, c < 128 → up1 c = upc c := by
  have h : ∀ c : Fin 128, up1 c.val = upc c.val := by decide +kernel
  exact fun c hc => h ⟨c, hc⟩
theorem lo1_eq : ∀ c : Nat, c < 128 → lo1 c = lwc c := by
  have h : ∀ c : Fin 128, lo1 c.val = lwc c.val := by decide +kernel
  exact fun c hc => h ⟨c, hc⟩
theorem upper_tx {l : List Nat} (h : ∀ c ∈ l, c < 128) : Txt.upper (tx l) = tx (l.map upc) := by
  rw [upper_ascii (by rw [tx_list]; exact h)]
  show Str.mk (l.toArray.map up1) = Str.mk (l.map upc).toArray
  rw [List.map_toArray, List.map_congr_left fun c hc => up1_eq c (h c hc)]
theorem lower_tx {l : List Nat} (h : ∀ c ∈ l, c < 128) : Txt.lower (tx l) = tx (l.map lwc) := by
  rw [lower_ascii (by rw [tx_list]; exact h)]
  show Str.mk (l.toArray.map lo1) = Str.mk (l.map lwc).toArray
  rw [List.map_toArray, List.map_congr_left fun c hc => lo1_eq c (h c hc)]
theorem swap_sg : ∀ c : Nat, c < 128 → Txt.swapcase (sg c) = sg (swp c) := by
  have h : ∀ c : Fin 128, Txt.swapcase (sg c.val) = sg (swp c.val) := by decide +kernel
  exact fun c hc => h ⟨c, hc⟩
/-! ### walls and sides -/
structure GoodW (l : List Nat) : Prop where
  lo : 1 ≤ l.length
  hi : l.length ≤ 12
  sm : ∀ c ∈ l, 97 ≤ c ∧ c ≤ 122
  rise : l.Pairwise (· < ·)
def sds (l : List Nat) : List Nat := l.map upc ++ l
theorem GoodW.asc {l : List Nat} (g : GoodW l) : ∀ c ∈ l, c < 128 := fun c h => by have := g.sm c h; omega
theorem GoodW.nd {l : List Nat} (g : GoodW l) : l.Nodup := g.rise.imp fun h => Nat.ne_of_lt h
theorem upc_small {c : Nat} (h : 97 ≤ c ∧ c ≤ 122) : upc c = c - 32 := by unfold upc; rw [if_pos h]
theorem sds_shape {l : List Nat} (g : GoodW l) {s : Nat} (h : s ∈ sds l) : (97 ≤ s ∧ s ≤ 122 ∧ s ∈ l) ∨ (65 ≤ s ∧ s ≤ 90 ∧ s + 32 ∈ l) := by
  rcases List.mem_append.mp h with q | q
  · obtain ⟨c, hc, e⟩ := List.mem_map.mp q
    have := g.sm c hc
    rw [upc_small this] at e
    exact .inr ⟨by omega, by omega, by rw [← e, show c - 32 + 32 = c by omega]; exact hc⟩
  · have := g.sm s q
    exact .inl ⟨this.1, this.2, q⟩
theorem sds_of_small {l : List Nat} {s : Nat} (h : s ∈ l) : s ∈ sds l := List.mem_append_right _ h
theorem sds_of_great {l : List Nat} (g : GoodW l) {c : Nat} (h : c ∈ l) : c - 32 ∈ sds l := by
  refine List.mem_append_left _ (List.mem_map.mpr ⟨c, h, upc_small (g.sm c h)⟩)
theorem sds_swp {l : List Nat} (g : GoodW l) {s : Nat} (h : s ∈ sds l) : swp s ∈ sds l := by
  rcases sds_shape g h with ⟨a, b, q⟩ | ⟨a, b, q⟩
  · rw [show swp s = s - 32 by unfold swp; rw [if_pos ⟨a, b⟩]]
    exact sds_of_great g q
  · rw [show swp s = s + 32 by unfold swp; rw [if_neg (by omega), if_pos ⟨a, b⟩]]
    exact sds_of_small q
theorem sds_asc {l : List Nat} (g : GoodW l) {s : Nat} (h : s ∈ sds l) : s < 128 := by
  rcases sds_shape g h with q | q <;> omega
theorem sds_len {l : List Nat} (g : GoodW l) : (sds l).length ≤ 24 := by
  unfold sds
  rw [List.length_append, List.length_map]
  have := g.hi
  omega
theorem sds_nd {l : List Nat} (g : GoodW l) : (sds l).Nodup := by
  refine List.nodup_append.mpr ⟨?_, g.nd, fun a ha b hb e => ?_⟩
  · refine List.pairwise_map.mpr (g.rise.imp_of_mem fun {a b} ha hb h e => ?_)
    have := g.sm a ha
    have := g.sm b hb
    rw [upc_small (by omega), upc_small (by omega)] at e
    omega
  · obtain ⟨c, hc, e2⟩ := List.mem_map.mp ha
    have h1 := g.sm c hc
    have h2 := g.sm b hb
    rw [upc_small h1] at e2
    omega
/-- is_bar -/
def isBar (l b : List Nat) : Bool := match b with
  | [x, y] => decide (x ∈ sds l) && (decide (y ∈ sds l) && decide (lwc x < lwc y))
  | _ => false
theorem lt1 (a b : Nat) : ([a] : List Nat) < [b] ↔ a < b := by simp [List.cons_lt_cons_iff]
/-! ### heaps -/
theorem same_upd {H : Hp} {p : Addr} {o : HO} (h : H p = none) : Same H (upd H p o) := fun b x e => by
  rw [upd_ne (ne_of_none e h)]
  exact e
theorem sm_t {K : PySem.W.Frag} {H H' : Hp} {a : Addr} {xs : List V} (e : Same H H') (h : SqT K H a xs) : SqT K H' a xs := by
  rcases h with (h | ⟨o, h⟩) | h
  · exact .inl (.inl (e _ _ h))
  · exact .inl (.inr ⟨o, e _ _ h⟩)
  · exact .inr h
theorem yes_i {σ : L2.St} {H : Hp} {A B : Hp → Prop} (h : A H) : tYes σ H (fun b H3 => if b = true then A H3 else B H3) := show (if true = true then A H else B H) from iteT h
theorem sm_trans {H H1 H2 : Hp} (a : Same H H1) (b : Same H1 H2) : Same H H2 := fun c o h => b c o (a c o h)
theorem sm_upd {H H1 : Hp} {p : Addr} {o : HO} (e : Same H H1) (h : H1 p = none) : Same H (upd H1 p o) := sm_trans e (same_upd h)
/-- a store at what was new -/
theorem sm_over {H H1 : Hp} {p : Addr} {o : HO} (e : Same H H1) (h : H p = none) : Same H (upd H1 p o) := fun b x hb => by
  rw [upd_ne (ne_of_none hb h)]
  exact e b x hb
theorem sm_l {K : PySem.W.Frag} {H H' : Hp} {a : Addr} {xs : List V} (e : Same H H') (h : SqL K H a xs) : SqL K H' a xs := L2.Same.seq e h
theorem inV_str (x : Str) (ys : List Str) : inV (.str x) (ys.map V.str) = decide (x ∈ ys) := by
  unfold inV
  rw [List.any_map]
  induction ys with
  | nil => rfl
  | cons y r ih =>
    rw [List.any_cons, ih]
    by_cases e : y = x
    · subst e
      simp [eqV]
    · have e2 : ¬ x = y := fun z => e z.symm
      have q : eqV (.str y) (.str x) = false := by
        show (y == x) = false
        simpa using e
      show (eqV (.str y) (.str x) || _) = _
      rw [q]
      simp [e2]
theorem flat_str (ys : List Str) : (ys.map V.str).all flatV = true := by
  rw [List.all_map]
  exact List.all_eq_true.mpr fun _ _ => rfl
theorem mem_sg {c : Nat} {l : List Nat} : sg c ∈ l.map sg ↔ c ∈ l := by
  constructor
  · intro h
    obtain ⟨d, hd, e⟩ := List.mem_map.mp h
    rw [← sg_inj e]
    exact hd
  · exact fun h => List.mem_map.mpr ⟨c, h, rfl⟩
end NC
namespace NC
open PySem PySem.Spec PyProof.Rows L2
def topS (i : Nat) : Stmt := PySem.Challenge.pw_nearcall_k01_letters_of_halls.main.body.getD i (.Pass ⟨0, 0, 0, 0⟩)
abbrev sOther : Stmt := topS 12
abbrev sSides : Stmt := topS 13
abbrev sByWalls : Stmt := topS 14
abbrev sIsWalls : Stmt := topS 15
abbrev sIsBar : Stmt := topS 16
abbrev sChkWalls : Stmt := topS 17
abbrev sChkBars : Stmt := topS 18
abbrev sChkSide : Stmt := topS 19
/-- the built-ins are the built-ins -/
structure BM (mg : Str → Option Value) : Prop where
  list : mg "list" = none
  sorted : mg "sorted" = none
  set : mg "set" = none
  all : mg "all" = none
  len : mg "len" = none
  enumerate : mg "enumerate" = none
  range : mg "range" = none
  isinstance : mg "isinstance" = none
  tuple : mg "tuple" = none
/-- a def of the top, by its name -/
structure DF (K : PySem.W.Frag) (mg : Str → Option Value) (x : Str) (st : Stmt) (ps : List Str) (f : Addr) (fd : FuncData) : Prop where
  F : Fun K x x st f fd
  g : mg x = some (.ref f)
  b : Binds K fd ps []
theorem scOther : FnScope ["side"] ["side"] (defScope sOther) := ⟨rfl, rfl, rfl, by decide +kernel, rfl, by decide +kernel, by decide +kernel⟩
theorem scSides : FnScope ["walls"] ["walls"] (defScope sSides) := ⟨rfl, rfl, rfl, by decide +kernel, rfl, by decide +kernel, by decide +kernel⟩
theorem scIsBar : FnScope ["walls", "bar", "sides"] ["walls", "bar"] (defScope sIsBar) := ⟨rfl, rfl, rfl, by decide +kernel, rfl, by decide +kernel, by decide +kernel⟩
theorem scChkSide : FnScope ["walls", "side"] ["walls", "side"] (defScope sChkSide) := ⟨rfl, rfl, rfl, by decide +kernel, rfl, by decide +kernel, by decide +kernel⟩
section
variable {P : Program} {w : World} {K : PySem.W.Frag} {mg : Str → Option Value} {base : Heap}
/-! ### other -/
def spOther : Sp := fun vs H Q _ => ∃ c, vs = [.str (sg c)] ∧ c < 128 ∧ Q (.str (sg (swp c))) H
theorem ok_other {f : Addr} {fd : FuncData} {k : Nat} (F : Fun K "other" "other" sOther f fd) : FnOk P w K mg base CX0 (k + 1) f fd ["side"] spOther := by
  refine F.ok scOther (fun vs H Q E h => ?_) (fun cdv A outer s H vs Q E hr h => ?_)
  · obtain ⟨c, rfl, _⟩ := h
    rfl
  · obtain ⟨c, rfl, hc, q⟩ := h
    refine ⟨_, pss_one (ps_ret (pe_m0 PySem.F.slot_str_swapcase PySem.F.type_str_swapcase mt_swap (pv 0))), ?_⟩
    refine ⟨_, rfl, ⟨_, rfl⟩, _, rfl, rfl, by show 1 ≤ 1000; decide, ?_⟩
    rw [swap_sg c hc]
    exact q
/-! ### sides_of -/
def spSides : Sp := fun vs H Q _ => ∃ l, vs = [.str (tx l)] ∧ (∀ c ∈ l, c < 128) ∧ l.length ≤ 100 ∧ ∀ p, H p = none → Q (.ref p) (upd H p (.lst (((sds l).map sg).map V.str)))
theorem ok_sides {f : Addr} {fd : FuncData} {k : Nat} (B : BM mg) (F : Fun K "sides_of" "sides_of" sSides f fd) : FnOk P w K mg base CX0 (k + 1) f fd ["walls"] spSides := by
  refine F.ok scSides (fun vs H Q E h => ?_) (fun cdv A outer s H vs Q E hr h => ?_)
  · obtain ⟨c, rfl, _⟩ := h
    rfl
  · obtain ⟨l, rfl, hl, hz, q⟩ := h
    refine ⟨_, pss_one (ps_ret (pe_callTy (cr_listS rfl) (by rfl) B.list (by decide +kernel) (pa_cons (pe_op op_add_str (pe_upper (pv 0)) (pv 0)) pa_nil))), ?_⟩
    refine ⟨_, rfl, ⟨_, rfl⟩, _, rfl, rfl, by rw [tx_len]; omega, ?_⟩
    rw [upper_tx hl]
    refine ⟨_, rfl, _, _, rfl, rfl, by rw [tx_len, tx_len, List.length_map, sizeLine_eq]; omega, ?_⟩
    rw [tx_app]
    refine ⟨_, rfl, by rw [tx_len, List.length_append, List.length_map, sizeLine_eq]; omega, fun p hp => ?_⟩
    rw [sgs_tx]
    exact q p hp
/-! ### is_bar -/
def spIsBar : Sp := fun vs H Q _ => ∃ l b, vs = [.str (tx l), .str (tx b)] ∧ (∀ c ∈ l, c < 128) ∧ l.length ≤ 100 ∧ (∀ c ∈ b, c < 128) ∧ b.length ≤ 100 ∧ ∀ H', Same H H' → Q (.bl (isBar l b)) H'
theorem ok_isBar {f fS : Addr} {fd fdS : FuncData} {k : Nat} (B : BM mg) (F : Fun K "is_bar" "is_bar" sIsBar f fd) (S : DF K mg "sides_of" sSides ["walls"] fS fdS) : FnOk P w K mg base CX0 (k + 2) f fd ["walls", "bar"] spIsBar := by
  have GS : FnOk P w K mg base CX0 (k + 1) fS fdS ["walls"] spSides := ok_sides B S.F
  refine F.ok scIsBar (fun vs H Q E h => ?_) (fun cdv A outer s H vs Q E hr h => ?_)
  · obtain ⟨l, b, rfl, _⟩ := h
    rfl
  · obtain ⟨l, b, rfl, hl, hlz, hb, hbz, q⟩ := h
    have hbs : (tx b).length ≤ sizeLine := by rw [tx_len, sizeLine_eq]; omega
    refine ⟨_, pss_cons (ps_set (i := 2) scIsBar.nd rfl (.inl rfl) (pe_call GS hr rfl S.g S.F.kp S.b .nil pass0 (pa_cons (pv 0) pa_nil)))
      (pss_cons (ps_if (PW.pt (pw_or (pt_cmpR op_ne (pe_callB call_len_str (by rfl) B.len PySem.boot_len (pa_cons (pv 1) pa_nil)) pe_int (nomark _))
          (pw_or (pt_cmpR op_notIn_seq (pe_ix ix_str (pv 1) pe_int (fun _ _ => rfl)) (pv 2) (by rfl))
            (pw_or1 (pt_cmpR op_notIn_seq (pe_ix ix_str (pv 1) pe_int (fun _ _ => rfl)) (pv 2) (by rfl))))))
        (pss_one (ps_ret pe_bl)) pss_nil)
      (pss_one (ps_ret (pe_cmpR op_lt_str (pe_lower (pe_ix ix_str (pv 1) pe_int (fun _ _ => rfl))) (pe_lower (pe_ix ix_str (pv 1) pe_int (fun _ _ => rfl))) (nomark _))))), ?_⟩
    refine ⟨_, rfl, l, rfl, hl, hlz, fun p hp => ?_⟩
    have sm : Same H (upd H p (.lst (((sds l).map sg).map V.str))) := same_upd hp
    have hS : SqL K (upd H p (.lst (((sds l).map sg).map V.str))) p (((sds l).map sg).map V.str) := SqL.of upd_same
    have ix : ∀ c, inV (.str (sg c)) (((sds l).map sg).map V.str) = decide (c ∈ sds l) := fun c => by
      rw [inV_str]
      by_cases hm : c ∈ sds l
      · rw [decide_eq_true hm, decide_eq_true (mem_sg.mpr hm)]
      · rw [decide_eq_false hm, decide_eq_false fun z => hm (mem_sg.mp z)]
    refine ⟨_, rfl, _, rfl, hbs, rfl, _, rfl, ite2 (fun e => ?_) (fun e => ?_)⟩
    · have hn : b.length ≠ 2 := fun z => by
        rw [tx_len, z] at e
        exact absurd e (by decide)
      have e0 : isBar l b = false := by
        match b, hn with
        | [], _ => rfl
        | [_], _ => rfl
        | [_, _], hn => exact absurd rfl hn
        | _ :: _ :: _ :: _, _ => rfl
      refine iteT (show Q (.bl false) _ from ?_)
      rw [← e0]
      exact q _ sm
    · have hn : b.length = 2 := by
        have e1 : decide (V.int ↑(tx b).length = V.int 2) = true := by simpa using e
        have e2 : ((tx b).length : Int) = 2 := V.int.inj (of_decide_eq_true e1)
        rw [tx_len] at e2
        omega
      obtain ⟨x, y, rfl⟩ : ∃ x y, b = [x, y] := by
        match b, hn with
        | [x, y], _ => exact ⟨x, y, rfl⟩
      refine ⟨_, rfl, _, _, x, rfl, rfl, hbs, rfl, _, rfl, p, _, rfl, .inl hS, rfl, flat_str _, _, rfl, ite2 (fun e1 => ?_) (fun e1 => ?_)⟩
      · have e1 : (!inV (.str (sg x)) (((sds l).map sg).map V.str)) = true := e1
        rw [ix] at e1
        have e0 : isBar l [x, y] = false := by
          show (decide (x ∈ sds l) && _) = false
          simp only [Bool.not_eq_true'] at e1
          rw [e1]; rfl
        refine iteT (show Q (.bl false) _ from ?_)
        rw [← e0]
        exact q _ sm
      · have e1 : ¬ (!inV (.str (sg x)) (((sds l).map sg).map V.str)) = true := e1
        rw [ix] at e1
        have hx : decide (x ∈ sds l) = true := by simpa using e1
        refine ⟨_, rfl, _, _, y, rfl, rfl, hbs, rfl, _, rfl, p, _, rfl, .inl hS, rfl, flat_str _, _, rfl, ite2 (fun e2 => ?_) (fun e2 => ?_)⟩
        · have e2 : (!inV (.str (sg y)) (((sds l).map sg).map V.str)) = true := e2
          rw [ix] at e2
          have e0 : isBar l [x, y] = false := by
            show (decide (x ∈ sds l) && (decide (y ∈ sds l) && _)) = false
            simp only [Bool.not_eq_true'] at e2
            rw [e2]; simp
          show Q (.bl false) _
          rw [← e0]
          exact q _ sm
        · have e2 : ¬ (!inV (.str (sg y)) (((sds l).map sg).map V.str)) = true := e2
          rw [ix] at e2
          have hy : decide (y ∈ sds l) = true := by simpa using e2
          refine ⟨_, rfl, _, _, x, rfl, rfl, hbs, rfl, ⟨_, rfl⟩, _, rfl, rfl, by show 1 ≤ 5592405; decide, _, rfl, _, _, y, rfl, rfl, hbs, rfl, ⟨_, rfl⟩, _, rfl, rfl, by show 1 ≤ 5592405; decide, ?_⟩
          rw [show Txt.lower (⟨#[x]⟩ : Str) = tx [lwc x] from lower_tx (l := [x]) (fun c hc => hb c (by simp at hc; simp [hc])), show Txt.lower (⟨#[y]⟩ : Str) = tx [lwc y] from lower_tx (l := [y]) (fun c hc => hb c (by simp at hc; simp [hc]))]
          refine ⟨_, _, rfl, rfl, ?_⟩
          have e0 : decide ((tx [lwc x]).cps.toList < (tx [lwc y]).cps.toList) = isBar l [x, y] := by
            show _ = (decide (x ∈ sds l) && (decide (y ∈ sds l) && decide (lwc x < lwc y)))
            rw [hx, hy, tx_list, tx_list]
            simp [lt1]
          rw [e0]
          exact q _ sm
end
end NC
namespace NC
open PySem PySem.Spec PyProof.Rows L2
def leS (a b : Str) : Prop := a.cps.toList ≤ b.cps.toList
theorem ltc_iff (a b : List Nat) : ltCps a b = decide (a < b) := by
  induction a generalizing b with
  | nil => cases b <;> simp [ltCps]
  | cons x r ih =>
    cases b with
    | nil => simp [ltCps]
    | cons y s =>
      simp only [ltCps, ih, List.cons_lt_cons_iff]
      by_cases h1 : x < y
      · simp [h1]
      · by_cases h2 : x = y
        · subst h2; simp
        · simp [h1, h2]
theorem rise_pw : ∀ (l : List Str) (p : Str), risingS p l = true → (p :: l).Pairwise leS
  | [], p, _ => by simp
  | x :: r, p, h => by
    have h' : (!ltCps x.cps.toList p.cps.toList && risingS x r) = true := h
    rw [Bool.and_eq_true] at h'
    have q := rise_pw r x h'.2
    have hpx : leS p x := by
      have z := h'.1
      rw [ltc_iff] at z
      simpa [leS] using z
    refine List.pairwise_cons.mpr ⟨fun y hy => ?_, q⟩
    rcases List.mem_cons.mp hy with e | e
    · rw [e]; exact hpx
    · exact List.le_trans hpx ((List.pairwise_cons.mp q).1 y e)
theorem sortedS_pw : ∀ l : List Str, sortedS l = true → l.Pairwise leS
  | [], _ => List.Pairwise.nil
  | x :: r, h => rise_pw r x h
theorem str_ext {a b : Str} (h : a.cps.toList = b.cps.toList) : a = b := by
  cases a; cases b
  simp at h
  rw [h]
theorem sortedS_eq {ys zs : List Str} (h : sortedS ys = true) (p : ys.Perm zs) (hz : zs.Pairwise leS) : ys = zs :=
  p.eq_of_pairwise (fun a b _ _ h1 h2 => str_ext (List.le_antisymm h1 h2)) (sortedS_pw ys h) hz
theorem leS_sg {a b : Nat} (h : a ≤ b) : leS (sg a) (sg b) := by
  show ([a] : List Nat) ≤ [b]
  rw [List.cons_le_cons_iff]
  by_cases e : a = b
  · exact .inr ⟨e, List.le_refl _⟩
  · exact .inl (by omega)
theorem GoodW.pw {l : List Nat} (g : GoodW l) : (l.map sg).Pairwise leS := List.pairwise_map.mpr (g.rise.imp fun h => leS_sg (Nat.le_of_lt h))
theorem eqvAll_strs : ∀ xs ys : List Str, PyData.eqvAll (xs.map .str) (ys.map .str) = decide (xs = ys)
  | [], [] => rfl
  | [], _ :: _ => rfl
  | _ :: _, [] => rfl
  | x :: r, y :: s => by
    show ((x == y) && PyData.eqvAll (r.map .str) (s.map .str)) = _
    rw [eqvAll_strs r s]
    by_cases h1 : x = y
    · subst h1
      by_cases h2 : r = s
      · simp [h2]
      · simp [h2]
    · simp [h1]
def okS (x : Str) : Prop := ∀ c ∈ x.cps.toList, c < 128
theorem okS_tx {l : List Nat} (h : ∀ c ∈ l, c < 128) : okS (tx l) := by unfold okS; rw [tx_list]; exact h
theorem okS_sg {c : Nat} (h : c < 128) : okS (sg c) := okS_tx (l := [c]) fun d hd => by simp at hd; omega
theorem strOk_of {x : Str} (h : okS x) : PyData.strOk x = true := by
  unfold PyData.strOk
  rw [← Array.all_toList, List.all_eq_true]
  intro c hc
  have := h c hc
  simp
  omega
theorem canAll_strs : ∀ xs : List Str, (∀ x ∈ xs, okS x) → PyData.canLayAll0 (xs.map .str) = true
  | [], _ => rfl
  | x :: r, h => by
    show (PyData.strOk x && PyData.canLayAll0 (r.map .str)) = true
    rw [strOk_of (h x (List.mem_cons_self ..)), canAll_strs r fun y hy => h y (List.mem_cons_of_mem _ hy)]
    rfl
theorem depAll_strs : ∀ xs : List Str, PyData.depthAll (xs.map .str) = 0
  | [] => rfl
  | x :: r => by
    show max 0 (PyData.depthAll (r.map .str)) = 0
    rw [depAll_strs r]
    rfl
theorem shaped_strs {xs : List Str} (h : ∀ x ∈ xs, okS x) : SeqAt.shaped (.list (xs.map .str)) = true := by
  show (PyData.canLayAll0 (xs.map .str) && decide (PyData.depthAll (xs.map .str) + 1 ≤ 64)) = true
  rw [canAll_strs xs h, depAll_strs]
  rfl
theorem dpAll_strs {K : PySem.W.Frag} {H : Hp} : ∀ xs : List Str, DpAll K H (xs.map V.str) (xs.map .str)
  | [] => .nil
  | x :: r => .cons (.str x) (dpAll_strs r)
end NC
namespace NC
open PySem PySem.Spec PyProof.Rows L2
theorem scIsWalls : FnScope ["walls", "small", "letter"] ["walls"] (defScope sIsWalls) := ⟨rfl, rfl, rfl, by decide +kernel, rfl, by decide +kernel, by decide +kernel⟩
theorem scChkWalls : FnScope ["walls"] ["walls"] (defScope sChkWalls) := ⟨rfl, rfl, rfl, by decide +kernel, rfl, by decide +kernel, by decide +kernel⟩
theorem scByWalls : FnScope ["walls", "sides", "wall", "side"] ["walls", "sides"] (defScope sByWalls) := ⟨rfl, rfl, rfl, by decide +kernel, rfl, by decide +kernel, by decide +kernel⟩
theorem strA : (Str.ofString "a") = sg 97 := by decide +kernel
theorem strZ : (Str.ofString "z") = sg 122 := by decide +kernel
section
variable {P : Program} {w : World} {K : PySem.W.Frag} {mg : Str → Option Value} {base : Heap}
/-! ### is_walls, of good walls -/
def spIsWalls : Sp := fun vs H Q _ => ∃ l, vs = [.str (tx l)] ∧ GoodW l ∧ ∀ H', Same H H' → Q (.bl true) H'
theorem ok_isWalls {f : Addr} {fd : FuncData} {k : Nat} {tw : Tok} (B : BM mg) (mW : mg "WIDEST" = some (.int 12 tw)) (F : Fun K "is_walls" "is_walls" sIsWalls f fd) : FnOk P w K mg base CX0 (k + 1) f fd ["walls"] spIsWalls := by
  refine F.ok scIsWalls (fun vs H Q E h => ?_) (fun cdv A outer s H vs Q E hr h => ?_)
  · obtain ⟨l, rfl, _⟩ := h
    rfl
  · obtain ⟨l, rfl, g, q⟩ := h
    have hlz : (tx l).length ≤ sizeLine := by rw [tx_len, sizeLine_eq]; have := g.hi; omega
    refine ⟨_, pss_cons (ps_set (i := 1) scIsWalls.nd rfl (.inl rfl) (pe_callB (cr_all rfl) (by rfl) B.all (by decide +kernel) (pa_cons
        (pe_lc (own := [("letter", 2)]) (g := gName 2) (tt := tYes) rfl scIsWalls.nd (pi_str (pv 0)) (blkOk_by (N := ["walls", "small", "letter"]) (sc := defScope sIsWalls) (by decide +kernel))
          (fun _ _ _ _ _ => pg_name (i := 2) scIsWalls.nd rfl (Or.inl rfl)) (fun _ _ _ _ _ => pts_nil) (fun _ _ _ _ _ => pe_chain op_le_str op_le_str pe_str (pv 2) pe_str)) pa_nil)))
      (pss_one (ps_ret (pe_and (pv 1) (pe_and (pe_chain op_le op_le pe_int (pe_callB call_len_str (by rfl) B.len PySem.boot_len (pa_cons (pv 0) pa_nil)) (pe_glob (v := .int 12) rfl mW ⟨_, rfl⟩))
        (pe_one (pe_cmpR (op_eqD hr.units) (pe_callB (cr_sortedSetT rfl) (by rfl) B.sorted (by decide +kernel) (pa_cons (pe_callTy (cr_setT rfl) (by rfl) B.set (by decide +kernel) (pa_cons (pv 0) pa_nil)) pa_nil))
          (pe_callTy (cr_listS rfl) (by rfl) B.list (by decide +kernel) (pa_cons (pv 0) pa_nil)) (nomark _))))))), ?_⟩
    refine ⟨_, rfl, tx l, rfl, fun D hD => lc_it walk_str (fun i H' => ∃ n : Nat, n = i ∧ Same H H' ∧ H' D = some (.lst ((List.replicate i true).map V.bl))) ⟨0, rfl, same_upd hD, upd_same⟩ (fun _ _ _ _ => trivial) ?_ ?_⟩
    · rintro i x H1 H2 hi ⟨n, rfl, sm, eD⟩ ⟨rfl, c, hc, rfl⟩
      have hcl : c ∈ l := by
        have e : l[n]? = some c := by
          rw [← Array.getElem?_toList, tx_list] at hc
          exact hc
        exact List.mem_of_getElem? e
      have hs := g.sm c hcl
      have hn : n < l.length := by
        have : (tx l).cps.size = l.length := tx_len l
        omega
      refine ⟨rfl, yes_i ⟨_, rfl, _, _, rfl, rfl, true, ?_, iteT ⟨_, _, rfl, rfl, ?_⟩⟩⟩
      · rw [strA]
        show V.bl (!decide (([c] : List Nat) < [97])) = .bl true
        rw [decide_eq_false (by rw [lt1]; omega)]
        rfl
      · have e2 : (!decide ((Str.ofString "z").cps.toList < (⟨#[c]⟩ : Str).cps.toList)) = true := by
          rw [strZ]
          show (!decide (([122] : List Nat) < [c])) = true
          rw [decide_eq_false (by rw [lt1]; omega)]
          rfl
        rw [e2]
        refine ⟨_, eD, ?_, _, rfl, ?_, ?_⟩
        · rw [List.length_map, List.length_replicate, sizeLine_eq]
          have := g.hi
          omega
        · exact sm_over sm hD
        · rw [upd_same, List.replicate_succ', List.map_append]
          rfl
    · rintro H1 ⟨n, rfl, sm, eD⟩
      refine ⟨_, _, rfl, SqL.of eD, ?_⟩
      have ea : (List.replicate (tx l).cps.size true).all id = true := by simp
      rw [ea]
      refine ⟨_, rfl, true, rfl, iteT ⟨_, rfl, _, rfl, hlz, _, _, rfl, rfl, true, ?_, iteT ⟨_, _, rfl, rfl, true, ?_, iteT ?_⟩⟩⟩
      · show V.bl (decide ((1 : Int) ≤ ((tx l).length : Int))) = .bl true
        rw [tx_len, decide_eq_true (by have := g.lo; omega)]
      · show V.bl (decide (((tx l).length : Int) ≤ 12)) = .bl true
        rw [tx_len, decide_eq_true (by have := g.hi; omega)]
      · refine ⟨_, rfl, tx l, rfl, ?_, by rw [tx_list]; exact g.nd, by rw [tx_list]; have := g.hi; omega, fun p z hp hz => ?_⟩
        · rw [← Array.all_toList, tx_list, List.all_eq_true]
          intro c hc
          have := g.asc c hc
          simpa using this
        · rw [sgs_tx] at hz
          have hnd : (l.map sg).Nodup := List.pairwise_map.mpr (g.nd.imp fun {a b} h e => h (sg_inj e))
          refine ⟨p, z, rfl, upd_same, hz.nodup_iff.mpr hnd, by rw [hz.length_eq, List.length_map]; have := g.hi; omega, fun ys r hy hs hr2 => ?_⟩
          have ey : ys = l.map sg := sortedS_eq hs (hy.trans hz) g.pw
          subst ey
          refine ⟨_, rfl, _, rfl, hlz, fun a ha => ?_⟩
          rw [sgs_tx]
          have hra : r ≠ a := ne_of_none upd_same ha
          have oks : ∀ x ∈ l.map sg, okS x := fun x hx => by
            obtain ⟨c, hc, rfl⟩ := List.mem_map.mp hx
            exact okS_sg (g.asc c hc)
          refine ⟨_, _, .lst (SqL.of (by rw [upd_ne hra, upd_same])) (dpAll_strs _), .lst (SqL.of upd_same) (dpAll_strs _), shaped_strs oks, shaped_strs oks, ?_⟩
          show Q (.bl (PyData.eqvAll _ _)) _
          rw [eqvAll_strs, decide_eq_true rfl]
          exact q _ (sm_upd (sm_upd (sm_upd sm hp) hr2) ha)
end
end NC
namespace NC
open PySem PySem.Spec PyProof.Rows L2
/-- a dict comprehension over a walk -/
theorem dc_it {J : It} {n : Nat} {G : Hp → Prop} {Y : Nat → Hp → V → Hp → Prop} (wk : Walk J n G Y) {g : TG} {tt : TT} {tk tv : TE} {vs : List Nat} {σ : L2.St} {H1 : Hp} {D : Addr} {Qd : Hp → Prop} (Pv : Nat → Hp → Prop)
    (h0 : Pv 0 (upd H1 D (.dK []))) (hG : ∀ i H, i ≤ n → Pv i H → G H)
    (hs : ∀ i x H H', i < n → Pv i H → Y i H x H' → g x (wipe σ vs) H' fun σ2 H2 => wipe σ2 vs = wipe σ vs ∧ tt σ2 H2 fun b H3 =>
      if b = true then tk σ2 H3 fun y H4 => tv σ2 H4 fun z H5 => ∃ kvs k, y = kV k ∧ H5 D = some (.dK kvs) ∧ kvs.length < sizeLine ∧ Pv (i + 1) (upd H5 D (.dK (putK kvs k z))) else Pv (i + 1) H3) (hd : ∀ H, Pv n H → Qd H) :
    ∃ W : Nat → Nat → Hp → Prop, (∃ m, W 0 m (upd H1 D (.dK []))) ∧ ∀ i m H, W i m H →
      (J.stop i H ∧ Qd H) ∨ (J.go i H ∧ ∃ Nx : Hp → Prop, (∀ H', Nx H' → ∃ m', m' < m ∧ W (i + 1) m' H') ∧ ∀ x H', J.yld i H x H' → g x (wipe σ vs) H' fun σ2 H2 => wipe σ2 vs = wipe σ vs ∧ tt σ2 H2 fun b H3 =>
        if b = true then tk σ2 H3 fun y H4 => tv σ2 H4 fun z H5 => ∃ kvs k, y = kV k ∧ H5 D = some (.dK kvs) ∧ kvs.length < sizeLine ∧ Nx (upd H5 D (.dK (putK kvs k z))) else Nx H3) := by
  refine ⟨fun i m H => m = n - i ∧ i ≤ n ∧ Pv i H, ⟨n, by simp, Nat.zero_le _, h0⟩, ?_⟩
  rintro i m H ⟨rfl, hi, p⟩
  have q := hG i H hi p
  rcases Nat.lt_or_ge i n with hlt | hge
  · exact .inr ⟨wk.goes i H hlt q, Pv (i + 1), fun H' p' => ⟨n - (i + 1), by omega, rfl, hlt, p'⟩, fun x H' y => hs i x H H' hlt p (wk.yields i H x H' hlt q y)⟩
  · obtain rfl : i = n := by omega
    exact .inl ⟨wk.stops H q, hd H p⟩
/-- the inner walk of a comprehension of two -/
theorem in_it {J : It} {n : Nat} {G : Hp → Prop} {Y : Nat → Hp → V → Hp → Prop} (wk : Walk J n G Y) {g1 : TG} {tt1 : TT} {te : TE} {vs1 : List Nat} {σ2 : L2.St} {H4 : Hp} {D : Addr} {Nx : Hp → Prop} (Pv : Nat → Hp → Prop)
    (h0 : Pv 0 H4) (hG : ∀ i H, i ≤ n → Pv i H → G H)
    (hs : ∀ i x H H', i < n → Pv i H → Y i H x H' → g1 x (wipe σ2 vs1) H' fun σ3 H5 => wipe σ3 vs1 = wipe σ2 vs1 ∧ tt1 σ3 H5 fun b H6 =>
      if b = true then te σ3 H6 fun y H7 => ∃ acc, H7 D = some (.lst acc) ∧ acc.length < sizeLine ∧ Pv (i + 1) (upd H7 D (.lst (acc ++ [y]))) else Pv (i + 1) H6) (hd : ∀ H, Pv n H → Nx H) :
    ∃ W1 : Nat → Nat → Hp → Prop, (∃ m, W1 0 m H4) ∧ ∀ j k H, W1 j k H →
      (J.stop j H ∧ Nx H) ∨ (J.go j H ∧ ∃ Nx1 : Hp → Prop, (∀ H', Nx1 H' → ∃ k', k' < k ∧ W1 (j + 1) k' H') ∧ ∀ x H', J.yld j H x H' → g1 x (wipe σ2 vs1) H' fun σ3 H5 => wipe σ3 vs1 = wipe σ2 vs1 ∧ tt1 σ3 H5 fun b H6 =>
        if b = true then te σ3 H6 fun y H7 => ∃ acc, H7 D = some (.lst acc) ∧ acc.length < sizeLine ∧ Nx1 (upd H7 D (.lst (acc ++ [y]))) else Nx1 H6) := by
  refine ⟨fun i m H => m = n - i ∧ i ≤ n ∧ Pv i H, ⟨n, by simp, Nat.zero_le _, h0⟩, ?_⟩
  rintro i m H ⟨rfl, hi, p⟩
  have q := hG i H hi p
  rcases Nat.lt_or_ge i n with hlt | hge
  · exact .inr ⟨wk.goes i H hlt q, Pv (i + 1), fun H' p' => ⟨n - (i + 1), by omega, rfl, hlt, p'⟩, fun x H' y => hs i x H H' hlt p (wk.yields i H x H' hlt q y)⟩
  · obtain rfl : i = n := by omega
    exact .inl ⟨wk.stops H q, hd H p⟩
/-- the outer walk of a comprehension of two (no test on the outer) -/
theorem out_it {J : It} {n : Nat} {G : Hp → Prop} {Y : Nat → Hp → V → Hp → Prop} (wk : Walk J n G Y) {H1 : Hp} {D : Addr} {Qd : Hp → Prop} {B : V → Hp → (Hp → Prop) → Prop} (Pv : Nat → Hp → Prop)
    (h0 : Pv 0 (upd H1 D (.lst []))) (hG : ∀ i H, i ≤ n → Pv i H → G H) (hs : ∀ i x H H', i < n → Pv i H → Y i H x H' → B x H' (Pv (i + 1))) (hd : ∀ H, Pv n H → Qd H) :
    ∃ W : Nat → Nat → Hp → Prop, (∃ m, W 0 m (upd H1 D (.lst []))) ∧ ∀ i m H, W i m H →
      (J.stop i H ∧ Qd H) ∨ (J.go i H ∧ ∃ Nx : Hp → Prop, (∀ H', Nx H' → ∃ m', m' < m ∧ W (i + 1) m' H') ∧ ∀ x H', J.yld i H x H' → B x H' Nx) := by
  refine ⟨fun i m H => m = n - i ∧ i ≤ n ∧ Pv i H, ⟨n, by simp, Nat.zero_le _, h0⟩, ?_⟩
  rintro i m H ⟨rfl, hi, p⟩
  have q := hG i H hi p
  rcases Nat.lt_or_ge i n with hlt | hge
  · exact .inr ⟨wk.goes i H hlt q, Pv (i + 1), fun H' p' => ⟨n - (i + 1), by omega, rfl, hlt, p'⟩, fun x H' y => hs i x H H' hlt p (wk.yields i H x H' hlt q y)⟩
  · obtain rfl : i = n := by omega
    exact .inl ⟨wk.stops H q, hd H p⟩
theorem fold_glue (e : Array Nat) (he : e = #[]) : ∀ (r : List (List Nat)) (acc : Array Nat), (r.map tx).foldl (fun acc p => acc ++ e ++ p.cps) acc = acc ++ r.flatten.toArray
  | [], acc => by simp
  | x :: r, acc => by
    rw [List.map_cons, List.foldl_cons, fold_glue e he r, he]
    simp [tx]
theorem join_tx (xs : List (List Nat)) : Txt.join (Str.ofString "") (xs.map tx) = tx xs.flatten := by
  have e0 : (Str.ofString "").cps = #[] := by decide +kernel
  show (⟨((xs.map tx).drop 1).foldl (fun acc p => acc ++ (Str.ofString "").cps ++ p.cps) ((xs.map tx).headD Str.empty).cps⟩ : Str) = _
  cases xs with
  | nil => rfl
  | cons x r =>
    show (⟨(r.map tx).foldl (fun acc p => acc ++ (Str.ofString "").cps ++ p.cps) x.toArray⟩ : Str) = _
    rw [fold_glue _ e0]
    show Str.mk _ = Str.mk _
    simp
/-- ''.join of signs -/
theorem join_sg (l : List Nat) : Txt.join (Str.ofString "") (l.map sg) = tx l := by
  have e2 : ∀ l : List Nat, (l.map fun c => [c]).flatten = l := fun l => by
    induction l with
    | nil => rfl
    | cons x r ih => simp [ih]
  have e := join_tx (l.map fun c => [c])
  rw [List.map_map, e2] at e
  exact e
end NC
namespace NC
open PySem PySem.Spec PyProof.Rows L2
/-- by_walls, the other part a dict -/
def inK (kvs : List (Key × V)) (c : Nat) : Bool := (valV kvs (Sum.inr (sg c))).isSome
def byW (l : List Nat) (kvs : List (Key × V)) : List Nat := l.flatMap fun c => [swp c, c].filter (inK kvs)
theorem byW_len (l : List Nat) (kvs : List (Key × V)) : (byW l kvs).length ≤ 2 * l.length := by
  induction l with
  | nil => simp [byW]
  | cons x r ih =>
    have h1 : (byW (x :: r) kvs) = [swp x, x].filter (inK kvs) ++ byW r kvs := by simp [byW]
    rw [h1, List.length_append, List.length_cons]
    have h2 : ([swp x, x].filter (inK kvs)).length ≤ 2 := List.length_filter_le _ _
    omega
theorem byW_mem {l : List Nat} (g : GoodW l) {kvs : List (Key × V)} {s : Nat} (h : s ∈ byW l kvs) : s ∈ sds l ∧ inK kvs s = true := by
  obtain ⟨c, hc, hs⟩ := List.mem_flatMap.mp h
  obtain ⟨h1, h2⟩ := List.mem_filter.mp hs
  refine ⟨?_, h2⟩
  rcases List.mem_cons.mp h1 with e | e
  · rw [e]; exact sds_swp g (sds_of_small hc)
  · rw [List.mem_singleton.mp e]; exact sds_of_small hc
theorem byW_snoc (l : List Nat) (n : Nat) (c : Nat) (kvs : List (Key × V)) (h : l[n]? = some c) : byW (l.take (n + 1)) kvs = byW (l.take n) kvs ++ [swp c, c].filter (inK kvs) := by
  rw [List.take_add_one, h]
  unfold byW
  rw [List.flatMap_append]
  simp
section
variable {P : Program} {w : World} {K : PySem.W.Frag} {mg : Str → Option Value} {base : Heap}
def spByWalls : Sp := fun vs H Q _ => ∃ l d kvs, vs = [.str (tx l), .ref d] ∧ GoodW l ∧ H d = some (.dK kvs) ∧ ∀ H', Same H H' → Q (.str (tx (byW l kvs))) H'
set_option maxHeartbeats 1000000 in
theorem ok_byWalls {f fO : Addr} {fd fdO : FuncData} {k : Nat} (B : BM mg) (F : Fun K "by_walls" "by_walls" sByWalls f fd) (O : DF K mg "other" sOther ["side"] fO fdO) : FnOk P w K mg base CX0 (k + 2) f fd ["walls", "sides"] spByWalls := by
  have GO : FnOk P w K mg base CX0 (k + 1) fO fdO ["side"] spOther := ok_other O.F
  refine F.ok scByWalls (fun vs H Q E h => ?_) (fun cdv A outer s H vs Q E hr h => ?_)
  · obtain ⟨l, d, kvs, rfl, _⟩ := h
    rfl
  · obtain ⟨l, d, kvs, rfl, g, hd, q⟩ := h
    refine ⟨_, pss_one (ps_ret (pe_join pe_str (pe_lc2 (wi1 := iTup K (tTup (tCons (tCall spOther [] E0 (tCons (tVar 2) tNil)) (tCons (tVar 2) tNil)))) (own := [("wall", 2), ("side", 3)]) (vs1 := [3]) (g := gName 2) (g1 := gName 3) (tt := tYes) rfl scByWalls.nd (pi_str (pv 0))
      (blkOk_by (N := ["walls", "sides", "wall", "side"]) (sc := defScope sByWalls) (by decide +kernel)) (by decide)
      (fun _ _ _ _ _ => pg_name (i := 2) scByWalls.nd rfl (Or.inl rfl)) (fun _ _ _ _ _ => pts_nil)
      (fun _ _ _ _ _ => pi_tup (pe_tup (pa_cons (pe_call GO hr rfl O.g O.F.kp O.b .nil pass0 (pa_cons (pv 2) pa_nil)) (pa_cons (pv 2) pa_nil))))
      (fun _ _ _ _ _ => pg_name (i := 3) scByWalls.nd rfl (Or.inl rfl))
      (fun _ _ _ _ _ => pts_one (pt_cmp (pc_din (hu_of hr) (pv 3) (pv 1)))) (fun _ _ _ _ _ => pv 3)))), ?_⟩
    refine ⟨⟨_, rfl⟩, _, rfl, tx l, rfl, fun D hD => ?_⟩
    have nDd : d ≠ D := ne_of_none hd hD
    refine out_it walk_str (fun i H' => Same H H' ∧ H' D = some (.lst (((byW (l.take i) kvs).map sg).map V.str))) ⟨same_upd hD, upd_same⟩ (fun _ _ _ _ => trivial) ?_ ?_
    · rintro i x H1 H2 hi ⟨sm, eD⟩ ⟨rfl, c, hc, rfl⟩
      have hcl : l[i]? = some c := by
        rw [← Array.getElem?_toList, tx_list] at hc
        exact hc
      have hca : c < 128 := g.asc c (List.mem_of_getElem? hcl)
      refine ⟨rfl, yes_i ⟨_, rfl, c, rfl, hca, _, rfl, by show 2 ≤ sizeLine; decide, fun T hT => ⟨T, rfl, ⟨_, SqT.of upd_same⟩, ?_⟩⟩⟩
      have nDT : D ≠ T := ne_of_none eD hT
      refine in_it (walk_tup (K := K) (a := T) (xs := [swp c, c].map fun e => V.str (sg e))) (fun j H' => Same H H' ∧ SqT K H' T ([swp c, c].map fun e => V.str (sg e)) ∧ H' D = some (.lst (((byW (l.take i) kvs ++ ([swp c, c].take j).filter (inK kvs)).map sg).map V.str)))
        ⟨sm_upd sm hT, SqT.of upd_same, by rw [upd_ne nDT, eD]; simp⟩ (fun j H' _ h => h.2.1) ?_ ?_
      · rintro j x H3 H4 hj ⟨sm2, hT2, eD2⟩ ⟨rfl, hx⟩
        rw [List.getElem?_map] at hx
        obtain ⟨e, he, rfl⟩ := Option.map_eq_some_iff.mp hx
        have hd4 : H4 d = some (.dK kvs) := sm2 _ _ hd
        have hlen : (byW (l.take i) kvs ++ ([swp c, c].take j).filter (inK kvs)).length ≤ 2 * 12 + 2 := by
          rw [List.length_append]
          have h1 := byW_len (l.take i) kvs
          have h2 : (([swp c, c].take j).filter (inK kvs)).length ≤ 2 := Nat.le_trans (List.length_filter_le _ _) (by rw [List.length_take]; exact Nat.min_le_right _ _)
          have h3 : (l.take i).length ≤ 12 := Nat.le_trans (by rw [List.length_take]; exact Nat.min_le_right _ _) g.hi
          omega
        refine ⟨rfl, _, rfl, _, rfl, d, _, rfl, DGet.k (k := Sum.inr (sg e)) hd4, _, rfl, ite2 (fun ht => ⟨_, rfl, _, eD2, ?_, sm_over sm2 hD, ?_, ?_⟩) (fun ht => ⟨sm2, hT2, ?_⟩)⟩
        · rw [List.length_map, List.length_map, sizeLine_eq]
          omega
        · rcases hT2 with (z | ⟨o, z⟩) | z
          · exact .inl (.inl (by rw [upd_ne (Ne.symm nDT)]; exact z))
          · exact .inl (.inr ⟨o, by rw [upd_ne (Ne.symm nDT)]; exact z⟩)
          · exact .inr z
        · have e1 : inK kvs e = true := ht
          rw [upd_same, List.take_add_one, he, List.filter_append]
          simp [e1, sg_tx]
        · have e1 : inK kvs e = false := by
            unfold inK
            simpa using ht
          rw [eD2, List.take_add_one, he, List.filter_append]
          simp [e1]
      · rintro H3 ⟨sm2, _, eD2⟩
        refine ⟨sm2, ?_⟩
        rw [eD2, byW_snoc l i c kvs hcl]
        rfl
    · rintro H3 ⟨sm2, eD2⟩
      have e1 : (l.take (tx l).cps.size) = l := by
        rw [show (tx l).cps.size = l.length from tx_len l]
        exact List.take_length
      rw [e1] at eD2
      refine ⟨_, _, (byW l kvs).map sg, rfl, rfl, .inl (SqL.of eD2), ?_, ?_⟩
      · have h1 := byW_len l kvs
        have h2 := g.hi
        have h3 : ∀ xs : List Nat, ((xs.map sg).map (·.length)).sum = xs.length := fun xs => by
          induction xs with
          | nil => rfl
          | cons x r ih =>
            rw [List.map_cons, List.map_cons, List.sum_cons, ih, List.length_cons]
            show 1 + r.length = _
            omega
        rw [h3, show (Str.ofString "").length = 0 by decide +kernel]
        omega
      · rw [join_sg]
        exact q _ sm2
end
end NC
namespace NC
open PySem PySem.Spec PyProof.Rows L2
abbrev sHEinit : Stmt := inClass (topS 2) 0
abbrev sBBinit : Stmt := inClass (topS 4) 0
abbrev sFXinit : Stmt := inClass (topS 6) 0
abbrev sALinit : Stmt := inClass (topS 7) 0
theorem scHE : FnScope ["self", "word"] ["self", "word"] (defScope sHEinit) := ⟨rfl, rfl, rfl, by decide +kernel, rfl, by decide +kernel, by decide +kernel⟩
theorem scBB : FnScope ["self", "at"] ["self", "at"] (defScope sBBinit) := ⟨rfl, rfl, rfl, by decide +kernel, rfl, by decide +kernel, by decide +kernel⟩
theorem scFX : FnScope ["self", "side"] ["self", "side"] (defScope sFXinit) := ⟨rfl, rfl, rfl, by decide +kernel, rfl, by decide +kernel, by decide +kernel⟩
theorem scAL : FnScope ["self", "one", "other"] ["self", "one", "other"] (defScope sALinit) := ⟨rfl, rfl, rfl, by decide +kernel, rfl, by decide +kernel, by decide +kernel⟩
/-- HallError, at C, and its __init__ -/
structure HE (K : PySem.W.Frag) (mg : Str → Option Value) (C f : Addr) (fd : FuncData) : Prop where
  gC : mg "HallError" = some (.ref C)
  rd : ∃ mc, ClX.CRead K C mc ∧ PySem.W.findCls K (.ref C) mc "__init__" = some (.val (.ref f))
  F : Fun K "__init__" "HallError.__init__" sHEinit f fd
  b : Binds K fd ["self", "word"] []
  mV : mg "ValueError" = none
  vV : PySem.W.findCls K (.type "ValueError") (.type "type") "__init__" = some (.val (.builtin "ValueError.__init__"))
section
variable {P : Program} {w : World} {K : PySem.W.Frag} {mg : Str → Option Value} {base : Heap}
theorem ok_chkWalls {f fW : Addr} {fd fdW : FuncData} {k : Nat} {tw : Tok} (B : BM mg) (mW : mg "WIDEST" = some (.int 12 tw)) (F : Fun K "check_walls" "check_walls" sChkWalls f fd) (W : DF K mg "is_walls" sIsWalls ["walls"] fW fdW) :
    FnOk P w K mg base CX0 (k + 2) f fd ["walls"] (fun vs H Q _ => ∃ l, vs = [.str (tx l)] ∧ GoodW l ∧ ∀ H', Same H H' → Q .non H') := by
  have GW : FnOk P w K mg base CX0 (k + 1) fW fdW ["walls"] spIsWalls := ok_isWalls B mW W.F
  refine F.ok scChkWalls (fun vs H Q E h => ?_) (fun cdv A outer s H vs Q E hr h => ?_)
  · obtain ⟨l, rfl, _⟩ := h
    rfl
  · obtain ⟨l, rfl, g, q⟩ := h
    refine ⟨_, pss_one (ps_if (pt_not (pt_val (pe_call GW hr rfl W.g W.F.kp W.b .nil pass0 (pa_cons (pv 0) pa_nil)))) (pss_one ps_never) pss_nil), ?_⟩
    exact ⟨_, rfl, l, rfl, g, fun H1 sm => ⟨true, rfl, iteF (q H1 sm)⟩⟩
theorem ok_chkSide {f fS : Addr} {fd fdS : FuncData} {k : Nat} (B : BM mg) (F : Fun K "check_side" "check_side" sChkSide f fd) (S : DF K mg "sides_of" sSides ["walls"] fS fdS) :
    FnOk P w K mg base CX0 (k + 2) f fd ["walls", "side"] (fun vs H Q _ => ∃ l c, vs = [.str (tx l), .str (sg c)] ∧ GoodW l ∧ c ∈ sds l ∧ ∀ H', Same H H' → Q .non H') := by
  have GS : FnOk P w K mg base CX0 (k + 1) fS fdS ["walls"] spSides := ok_sides B S.F
  refine F.ok scChkSide (fun vs H Q E h => ?_) (fun cdv A outer s H vs Q E hr h => ?_)
  · obtain ⟨l, c, rfl, _⟩ := h
    rfl
  · obtain ⟨l, c, rfl, g, hc, q⟩ := h
    refine ⟨_, pss_one (ps_if (pt_cmpR op_notIn_seq (pv 1) (pe_call GS hr rfl S.g S.F.kp S.b .nil pass0 (pa_cons (pv 0) pa_nil)) (by rfl)) (pss_one ps_never) pss_nil), ?_⟩
    refine ⟨_, rfl, _, rfl, l, rfl, g.asc, by have := g.hi; omega, fun p hp => ⟨p, _, rfl, .inl (SqL.of upd_same), rfl, flat_str _, _, rfl, ?_⟩⟩
    have e : (!inV (.str (sg c)) (((sds l).map sg).map V.str)) = false := by
      rw [inV_str, decide_eq_true (mem_sg.mpr hc)]
      rfl
    show if (!inV (.str (sg c)) (((sds l).map sg).map V.str)) = true then _ else _
    rw [e]
    exact iteF (q _ (same_upd hp))
/-! ### the refusals' own __init__ -/
def spHE (K : PySem.W.Frag) : Sp := fun vs H Q _ => ∃ a C v, vs = [.ref a, v] ∧ OexC K C ∧ PySem.W.findIn K (.ref C) "word" = some none ∧ H a = some (exo a C none) ∧
  ∀ dx, H dx = none → dx ≠ a → Q .non (upd (upd H dx (exd dx [("word", v)])) a (exo a C (some dx)))
theorem ok_HE {C f : Addr} {fd : FuncData} {k : Nat} (T : HE K mg C f fd) : FnOk P w K mg base CX0 (k + 1) f fd ["self", "word"] (spHE K) := by
  refine T.F.ok scHE (fun vs H Q E h => ?_) (fun cdv A outer s H vs Q E hr h => ?_)
  · obtain ⟨a, C, v, rfl, _⟩ := h
    rfl
  · obtain ⟨a, C, v, rfl, hO, hw, ha, q⟩ := h
    refine ⟨_, pss_cons (ps_expr (pe_veinit (by rfl) T.mV T.vV (pa_cons (pv 0) (pa_cons (pv 1) pa_nil)))) (pss_one (ps_ost (pv 0) (pv 1))), ?_⟩
    refine ⟨_, rfl, _, rfl, a, C, [v], rfl, by show 1 ≤ 1000; decide, hO, ha, ?_⟩
    exact ⟨_, rfl, _, rfl, a, C, rfl, hO, hw, .inl ⟨ha, fun dx n ne => q dx n ne⟩⟩
/-- a refusal of one field beside its word -/
def sp1 (K : PySem.W.Frag) (fld : Str) (word : Str) : Sp := fun vs H Q _ => ∃ a C v, vs = [.ref a, v] ∧ OexC K C ∧ PySem.W.findIn K (.ref C) "word" = some none ∧ PySem.W.findIn K (.ref C) fld = some none ∧ H a = some (exo a C none) ∧
  ∀ dx H', H dx = none → dx ≠ a → (∀ b, b ≠ dx → b ≠ a → H' b = H b) → H' a = some (exo a C (some dx)) → H' dx = some (exd dx [(fld, v), ("word", .str word)]) → Q .non H'
theorem ok_BB {CH fH f : Addr} {fd fdH : FuncData} {k : Nat} (T : HE K mg CH fH fdH) (F : Fun K "__init__" "BadBar.__init__" sBBinit f fd) : FnOk P w K mg base CX0 (k + 2) f fd ["self", "at"] (sp1 K "at" "badbar") := by
  have GH : FnOk P w K mg base CX0 (k + 1) fH fdH ["self", "word"] (spHE K) := ok_HE T
  obtain ⟨mc, rd, fc⟩ := T.rd
  refine F.ok scBB (fun vs H Q E h => ?_) (fun cdv A outer s H vs Q E hr h => ?_)
  · obtain ⟨a, C, v, rfl, _⟩ := h
    rfl
  · obtain ⟨a, C, v, rfl, hO, hw, hf, ha, q⟩ := h
    refine ⟨_, pss_cons (ps_expr (pe_clsfn (by rfl) T.gC rd fc GH hr T.F.kp T.b .nil pass0 (pa_cons (pv 0) (pa_cons pe_str pa_nil)))) (pss_one (ps_ost (pv 0) (pv 1))), ?_⟩
    refine ⟨_, rfl, a, C, _, rfl, hO, hw, ha, fun dx n ne => ?_⟩
    refine ⟨_, rfl, _, rfl, a, C, rfl, hO, hf, .inr ⟨dx, _, upd_same, by rw [upd_ne ne, upd_same], by show 1 ≤ 900; decide, q dx _ n ne (fun b h1 h2 => ?_) ?_ ?_⟩⟩
    · rw [upd_ne h1, upd_ne h2, upd_ne h1]
    · rw [upd_ne (Ne.symm ne), upd_same]
    · rw [upd_same]
theorem ok_FX {CH fH f : Addr} {fd fdH : FuncData} {k : Nat} (T : HE K mg CH fH fdH) (F : Fun K "__init__" "Fixed.__init__" sFXinit f fd) : FnOk P w K mg base CX0 (k + 2) f fd ["self", "side"] (sp1 K "side" "fixed") := by
  have GH : FnOk P w K mg base CX0 (k + 1) fH fdH ["self", "word"] (spHE K) := ok_HE T
  obtain ⟨mc, rd, fc⟩ := T.rd
  refine F.ok scFX (fun vs H Q E h => ?_) (fun cdv A outer s H vs Q E hr h => ?_)
  · obtain ⟨a, C, v, rfl, _⟩ := h
    rfl
  · obtain ⟨a, C, v, rfl, hO, hw, hf, ha, q⟩ := h
    refine ⟨_, pss_cons (ps_expr (pe_clsfn (by rfl) T.gC rd fc GH hr T.F.kp T.b .nil pass0 (pa_cons (pv 0) (pa_cons pe_str pa_nil)))) (pss_one (ps_ost (pv 0) (pv 1))), ?_⟩
    refine ⟨_, rfl, a, C, _, rfl, hO, hw, ha, fun dx n ne => ?_⟩
    refine ⟨_, rfl, _, rfl, a, C, rfl, hO, hf, .inr ⟨dx, _, upd_same, by rw [upd_ne ne, upd_same], by show 1 ≤ 900; decide, q dx _ n ne (fun b h1 h2 => ?_) ?_ ?_⟩⟩
    · rw [upd_ne h1, upd_ne h2, upd_ne h1]
    · rw [upd_ne (Ne.symm ne), upd_same]
    · rw [upd_same]
def sp2 (K : PySem.W.Frag) : Sp := fun vs H Q _ => ∃ a C v u, vs = [.ref a, v, u] ∧ OexC K C ∧ PySem.W.findIn K (.ref C) "word" = some none ∧ PySem.W.findIn K (.ref C) "one" = some none ∧ PySem.W.findIn K (.ref C) "other" = some none ∧ H a = some (exo a C none) ∧
  ∀ dx H', H dx = none → dx ≠ a → (∀ b, b ≠ dx → b ≠ a → H' b = H b) → H' a = some (exo a C (some dx)) → H' dx = some (exd dx [("other", u), ("one", v), ("word", .str "alike")]) → Q .non H'
theorem ok_AL {CH fH f : Addr} {fd fdH : FuncData} {k : Nat} (T : HE K mg CH fH fdH) (F : Fun K "__init__" "Alike.__init__" sALinit f fd) : FnOk P w K mg base CX0 (k + 2) f fd ["self", "one", "other"] (sp2 K) := by
  have GH : FnOk P w K mg base CX0 (k + 1) fH fdH ["self", "word"] (spHE K) := ok_HE T
  obtain ⟨mc, rd, fc⟩ := T.rd
  refine F.ok scAL (fun vs H Q E h => ?_) (fun cdv A outer s H vs Q E hr h => ?_)
  · obtain ⟨a, C, v, u, rfl, _⟩ := h
    rfl
  · obtain ⟨a, C, v, u, rfl, hO, hw, h1, h2, ha, q⟩ := h
    refine ⟨_, pss_cons (ps_expr (pe_clsfn (by rfl) T.gC rd fc GH hr T.F.kp T.b .nil pass0 (pa_cons (pv 0) (pa_cons pe_str pa_nil)))) (pss_cons (ps_ost (pv 0) (pv 1)) (pss_one (ps_ost (pv 0) (pv 2)))), ?_⟩
    refine ⟨_, rfl, a, C, _, rfl, hO, hw, ha, fun dx n ne => ?_⟩
    refine ⟨_, rfl, _, rfl, a, C, rfl, hO, h1, .inr ⟨dx, _, upd_same, by rw [upd_ne ne, upd_same], by show 1 ≤ 900; decide, ?_⟩⟩
    refine ⟨_, rfl, _, rfl, a, C, rfl, hO, h2, .inr ⟨dx, _, by rw [upd_ne (Ne.symm ne), upd_same], upd_same, by show 2 ≤ 900; decide, q dx _ n ne (fun b g1 g2 => ?_) ?_ ?_⟩⟩
    · rw [upd_ne g1, upd_ne g1, upd_ne g2, upd_ne g1]
    · rw [upd_ne (Ne.symm ne), upd_ne (Ne.symm ne), upd_same]
    · rw [upd_same]
end
end NC
namespace NC
open PySem PySem.Spec PyProof.Rows L2
def badAt (l : List Nat) (bs : List (List Nat)) (i : Nat) : Bool := !isBar l (bs.getD i []) || decide (bs.getD i [] ∈ bs.take i)
def firstBad (l : List Nat) (bs : List (List Nat)) : Option Nat := (List.range bs.length).find? (badAt l bs)
theorem first_at {l : List Nat} {bs : List (List Nat)} {i : Nat} {b : List Nat} (h : bs[i]? = some b) (ok : ∀ j, j < i → badAt l bs j = false) (hb : badAt l bs i = true) : firstBad l bs = some i := by
  have hi : i < bs.length := (List.getElem?_eq_some_iff.mp h).1
  unfold firstBad
  refine List.find?_eq_some_iff_getElem.mpr ⟨hb, i, by simpa using hi, by simp, fun j hj => ?_⟩
  rw [List.getElem_range, ok j hj]
  rfl
theorem walk_enumT {K : PySem.W.Frag} {a : Addr} {xs : List V} : Walk (ItET K a) xs.length (fun H => SqT K H a xs) (YPair (fun i => some (.int (i : Nat))) (fun i => xs[i]?)) where
  goes := fun i _ lt sq => ⟨xs, xs[i], sq, List.getElem?_eq_getElem lt⟩
  stops := fun _ sq => ⟨xs, sq, Nat.le_refl _⟩
  yields := fun i _ _ _ _ sq ⟨T, x, e1, e2, e3, e4⟩ => ⟨T, .int (i : Nat), x, e1, e2, e3, rfl, e4 xs sq⟩
theorem cut_to (bs : List (List Nat)) (i : Nat) (h : i ≤ bs.length) : cutV ((bs.map tx).map V.str) none (some ((i : Nat) : Int)) = ((bs.take i).map tx).map V.str := by
  unfold cutV
  rw [HT.sIx_none, HT.sIx_nat, List.drop_zero, Nat.sub_zero, List.length_map, List.length_map, Nat.min_eq_left h, List.map_take, List.map_take]
/-- an own refusal's class, at C, its __init__ at fI -/
structure XC (K : PySem.W.Frag) (mg : Str → Option Value) (x q : Str) (st : Stmt) (fld : Str) (C fI : Addr) (fd : FuncData) : Prop where
  gC : mg x = some (.ref C)
  O : OexC K C
  hw : PySem.W.findIn K (.ref C) "word" = some none
  hf : PySem.W.findIn K (.ref C) fld = some none
  iC : PySem.W.findIn K (.ref C) "__init__" = some (some (.ref fI))
  tI : PySem.W.typeIn K (.ref fI) = some (.type "function")
  F : Fun K "__init__" q st fI fd
  b : Binds K fd ["self", fld] []
theorem mk1 {K : PySem.W.Frag} {C : Addr} {fld word : Str} (hO : OexC K C) (hw : PySem.W.findIn K (.ref C) "word" = some none) (hf : PySem.W.findIn K (.ref C) fld = some none) {H1 : Hp} {v : V} {Q : XK}
    (q : ∀ d H', Same H1 H' → H1 d = none → H' d = some (.xd [(fld, v), ("word", .str word)]) → Q (.ref C) (some d) H') :
    ∀ a, H1 a = none → sp1 K fld word (.ref a :: ([v] ++ [])) (upd H1 a (exo a C none))
      (fun u H2 => u = .non ∧ ∃ (d : Addr) (fs : List (Str × V)), H2 a = some (exo a C (some d)) ∧ H2 d = some (exd d fs) ∧ H1 d = none ∧ Q (.ref C) (some d) (upd (del H2 a) d (.xd fs))) (fun _ _ _ => False) := by
  intro a na
  refine ⟨a, C, v, rfl, hO, hw, hf, upd_same, fun dx H' n1 n2 k e1 e2 => ⟨rfl, dx, _, e1, e2, ?_, q dx _ (fun b o hb => ?_) ?_ upd_same⟩⟩
  · rw [upd_ne n2] at n1
    exact n1
  · have hd : H1 dx = none := by
      rw [upd_ne n2] at n1
      exact n1
    have b1 : b ≠ dx := ne_of_none hb hd
    have b2 : b ≠ a := ne_of_none hb na
    rw [upd_ne b1, del_ne b2, k b b1 b2, upd_ne b2]
    exact hb
  · rw [upd_ne n2] at n1
    exact n1
theorem scChkBars : FnScope ["walls", "bars", "at", "bar"] ["walls", "bars"] (defScope sChkBars) := ⟨rfl, rfl, rfl, by decide +kernel, rfl, by decide +kernel, by decide +kernel⟩
section
variable {P : Program} {w : World} {K : PySem.W.Frag} {mg : Str → Option Value} {base : Heap}
def BarsOk (bs : List (List Nat)) : Prop := ∀ b ∈ bs, (∀ c ∈ b, c < 128) ∧ b.length ≤ 100
def spChkBars (K : PySem.W.Frag) (CB : Addr) : Sp := fun vs H Q E => ∃ l a bs, vs = [.str (tx l), .ref a] ∧ GoodW l ∧ BarsOk bs ∧ bs.length ≤ 100 ∧ (SqL K H a ((bs.map tx).map V.str) ∨ SqT K H a ((bs.map tx).map V.str)) ∧
  match firstBad l bs with
  | none => ∀ H', Same H H' → Q .non H'
  | some i => ∀ H' d, Same H H' → H d = none → H' d = some (.xd [("at", .int (i : Nat)), ("word", .str "badbar")]) → E (.ref CB) (some d) H'
set_option maxHeartbeats 1000000 in
theorem ok_chkBars {f fI CB fB CH fH fS : Addr} {fd fdI fdB fdH fdS : FuncData} {k : Nat} (B : BM mg) (F : Fun K "check_bars" "check_bars" sChkBars f fd) (I : DF K mg "is_bar" sIsBar ["walls", "bar"] fI fdI) (S : DF K mg "sides_of" sSides ["walls"] fS fdS)
    (T : HE K mg CH fH fdH) (X : XC K mg "BadBar" "BadBar.__init__" sBBinit "at" CB fB fdB) : FnOk P w K mg base (L2.CX P w) (k + 4) f fd ["walls", "bars"] (spChkBars K CB) := by
  have GI : FnOk P w K mg base CX0 (k + 2) fI fdI ["walls", "bar"] spIsBar := ok_isBar B I.F S
  have GB : FnOk P w K mg base CX0 (k + 2) fB fdB ["self", "at"] (sp1 K "at" "badbar") := ok_BB T X.F
  refine F.okX scChkBars (fun vs H Q E h => ?_) (fun cdv A outer s H vs Q E hr h => ?_)
  · obtain ⟨l, a, bs, rfl, _⟩ := h
    rfl
  · obtain ⟨l, a, bs, rfl, g, hbs, hbl, hS, q⟩ := h
    refine ⟨_, pss_one (ps_for (passes_of rfl) rfl (pi_enumT (by rfl) B.enumerate (pa_cons (pv 1) pa_nil))
        (pg_tup rfl (pgs_cons (pg_name (i := 2) scChkBars.nd rfl (.inl rfl)) (pgs_cons (pg_name (i := 3) scChkBars.nd rfl (.inl rfl)) pgs_nil)))
      (pss_one (ps_if (PW.pt (pw_or (pt_not (pt_val (pe_call GI (hr.mono (by omega)) rfl I.g I.F.kp I.b .nil pass0 (pa_cons (pv 0) (pa_cons (pv 3) pa_nil)))))
          (pw_or1 (pt_cmpR op_in_seq (pv 3) (pe_slice (SlR.or sl_list sl_tup) (pv 1) po_none (po_some (pv 2))) (by rfl)))))
        (pss_one (ps_raise rfl (takes_of rfl rfl rfl rfl) (pmk_oex X.O X.iC X.tI GB hr X.b .nil pass0 (by rfl) X.gC (pa_cons (pv 2) pa_nil)))) pss_nil))), ?_⟩
    refine ⟨_, rfl, a, rfl, ?_⟩
    have len : ((bs.map tx).map V.str).length = bs.length := by rw [List.length_map, List.length_map]
    rcases hS with hS | hS
    · have wk := walk_enum (K := K) (a := a) (xs := (bs.map tx).map V.str)
      rw [len] at wk
      refine .inl ⟨⟨_, hS⟩, for_it wk (fun i σ H' => ∃ y2 y3, σ = [some (.str (tx l)), some (.ref a), y2, y3] ∧ (∀ j, j < i → badAt l bs j = false) ∧ Same H H')
        ⟨_, _, rfl, fun _ h => absurd h (Nat.not_lt_zero _), L2.Same.refl _⟩ (fun i σ H' _ p => by obtain ⟨_, _, _, _, sm⟩ := p; exact sm_l sm hS) ?_ ?_⟩
      · rintro i x σ H1 H2 hi ⟨y2, y3, rfl, hok, sm⟩ ⟨T, x1, x2, rfl, nT, rfl, e1, e2⟩
        obtain rfl : V.int (i : Nat) = x1 := Option.some.inj e1
        have e2 : ((bs.map tx).map V.str)[i]? = some x2 := e2
        rw [List.getElem?_map, List.getElem?_map] at e2
        obtain ⟨z, hz, e3⟩ := Option.map_eq_some_iff.mp e2
        obtain ⟨b, hbi, rfl⟩ := Option.map_eq_some_iff.mp hz
        subst e3
        have hb : b ∈ bs := List.mem_of_getElem? hbi
        have sT : Same H (upd H1 T (.tup [.int (i : Nat), .str (tx b)])) := sm_upd sm nT
        refine ⟨T, _, rfl, SqT.of upd_same, rfl, _, _, rfl, _, _, rfl, rfl, ?_⟩
        refine ⟨_, rfl, _, rfl, l, b, rfl, g.asc, by have := g.hi; omega, (hbs b hb).1, (hbs b hb).2, fun H3 s3 => ⟨_, rfl, ite2 (fun t1 => ?_) (fun t1 => ?_)⟩⟩
        · -- no bar
          have hn : isBar l b = false := by simpa using t1
          have fb : firstBad l bs = some i := first_at hbi hok (by unfold badAt; rw [List.getD_eq_getElem?_getD, hbi]; simp [hn])
          rw [fb] at q
          refine iteT ⟨_, rfl, by show 1 ≤ 1000; decide, mk1 X.O X.hw X.hf fun d H4 s4 n4 e4 => ?_⟩
          exact q H4 d (sm_trans (sm_trans sT s3) s4) (L2.Same.free (sm_trans sT s3) n4) e4
        · have hy : isBar l b = true := by simpa using t1
          have hS3 := sm_l (sm_trans sT s3) hS
          refine ⟨_, rfl, _, rfl, _, rfl, _, rfl, .inl ⟨a, _, rfl, hS3, fun p np => ?_⟩⟩
          rw [cut_to bs i (Nat.le_of_lt hi)]
          refine ⟨p, _, rfl, .inl (SqL.of upd_same), rfl, flat_str _, _, rfl, ite2 (fun t2 => ?_) (fun t2 => ?_)⟩
          · have hm : b ∈ bs.take i := by
              have t3 : inV (.str (tx b)) (((bs.take i).map tx).map V.str) = true := t2
              rw [inV_str] at t3
              obtain ⟨c, hc, e⟩ := List.mem_map.mp (of_decide_eq_true t3)
              rw [← tx_inj e]
              exact hc
            have fb : firstBad l bs = some i := first_at hbi hok (by unfold badAt; rw [List.getD_eq_getElem?_getD, hbi]; simp [hm])
            rw [fb] at q
            refine ⟨_, rfl, by show 1 ≤ 1000; decide, mk1 X.O X.hw X.hf fun d H4 s4 n4 e4 => ?_⟩
            have s5 := sm_upd (o := .lst (((bs.take i).map tx).map V.str)) (sm_trans sT s3) np
            exact q H4 d (sm_trans s5 s4) (L2.Same.free s5 n4) e4
          · refine ⟨_, _, rfl, fun j hj => ?_, sm_upd (sm_trans sT s3) np⟩
            rcases Nat.lt_or_ge j i with h | h
            · exact hok j h
            · obtain rfl : j = i := by omega
              have hm : b ∉ bs.take j := fun z => by
                have t3 : ¬ inV (.str (tx b)) (((bs.take j).map tx).map V.str) = true := t2
                rw [inV_str] at t3
                exact t3 (decide_eq_true (List.mem_map.mpr ⟨b, z, rfl⟩))
              unfold badAt
              rw [List.getD_eq_getElem?_getD, hbi]
              simp [hy, hm]
      · rintro σ H1 ⟨y2, y3, rfl, hok, sm⟩
        have fb : firstBad l bs = none := List.find?_eq_none.mpr fun j hj => by
          rw [hok j (by simpa using hj)]
          decide
        rw [fb] at q
        exact q H1 sm
    · have wk := walk_enumT (K := K) (a := a) (xs := (bs.map tx).map V.str)
      rw [len] at wk
      refine .inr ⟨⟨_, hS⟩, for_it wk (fun i σ H' => ∃ y2 y3, σ = [some (.str (tx l)), some (.ref a), y2, y3] ∧ (∀ j, j < i → badAt l bs j = false) ∧ Same H H')
        ⟨_, _, rfl, fun _ h => absurd h (Nat.not_lt_zero _), L2.Same.refl _⟩ (fun i σ H' _ p => by obtain ⟨_, _, _, _, sm⟩ := p; exact sm_t sm hS) ?_ ?_⟩
      · rintro i x σ H1 H2 hi ⟨y2, y3, rfl, hok, sm⟩ ⟨T, x1, x2, rfl, nT, rfl, e1, e2⟩
        obtain rfl : V.int (i : Nat) = x1 := Option.some.inj e1
        have e2 : ((bs.map tx).map V.str)[i]? = some x2 := e2
        rw [List.getElem?_map, List.getElem?_map] at e2
        obtain ⟨z, hz, e3⟩ := Option.map_eq_some_iff.mp e2
        obtain ⟨b, hbi, rfl⟩ := Option.map_eq_some_iff.mp hz
        subst e3
        have hb : b ∈ bs := List.mem_of_getElem? hbi
        have sT : Same H (upd H1 T (.tup [.int (i : Nat), .str (tx b)])) := sm_upd sm nT
        refine ⟨T, _, rfl, SqT.of upd_same, rfl, _, _, rfl, _, _, rfl, rfl, ?_⟩
        refine ⟨_, rfl, _, rfl, l, b, rfl, g.asc, by have := g.hi; omega, (hbs b hb).1, (hbs b hb).2, fun H3 s3 => ⟨_, rfl, ite2 (fun t1 => ?_) (fun t1 => ?_)⟩⟩
        · -- no bar
          have hn : isBar l b = false := by simpa using t1
          have fb : firstBad l bs = some i := first_at hbi hok (by unfold badAt; rw [List.getD_eq_getElem?_getD, hbi]; simp [hn])
          rw [fb] at q
          refine iteT ⟨_, rfl, by show 1 ≤ 1000; decide, mk1 X.O X.hw X.hf fun d H4 s4 n4 e4 => ?_⟩
          exact q H4 d (sm_trans (sm_trans sT s3) s4) (L2.Same.free (sm_trans sT s3) n4) e4
        · have hy : isBar l b = true := by simpa using t1
          have hS3 := sm_t (sm_trans sT s3) hS
          refine ⟨_, rfl, _, rfl, _, rfl, _, rfl, .inr ⟨a, _, rfl, hS3, fun z => absurd z.2 (by rw [len, HT.sIx_nat]; omega), fun p np => ?_⟩⟩
          rw [cut_to bs i (Nat.le_of_lt hi)]
          refine ⟨p, _, rfl, .inr (SqT.of upd_same), rfl, flat_str _, _, rfl, ite2 (fun t2 => ?_) (fun t2 => ?_)⟩
          · have hm : b ∈ bs.take i := by
              have t3 : inV (.str (tx b)) (((bs.take i).map tx).map V.str) = true := t2
              rw [inV_str] at t3
              obtain ⟨c, hc, e⟩ := List.mem_map.mp (of_decide_eq_true t3)
              rw [← tx_inj e]
              exact hc
            have fb : firstBad l bs = some i := first_at hbi hok (by unfold badAt; rw [List.getD_eq_getElem?_getD, hbi]; simp [hm])
            rw [fb] at q
            refine ⟨_, rfl, by show 1 ≤ 1000; decide, mk1 X.O X.hw X.hf fun d H4 s4 n4 e4 => ?_⟩
            have s5 := sm_upd (o := .tup (((bs.take i).map tx).map V.str)) (sm_trans sT s3) np
            exact q H4 d (sm_trans s5 s4) (L2.Same.free s5 n4) e4
          · refine ⟨_, _, rfl, fun j hj => ?_, sm_upd (sm_trans sT s3) np⟩
            rcases Nat.lt_or_ge j i with h | h
            · exact hok j h
            · obtain rfl : j = i := by omega
              have hm : b ∉ bs.take j := fun z => by
                have t3 : ¬ inV (.str (tx b)) (((bs.take j).map tx).map V.str) = true := t2
                rw [inV_str] at t3
                exact t3 (decide_eq_true (List.mem_map.mpr ⟨b, z, rfl⟩))
              unfold badAt
              rw [List.getD_eq_getElem?_getD, hbi]
              simp [hy, hm]
      · rintro σ H1 ⟨y2, y3, rfl, hok, sm⟩
        have fb : firstBad l bs = none := List.find?_eq_none.mpr fun j hj => by
          rw [hok j (by simpa using hj)]
          decide
        rw [fb] at q
        exact q H1 sm
end
end NC
namespace NC
open PySem PySem.Spec PyProof.Rows L2
section
variable {X : Cx}
/-- y = {k: v for ..}, y a plain local: what the comprehension hands on is stored in y's slot -/
theorem ps_setDc {i : Nat} {y : Str} {py : Pos} {kx vx tg iter : Expr} {ifs : List Expr} {scope : Scope} {own : List (Str × Nat)} {pos spos : Pos} {wi : TI} {g : TG} {tt : TT} {tk tv : TE} (calm : X.calm = true) (nd : X.N.Nodup) (at_ : X.N[i]? = some y)
    (loc : X.env.scope.names.lookup y = some .local) (sw : swapsWith (.DictComp kx vx [⟨tg, iter, ifs, 0⟩] scope pos) (some (.Name y py)) spos.line X.env = pure true) (it : PI X tg iter wi) (blk : BlkOk X.N X.env.scope scope own)
    (pg : ∀ (s : Shared) (H : Hp) (C : Addr) (cl : List (Str × Addr)) (fp : List Addr), PG (X.blk s H scope (compEnvC scope cl C X.env) fp) tg g)
    (pt : ∀ (s : Shared) (H : Hp) (C : Addr) (cl : List (Str × Addr)) (fp : List Addr), PTs (X.blk s H scope (compEnvC scope cl C X.env) fp) ifs tt)
    (pk : ∀ (s : Shared) (H : Hp) (C : Addr) (cl : List (Str × Addr)) (fp : List Addr), PE (X.blk s H scope (compEnvC scope cl C X.env) fp) kx tk)
    (pw : ∀ (s : Shared) (H : Hp) (C : Addr) (cl : List (Str × Addr)) (fp : List Addr), PE (X.blk s H scope (compEnvC scope cl C X.env) fp) vx tv) (fo : ∀ x, foldedSetIterable iter X.env x = pure x := by intro _; rfl) :
    PS X (.Assign [.Name y py] (.DictComp kx vx [⟨tg, iter, ifs, 0⟩] scope pos) spos) (tAsg (tDc wi g tt tk tv (own.map (·.2))) (gName i)) := ⟨fun ps t σ H D I w => by
  have made : wpAny (model X.prog X.w) X.A (comprehension (.DictComp kx vx [⟨tg, iter, ifs, 0⟩] scope pos) scope X.env (firstIterPos [⟨tg, iter, ifs, 0⟩] pos) newDict false (eval iter X.env) (some (assign (.Name y py) X.env))) (fun _ v => SP X ps D .next v) X.xe t := by
    refine dc_core (Qf := fun _ v => SP X ps D .next v) calm nd I it blk pg pt pk pw fo (show tDc wi g tt tk tv (own.map (·.2)) σ H (fun x G => gName i x σ G D.nx) from w) fun L C v m G J q cells fr => ?_
    show wpAny (model X.prog X.w) X.A (assign (.Name y py) X.env (.ref L)) _ X.xe v
    refine wpAny_assign_Name (store_ok2 (v := V.ref L) J nd at_ (.inl loc) rfl (fun v2 J2 st => ?_) (.inr loc))
    obtain ⟨b, same, eb⟩ := st
    have apart : C ≠ b := eb.elim (fun z => z ▸ fr.2.1) (fun z z2 => fr.2.2.2.2.1 y b z z2.symm)
    exact ⟨m, cells.sameBut same apart, fun _ keep => ⟨_, G, J2.turned (t' := v2.toks) (fun c o hc e => (keep.2 c hc).trans e) fr.1 fr.2.1 fr.2.2.2.1 fr.2.2.2.2.1 fr.2.2.2.2.2, q⟩⟩
  rw [exec_Assign_Name_used _ _ _ _ sw]
  exact wpAny_bind (wpAny_standAt (wpAny_bind (wpAny_bind (thn made fun _ v r => wpAny_pure (wpAny_pure r)))))⟩
/-- such an assignment swaps where the name is a local of a function and none of the comprehension's own -/
theorem sw_dict {kx vx : Expr} {gs : List Comprehension} {scope : Scope} {pos py : Pos} {y : Str} {l : Nat} {env : Env} (fn : env.scope.kind = .function) (loc : env.scope.names.lookup y = some .local) (row : (py.line == pos.line) = true)
    (out : (scope.names.any fun (n, k) => n == y && (k == .local || k == .cell)) = false) : swapsWith (.DictComp kx vx gs scope pos) (some (.Name y py)) l env = pure true := by
  have k1 : env.blockKind = .function := by
    unfold Env.blockKind
    rw [fn]
    rfl
  unfold swapsWith
  simp only [k1, show env.kindOf y = some .local from loc, out, Expr.pos, row]
  rfl
/-- for x in a name that holds a list or a tuple -/
def iSeq (K : PySem.W.Frag) (tl : TE) : TI := fun σ H R => tl σ H fun x H1 => ∃ a, x = .ref a ∧ ((∃ xs, SqL K H1 a xs) ∧ R (Itl K a) H1 ∨ (∃ xs, SqT K H1 a xs) ∧ R (Itt K a) H1)
theorem pi_seq {tg l : Expr} {i : Nat} (at_ : PE X l (tVar i)) : PI X tg l (iSeq X.K (tVar i)) := ⟨fun ps s σ H R I ⟨v, sv, a, ev, k⟩ => k.elim
  (fun k => (pi_list (tg := tg) at_).run ps s σ H R I ⟨v, sv, a, ev, k⟩) (fun k => (pi_tup (tg := tg) at_).run ps s σ H R I ⟨v, sv, a, ev, k⟩)⟩
end
end NC
namespace NC
open PySem PySem.Spec PyProof.Rows L2
abbrev sStraight : Stmt := topS 20
theorem scStraight : FnScope ["walls", "bars", "straight", "bar", "side"] ["walls", "bars"] (defScope sStraight) := ⟨rfl, rfl, rfl, by decide +kernel, rfl, by decide +kernel, by decide +kernel⟩
def con (s : Nat) (b : List Nat) : List Nat := match b with
  | [x, y] => (if x = s then [swp y] else []) ++ (if y = s then [swp x] else [])
  | _ => []
def adjOf (bs : List (List Nat)) (s : Nat) : List Nat := bs.flatMap (con s)
theorem con_len (s : Nat) (b : List Nat) : (con s b).length ≤ 2 := by
  unfold con
  split
  · rw [List.length_append]
    split <;> split <;> simp
  · simp
theorem adj_len (bs : List (List Nat)) (s : Nat) : (adjOf bs s).length ≤ 2 * bs.length := by
  induction bs with
  | nil => simp [adjOf]
  | cons b r ih =>
    have e : adjOf (b :: r) s = con s b ++ adjOf r s := by simp [adjOf]
    rw [e, List.length_append, List.length_cons]
    have := con_len s b
    omega
theorem bar_two {l b : List Nat} (h : isBar l b = true) : ∃ x y, b = [x, y] ∧ x ∈ sds l ∧ y ∈ sds l ∧ lwc x < lwc y := by
  match b, h with
  | [x, y], h =>
    have h' : (decide (x ∈ sds l) && (decide (y ∈ sds l) && decide (lwc x < lwc y))) = true := h
    rw [Bool.and_eq_true, Bool.and_eq_true] at h'
    exact ⟨x, y, rfl, of_decide_eq_true h'.1, of_decide_eq_true h'.2.1, of_decide_eq_true h'.2.2⟩
theorem adj_mem {l : List Nat} (g : GoodW l) {bs : List (List Nat)} (hb : ∀ b ∈ bs, isBar l b = true) {s c : Nat} (h : c ∈ adjOf bs s) : c ∈ sds l := by
  obtain ⟨b, hb1, hc⟩ := List.mem_flatMap.mp h
  obtain ⟨x, y, rfl, hx, hy, _⟩ := bar_two (hb b hb1)
  have hc : c ∈ (if x = s then [swp y] else []) ++ (if y = s then [swp x] else []) := hc
  rcases List.mem_append.mp hc with q | q
  · split at q
    · rw [List.mem_singleton.mp q]; exact sds_swp g hy
    · cases q
  · split at q
    · rw [List.mem_singleton.mp q]; exact sds_swp g hx
    · cases q
theorem adj_snoc (bs : List (List Nat)) (i s : Nat) (b : List Nat) (h : bs[i]? = some b) : adjOf (bs.take (i + 1)) s = adjOf (bs.take i) s ++ con s b := by
  rw [List.take_add_one, h]
  unfold adjOf
  rw [List.flatMap_append]
  simp
def stK (L : List Nat) (ad : Nat → Addr) : List (Key × V) := L.map fun s => (Sum.inr (sg s), V.ref (ad s))
theorem stK_val {L : List Nat} {ad : Nat → Addr} {s : Nat} (h : s ∈ L) : valV (stK L ad) (Sum.inr (sg s)) = some (.ref (ad s)) := by
  induction L with
  | nil => cases h
  | cons t r ih =>
    by_cases e : t = s
    · subst e
      exact valV_pos (p := (Sum.inr (sg t), V.ref (ad t))) rfl
    · have h2 : s ∈ r := by
        rcases List.mem_cons.mp h with z | z
        · exact absurd z.symm e
        · exact z
      exact (valV_neg (p := (Sum.inr (sg t), V.ref (ad t))) (fun z => e (sg_inj (Sum.inr.inj z)))).trans (ih h2)
theorem stK_no {L : List Nat} {ad : Nat → Addr} {s : Nat} (h : s ∉ L) : valV (stK L ad) (Sum.inr (sg s)) = none := by
  induction L with
  | nil => rfl
  | cons t r ih =>
    have e : ¬ t = s := fun z => h (by rw [z]; exact List.mem_cons_self ..)
    exact (valV_neg (p := (Sum.inr (sg t), V.ref (ad t))) (fun z => e (sg_inj (Sum.inr.inj z)))).trans (ih fun z => h (List.mem_cons_of_mem _ z))
theorem stK_congr {L : List Nat} {ad ad' : Nat → Addr} (h : ∀ s ∈ L, ad s = ad' s) : stK L ad = stK L ad' := List.map_congr_left fun s hs => by rw [h s hs]
/-- the dict of lists of what is forced straight -/
structure SD8 (H : Hp) (L : List Nat) (d : Addr) (ad : Nat → Addr) (adj : Nat → List Nat) : Prop where
  dk : H d = some (.dK (stK L ad))
  at_ : ∀ s ∈ L, H (ad s) = some (.lst (((adj s).map sg).map V.str))
  inj : ∀ s ∈ L, ∀ t ∈ L, ad s = ad t → s = t
theorem SD8.nd {H : Hp} {L : List Nat} {d : Addr} {ad : Nat → Addr} {adj : Nat → List Nat} (S : SD8 H L d ad adj) {s : Nat} (h : s ∈ L) : ad s ≠ d := ne_of (S.at_ s h) S.dk fun z => by cases z
theorem SD8.get {H : Hp} {L : List Nat} {d : Addr} {ad : Nat → Addr} {adj : Nat → List Nat} (S : SD8 H L d ad adj) {s : Nat} (h : s ∈ L) : DGet H d (.str (sg s)) (some (.ref (ad s))) := by
  rw [← stK_val (ad := ad) h]
  exact DGet.k (k := Sum.inr (sg s)) S.dk
theorem SD8.app {H : Hp} {L : List Nat} {d : Addr} {ad : Nat → Addr} {adj : Nat → List Nat} (S : SD8 H L d ad adj) {s c : Nat} (h : s ∈ L) :
    SD8 (upd H (ad s) (.lst (((adj s).map sg).map V.str ++ [.str (sg c)]))) L d ad (fun t => if t = s then adj t ++ [c] else adj t) := by
  refine ⟨by rw [upd_ne (Ne.symm (S.nd h))]; exact S.dk, fun t ht => ?_, S.inj⟩
  by_cases e : t = s
  · subst e
    rw [upd_same, if_pos rfl, List.map_append, List.map_append]
    rfl
  · rw [upd_ne (fun z => e (S.inj t ht s h z)), if_neg e]
    exact S.at_ t ht
section
variable {P : Program} {w : World} {K : PySem.W.Frag} {mg : Str → Option Value} {base : Heap}
def spStraight (K : PySem.W.Frag) : Sp := fun vs H Q _ => ∃ l a bs, vs = [.str (tx l), .ref a] ∧ GoodW l ∧ (∀ b ∈ bs, isBar l b = true) ∧ bs.length ≤ 100 ∧ (SqL K H a ((bs.map tx).map V.str) ∨ SqT K H a ((bs.map tx).map V.str)) ∧
  ∀ H' d ad, Same H H' → H d = none → SD8 H' (sds l) d ad (adjOf bs) → Q (.ref d) H'
set_option maxHeartbeats 1000000 in
theorem ok_straight {f fS fO : Addr} {fd fdS fdO : FuncData} {k : Nat} (B : BM mg) (F : Fun K "straight_from" "straight_from" sStraight f fd) (S : DF K mg "sides_of" sSides ["walls"] fS fdS) (O : DF K mg "other" sOther ["side"] fO fdO) :
    FnOk P w K mg base CX0 (k + 2) f fd ["walls", "bars"] (spStraight K) := by
  have GS : FnOk P w K mg base CX0 (k + 1) fS fdS ["walls"] spSides := ok_sides B S.F
  have GO : FnOk P w K mg base CX0 (k + 1) fO fdO ["side"] spOther := ok_other O.F
  refine F.ok scStraight (fun vs H Q E h => ?_) (fun cdv A outer s H vs Q E hr h => ?_)
  · obtain ⟨l, a, bs, rfl, _⟩ := h
    rfl
  · obtain ⟨l, a, bs, rfl, g, hbar, hbl, hS, q⟩ := h
    refine ⟨_, pss_cons (ps_setDc (i := 2) (own := [("side", 4)]) (g := gName 4) (tt := tYes) rfl scStraight.nd rfl rfl (sw_dict rfl rfl rfl (by decide +kernel)) (pi_list (pe_call GS hr rfl S.g S.F.kp S.b .nil pass0 (pa_cons (pv 0) pa_nil)))
        (blkOk_by (N := ["walls", "bars", "straight", "bar", "side"]) (sc := defScope sStraight) (by decide +kernel)) (fun _ _ _ _ _ => pg_name (i := 4) scStraight.nd rfl (Or.inl rfl)) (fun _ _ _ _ _ => pts_nil) (fun _ _ _ _ _ => pv 4) (fun _ _ _ _ _ => pe_lst pa_nil))
      (pss_cons (ps_for PassesOwn.never rfl (pi_seq (pv 1)) (pg_name (i := 3) scStraight.nd rfl (Or.inl rfl))
        (pss_cons (ps_expr (pe_bm PySem.F.plainAttrs_list PySem.F.slot_list_append PySem.F.type_list_append mt_append (pe_dget (hu_of hr) (pv 2) (pe_ix ix_str (pv 3) pe_int (fun _ _ => rfl)) (fun _ _ => rfl))
            (pa_cons (pe_call GO hr rfl O.g O.F.kp O.b .nil pass0 (pa_cons (pe_ix ix_str (pv 3) pe_int (fun _ _ => rfl)) pa_nil)) pa_nil)))
          (pss_one (ps_expr (pe_bm PySem.F.plainAttrs_list PySem.F.slot_list_append PySem.F.type_list_append mt_append (pe_dget (hu_of hr) (pv 2) (pe_ix ix_str (pv 3) pe_int (fun _ _ => rfl)) (fun _ _ => rfl))
            (pa_cons (pe_call GO hr rfl O.g O.F.kp O.b .nil pass0 (pa_cons (pe_ix ix_str (pv 3) pe_int (fun _ _ => rfl)) pa_nil)) pa_nil))))))
      (pss_one (ps_ret (pv 2)))), ?_⟩
    refine ⟨_, rfl, l, rfl, g.asc, by have := g.hi; omega, fun p np => ⟨p, rfl, ⟨_, SqL.of upd_same⟩, fun D nD => ?_⟩⟩
    have s1 : Same H (upd H p (.lst (((sds l).map sg).map V.str))) := same_upd np
    have hp1 : (upd H p (.lst (((sds l).map sg).map V.str))) p = some (.lst (((sds l).map sg).map V.str)) := upd_same
    generalize (upd H p (.lst (((sds l).map sg).map V.str))) = H1 at s1 nD hp1 ⊢
    have wk := walk_list (K := K) (a := p) (xs := ((sds l).map sg).map V.str)
    rw [List.length_map, List.length_map] at wk
    refine dc_it wk (fun i H' => ∃ ad, Same H1 H' ∧ SD8 H' ((sds l).take i) D ad (fun _ => []) ∧ ∀ s ∈ (sds l).take i, H1 (ad s) = none)
      ⟨fun _ => p, same_upd nD, ⟨upd_same, fun s hs => by simp at hs, fun s hs => by simp at hs⟩, fun s hs => by simp at hs⟩ (fun i H' _ h => by obtain ⟨ad, sm, _⟩ := h; exact SqL.of (sm _ _ hp1)) ?_ ?_
    · rintro i x H2 H3 hi ⟨ad, sm, S8, fr0⟩ ⟨rfl, hx⟩
      rw [List.getElem?_map, List.getElem?_map] at hx
      obtain ⟨z, hz, rfl⟩ := Option.map_eq_some_iff.mp hx
      obtain ⟨c, hc, rfl⟩ := Option.map_eq_some_iff.mp hz
      have hnc : c ∉ (sds l).take i := fun hm => by
        obtain ⟨j, hj⟩ := List.getElem?_of_mem hm
        have hji : j < i := by
          have := (List.getElem?_eq_some_iff.mp hj).1
          rw [List.length_take] at this
          omega
        rw [List.getElem?_take_of_lt hji] at hj
        exact absurd ((List.getElem?_inj (List.getElem?_eq_some_iff.mp hj).1 (sds_nd g)).mp (hj.trans hc.symm)) (Nat.ne_of_lt hji)
      refine ⟨rfl, yes_i ⟨_, rfl, Nat.zero_le _, fun r nr => ⟨stK ((sds l).take i) ad, Sum.inr (sg c), rfl, ?_, ?_, fun t => if t = c then r else ad t, ?_, ?_, ?_⟩⟩⟩
      · rw [upd_ne (ne_of_none S8.dk nr)]
        exact S8.dk
      · unfold stK
        rw [List.length_map, List.length_take, sizeLine_eq]
        have := sds_len g
        omega
      · exact sm_over (sm_upd sm nr) nD
      · have nrD : D ≠ r := ne_of_none S8.dk nr
        have e1 : ∀ t ∈ (sds l).take i, (if t = c then r else ad t) = ad t := fun t ht => if_neg fun e => hnc (by rw [← e]; exact ht)
        have tk : (sds l).take (i + 1) = (sds l).take i ++ [c] := by rw [List.take_add_one, hc]; rfl
        refine ⟨?_, fun t ht => ?_, fun t ht u hu e => ?_⟩
        · rw [upd_same, putK_new _ (stK_no hnc), tk]
          unfold stK
          rw [List.map_append]
          rw [List.map_congr_left (g := fun s => (Sum.inr (sg s), V.ref (if s = c then r else ad s))) fun t ht => by rw [e1 t ht]]
          simp
        · rw [tk] at ht
          rcases List.mem_append.mp ht with h | h
          · rw [e1 t h, upd_ne (S8.nd h), upd_ne (ne_of_none (S8.at_ t h) nr)]
            exact S8.at_ t h
          · obtain rfl := List.mem_singleton.mp h
            rw [if_pos rfl, upd_ne (Ne.symm nrD), upd_same]
            rfl
        · rw [tk] at ht hu
          rcases List.mem_append.mp ht with h | h <;> rcases List.mem_append.mp hu with h2 | h2
          · rw [e1 t h, e1 u h2] at e
            exact S8.inj t h u h2 e
          · obtain rfl := List.mem_singleton.mp h2
            rw [e1 t h, if_pos rfl] at e
            exact absurd e (ne_of_none (S8.at_ t h) nr)
          · obtain rfl := List.mem_singleton.mp h
            rw [e1 u h2, if_pos rfl] at e
            exact absurd e.symm (ne_of_none (S8.at_ u h2) nr)
          · rw [List.mem_singleton.mp h, List.mem_singleton.mp h2]
      · intro t ht
        show H1 (if t = c then r else ad t) = none
        by_cases e : t = c
        · rw [if_pos e]
          exact L2.Same.free sm nr
        · rw [if_neg e]
          refine fr0 t ?_
          rw [List.take_add_one, hc] at ht
          rcases List.mem_append.mp ht with h | h
          · exact h
          · exact absurd (List.mem_singleton.mp h) e
    · rintro H2 ⟨ad, sm, S8, fr0⟩
      rw [List.take_of_length_le (Nat.le_refl _)] at S8
      have nd0 : H D = none := L2.Same.free s1 nD
      have fr : ∀ s ∈ sds l, H (ad s) = none := fun s hs => L2.Same.free s1 (fr0 s (by rw [List.take_of_length_le (Nat.le_refl _)]; exact hs))
      have sm0 : Same H H2 := sm_trans s1 sm
      refine ⟨_, rfl, a, rfl, ?_⟩
      have len : ((bs.map tx).map V.str).length = bs.length := by rw [List.length_map, List.length_map]
      rcases hS with hS | hS
      · have wk2 := walk_list (K := K) (a := a) (xs := (bs.map tx).map V.str)
        rw [len] at wk2
        refine .inl ⟨⟨_, sm_l sm0 hS⟩, for_it wk2 (fun i σ H' => ∃ y3, σ = [some (.str (tx l)), some (.ref a), some (.ref D), y3, none] ∧ Same H H' ∧ SD8 H' (sds l) D ad (adjOf (bs.take i)))
          ⟨_, rfl, sm0, S8⟩ (fun i σ H' _ p => by obtain ⟨_, _, sm, _⟩ := p; exact sm_l sm hS) ?_ ?_⟩
        · rintro i x σ H5 H6 hi ⟨y3, rfl, sm5, S5⟩ ⟨rfl, hx⟩
          rw [List.getElem?_map, List.getElem?_map] at hx
          obtain ⟨z, hz, rfl⟩ := Option.map_eq_some_iff.mp hx
          obtain ⟨b, hbi, rfl⟩ := Option.map_eq_some_iff.mp hz
          obtain ⟨u, v, rfl, hu, hv, huv⟩ := bar_two (hbar b (List.mem_of_getElem? hbi))
          have hbz : (tx [u, v]).length ≤ sizeLine := by rw [tx_len, sizeLine_eq]; show 2 ≤ 16777216; decide
          have nuv : u ≠ v := fun e => by rw [e] at huv; exact Nat.lt_irrefl _ huv
          have hz1 : ∀ s, (adjOf (bs.take i) s).length ≤ 200 := fun s => by
            have h1 := adj_len (bs.take i) s
            have h2 : (bs.take i).length ≤ 100 := Nat.le_trans (by rw [List.length_take]; exact Nat.min_le_right _ _) hbl
            omega
          have S6 := S5.app (c := swp v) hu
          have S7 := S6.app (c := swp u) hv
          have nH : ∀ s ∈ sds l, ∀ o, Same H H6 → Same H (upd H6 (ad s) o) := fun s hs o z => sm_over z (fr s hs)
          refine ⟨_, rfl, _, rfl, _, _, u, rfl, rfl, hbz, rfl, D, _, rfl, S5.get hu, .inl ⟨rfl, _, SqL.of (S5.at_ u hu)⟩, _, rfl, _, _, v, rfl, rfl, hbz, rfl, v, rfl, sds_asc g hv, ad u, _, _, rfl, rfl, S5.at_ u hu, ?_, ?_⟩
          · rw [List.length_map, List.length_map, sizeLine_eq]
            have := hz1 u
            omega
          · refine ⟨_, rfl, _, rfl, _, _, v, rfl, rfl, hbz, rfl, D, _, rfl, S6.get hv, .inl ⟨rfl, _, SqL.of (S6.at_ v hv)⟩, _, rfl, _, _, u, rfl, rfl, hbz, rfl, u, rfl, sds_asc g hu, ad v, _, _, rfl, rfl, S6.at_ v hv, ?_, ?_⟩
            · rw [if_neg (Ne.symm nuv), List.length_map, List.length_map, sizeLine_eq]
              have := hz1 v
              omega
            · refine ⟨_, rfl, sm_over (sm_over sm5 (fr u hu)) (fr v hv), ?_⟩
              have ea : (fun t => if t = v then (if t = u then adjOf (bs.take i) t ++ [swp v] else adjOf (bs.take i) t) ++ [swp u] else if t = u then adjOf (bs.take i) t ++ [swp v] else adjOf (bs.take i) t) = adjOf (bs.take (i + 1)) := by
                funext t
                rw [adj_snoc bs i t [u, v] hbi]
                show _ = adjOf (bs.take i) t ++ ((if u = t then [swp v] else []) ++ (if v = t then [swp u] else []))
                by_cases e1 : t = u
                · subst e1
                  rw [if_neg nuv, if_pos rfl, if_pos rfl, if_neg (Ne.symm nuv)]
                  simp
                · rw [if_neg e1, if_neg (Ne.symm e1)]
                  by_cases e2 : t = v
                  · subst e2
                    rw [if_pos rfl, if_pos rfl]
                    simp
                  · rw [if_neg e2, if_neg (Ne.symm e2)]
                    simp [e1]
              rw [← ea]
              exact S7
        · rintro σ H5 ⟨y3, rfl, sm5, S5⟩
          rw [List.take_of_length_le (Nat.le_refl _)] at S5
          exact ⟨_, rfl, q H5 D ad sm5 nd0 S5⟩
      · have wk2 := walk_tup (K := K) (a := a) (xs := (bs.map tx).map V.str)
        rw [len] at wk2
        refine .inr ⟨⟨_, sm_t sm0 hS⟩, for_it wk2 (fun i σ H' => ∃ y3, σ = [some (.str (tx l)), some (.ref a), some (.ref D), y3, none] ∧ Same H H' ∧ SD8 H' (sds l) D ad (adjOf (bs.take i)))
          ⟨_, rfl, sm0, S8⟩ (fun i σ H' _ p => by obtain ⟨_, _, sm, _⟩ := p; exact sm_t sm hS) ?_ ?_⟩
        · rintro i x σ H5 H6 hi ⟨y3, rfl, sm5, S5⟩ ⟨rfl, hx⟩
          rw [List.getElem?_map, List.getElem?_map] at hx
          obtain ⟨z, hz, rfl⟩ := Option.map_eq_some_iff.mp hx
          obtain ⟨b, hbi, rfl⟩ := Option.map_eq_some_iff.mp hz
          obtain ⟨u, v, rfl, hu, hv, huv⟩ := bar_two (hbar b (List.mem_of_getElem? hbi))
          have hbz : (tx [u, v]).length ≤ sizeLine := by rw [tx_len, sizeLine_eq]; show 2 ≤ 16777216; decide
          have nuv : u ≠ v := fun e => by rw [e] at huv; exact Nat.lt_irrefl _ huv
          have hz1 : ∀ s, (adjOf (bs.take i) s).length ≤ 200 := fun s => by
            have h1 := adj_len (bs.take i) s
            have h2 : (bs.take i).length ≤ 100 := Nat.le_trans (by rw [List.length_take]; exact Nat.min_le_right _ _) hbl
            omega
          have S6 := S5.app (c := swp v) hu
          have S7 := S6.app (c := swp u) hv
          have nH : ∀ s ∈ sds l, ∀ o, Same H H6 → Same H (upd H6 (ad s) o) := fun s hs o z => sm_over z (fr s hs)
          refine ⟨_, rfl, _, rfl, _, _, u, rfl, rfl, hbz, rfl, D, _, rfl, S5.get hu, .inl ⟨rfl, _, SqL.of (S5.at_ u hu)⟩, _, rfl, _, _, v, rfl, rfl, hbz, rfl, v, rfl, sds_asc g hv, ad u, _, _, rfl, rfl, S5.at_ u hu, ?_, ?_⟩
          · rw [List.length_map, List.length_map, sizeLine_eq]
            have := hz1 u
            omega
          · refine ⟨_, rfl, _, rfl, _, _, v, rfl, rfl, hbz, rfl, D, _, rfl, S6.get hv, .inl ⟨rfl, _, SqL.of (S6.at_ v hv)⟩, _, rfl, _, _, u, rfl, rfl, hbz, rfl, u, rfl, sds_asc g hu, ad v, _, _, rfl, rfl, S6.at_ v hv, ?_, ?_⟩
            · rw [if_neg (Ne.symm nuv), List.length_map, List.length_map, sizeLine_eq]
              have := hz1 v
              omega
            · refine ⟨_, rfl, sm_over (sm_over sm5 (fr u hu)) (fr v hv), ?_⟩
              have ea : (fun t => if t = v then (if t = u then adjOf (bs.take i) t ++ [swp v] else adjOf (bs.take i) t) ++ [swp u] else if t = u then adjOf (bs.take i) t ++ [swp v] else adjOf (bs.take i) t) = adjOf (bs.take (i + 1)) := by
                funext t
                rw [adj_snoc bs i t [u, v] hbi]
                show _ = adjOf (bs.take i) t ++ ((if u = t then [swp v] else []) ++ (if v = t then [swp u] else []))
                by_cases e1 : t = u
                · subst e1
                  rw [if_neg nuv, if_pos rfl, if_pos rfl, if_neg (Ne.symm nuv)]
                  simp
                · rw [if_neg e1, if_neg (Ne.symm e1)]
                  by_cases e2 : t = v
                  · subst e2
                    rw [if_pos rfl, if_pos rfl]
                    simp
                  · rw [if_neg e2, if_neg (Ne.symm e2)]
                    simp [e1]
              rw [← ea]
              exact S7
        · rintro σ H5 ⟨y3, rfl, sm5, S5⟩
          rw [List.take_of_length_le (Nat.le_refl _)] at S5
          exact ⟨_, rfl, q H5 D ad sm5 nd0 S5⟩
end
end NC
namespace NC
open PySem PySem.Spec PyProof.Rows L2
abbrev sReached : Stmt := topS 21
theorem scReached : FnScope ["straight", "one", "ahead", "wave", "later", "side", "met"] ["straight", "one"] (defScope sReached) := ⟨rfl, rfl, rfl, by decide +kernel, rfl, by decide +kernel, by decide +kernel⟩
def pV : Option Nat → V
  | none => .non
  | some c => .str (sg c)
def ahK (rs : List (Nat × Option Nat)) : List (Key × V) := rs.map fun r => (Sum.inr (sg r.1), pV r.2)
def kys (rs : List (Nat × Option Nat)) : List Nat := rs.map (·.1)
theorem ahK_no {rs : List (Nat × Option Nat)} {s : Nat} (h : s ∉ kys rs) : valV (ahK rs) (Sum.inr (sg s)) = none := by
  induction rs with
  | nil => rfl
  | cons r t ih =>
    have e : ¬ r.1 = s := fun z => h (by show s ∈ r.1 :: kys t; rw [z]; exact List.mem_cons_self ..)
    exact (valV_neg (p := (Sum.inr (sg r.1), pV r.2)) (fun z => e (sg_inj (Sum.inr.inj z)))).trans (ih fun z => h (List.mem_cons_of_mem _ z))
theorem ahK_some {rs : List (Nat × Option Nat)} {s : Nat} (h : s ∈ kys rs) : ∃ (i : Nat) (p : Option Nat), rs[i]? = some (s, p) ∧ valV (ahK rs) (Sum.inr (sg s)) = some (pV p) := by
  induction rs with
  | nil => cases h
  | cons r t ih =>
    by_cases e : r.1 = s
    · exact ⟨0, r.2, by rw [← e]; rfl, by rw [← e]; exact valV_pos (p := (Sum.inr (sg r.1), pV r.2)) rfl⟩
    · have h2 : s ∈ kys t := by
        rcases List.mem_cons.mp (show s ∈ r.1 :: kys t from h) with z | z
        · exact absurd z.symm e
        · exact z
      obtain ⟨i, p, h3, h4⟩ := ih h2
      exact ⟨i + 1, p, h3, (valV_neg (p := (Sum.inr (sg r.1), pV r.2)) (fun z => e (sg_inj (Sum.inr.inj z)))).trans h4⟩
theorem nd_len : ∀ (a L : List Nat), a.Nodup → (∀ x ∈ a, x ∈ L) → a.length ≤ L.length
  | [], L, _, _ => Nat.zero_le _
  | x :: r, L, hn, hs => by
    obtain ⟨n1, n2⟩ := List.nodup_cons.mp hn
    have m : x ∈ L := hs x (List.mem_cons_self ..)
    have hl := List.length_erase_of_mem m
    have q := nd_len r (L.erase x) n2 fun z hz => (List.mem_erase_of_ne (fun e : z = x => n1 (by rw [← e]; exact hz))).mpr (hs z (List.mem_cons_of_mem _ hz))
    have hp : 0 < L.length := List.length_pos_of_mem m
    rw [List.length_cons]
    omega
/-- the same, to be read alone (the dict may be walked) -/
structure SR8 (H : Hp) (L : List Nat) (d : Addr) (ad : Nat → Addr) (adj : Nat → List Nat) : Prop where
  dk : Rd H d (.dK (stK L ad))
  at_ : ∀ s ∈ L, H (ad s) = some (.lst (((adj s).map sg).map V.str))
theorem SD8.rd {H : Hp} {L : List Nat} {d : Addr} {ad : Nat → Addr} {adj : Nat → List Nat} (S : SD8 H L d ad adj) : SR8 H L d ad adj := ⟨.inl S.dk, S.at_⟩
theorem SR8.same {H H' : Hp} {L : List Nat} {d : Addr} {ad : Nat → Addr} {adj : Nat → List Nat} (S : SR8 H L d ad adj) (e : Same H H') : SR8 H' L d ad adj :=
  ⟨S.dk.elim (fun z => .inl (e _ _ z)) fun ⟨o, z⟩ => .inr ⟨o, e _ _ z⟩, fun s hs => e _ _ (S.at_ s hs)⟩
theorem SR8.get {H : Hp} {L : List Nat} {d : Addr} {ad : Nat → Addr} {adj : Nat → List Nat} (S : SR8 H L d ad adj) {s : Nat} (h : s ∈ L) : DGet H d (.str (sg s)) (some (.ref (ad s))) := by
  rw [← stK_val (ad := ad) h]
  exact .inl ⟨_, Sum.inr (sg s), S.dk, rfl, rfl⟩
structure RsOk (L : List Nat) (adj : Nat → List Nat) (one : Nat) (rs : List (Nat × Option Nat)) : Prop where
  hd : ∃ r, rs = (one, none) :: r
  nd : (kys rs).Nodup
  sub : ∀ s ∈ kys rs, s ∈ L
  par : ∀ (i s : Nat) (p : Option Nat), rs[i]? = some (s, p) → (i = 0 ∧ p = none) ∨ ∃ c j q, p = some c ∧ j < i ∧ rs[j]? = some (c, q) ∧ s ∈ adj c
theorem RsOk.len {L : List Nat} {adj : Nat → List Nat} {one : Nat} {rs : List (Nat × Option Nat)} (h : RsOk L adj one rs) : rs.length ≤ L.length := by
  have := nd_len (kys rs) L h.nd h.sub
  rw [kys, List.length_map] at this
  exact this
theorem RsOk.snoc {L : List Nat} {adj : Nat → List Nat} {one s m : Nat} {rs : List (Nat × Option Nat)} (h : RsOk L adj one rs) (hs : s ∈ kys rs) (hm : m ∈ adj s) (hL : m ∈ L) (hn : m ∉ kys rs) : RsOk L adj one (rs ++ [(m, some s)]) := by
  obtain ⟨r, e⟩ := h.hd
  have ek : kys (rs ++ [(m, some s)]) = kys rs ++ [m] := by simp [kys]
  refine ⟨⟨r ++ [(m, some s)], by rw [e]; rfl⟩, ?_, fun t ht => ?_, fun i t p hi => ?_⟩
  · rw [ek]
    exact nd_snoc h.nd hn
  · rw [ek] at ht
    rcases List.mem_append.mp ht with z | z
    · exact h.sub t z
    · rw [List.mem_singleton.mp z]; exact hL
  · rcases Nat.lt_or_ge i rs.length with hl | hl
    · rw [List.getElem?_append_left hl] at hi
      rcases h.par i t p hi with z | ⟨c, j, q, h1, h2, h3, h4⟩
      · exact .inl z
      · exact .inr ⟨c, j, q, h1, h2, by rw [List.getElem?_append_left (by omega)]; exact h3, h4⟩
    · rw [List.getElem?_append_right hl] at hi
      have hi0 : i - rs.length = 0 := by
        have := (List.getElem?_eq_some_iff.mp hi).1
        simp at this
        omega
      rw [hi0] at hi
      have e2 : (m, some s) = (t, p) := Option.some.inj hi
      cases e2
      obtain ⟨j, q, hj⟩ : ∃ (j : Nat) (q : Option Nat), rs[j]? = some (s, q) := by
        obtain ⟨x, hx, ex⟩ := List.mem_map.mp hs
        obtain ⟨j, hj⟩ := List.getElem?_of_mem hx
        exact ⟨j, x.2, by rw [hj, ← ex]⟩
      have hjl := (List.getElem?_eq_some_iff.mp hj).1
      exact .inr ⟨s, j, q, rfl, by omega, by rw [List.getElem?_append_left hjl]; exact hj, hm⟩
theorem ahK_snoc (rs : List (Nat × Option Nat)) (m s : Nat) (h : m ∉ kys rs) : putK (ahK rs) (Sum.inr (sg m)) (.str (sg s)) = ahK (rs ++ [(m, some s)]) := by
  rw [putK_new _ (ahK_no h)]
  unfold ahK
  rw [List.map_append]
  rfl
inductive Wk (adj : Nat → List Nat) (one : Nat) : Nat → Nat → Prop
  | zero : Wk adj one 0 one
  | step {n s c : Nat} : Wk adj one n s → c ∈ adj s → Wk adj one (n + 1) c
def Dst (adj : Nat → List Nat) (one n s : Nat) : Prop := Wk adj one n s ∧ ∀ m, m < n → ¬ Wk adj one m s
theorem Dst.uniq {adj : Nat → List Nat} {one n m s : Nat} (a : Dst adj one n s) (b : Dst adj one m s) : n = m := by
  rcases Nat.lt_trichotomy n m with h | h | h
  · exact absurd a.1 (b.2 n h)
  · exact h
  · exact absurd b.1 (a.2 m h)
def Lvl (adj : Nat → List Nat) (one : Nat) (rs : List (Nat × Option Nat)) : Prop := ∀ (i s c : Nat), rs[i]? = some (s, some c) → ∃ m, Dst adj one m c ∧ Dst adj one (m + 1) s
def Fil (adj : Nat → List Nat) (one n : Nat) (rs : List (Nat × Option Nat)) : Prop := ∀ m t, m ≤ n → Wk adj one m t → t ∈ kys rs
def Frn (adj : Nat → List Nat) (one n : Nat) (wv : List Nat) : Prop := ∀ t ∈ wv, Dst adj one n t
theorem Dst.zero {adj : Nat → List Nat} {one : Nat} : Dst adj one 0 one := ⟨.zero, fun m h => absurd h (Nat.not_lt_zero _)⟩
theorem Lvl.one {adj : Nat → List Nat} {one : Nat} : Lvl adj one [(one, none)] := fun i s c h => by
  have hi := (List.getElem?_eq_some_iff.mp h).1
  have h0 : i = 0 := by simp at hi; omega
  subst h0
  cases h
theorem Fil.one {adj : Nat → List Nat} {one : Nat} : Fil adj one 0 [(one, none)] := fun m t h w => by
  obtain rfl : m = 0 := by omega
  cases w
  simp [kys]
theorem Frn.one {adj : Nat → List Nat} {one : Nat} : Frn adj one 0 [one] := fun t h => by rw [List.mem_singleton.mp h]; exact .zero
theorem Lvl.snoc {adj : Nat → List Nat} {one n s m : Nat} {rs : List (Nat × Option Nat)} (h : Lvl adj one rs) (a : Dst adj one n s) (b : Dst adj one (n + 1) m) : Lvl adj one (rs ++ [(m, some s)]) := fun i t c hi => by
  rcases Nat.lt_or_ge i rs.length with hl | hl
  · rw [List.getElem?_append_left hl] at hi
    exact h i t c hi
  · rw [List.getElem?_append_right hl] at hi
    have h0 : i - rs.length = 0 := by
      have := (List.getElem?_eq_some_iff.mp hi).1
      simp at this
      omega
    rw [h0] at hi
    cases hi
    exact ⟨n, a, b⟩
theorem Frn.snoc {adj : Nat → List Nat} {one n m : Nat} {wv : List Nat} (h : Frn adj one n wv) (b : Dst adj one n m) : Frn adj one n (wv ++ [m]) := fun t ht => by
  rcases List.mem_append.mp ht with z | z
  · exact h t z
  · rw [List.mem_singleton.mp z]; exact b
theorem Fil.next {adj : Nat → List Nat} {one n : Nat} {rs rs2 : List (Nat × Option Nat)} {lt : List Nat} (f : Fil adj one n rs) (k : ∀ t ∈ kys rs, t ∈ kys rs2) (fr : Frn adj one (n + 1) lt) (cl : ∀ u ∈ kys rs2, u ∉ lt → ∀ c ∈ adj u, c ∈ kys rs2) : Fil adj one (n + 1) rs2 := fun m t hm w => by
  rcases Nat.lt_or_ge n m with h | h
  · obtain rfl : m = n + 1 := by omega
    cases w with
    | step ws ht => exact cl _ (k _ (f n _ (Nat.le_refl _) ws)) (fun z => (fr _ z).2 n (Nat.lt_succ_self _) ws) t ht
  · exact k t (f m t h w)
theorem reach_in {adj : Nat → List Nat} {one : Nat} {rs : List (Nat × Option Nat)} (h0 : one ∈ kys rs) (cl : ∀ s ∈ kys rs, ∀ c ∈ adj s, c ∈ kys rs) {n s : Nat} (w : Wk adj one n s) : s ∈ kys rs := by
  induction w with
  | zero => exact h0
  | step _ hc ih => exact cl _ ih _ hc
section
variable {P : Program} {w : World} {K : PySem.W.Frag} {mg : Str → Option Value} {base : Heap}
def spReached : Sp := fun vs H Q _ => ∃ L d ad adj one, vs = [.ref d, .str (sg one)] ∧ SR8 H L d ad adj ∧ one ∈ L ∧ (∀ s ∈ L, ∀ c ∈ adj s, c ∈ L) ∧ L.length ≤ 24 ∧
  ∀ H' a rs, Same H H' → H a = none → RsOk L adj one rs → (∀ s ∈ kys rs, ∀ c ∈ adj s, c ∈ kys rs) → Lvl adj one rs → H' a = some (.dK (ahK rs)) → Q (.ref a) H'
set_option maxHeartbeats 1000000 in
theorem ok_reached {f : Addr} {fd : FuncData} {k : Nat} (F : Fun K "reached" "reached" sReached f fd) : FnOk P w K mg base CX0 (k + 1) f fd ["straight", "one"] spReached := by
  refine F.ok scReached (fun vs H Q E h => ?_) (fun cdv A outer s H vs Q E hr h => ?_)
  · obtain ⟨L, d, ad, adj, one, rfl, _⟩ := h
    rfl
  · obtain ⟨L, d, ad, adj, one, rfl, S8, hone, hadj, hL, q⟩ := h
    refine ⟨_, pss_cons (ps_set (i := 2) scReached.nd rfl (.inl rfl) (pe_disp (pps_cons (pv 1) pe_non pps_nil) (by rfl) (by rfl) (fun z => by cases z) (by decide)))
      (pss_cons (ps_set (i := 3) scReached.nd rfl (.inl rfl) (pe_lst (pa_cons (pv 1) pa_nil)))
      (pss_cons (ps_while PassesOwn.never (pt_truth (pv 3) (by intro _; rfl))
        (pss_cons (ps_set (i := 4) scReached.nd rfl (.inl rfl) (pe_lst pa_nil))
        (pss_cons (ps_for PassesOwn.never rfl (pi_list (pv 3)) (pg_name (i := 5) scReached.nd rfl (Or.inl rfl))
          (pss_one (ps_for PassesOwn.never rfl (pi_list (pe_dget (hu_of hr) (pv 0) (pv 5) (fun _ _ => rfl))) (pg_name (i := 6) scReached.nd rfl (Or.inl rfl))
            (pss_one (ps_if (pt_cmp (pc_dnotin (hu_of hr) (pv 6) (pv 2)))
              (pss_cons (ps_dput (hu_of hr) (pv 2) (pv 6) (pv 5) rfl)
              (pss_one (ps_expr (pe_bm PySem.F.plainAttrs_list PySem.F.slot_list_append PySem.F.type_list_append mt_append (pv 4) (pa_cons (pv 6) pa_nil))))) pss_nil)))))
        (pss_one (ps_set (i := 3) scReached.nd rfl (.inl rfl) (pv 4))))))
      (pss_one (ps_ret (pv 2))))), ?_⟩
    refine fun A0 nA => ⟨_, rfl, upd_same, [(Sum.inr (sg one), .non)], rfl, by show 1 ≤ 15; decide, ?_⟩
    have eA : upd (upd H A0 (.dK [])) A0 (.dK (mergeK [] [(Sum.inr (sg one), .non)])) = upd H A0 (.dK (ahK [(one, none)])) := by
      rw [L2.upd_upd]
      rfl
    rw [eA]
    refine ⟨_, rfl, by show 1 ≤ sizeLine; decide, fun W0 nW => ?_⟩
    have nAW : A0 ≠ W0 := ne_of_none upd_same nW
    have nW0 : H W0 = none := by
      rw [upd_ne (Ne.symm nAW)] at nW
      exact nW
    -- the while
    refine ⟨fun m σ H' => ∃ rs wv Wd y4 y5 y6, σ = [some (.ref d), some (.str (sg one)), some (.ref A0), some (.ref Wd), y4, y5, y6] ∧ Same H H' ∧ H Wd = none ∧ H' A0 = some (.dK (ahK rs)) ∧ H' Wd = some (.lst ((wv.map sg).map V.str)) ∧
      RsOk L adj one rs ∧ (∀ t ∈ wv, t ∈ kys rs) ∧ wv.length ≤ 24 ∧ (∀ t ∈ kys rs, t ∉ wv → ∀ c ∈ adj t, c ∈ kys rs) ∧ (∃ n, Lvl adj one rs ∧ Fil adj one n rs ∧ Frn adj one n wv) ∧ m = 2 * (24 - rs.length) + (if wv = [] then 0 else 1), ?_, ?_⟩
    · refine ⟨_, [(one, none)], [one], W0, _, _, _, rfl, sm_upd (same_upd nA) nW, nW0, ?_, upd_same, ⟨⟨[], rfl⟩, by simp [kys], fun t ht => ?_, fun i t p hi => ?_⟩, fun t ht => by simpa [kys] using ht, by show 1 ≤ 24; decide, fun t ht hn => ?_, ⟨0, Lvl.one, Fil.one, Frn.one⟩, rfl⟩
      · rw [upd_ne nAW, upd_same]
      · have e : t = one := by simpa [kys] using ht
        rw [e]; exact hone
      · have hi0 : i = 0 := by
          have := (List.getElem?_eq_some_iff.mp hi).1
          simp at this
          omega
        subst hi0
        cases hi
        exact .inl ⟨rfl, rfl⟩
      · have e : t = one := by simpa [kys] using ht
        exact absurd (by simp [e]) hn
    · rintro m σ H1 ⟨rs, wv, Wd, y4, y5, y6, rfl, sm, nWd, eA1, eW, R, hwv, hwl, hdone, ⟨n, LV, FL, FR⟩, rfl⟩
      refine ⟨_, rfl, _, .inl ⟨_, SqL.of eW, rfl⟩, ite2 (fun hne => ?_) (fun he => ?_)⟩
      · -- a turn of the while
        have hw0 : wv ≠ [] := fun z => by
          rw [z] at hne
          exact absurd hne (by decide)
        refine ⟨fun σ' H' => ∃ (rs2 : List (Nat × Option Nat)) (lt : List Nat) (Wd2 : Addr) (y4 y5 y6 : Option V), σ' = [some (.ref d), some (.str (sg one)), some (.ref A0), some (.ref Wd2), y4, y5, y6] ∧ Same H H' ∧ H Wd2 = none ∧ H' A0 = some (.dK (ahK rs2)) ∧ H' Wd2 = some (.lst ((lt.map sg).map V.str)) ∧
          RsOk L adj one rs2 ∧ (∀ t ∈ lt, t ∈ kys rs2) ∧ lt.length ≤ 24 ∧ (∀ t ∈ kys rs2, t ∉ lt → ∀ c ∈ adj t, c ∈ kys rs2) ∧ (∃ n, Lvl adj one rs2 ∧ Fil adj one n rs2 ∧ Frn adj one n lt) ∧ rs2.length = rs.length + lt.length, ?_, ?_⟩
        · rintro σ' H' ⟨rs2, lt, Wd2, y4, y5, y6, h1, h2, h3, h4, h5, h6, h7, h8, h9, hL, h10⟩
          refine ⟨_, ?_, rs2, lt, Wd2, y4, y5, y6, h1, h2, h3, h4, h5, h6, h7, h8, h9, hL, rfl⟩
          have l2 := h6.len
          rw [if_neg hw0]
          by_cases e : lt = []
          · rw [if_pos e, h10, e]
            simp
          · rw [if_neg e, h10]
            have : 0 < lt.length := List.length_pos_iff.mpr e
            omega
        · refine ⟨Nat.zero_le _, fun T nT => ?_⟩
          have nTA : A0 ≠ T := ne_of_none eA1 nT
          have nTW : Wd ≠ T := ne_of_none eW nT
          have nTH : H T = none := L2.Same.free sm nT
          have wk := walk_list (K := K) (a := Wd) (xs := (wv.map sg).map V.str)
          rw [List.length_map, List.length_map] at wk
          refine ⟨_, rfl, Wd, rfl, ⟨_, SqL.of (by rw [upd_ne nTW]; exact eW)⟩, for_it wk (fun i σ H' => ∃ (rs2 : List (Nat × Option Nat)) (lt : List Nat) (y5 y6 : Option V), σ = [some (.ref d), some (.str (sg one)), some (.ref A0), some (.ref Wd), some (.ref T), y5, y6] ∧ Same H H' ∧ H' A0 = some (.dK (ahK rs2)) ∧
            H' Wd = some (.lst ((wv.map sg).map V.str)) ∧ H' T = some (.lst ((lt.map sg).map V.str)) ∧ RsOk L adj one rs2 ∧ rs2.length = rs.length + lt.length ∧ (∀ t ∈ kys rs, t ∈ kys rs2) ∧ (∀ t ∈ lt, t ∈ kys rs2) ∧
            (∀ t ∈ kys rs2, t ∉ lt → t ∉ wv.drop i → ∀ c ∈ adj t, c ∈ kys rs2) ∧ Lvl adj one rs2 ∧ Frn adj one (n + 1) lt)
            ⟨rs, [], _, _, rfl, sm_upd sm nT, by rw [upd_ne nTA]; exact eA1, by rw [upd_ne nTW]; exact eW, upd_same, R, rfl, fun _ h => h, (fun t h => absurd h (by simp)), (fun t h1 _ h2 => hdone t h1 h2), LV, (fun t h => absurd h (by simp))⟩
            (fun i σ H' _ p => by obtain ⟨_, _, _, _, _, _, _, h, _⟩ := p; exact SqL.of h) ?_ ?_⟩
          · rintro i x σ H2 H3 hi ⟨rs2, lt, y5, y6, rfl, s2, a2, w2, t2, R2, len2, k2, lk2, dn2, LV2, FR2⟩ ⟨rfl, hx⟩
            rw [List.getElem?_map, List.getElem?_map] at hx
            obtain ⟨z, hz, rfl⟩ := Option.map_eq_some_iff.mp hx
            obtain ⟨t, ht, rfl⟩ := Option.map_eq_some_iff.mp hz
            have htk : t ∈ kys rs2 := k2 t (hwv t (List.mem_of_getElem? ht))
            have htL : t ∈ L := R2.sub t htk
            have S2 : SR8 H3 L d ad adj := S8.same s2
            have wk3 := walk_list (K := K) (a := ad t) (xs := ((adj t).map sg).map V.str)
            rw [List.length_map, List.length_map] at wk3
            refine ⟨_, rfl, _, rfl, d, _, rfl, S2.get htL, ad t, rfl, ⟨_, SqL.of (S2.at_ t htL)⟩, for_it wk3 (fun j σ H' => ∃ (rs3 : List (Nat × Option Nat)) (lt3 : List Nat) (y6 : Option V), σ = [some (.ref d), some (.str (sg one)), some (.ref A0), some (.ref Wd), some (.ref T), some (.str (sg t)), y6] ∧ Same H H' ∧
              H' A0 = some (.dK (ahK rs3)) ∧ H' Wd = some (.lst ((wv.map sg).map V.str)) ∧ H' T = some (.lst ((lt3.map sg).map V.str)) ∧ RsOk L adj one rs3 ∧ rs3.length = rs.length + lt3.length ∧ (∀ u ∈ kys rs2, u ∈ kys rs3) ∧ (∀ u ∈ lt3, u ∈ kys rs3) ∧
              (∀ u ∈ kys rs3, u ∉ lt3 → u ∉ wv.drop i → ∀ c ∈ adj u, c ∈ kys rs3) ∧ (∀ c ∈ (adj t).take j, c ∈ kys rs3) ∧ Lvl adj one rs3 ∧ Frn adj one (n + 1) lt3)
              ⟨rs2, lt, _, rfl, s2, a2, w2, t2, R2, len2, fun _ h => h, lk2, dn2, (fun _ h => by simp at h), LV2, FR2⟩
              (fun j σ H' _ p => by obtain ⟨_, _, _, _, s3, _⟩ := p; exact SqL.of ((S8.same s3).at_ t htL)) ?_ ?_⟩
            · rintro j x σ H4 H5 hj ⟨rs3, lt3, y6, rfl, s3, a3, w3, t3, R3, len3, k3, lk3, dn3, tk3, LV3, FR3⟩ ⟨rfl, hx⟩
              rw [List.getElem?_map, List.getElem?_map] at hx
              obtain ⟨z, hz, rfl⟩ := Option.map_eq_some_iff.mp hx
              obtain ⟨m, hm, rfl⟩ := Option.map_eq_some_iff.mp hz
              have hma : m ∈ adj t := List.mem_of_getElem? hm
              have hmL : m ∈ L := hadj t htL m hma
              have l3 := R3.len
              have tkS : (adj t).take (j + 1) = (adj t).take j ++ [m] := by rw [List.take_add_one, hm]; rfl
              refine ⟨_, rfl, _, rfl, A0, _, rfl, DGet.k (k := Sum.inr (sg m)) a3, _, rfl, ite2 (fun hn => ?_) (fun hn => ?_)⟩
              · have hmn : m ∉ kys rs3 := fun z => by
                  obtain ⟨_, p, _, e⟩ := ahK_some z
                  rw [e] at hn
                  exact absurd hn Bool.false_ne_true
                have R4 := R3.snoc (k3 t htk) hma hmL hmn
                have dT : Dst adj one n t := FR t (List.mem_of_getElem? ht)
                have dM : Dst adj one (n + 1) m := ⟨.step dT.1 hma, fun j hj w => hmn (k3 m (k2 m (FL j m (by omega) w)))⟩
                have l4 := R4.len
                rw [List.length_append] at l4
                have l4 : rs3.length + 1 ≤ L.length := l4
                have ek : kys (rs3 ++ [(m, some t)]) = kys rs3 ++ [m] := by simp [kys]
                refine ⟨_, rfl, _, rfl, _, rfl, A0, _, rfl, DPut.k (k := Sum.inr (sg m)) a3 (by unfold ahK; rw [List.length_map, sizeLine_eq]; omega), ?_⟩
                rw [ahK_snoc rs3 m t hmn]
                have eT : (upd H5 A0 (.dK (ahK (rs3 ++ [(m, some t)])))) T = some (.lst ((lt3.map sg).map V.str)) := by rw [upd_ne (Ne.symm nTA)]; exact t3
                refine ⟨_, rfl, .inl ⟨rfl, _, SqL.of eT⟩, _, rfl, T, _, _, rfl, rfl, eT, by rw [List.length_map, List.length_map, sizeLine_eq]; omega, ?_⟩
                refine ⟨rs3 ++ [(m, some t)], lt3 ++ [m], _, rfl, sm_over (sm_over s3 nA) nTH, ?_, ?_, ?_, R4, ?_, fun u hu => ?_, fun u hu => ?_, fun u h1 h2 h3 c hc => ?_, fun c hc => ?_, LV3.snoc dT dM, FR3.snoc dM⟩
                · rw [upd_ne nTA, upd_same]
                · rw [upd_ne nTW, upd_ne (ne_of w3 a3 fun z => by cases z)]
                  exact w3
                · rw [upd_same, List.map_append, List.map_append]
                  rfl
                · rw [List.length_append, List.length_append, len3]
                  rfl
                · rw [ek]; exact List.mem_append_left _ (k3 u hu)
                · rw [ek]
                  rcases List.mem_append.mp hu with z | z
                  · exact List.mem_append_left _ (lk3 u z)
                  · exact List.mem_append_right _ z
                · rw [ek] at h1 ⊢
                  have h4 : u ∉ lt3 := fun z => h2 (List.mem_append_left _ z)
                  have h5 : u ∈ kys rs3 := by
                    rcases List.mem_append.mp h1 with z | z
                    · exact z
                    · exact absurd (List.mem_append_right _ z) h2
                  exact List.mem_append_left _ (dn3 u h5 h4 h3 c hc)
                · rw [ek]
                  rw [tkS] at hc
                  rcases List.mem_append.mp hc with z | z
                  · exact List.mem_append_left _ (tk3 c z)
                  · exact List.mem_append_right _ z
              · have hmi : m ∈ kys rs3 := by
                  refine Classical.byContradiction fun z => hn ?_
                  rw [ahK_no z]
                  rfl
                refine ⟨rs3, lt3, _, rfl, s3, a3, w3, t3, R3, len3, k3, lk3, dn3, fun c hc => ?_, LV3, FR3⟩
                rw [tkS] at hc
                rcases List.mem_append.mp hc with z | z
                · exact tk3 c z
                · rw [List.mem_singleton.mp z]; exact hmi
            · rintro σ H4 ⟨rs3, lt3, y6, rfl, s3, a3, w3, t3, R3, len3, k3, lk3, dn3, tk3, LV3, FR3⟩
              rw [List.take_of_length_le (Nat.le_refl _)] at tk3
              refine ⟨rs3, lt3, _, _, rfl, s3, a3, w3, t3, R3, len3, fun u hu => k3 u (k2 u hu), lk3, fun u h1 h2 h3 c hc => ?_, LV3, FR3⟩
              by_cases e : u = t
              · rw [e] at hc
                exact tk3 c hc
              · refine dn3 u h1 h2 (fun z => h3 ?_) c hc
                rw [List.drop_eq_getElem_cons hi] at z
                rcases List.mem_cons.mp z with z | z
                · have e2 : wv[i] = t := by
                    rw [List.getElem?_eq_getElem hi] at ht
                    exact Option.some.inj ht
                  exact absurd (z.trans e2) e
                · exact z
          · rintro σ H4 ⟨rs2, lt, y5, y6, rfl, s2, a2, w2, t2, R2, len2, k2, lk2, dn2, LV2, FR2⟩
            have l2 := R2.len
            exact ⟨_, rfl, rs2, lt, T, _, _, _, rfl, s2, nTH, a2, t2, R2, lk2, by omega, fun u h1 h2 => dn2 u h1 h2 (by simp), ⟨n + 1, LV2, FL.next k2 FR2 (fun u h1 h2 => dn2 u h1 h2 (by simp)), FR2⟩, len2⟩
      · have e : wv = [] := by
          cases wv with
          | nil => rfl
          | cons x r => exact absurd rfl he
        exact ⟨_, rfl, q H1 A0 rs sm nA R (fun t ht => hdone t ht (by rw [e]; simp)) LV eA1⟩
end
end NC
namespace NC
open PySem PySem.Spec PyProof.Rows L2
abbrev sAllF : Stmt := topS 22
theorem scAllF : FnScope ["walls", "bars", "straight", "side"] ["walls", "bars"] (defScope sAllF) := ⟨rfl, rfl, rfl, by decide +kernel, rfl, by decide +kernel, by decide +kernel⟩
def foK (L : List Nat) (fo : Nat → List Nat) : List (Key × V) := L.map fun s => (Sum.inr (sg s), V.str (tx (fo s)))
theorem foK_val {L : List Nat} {fo : Nat → List Nat} {s : Nat} (h : s ∈ L) : valV (foK L fo) (Sum.inr (sg s)) = some (.str (tx (fo s))) := by
  induction L with
  | nil => cases h
  | cons t r ih =>
    by_cases e : t = s
    · subst e
      exact valV_pos (p := (Sum.inr (sg t), V.str (tx (fo t)))) rfl
    · have h2 : s ∈ r := by
        rcases List.mem_cons.mp h with z | z
        · exact absurd z.symm e
        · exact z
      exact (valV_neg (p := (Sum.inr (sg t), V.str (tx (fo t)))) (fun z => e (sg_inj (Sum.inr.inj z)))).trans (ih h2)
theorem foK_no {L : List Nat} {fo : Nat → List Nat} {s : Nat} (h : s ∉ L) : valV (foK L fo) (Sum.inr (sg s)) = none := by
  induction L with
  | nil => rfl
  | cons t r ih =>
    have e : ¬ t = s := fun z => h (by rw [z]; exact List.mem_cons_self ..)
    exact (valV_neg (p := (Sum.inr (sg t), V.str (tx (fo t)))) (fun z => e (sg_inj (Sum.inr.inj z)))).trans (ih fun z => h (List.mem_cons_of_mem _ z))
/-- what a side forces, as all_forced tells it -/
def FoOk (l : List Nat) (adj : Nat → List Nat) (L : List Nat) (fo : Nat → List Nat) : Prop := ∀ s ∈ L, ∃ rs, RsOk (sds l) adj s rs ∧ (∀ t ∈ kys rs, ∀ c ∈ adj t, c ∈ kys rs) ∧ fo s = byW l (ahK rs)
theorem take_new {L : List Nat} (nd : L.Nodup) {i c : Nat} (hc : L[i]? = some c) : c ∉ L.take i := fun hm => by
  obtain ⟨j, hj⟩ := List.getElem?_of_mem hm
  have hji : j < i := by
    have := (List.getElem?_eq_some_iff.mp hj).1
    rw [List.length_take] at this
    omega
  rw [List.getElem?_take_of_lt hji] at hj
  exact absurd ((List.getElem?_inj (List.getElem?_eq_some_iff.mp hj).1 nd).mp (hj.trans hc.symm)) (Nat.ne_of_lt hji)
section
variable {P : Program} {w : World} {K : PySem.W.Frag} {mg : Str → Option Value} {base : Heap}
def spAllF (K : PySem.W.Frag) : Sp := fun vs H Q _ => ∃ l a bs, vs = [.str (tx l), .ref a] ∧ GoodW l ∧ (∀ b ∈ bs, isBar l b = true) ∧ bs.length ≤ 100 ∧ (SqL K H a ((bs.map tx).map V.str) ∨ SqT K H a ((bs.map tx).map V.str)) ∧
  ∀ H' D fo, Same H H' → H D = none → H' D = some (.dK (foK (sds l) fo)) → FoOk l (adjOf bs) (sds l) fo → Q (.ref D) H'
set_option maxHeartbeats 1000000 in
theorem ok_allF {f fT fR fB fS fO : Addr} {fd fdT fdR fdB fdS fdO : FuncData} {k : Nat} (B : BM mg) (F : Fun K "all_forced" "all_forced" sAllF f fd) (T : DF K mg "straight_from" sStraight ["walls", "bars"] fT fdT)
    (R : DF K mg "reached" sReached ["straight", "one"] fR fdR) (Y : DF K mg "by_walls" sByWalls ["walls", "sides"] fB fdB) (S : DF K mg "sides_of" sSides ["walls"] fS fdS) (O : DF K mg "other" sOther ["side"] fO fdO) :
    FnOk P w K mg base CX0 (k + 3) f fd ["walls", "bars"] (spAllF K) := by
  have GT : FnOk P w K mg base CX0 (k + 2) fT fdT ["walls", "bars"] (spStraight K) := ok_straight B T.F S O
  have GR : FnOk P w K mg base CX0 (k + 2) fR fdR ["straight", "one"] spReached := ok_reached R.F
  have GY : FnOk P w K mg base CX0 (k + 2) fB fdB ["walls", "sides"] spByWalls := ok_byWalls B Y.F O
  refine F.ok scAllF (fun vs H Q E h => ?_) (fun cdv A outer s H vs Q E hr h => ?_)
  · obtain ⟨l, a, bs, rfl, _⟩ := h
    rfl
  · obtain ⟨l, a, bs, rfl, g, hbar, hbl, hS, q⟩ := h
    refine ⟨_, pss_cons (ps_set (i := 2) scAllF.nd rfl (.inr rfl) (pe_call GT hr rfl T.g T.F.kp T.b .nil pass0 (pa_cons (pv 0) (pa_cons (pv 1) pa_nil))))
      (pss_one (ps_ret (pe_lock (pe_dc (own := [("side", 3)]) (g := gName 3) (tt := tYes) rfl scAllF.nd (pi_keys (pv 2)) (blkOk_by (N := ["walls", "bars", "straight", "side"]) (sc := defScope sAllF) (by decide +kernel))
        (fun _ _ _ _ _ => pg_name (i := 3) scAllF.nd rfl (Or.inl rfl)) (fun _ _ _ _ _ => pts_nil) (fun _ _ _ _ _ => pv 3)
        (fun _ _ _ _ _ => pe_call GY hr rfl Y.g Y.F.kp Y.b .nil pass0 (pa_cons (pv 0) (pa_cons (pe_call GR hr rfl R.g R.F.kp R.b .nil pass0 (pa_cons (pv 2) (pa_cons (pv 3) pa_nil))) pa_nil))))))), ?_⟩
    refine ⟨_, rfl, _, rfl, l, a, bs, rfl, g, hbar, hbl, hS, fun H1 d ad s1 nd1 S8 => ?_⟩
    refine ⟨d, _, S8.dk, trivial, fun od => ?_⟩
    refine ⟨_, rfl, d, od, rfl, .inl ⟨_, upd_same, fun D nD => ?_⟩⟩
    have ndD : D ≠ d := fun e => by
      rw [e, upd_same] at nD
      cases nD
    have SR : SR8 (upd H1 d (.frz od (.dK (stK (sds l) ad)))) (sds l) d ad (adjOf bs) := ⟨.inr ⟨od, upd_same⟩, fun s hs => by rw [upd_ne (S8.nd hs)]; exact S8.at_ s hs⟩
    have e0 : (upd H1 d (.frz od (.dK (stK (sds l) ad)))) d = some (.frz od (.dK (stK (sds l) ad))) := upd_same
    have s2 : Same H (upd H1 d (.frz od (.dK (stK (sds l) ad)))) := sm_over s1 nd1
    generalize (upd H1 d (.frz od (.dK (stK (sds l) ad)))) = H2 at nD SR e0 s2 ⊢
    have wk := walk_keys (d := d) (o := od) (kvs := stK (sds l) ad)
    have len : (stK (sds l) ad).length = (sds l).length := by unfold stK; rw [List.length_map]
    rw [len] at wk
    have hD0 : H D = none := L2.Same.free s2 nD
    refine dc_it wk (fun i H' => ∃ fo, Same H2 H' ∧ H' D = some (.dK (foK ((sds l).take i) fo)) ∧ FoOk l (adjOf bs) ((sds l).take i) fo)
      ⟨fun _ => [], same_upd nD, upd_same, fun s hs => by simp at hs⟩ (fun i H' _ h => by obtain ⟨_, sm, _⟩ := h; exact sm _ _ e0) ?_ ?_
    · rintro i x H3 H4 hi ⟨fo, sm, eD, ok⟩ ⟨rfl, kk, v, hk, rfl⟩
      unfold stK at hk
      rw [List.getElem?_map] at hk
      obtain ⟨c, hc, e⟩ := Option.map_eq_some_iff.mp hk
      obtain ⟨rfl, rfl⟩ := Prod.mk.inj e
      have hcL : c ∈ sds l := List.mem_of_getElem? hc
      have hnc := take_new (sds_nd g) hc
      have tk : (sds l).take (i + 1) = (sds l).take i ++ [c] := by rw [List.take_add_one, hc]; rfl
      refine ⟨rfl, yes_i ⟨_, rfl, _, rfl, _, rfl, _, rfl, sds l, d, ad, adjOf bs, c, rfl, SR.same sm, hcL, fun s hs c hc => adj_mem g hbar hc, sds_len g, fun H5 r rs s5 nr R5 cl _ er => ?_⟩⟩
      refine ⟨l, r, _, rfl, g, er, fun H6 s6 => ?_⟩
      have e1 : ∀ t ∈ (sds l).take i, (if t = c then byW l (ahK rs) else fo t) = fo t := fun t ht => if_neg fun e => hnc (by rw [← e]; exact ht)
      have eD6 : H6 D = some (.dK (foK ((sds l).take i) fo)) := s6 _ _ (s5 _ _ eD)
      refine ⟨foK ((sds l).take i) fo, Sum.inr (sg c), rfl, eD6, ?_, fun t => if t = c then byW l (ahK rs) else fo t, ?_, ?_, ?_⟩
      · unfold foK
        rw [List.length_map, List.length_take, sizeLine_eq]
        have := sds_len g
        omega
      · exact sm_over (sm_trans (sm_trans sm s5) s6) nD
      · rw [upd_same, putK_new _ (foK_no hnc), tk]
        unfold foK
        rw [List.map_append]
        rw [List.map_congr_left (g := fun s => (Sum.inr (sg s), V.str (tx (if s = c then byW l (ahK rs) else fo s)))) fun t ht => by rw [e1 t ht]]
        simp
      · intro t ht
        rw [tk] at ht
        rcases List.mem_append.mp ht with h | h
        · obtain ⟨rs', a1, a2, a3⟩ := ok t h
          exact ⟨rs', a1, a2, (e1 t h).trans a3⟩
        · obtain rfl := List.mem_singleton.mp h
          exact ⟨rs, R5, cl, if_pos rfl⟩
    · rintro H3 ⟨fo, sm, eD, ok⟩
      rw [List.take_of_length_le (Nat.le_refl _)] at eD ok
      refine ⟨sm _ _ e0, q _ D fo (sm_over (sm_trans s2 sm) nd1) hD0 ?_ ok⟩
      rw [upd_ne ndD]
      exact eD
end
end NC
/-! what forces what, and rooms: bars of two sides, a room as the walls whose small side is stood on -/
namespace NC
open PySem PySem.Spec PyProof.Rows L2
def isLt (c : Nat) : Prop := (97 ≤ c ∧ c ≤ 122) ∨ (65 ≤ c ∧ c ≤ 90)
theorem sds_lt {l : List Nat} (g : GoodW l) {s : Nat} (h : s ∈ sds l) : isLt s := (sds_shape g h).imp (fun z => ⟨z.1, z.2.1⟩) (fun z => ⟨z.1, z.2.1⟩)
theorem swp_small {c : Nat} (h : 97 ≤ c ∧ c ≤ 122) : swp c = c - 32 := by unfold swp; rw [if_pos h]
theorem swp_great {c : Nat} (h : 65 ≤ c ∧ c ≤ 90) : swp c = c + 32 := by unfold swp; rw [if_neg (by omega), if_pos h]
theorem swp_swp {c : Nat} (h : isLt c) : swp (swp c) = c := by
  rcases h with h | h
  · rw [swp_small h, swp_great (by omega)]
    omega
  · rw [swp_great h, swp_small (by omega)]
    omega
theorem isLt.asc {c : Nat} (h : isLt c) : c < 128 := by rcases h with h | h <;> omega
/-- a side forces another -/
def Frc (adj : Nat → List Nat) (s t : Nat) : Prop := ∃ n, Wk adj s n t
theorem Frc.refl {adj : Nat → List Nat} {s : Nat} : Frc adj s s := ⟨0, .zero⟩
theorem Frc.step {adj : Nat → List Nat} {s t u : Nat} (h : Frc adj s t) (k : u ∈ adj t) : Frc adj s u := let ⟨n, w⟩ := h; ⟨n + 1, .step w k⟩
theorem Frc.ind {adj : Nat → List Nat} {s t : Nat} (h : Frc adj s t) {p : Nat → Prop} (h0 : p s) (hs : ∀ a b, p a → b ∈ adj a → p b) : p t := by
  obtain ⟨n, w⟩ := h
  induction w with
  | zero => exact h0
  | step _ k ih => exact hs _ _ ih k
theorem Frc.trans {adj : Nat → List Nat} {s t u : Nat} (a : Frc adj s t) (b : Frc adj t u) : Frc adj s u := b.ind (p := fun x => Frc adj s x) a fun _ _ h k => h.step k
theorem adj_iff {l : List Nat} (g : GoodW l) {bs : List (List Nat)} (hb : ∀ b ∈ bs, isBar l b = true) {a b : Nat} (h : isLt b) : b ∈ adjOf bs a ↔ [a, swp b] ∈ bs ∨ [swp b, a] ∈ bs := by
  constructor
  · intro z
    obtain ⟨c, hc, z⟩ := List.mem_flatMap.mp z
    obtain ⟨x, y, rfl, hx, hy, _⟩ := bar_two (hb c hc)
    have z : b ∈ (if x = a then [swp y] else []) ++ (if y = a then [swp x] else []) := z
    rcases List.mem_append.mp z with z | z
    · split at z
      · rename_i e
        rw [List.mem_singleton.mp z, swp_swp (sds_lt g hy), ← e]
        exact .inl hc
      · cases z
    · split at z
      · rename_i e
        rw [List.mem_singleton.mp z, swp_swp (sds_lt g hx), ← e]
        exact .inr hc
      · cases z
  · rintro (z | z)
    · refine List.mem_flatMap.mpr ⟨_, z, ?_⟩
      show b ∈ (if a = a then [swp (swp b)] else []) ++ _
      rw [if_pos rfl, swp_swp h]
      exact List.mem_append_left _ (List.mem_singleton.mpr rfl)
    · refine List.mem_flatMap.mpr ⟨_, z, ?_⟩
      show b ∈ _ ++ (if a = a then [swp (swp b)] else [])
      rw [if_pos rfl, swp_swp h]
      exact List.mem_append_right _ (List.mem_singleton.mpr rfl)
theorem adj_back {l : List Nat} (g : GoodW l) {bs : List (List Nat)} (hb : ∀ b ∈ bs, isBar l b = true) {a b : Nat} (ha : a ∈ sds l) (h : b ∈ adjOf bs a) : swp a ∈ adjOf bs (swp b) := by
  have hbL := adj_mem g hb h
  refine (adj_iff g hb (sds_lt g (sds_swp g ha))).mpr ?_
  rw [swp_swp (sds_lt g ha)]
  exact ((adj_iff g hb (sds_lt g hbL)).mp h).symm
section
variable {l : List Nat} (g : GoodW l) {bs : List (List Nat)} (hb : ∀ b ∈ bs, isBar l b = true)
include g hb
theorem Frc.mem {s t : Nat} (hs : s ∈ sds l) (h : Frc (adjOf bs) s t) : t ∈ sds l := h.ind (p := fun x => x ∈ sds l) hs fun _ _ _ k => adj_mem g hb k
theorem Frc.back {s t : Nat} (hs : s ∈ sds l) (h : Frc (adjOf bs) s t) : Frc (adjOf bs) (swp t) (swp s) := by
  have q := h.ind (p := fun x => x ∈ sds l ∧ Frc (adjOf bs) (swp x) (swp s)) ⟨hs, .refl⟩ fun a b hab k => ⟨adj_mem g hb k, (Frc.refl.step (adj_back g hb hab.1 k)).trans hab.2⟩
  exact q.2
/-- both sides of one wall: then the other side of what forces them -/
theorem Frc.torn {s t : Nat} (hs : s ∈ sds l) (a : Frc (adjOf bs) s t) (b : Frc (adjOf bs) s (swp t)) : Frc (adjOf bs) s (swp s) := by
  have q := Frc.back g hb hs b
  rw [swp_swp (sds_lt g (Frc.mem g hb hs a))] at q
  exact a.trans q
end
/-! ### rooms -/
/-- where one stands who stands on the small sides of p: whether on a side -/
def val (p : Nat → Bool) (s : Nat) : Bool := if s ≤ 90 then !p (s + 32) else p s
theorem val_swp {p : Nat → Bool} {s : Nat} (h : isLt s) : val p (swp s) = !val p s := by
  rcases h with h | h
  · rw [swp_small h]
    unfold val
    rw [if_pos (by omega), if_neg (by omega), show s - 32 + 32 = s by omega]
  · rw [swp_great h]
    unfold val
    rw [if_neg (by omega), if_pos (by omega), Bool.not_not]
def Sat (bs : List (List Nat)) (p : Nat → Bool) : Prop := ∀ x y, [x, y] ∈ bs → ¬ (val p x = true ∧ val p y = true)
section
variable {l : List Nat} (g : GoodW l) {bs : List (List Nat)} (hb : ∀ b ∈ bs, isBar l b = true)
include g hb
theorem Sat.adj {p : Nat → Bool} (h : Sat bs p) {a b : Nat} (ha : val p a = true) (k : b ∈ adjOf bs a) : val p b = true := by
  have hl := sds_lt g (adj_mem g hb k)
  have e : val p (swp b) = false := by
    rcases (adj_iff g hb hl).mp k with z | z
    · have := h _ _ z
      simpa [ha] using this
    · have := h _ _ z
      simpa [ha] using this
  rw [val_swp hl] at e
  simpa using e
theorem Sat.frc {p : Nat → Bool} (h : Sat bs p) {s t : Nat} (ha : val p s = true) (k : Frc (adjOf bs) s t) : val p t = true := k.ind (p := fun x => val p x = true) ha fun _ _ q z => h.adj g hb q z
/-- what s forces, written over a room -/
theorem Sat.over {p : Nat → Bool} (h : Sat bs p) {s : Nat} (hs : s ∈ sds l) (nf : ¬ Frc (adjOf bs) s (swp s)) : ∃ p', Sat bs p' ∧ (∀ t ∈ sds l, Frc (adjOf bs) s t → val p' t = true) ∧ ∀ t ∈ sds l, ¬ Frc (adjOf bs) s (swp t) → val p t = true → val p' t = true := by
  classical
  let p' : Nat → Bool := fun c => if Frc (adjOf bs) s c then true else if Frc (adjOf bs) s (c - 32) then false else p c
  have cons : ∀ t, Frc (adjOf bs) s t → ¬ Frc (adjOf bs) s (swp t) := fun t a b => nf (Frc.torn g hb hs a b)
  have ev : ∀ t ∈ sds l, val p' t = if Frc (adjOf bs) s t then true else if Frc (adjOf bs) s (swp t) then false else val p t := fun t ht => by
    rcases sds_lt g ht with z | z
    · have e1 : val p' t = p' t := by unfold val; rw [if_neg (by omega)]
      have e2 : val p t = p t := by unfold val; rw [if_neg (by omega)]
      rw [e1, e2, swp_small z]
    · have e1 : val p' t = !p' (t + 32) := by unfold val; rw [if_pos (by omega)]
      have e2 : val p t = !p (t + 32) := by unfold val; rw [if_pos (by omega)]
      rw [e1, e2]
      have hsw : swp t = t + 32 := swp_great z
      show (!(if Frc (adjOf bs) s (t + 32) then true else if Frc (adjOf bs) s (t + 32 - 32) then false else p (t + 32))) = _
      rw [show t + 32 - 32 = t by omega, ← hsw]
      by_cases a : Frc (adjOf bs) s t
      · rw [if_neg (cons t a), if_pos a, if_pos a]
        rfl
      · rw [if_neg a, if_neg a]
        by_cases b : Frc (adjOf bs) s (swp t)
        · rw [if_pos b, if_pos b]
          rfl
        · rw [if_neg b, if_neg b]
  refine ⟨p', fun x y hxy => ?_, fun t ht a => by rw [ev t ht, if_pos a], fun t ht a b => ?_⟩
  · rintro ⟨vx, vy⟩
    obtain ⟨x', y', e, hx, hy, _⟩ := bar_two (hb _ hxy)
    obtain ⟨rfl, rfl⟩ : x = x' ∧ y = y' := by simpa using e
    have kx : swp y ∈ adjOf bs x := (adj_iff g hb (sds_lt g (sds_swp g hy))).mpr (by rw [swp_swp (sds_lt g hy)]; exact .inl hxy)
    have ky : swp x ∈ adjOf bs y := (adj_iff g hb (sds_lt g (sds_swp g hx))).mpr (by rw [swp_swp (sds_lt g hx)]; exact .inr hxy)
    rw [ev x hx] at vx
    rw [ev y hy] at vy
    by_cases a : Frc (adjOf bs) s x
    · have q := a.step kx
      by_cases b : Frc (adjOf bs) s y
      · exact cons y b q
      · rw [if_neg b, if_pos q] at vy
        cases vy
    · rw [if_neg a] at vx
      by_cases a2 : Frc (adjOf bs) s (swp x)
      · rw [if_pos a2] at vx
        cases vx
      · rw [if_neg a2] at vx
        by_cases b : Frc (adjOf bs) s y
        · exact a2 (b.step ky)
        · rw [if_neg b] at vy
          by_cases b2 : Frc (adjOf bs) s (swp y)
          · rw [if_pos b2] at vy
            cases vy
          · rw [if_neg b2] at vy
            exact h x y hxy ⟨vx, vy⟩
  · rw [ev t ht]
    by_cases c : Frc (adjOf bs) s t
    · rw [if_pos c]
    · rw [if_neg c, if_neg a]
      exact b
/-- a hall of which no side forces its other one has a room -/
theorem sat_of (nf : ∀ s ∈ sds l, ¬ Frc (adjOf bs) s (swp s)) : ∃ p, Sat bs p := by
  classical
  have go : ∀ w : List Nat, (∀ c ∈ w, c ∈ l) → ∃ A : Nat → Prop, (∀ x, A x → x ∈ sds l) ∧ (∀ x y, A x → y ∈ adjOf bs x → A y) ∧ (∀ x, A x → ¬ A (swp x)) ∧ ∀ c ∈ w, A c ∨ A (swp c) := by
    intro w
    induction w with
    | nil => exact fun _ => ⟨fun _ => False, fun _ h => h.elim, fun _ _ h => h.elim, fun _ h => h.elim, fun _ h => absurd h (by simp)⟩
    | cons c r ih =>
      intro hw
      obtain ⟨A, a1, a2, a3, a4⟩ := ih fun d hd => hw d (List.mem_cons_of_mem _ hd)
      have hc : c ∈ sds l := sds_of_small (hw c (List.mem_cons_self ..))
      by_cases hd : A c ∨ A (swp c)
      · refine ⟨A, a1, a2, a3, fun d hd2 => ?_⟩
        rcases List.mem_cons.mp hd2 with e | e
        · rw [e]; exact hd
        · exact a4 d e
      · have a2' : ∀ x y, A x → Frc (adjOf bs) x y → A y := fun x y hx k => k.ind (p := A) hx fun _ _ q z => a2 _ _ q z
        refine ⟨fun x => A x ∨ Frc (adjOf bs) c x, fun x h => h.elim (a1 x) fun k => Frc.mem g hb hc k, fun x y h k => h.imp (fun h => a2 x y h k) fun h => h.step k, fun x h h2 => ?_, fun d hd2 => ?_⟩
        · rcases h with h | h
          · rcases h2 with h2 | h2
            · exact a3 x h h2
            · have q := Frc.back g hb hc h2
              rw [swp_swp (sds_lt g (a1 x h))] at q
              exact hd (.inr (a2' x _ h q))
          · rcases h2 with h2 | h2
            · have q := Frc.back g hb hc h
              exact hd (.inr (a2' _ _ h2 q))
            · exact nf c hc (Frc.torn g hb hc h h2)
        · rcases List.mem_cons.mp hd2 with e | e
          · rw [e]; exact .inl (.inr .refl)
          · exact (a4 d e).imp .inl .inl
  obtain ⟨A, a1, a2, a3, a4⟩ := go l fun _ h => h
  have ev : ∀ s ∈ sds l, val (fun c => decide (A c)) s = true → A s := fun s hs v => by
    rcases sds_shape g hs with z | z
    · unfold val at v
      rw [if_neg (by omega)] at v
      exact of_decide_eq_true v
    · unfold val at v
      rw [if_pos (by omega)] at v
      have n : ¬ A (s + 32) := by simpa using v
      rcases a4 _ z.2.2 with q | q
      · exact absurd q n
      · rw [swp_small (by omega), show s + 32 - 32 = s by omega] at q
        exact q
  refine ⟨fun c => decide (A c), fun x y hxy => ?_⟩
  rintro ⟨vx, vy⟩
  obtain ⟨x', y', e, hx, hy, _⟩ := bar_two (hb _ hxy)
  obtain ⟨rfl, rfl⟩ : x = x' ∧ y = y' := by simpa using e
  have kx : swp y ∈ adjOf bs x := (adj_iff g hb (sds_lt g (sds_swp g hy))).mpr (by rw [swp_swp (sds_lt g hy)]; exact .inl hxy)
  exact a3 y (ev y hy vy) (a2 x _ (ev x hx vx) kx)
/-- a side is in some room just where it doesn't force its other one, if there is a room -/
theorem fix_iff {p0 : Nat → Bool} (h0 : Sat bs p0) {s : Nat} (hs : s ∈ sds l) : Frc (adjOf bs) s (swp s) ↔ ∀ p, Sat bs p → val p s = false := by
  constructor
  · intro k p hp
    cases hv : val p s with
    | false => rfl
    | true =>
      have q := hp.frc g hb hv k
      rw [val_swp (sds_lt g hs), hv] at q
      cases q
  · intro h
    refine Classical.byContradiction fun nf => ?_
    obtain ⟨p', hp, k, _⟩ := h0.over g hb hs nf
    have q := h p' hp
    rw [k s hs .refl] at q
    cases q
/-- two sides go together in all rooms just where they force one another, if no side forces its other one -/
theorem alike_iff (nf : ∀ s ∈ sds l, ¬ Frc (adjOf bs) s (swp s)) {s t : Nat} (hs : s ∈ sds l) (ht : t ∈ sds l) : (Frc (adjOf bs) s t ∧ Frc (adjOf bs) t s) ↔ ∀ p, Sat bs p → val p s = val p t := by
  have one : ∀ {a b : Nat}, a ∈ sds l → b ∈ sds l → (∀ p, Sat bs p → val p a = true → val p b = true) → Frc (adjOf bs) a b := fun {a b} ha hb2 h => by
    refine Classical.byContradiction fun n => ?_
    obtain ⟨p0, h0⟩ := sat_of g hb nf
    obtain ⟨p1, h1, k1, _⟩ := h0.over g hb ha (nf a ha)
    have hbs := sds_swp g hb2
    obtain ⟨p2, h2, k2, k3⟩ := h1.over g hb hbs (nf _ hbs)
    have va : val p2 a = true := k3 a ha (fun z => n (by
      have q := Frc.back g hb hbs z
      rw [swp_swp (sds_lt g ha), swp_swp (sds_lt g hb2)] at q
      exact q)) (k1 a ha .refl)
    have vb := h p2 h2 va
    have vb2 := k2 _ hbs .refl
    rw [val_swp (sds_lt g hb2), vb] at vb2
    cases vb2
  constructor
  · rintro ⟨a, b⟩ p hp
    cases hv : val p s with
    | true => exact (hp.frc g hb hv a).symm
    | false =>
      cases hw : val p t with
      | false => rfl
      | true =>
        have := hp.frc g hb hw b
        rw [hv] at this
        cases this
  · exact fun h => ⟨one hs ht fun p hp v => (h p hp).symm.trans v, one ht hs fun p hp v => (h p hp).trans v⟩
end
end NC
/-! rooms as lists of sides; what is said of a hall: by what forces what, and by its rooms -/
namespace NC
open PySem PySem.Spec PyProof.Rows L2
def rmOf (l : List Nat) (p : Nat → Bool) : List Nat := l.map fun c => if p c then c else upc c
def allT (l : List Nat) : Nat → List (List Nat)
  | 0 => [[]]
  | k + 1 => (allT l k).flatMap fun r => [r ++ [upc (l.getD k 0)], r ++ [l.getD k 0]]
def inR (b r : List Nat) : Bool := b.all fun s => decide (s ∈ r)
def rms (l : List Nat) (bs : List (List Nat)) : List (List Nat) := (allT l l.length).filter fun r => !bs.any fun b => inR b r
theorem allT_len (l : List Nat) : ∀ k, (allT l k).length = 2 ^ k
  | 0 => rfl
  | k + 1 => by
    have h : ∀ xs : List (List Nat), (xs.flatMap fun r => [r ++ [upc (l.getD k 0)], r ++ [l.getD k 0]]).length = 2 * xs.length := fun xs => by
      induction xs with
      | nil => rfl
      | cons x r ih =>
        have e : (x :: r).length = r.length + 1 := rfl
        rw [List.flatMap_cons, List.length_append, ih, e]
        show 2 + 2 * r.length = _
        omega
    show ((allT l k).flatMap _).length = _
    rw [h, allT_len l k, Nat.pow_succ, Nat.mul_comm]
theorem allT_mem {l : List Nat} (nd : l.Nodup) : ∀ {k : Nat}, k ≤ l.length → ∀ r, r ∈ allT l k ↔ ∃ p, r = rmOf (l.take k) p
  | 0, _, r => by
    show r ∈ [[]] ↔ _
    rw [List.mem_singleton]
    exact ⟨fun e => ⟨fun _ => true, by rw [e]; simp [rmOf]⟩, fun ⟨p, e⟩ => by rw [e]; simp [rmOf]⟩
  | k + 1, hk, r => by
    have hkl : k < l.length := hk
    have ec : l.getD k 0 = l[k] := by simp [List.getD, hkl]
    have et : l.take (k + 1) = l.take k ++ [l[k]] := by rw [List.take_add_one, List.getElem?_eq_getElem hkl]; rfl
    have hn : l[k] ∉ l.take k := take_new nd (List.getElem?_eq_getElem hkl)
    show r ∈ (allT l k).flatMap _ ↔ _
    rw [List.mem_flatMap, ec, et]
    constructor
    · rintro ⟨q, hq, hr⟩
      obtain ⟨p, rfl⟩ := (allT_mem nd (Nat.le_of_lt hkl) q).mp hq
      have same : ∀ b : Bool, rmOf (l.take k) (fun x => if x = l[k] then b else p x) = rmOf (l.take k) p := fun b => List.map_congr_left fun c hc => by
        have : c ≠ l[k] := fun e => hn (by rw [← e]; exact hc)
        show (if (if c = l[k] then b else p c) = true then c else upc c) = _
        rw [if_neg this]
      simp only [List.mem_cons, List.not_mem_nil, or_false] at hr
      rcases hr with rfl | rfl
      · refine ⟨fun x => if x = l[k] then false else p x, ?_⟩
        show _ = (l.take k ++ [l[k]]).map _
        rw [List.map_append]
        show _ = rmOf (l.take k) _ ++ _
        rw [same false]
        simp
      · refine ⟨fun x => if x = l[k] then true else p x, ?_⟩
        show _ = (l.take k ++ [l[k]]).map _
        rw [List.map_append]
        show _ = rmOf (l.take k) _ ++ _
        rw [same true]
        simp
    · rintro ⟨p, rfl⟩
      refine ⟨rmOf (l.take k) p, (allT_mem nd (Nat.le_of_lt hkl) _).mpr ⟨p, rfl⟩, ?_⟩
      have e : rmOf (l.take k ++ [l[k]]) p = rmOf (l.take k) p ++ [if p l[k] then l[k] else upc l[k]] := by
        unfold rmOf
        rw [List.map_append]
        rfl
      rw [e]
      by_cases h : p l[k] = true
      · rw [if_pos h]; simp
      · rw [if_neg h]; simp
theorem rm_mem {l : List Nat} (g : GoodW l) {p : Nat → Bool} {s : Nat} (hs : s ∈ sds l) : s ∈ rmOf l p ↔ val p s = true := by
  unfold rmOf
  rw [List.mem_map]
  rcases sds_shape g hs with z | z
  · have ev : val p s = p s := by unfold val; rw [if_neg (by omega)]
    rw [ev]
    constructor
    · rintro ⟨c, hc, e⟩
      have h1 := g.sm c hc
      by_cases h : p c = true
      · rw [if_pos h] at e
        rw [← e]; exact h
      · rw [if_neg h, upc_small h1] at e
        omega
    · intro h
      exact ⟨s, z.2.2, by rw [if_pos h]⟩
  · have ev : val p s = !p (s + 32) := by unfold val; rw [if_pos (by omega)]
    rw [ev]
    constructor
    · rintro ⟨c, hc, e⟩
      have h1 := g.sm c hc
      by_cases h : p c = true
      · rw [if_pos h] at e
        omega
      · rw [if_neg h, upc_small h1] at e
        rw [show s + 32 = c by omega]
        simpa using h
    · intro h
      refine ⟨s + 32, z.2.2, ?_⟩
      rw [if_neg (by simpa using h), upc_small (by omega)]
      omega
theorem rm_asc {l : List Nat} (g : GoodW l) {p : Nat → Bool} {s : Nat} (hs : s ∈ rmOf l p) : s ∈ sds l := by
  obtain ⟨c, hc, e⟩ := List.mem_map.mp hs
  by_cases h : p c = true
  · rw [if_pos h] at e
    rw [← e]; exact sds_of_small hc
  · rw [if_neg h, upc_small (g.sm c hc)] at e
    rw [← e]; exact sds_of_great g hc
theorem rms_mem {l : List Nat} (g : GoodW l) {bs : List (List Nat)} (hb : ∀ b ∈ bs, isBar l b = true) (r : List Nat) : r ∈ rms l bs ↔ ∃ p, r = rmOf l p ∧ Sat bs p := by
  have key : ∀ p, (!bs.any fun b => inR b (rmOf l p)) = true ↔ Sat bs p := fun p => by
    rw [Bool.not_eq_true', List.any_eq_false]
    constructor
    · intro h x y hxy
      rintro ⟨vx, vy⟩
      obtain ⟨x', y', e, hx, hy, _⟩ := bar_two (hb _ hxy)
      obtain ⟨rfl, rfl⟩ : x = x' ∧ y = y' := by simpa using e
      refine h _ hxy ?_
      simp [inR, (rm_mem g hx).mpr vx, (rm_mem g hy).mpr vy]
    · intro h b hbb hr
      obtain ⟨x, y, rfl, hx, hy, _⟩ := bar_two (hb _ hbb)
      simp [inR] at hr
      exact h x y hbb ⟨(rm_mem g hx).mp hr.1, (rm_mem g hy).mp hr.2⟩
  unfold rms
  rw [List.mem_filter, allT_mem g.nd (Nat.le_refl _), List.take_length]
  constructor
  · rintro ⟨⟨p, rfl⟩, h⟩
    exact ⟨p, rfl, (key p).mp h⟩
  · rintro ⟨p, rfl, h⟩
    exact ⟨⟨p, rfl⟩, (key p).mpr h⟩
/-! ### what is said of a hall -/
inductive Vd
  | ok
  | fixed (s : Nat)
  | alike (s t : Nat)
def vdOf (L : List Nat) (fx : Nat → Bool) (al : Nat → Nat → Bool) : Vd := match L.find? fx with
  | some s => .fixed s
  | none => match L.findSome? fun s => (L.find? (al s)).map fun t => (s, t) with
    | some p => .alike p.1 p.2
    | none => .ok
theorem find_congr {α : Type} {L : List α} {p q : α → Bool} (h : ∀ x ∈ L, p x = q x) : L.find? p = L.find? q := by
  induction L with
  | nil => rfl
  | cons x r ih =>
    rw [List.find?_cons, List.find?_cons, h x (List.mem_cons_self ..), ih fun y hy => h y (List.mem_cons_of_mem _ hy)]
theorem findS_congr {α β : Type} {L : List α} {p q : α → Option β} (h : ∀ x ∈ L, p x = q x) : L.findSome? p = L.findSome? q := by
  induction L with
  | nil => rfl
  | cons x r ih =>
    rw [List.findSome?_cons, List.findSome?_cons, h x (List.mem_cons_self ..), ih fun y hy => h y (List.mem_cons_of_mem _ hy)]
theorem find_at {α : Type} : ∀ {L : List α} {p : α → Bool} {i : Nat} {s : α}, L[i]? = some s → (∀ j t, j < i → L[j]? = some t → p t = false) → p s = true → L.find? p = some s
  | [], p, i, s, h, _, _ => by simp at h
  | x :: r, p, 0, s, h, _, hs => by
    cases h
    rw [List.find?_cons, hs]
  | x :: r, p, i + 1, s, h, hn, hs => by
    rw [List.find?_cons, hn 0 x (Nat.succ_pos _) rfl]
    exact find_at (L := r) (i := i) h (fun j t hj ht => hn (j + 1) t (by omega) ht) hs
theorem findS_at {α β : Type} : ∀ {L : List α} {p : α → Option β} {i : Nat} {s : α} {v : β}, L[i]? = some s → (∀ j t, j < i → L[j]? = some t → p t = none) → p s = some v → L.findSome? p = some v
  | [], p, i, s, v, h, _, _ => by simp at h
  | x :: r, p, 0, s, v, h, _, hs => by
    cases h
    rw [List.findSome?_cons, hs]
  | x :: r, p, i + 1, s, v, h, hn, hs => by
    rw [List.findSome?_cons, hn 0 x (Nat.succ_pos _) rfl]
    exact findS_at (L := r) (i := i) h (fun j t hj ht => hn (j + 1) t (by omega) ht) hs
theorem find_no {α : Type} {L : List α} {p : α → Bool} (h : ∀ j t, j < L.length → L[j]? = some t → p t = false) : L.find? p = none := List.find?_eq_none.mpr fun x hx => by
  obtain ⟨j, hj, e⟩ := List.getElem_of_mem hx
  rw [h j x hj (by rw [List.getElem?_eq_getElem hj, e])]
  decide
theorem findS_no {α β : Type} {L : List α} {p : α → Option β} (h : ∀ j t, j < L.length → L[j]? = some t → p t = none) : L.findSome? p = none := List.findSome?_eq_none_iff.mpr fun x hx => by
  obtain ⟨j, hj, e⟩ := List.getElem_of_mem hx
  exact h j x hj (by rw [List.getElem?_eq_getElem hj, e])
/-- by what forces what: fo s are the sides that s forces -/
def fxP (fo : Nat → List Nat) (s : Nat) : Bool := decide (swp s ∈ fo s)
def alP (fo : Nat → List Nat) (s m : Nat) : Bool := decide (m ∈ fo s) && (decide (m ≠ s) && decide (s ∈ fo m))
/-- by the rooms; fo only where there is none -/
def fxL (l : List Nat) (bs : List (List Nat)) (fo : Nat → List Nat) (s : Nat) : Bool := if rms l bs = [] then decide (swp s ∈ fo s) else !(rms l bs).any fun r => decide (s ∈ r)
def alL (l : List Nat) (bs : List (List Nat)) (s t : Nat) : Bool := decide (lwc s ≠ lwc t) && (rms l bs).all fun r => decide (decide (s ∈ r) = decide (t ∈ r))
theorem same_wall {l : List Nat} (g : GoodW l) {s t : Nat} (hs : s ∈ sds l) (ht : t ∈ sds l) (e : lwc s = lwc t) : t = s ∨ t = swp s := by
  rcases sds_lt g hs with a | a <;> rcases sds_lt g ht with b | b <;> unfold lwc at e
  · rw [if_neg (by omega), if_neg (by omega)] at e
    exact .inl e.symm
  · rw [if_neg (by omega), if_pos b] at e
    rw [swp_small a]
    exact .inr (by omega)
  · rw [if_pos a, if_neg (by omega)] at e
    rw [swp_great a]
    exact .inr e.symm
  · rw [if_pos a, if_pos b] at e
    exact .inl (by omega)
theorem vd_same {l : List Nat} (g : GoodW l) {bs : List (List Nat)} (hb : ∀ b ∈ bs, isBar l b = true) {fo fo' : Nat → List Nat} (hf : ∀ s ∈ sds l, ∀ t, t ∈ fo s ↔ Frc (adjOf bs) s t) (hf' : ∀ s ∈ sds l, ∀ t, t ∈ fo' s ↔ Frc (adjOf bs) s t) :
    vdOf (sds l) (fxP fo) (alP fo) = vdOf (sds l) (fxL l bs fo') (alL l bs) := by
  have mr := rms_mem g hb
  have ne : ∀ {p0 : Nat → Bool}, Sat bs p0 → rms l bs ≠ [] := fun {p0} h0 z => by
    have := (mr _).mpr ⟨p0, rfl, h0⟩
    rw [z] at this
    cases this
  have fx : ∀ s ∈ sds l, fxP fo s = fxL l bs fo' s := fun s hs => by
    unfold fxP fxL
    rw [Bool.eq_iff_iff, decide_eq_true_eq, hf s hs]
    by_cases hr : rms l bs = []
    · rw [if_pos hr, decide_eq_true_eq, hf' s hs]
    · rw [if_neg hr, Bool.not_eq_true', List.any_eq_false]
      obtain ⟨r0, hr0⟩ := List.exists_mem_of_ne_nil _ hr
      obtain ⟨p0, _, h0⟩ := (mr r0).mp hr0
      rw [fix_iff g hb h0 hs]
      constructor
      · intro h r hrm hd
        obtain ⟨p, rfl, hp⟩ := (mr r).mp hrm
        have := (rm_mem g hs).mp (of_decide_eq_true hd)
        rw [h p hp] at this
        cases this
      · intro h p hp
        cases hv : val p s with
        | false => rfl
        | true => exact absurd (decide_eq_true ((rm_mem g hs).mpr hv)) (h _ ((mr _).mpr ⟨p, rfl, hp⟩))
  unfold vdOf
  rw [find_congr fx]
  cases h1 : (sds l).find? (fxL l bs fo') with
  | some s => rfl
  | none =>
    have nf : ∀ s ∈ sds l, ¬ Frc (adjOf bs) s (swp s) := fun s hs k => by
      have := List.find?_eq_none.mp h1 s hs
      rw [← fx s hs] at this
      exact this (decide_eq_true ((hf s hs _).mpr k))
    have al : ∀ s ∈ sds l, ∀ t ∈ sds l, alP fo s t = alL l bs s t := fun s hs t ht => by
      unfold alP alL
      rw [Bool.eq_iff_iff, Bool.and_eq_true, Bool.and_eq_true, Bool.and_eq_true, decide_eq_true_eq, decide_eq_true_eq, decide_eq_true_eq, decide_eq_true_eq, List.all_eq_true, hf s hs, hf t ht]
      constructor
      · rintro ⟨a, b, c⟩
        refine ⟨fun e => ?_, fun r hr => ?_⟩
        · rcases same_wall g hs ht e with z | z
          · exact b z
          · rw [z] at a
            exact nf s hs a
        · obtain ⟨p, rfl, hp⟩ := (mr r).mp hr
          have q := (alike_iff g hb nf hs ht).mp ⟨a, c⟩ p hp
          have e1 : decide (s ∈ rmOf l p) = val p s := by rw [Bool.eq_iff_iff, decide_eq_true_eq]; exact rm_mem g hs
          have e2 : decide (t ∈ rmOf l p) = val p t := by rw [Bool.eq_iff_iff, decide_eq_true_eq]; exact rm_mem g ht
          rw [e1, e2, q]
          simp
      · rintro ⟨a, b⟩
        have q := (alike_iff g hb nf hs ht).mpr fun p hp => by
          have z := of_decide_eq_true (b _ ((mr _).mpr ⟨p, rfl, hp⟩))
          have e1 : decide (s ∈ rmOf l p) = val p s := by rw [Bool.eq_iff_iff, decide_eq_true_eq]; exact rm_mem g hs
          have e2 : decide (t ∈ rmOf l p) = val p t := by rw [Bool.eq_iff_iff, decide_eq_true_eq]; exact rm_mem g ht
          rw [e1, e2] at z
          exact z
        exact ⟨q.1, fun e => a (by rw [e]), q.2⟩
    rw [findS_congr fun s hs => by rw [find_congr fun t ht => al s hs t ht]]
end NC
namespace NC
open PySem PySem.Spec PyProof.Rows L2
abbrev sChkFix : Stmt := topS 23
abbrev sChkAl : Stmt := topS 24
theorem scChkFix : FnScope ["forced_by", "side"] ["forced_by"] (defScope sChkFix) := ⟨rfl, rfl, rfl, by decide +kernel, rfl, by decide +kernel, by decide +kernel⟩
theorem scChkAl : FnScope ["forced_by", "side", "met"] ["forced_by"] (defScope sChkAl) := ⟨rfl, rfl, rfl, by decide +kernel, rfl, by decide +kernel, by decide +kernel⟩
structure XC2 (K : PySem.W.Frag) (mg : Str → Option Value) (C fI : Addr) (fd : FuncData) : Prop where
  gC : mg "Alike" = some (.ref C)
  O : OexC K C
  hw : PySem.W.findIn K (.ref C) "word" = some none
  h1 : PySem.W.findIn K (.ref C) "one" = some none
  h2 : PySem.W.findIn K (.ref C) "other" = some none
  iC : PySem.W.findIn K (.ref C) "__init__" = some (some (.ref fI))
  tI : PySem.W.typeIn K (.ref fI) = some (.type "function")
  F : Fun K "__init__" "Alike.__init__" sALinit fI fd
  b : Binds K fd ["self", "one", "other"] []
theorem mk2 {K : PySem.W.Frag} {C : Addr} (hO : OexC K C) (hw : PySem.W.findIn K (.ref C) "word" = some none) (h1 : PySem.W.findIn K (.ref C) "one" = some none) (h2 : PySem.W.findIn K (.ref C) "other" = some none) {H1 : Hp} {v u : V} {Q : XK}
    (q : ∀ d H', Same H1 H' → H1 d = none → H' d = some (.xd [("other", u), ("one", v), ("word", .str "alike")]) → Q (.ref C) (some d) H') :
    ∀ a, H1 a = none → sp2 K (.ref a :: ([v, u] ++ [])) (upd H1 a (exo a C none))
      (fun z H2 => z = .non ∧ ∃ (d : Addr) (fs : List (Str × V)), H2 a = some (exo a C (some d)) ∧ H2 d = some (exd d fs) ∧ H1 d = none ∧ Q (.ref C) (some d) (upd (del H2 a) d (.xd fs))) (fun _ _ _ => False) := by
  intro a na
  refine ⟨a, C, v, u, rfl, hO, hw, h1, h2, upd_same, fun dx H' n1 n2 k e1 e2 => ?_⟩
  have hd : H1 dx = none := by
    rw [upd_ne n2] at n1
    exact n1
  refine ⟨rfl, dx, _, e1, e2, hd, q dx _ (fun b o hb => ?_) hd upd_same⟩
  have b1 : b ≠ dx := ne_of_none hb hd
  have b2 : b ≠ a := ne_of_none hb na
  rw [upd_ne b1, del_ne b2, k b b1 b2, upd_ne b2]
  exact hb
theorem foK_keys (L : List Nat) (fo : Nat → List Nat) : (foK L fo).map (·.1) = (L.map sg).map Sum.inr := by
  unfold foK
  rw [List.map_map, List.map_map]
  rfl
theorem foK_get {H : Hp} {L : List Nat} {fo : Nat → List Nat} {d : Addr} {s : Nat} (e : H d = some (.dK (foK L fo))) (h : s ∈ L) : DGet H d (.str (sg s)) (some (.str (tx (fo s)))) := by
  rw [← foK_val (fo := fo) h]
  exact DGet.k (k := Sum.inr (sg s)) e
theorem FoOk.mem {l : List Nat} (g : GoodW l) {adj : Nat → List Nat} {L : List Nat} {fo : Nat → List Nat} (h : FoOk l adj L fo) {s c : Nat} (hs : s ∈ L) (hc : c ∈ fo s) : c ∈ sds l := by
  obtain ⟨rs, _, _, e⟩ := h s hs
  rw [e] at hc
  exact (byW_mem g hc).1
theorem FoOk.len {l : List Nat} (g : GoodW l) {adj : Nat → List Nat} {L : List Nat} {fo : Nat → List Nat} (h : FoOk l adj L fo) {s : Nat} (hs : s ∈ L) : (fo s).length ≤ 24 := by
  obtain ⟨rs, _, _, e⟩ := h s hs
  rw [e]
  have h1 := byW_len l (ahK rs)
  have h2 := g.hi
  omega
theorem perm_sg {ys : List Str} {L : List Nat} (p : ys.Perm (L.map sg)) {i : Nat} {y : Str} (h : ys[i]? = some y) : ∃ c ∈ L, y = sg c := by
  obtain ⟨c, hc, e⟩ := List.mem_map.mp (p.mem_iff.mp (List.mem_of_getElem? h))
  exact ⟨c, hc, e.symm⟩
theorem kys_frc {L : List Nat} {adj : Nat → List Nat} {one : Nat} {rs : List (Nat × Option Nat)} (R : RsOk L adj one rs) : ∀ (i s : Nat) (p : Option Nat), rs[i]? = some (s, p) → Frc adj one s := fun i => by
  induction i using Nat.strongRecOn with
  | ind i ih =>
    intro s p hi
    rcases R.par i s p hi with ⟨rfl, rfl⟩ | ⟨c, j, q, rfl, hj, hrj, hadj⟩
    · obtain ⟨r, e⟩ := R.hd
      rw [e] at hi
      cases hi
      exact .refl
    · exact (ih j hj c q hrj).step hadj
theorem byW_of {l : List Nat} (g : GoodW l) {kvs : List (Key × V)} {t : Nat} (h : t ∈ sds l) (k : inK kvs t = true) : t ∈ byW l kvs := by
  rcases sds_shape g h with z | z
  · exact List.mem_flatMap.mpr ⟨t, z.2.2, List.mem_filter.mpr ⟨by simp, k⟩⟩
  · refine List.mem_flatMap.mpr ⟨t + 32, z.2.2, List.mem_filter.mpr ⟨?_, k⟩⟩
    rw [swp_small (by omega), show t + 32 - 32 = t by omega]
    simp
theorem FoOk.iff {l : List Nat} (g : GoodW l) {bs : List (List Nat)} (hb : ∀ b ∈ bs, isBar l b = true) {fo : Nat → List Nat} (h : FoOk l (adjOf bs) (sds l) fo) : ∀ s ∈ sds l, ∀ t, t ∈ fo s ↔ Frc (adjOf bs) s t := fun s hs t => by
  obtain ⟨rs, R, cl, e⟩ := h s hs
  rw [e]
  constructor
  · intro ht
    obtain ⟨_, hk⟩ := byW_mem g ht
    have hm : t ∈ kys rs := by
      refine Classical.byContradiction fun z => ?_
      unfold inK at hk
      rw [ahK_no z] at hk
      cases hk
    obtain ⟨i, p, hi, _⟩ := ahK_some hm
    exact kys_frc R i t p hi
  · rintro ⟨n, w⟩
    have h0 : s ∈ kys rs := by
      obtain ⟨r, e⟩ := R.hd
      rw [e]
      exact List.mem_cons_self ..
    have hm := reach_in h0 cl w
    obtain ⟨i, p, _, ev⟩ := ahK_some hm
    exact byW_of g (R.sub t hm) (by unfold inK; rw [ev]; rfl)
theorem two_nd : ∀ w : List Nat, (∀ c ∈ w, 97 ≤ c ∧ c ≤ 122) → w.Nodup → (w.flatMap fun c => [swp c, c]).Nodup
  | [], _, _ => by simp
  | c :: r, hs, hn => by
    obtain ⟨n1, n2⟩ := List.nodup_cons.mp hn
    have hc := hs c (List.mem_cons_self ..)
    have ih := two_nd r (fun d hd => hs d (List.mem_cons_of_mem _ hd)) n2
    rw [List.flatMap_cons]
    refine List.nodup_append.mpr ⟨?_, ih, fun a ha b hb e => ?_⟩
    · rw [swp_small hc]
      simp
      omega
    · obtain ⟨d, hd, hbd⟩ := List.mem_flatMap.mp hb
      have hd2 := hs d (List.mem_cons_of_mem _ hd)
      have ne : d ≠ c := fun z => n1 (by rw [← z]; exact hd)
      rw [swp_small hc] at ha
      rw [swp_small hd2] at hbd
      simp only [List.mem_cons, List.not_mem_nil, or_false] at ha hbd
      omega
theorem byW_nd {l : List Nat} (g : GoodW l) (kvs : List (Key × V)) : (byW l kvs).Nodup := by
  have e : byW l kvs = (l.flatMap fun c => [swp c, c]).filter (inK kvs) := by
    unfold byW
    rw [List.filter_flatMap]
  rw [e]
  exact (two_nd l g.sm g.nd).filter _
theorem sds_rise {l : List Nat} (g : GoodW l) : (sds l).Pairwise (· < ·) := by
  refine List.pairwise_append.mpr ⟨List.pairwise_map.mpr (g.rise.imp_of_mem fun {a b} ha hb h => ?_), g.rise, fun a ha b hb => ?_⟩
  · rw [upc_small (g.sm a ha), upc_small (g.sm b hb)]
    have := g.sm a ha
    omega
  · obtain ⟨c, hc, rfl⟩ := List.mem_map.mp ha
    have := g.sm c hc
    have := g.sm b hb
    rw [upc_small (by omega)]
    omega
theorem pw_sg {L : List Nat} (h : L.Pairwise (· < ·)) : (L.map sg).Pairwise leS := List.pairwise_map.mpr (h.imp fun h => leS_sg (Nat.le_of_lt h))
theorem sorted_sds {l : List Nat} (g : GoodW l) {ys : List Str} (hp : ys.Perm ((sds l).map sg)) (hs : sortedS ys = true) : ys = (sds l).map sg := sortedS_eq hs hp (pw_sg (sds_rise g))
theorem perm_nd : ∀ {a b : List Nat}, a.Nodup → b.Nodup → (∀ x, x ∈ a ↔ x ∈ b) → a.Perm b
  | [], b, _, _, h => by
    cases b with
    | nil => exact .nil
    | cons x r => exact absurd ((h x).mpr (List.mem_cons_self ..)) (by simp)
  | x :: r, b, ha, hb, h => by
    obtain ⟨n1, n2⟩ := List.nodup_cons.mp ha
    have hx : x ∈ b := (h x).mp (List.mem_cons_self ..)
    refine ((perm_nd n2 (hb.erase x) fun y => ?_).cons x).trans (List.perm_cons_erase hx).symm
    rw [hb.mem_erase_iff]
    constructor
    · exact fun hy => ⟨fun e => n1 (by rw [← e]; exact hy), (h y).mp (List.mem_cons_of_mem _ hy)⟩
    · rintro ⟨a, c⟩
      rcases List.mem_cons.mp ((h y).mpr c) with z | z
      · exact absurd z a
      · exact z
theorem sorted_fo {l : List Nat} (g : GoodW l) {adj : Nat → List Nat} {fo : Nat → List Nat} (h : FoOk l adj (sds l) fo) {s : Nat} (hs : s ∈ sds l) {ys : List Str} (hp : ys.Perm ((fo s).map sg)) (hso : sortedS ys = true) : ys = ((sds l).filter fun m => decide (m ∈ fo s)).map sg := by
  refine sortedS_eq hso (hp.trans (List.Perm.map _ (perm_nd ?_ ((sds_nd g).filter _) fun x => ?_))) (pw_sg ((sds_rise g).filter _))
  · obtain ⟨rs, _, _, e⟩ := h s hs
    rw [e]
    exact byW_nd g _
  · rw [List.mem_filter, decide_eq_true_eq]
    exact ⟨fun hx => ⟨h.mem g hs hx, hx⟩, fun hx => hx.2⟩
section
variable {P : Program} {w : World} {K : PySem.W.Frag} {mg : Str → Option Value} {base : Heap}
def spChkFix (CF : Addr) : Sp := fun vs H Q E => ∃ l d adj fo, vs = [.ref d] ∧ GoodW l ∧ H d = some (.dK (foK (sds l) fo)) ∧ FoOk l adj (sds l) fo ∧
  match (sds l).find? (fxP fo) with
  | none => ∀ H', Same H H' → Q .non H'
  | some s => ∀ H' x, Same H H' → H x = none → H' x = some (.xd [("side", .str (sg s)), ("word", .str "fixed")]) → E (.ref CF) (some x) H'
set_option maxHeartbeats 1000000 in
theorem ok_chkFix {f fO CF fF CH fH : Addr} {fd fdO fdF fdH : FuncData} {k : Nat} (B : BM mg) (F : Fun K "check_fixed" "check_fixed" sChkFix f fd) (O : DF K mg "other" sOther ["side"] fO fdO)
    (T : HE K mg CH fH fdH) (X : XC K mg "Fixed" "Fixed.__init__" sFXinit "side" CF fF fdF) : FnOk P w K mg base (L2.CX P w) (k + 4) f fd ["forced_by"] (spChkFix CF) := by
  have GO : FnOk P w K mg base CX0 (k + 1) fO fdO ["side"] spOther := ok_other O.F
  have GF : FnOk P w K mg base CX0 (k + 2) fF fdF ["self", "side"] (sp1 K "side" "fixed") := ok_FX T X.F
  refine F.okX scChkFix (fun vs H Q E h => ?_) (fun cdv A outer s H vs Q E hr h => ?_)
  · obtain ⟨l, d, adj, fo, rfl, _⟩ := h
    rfl
  · obtain ⟨l, d, adj, fo, rfl, g, hd, ok, q⟩ := h
    refine ⟨_, pss_one (ps_for (passes_of rfl) rfl (pi_list (pe_callB (call_sortedD rfl) (by rfl) B.sorted (by decide +kernel) (pa_cons (pv 0) pa_nil))) (pg_name (i := 1) scChkFix.nd rfl (.inl rfl))
      (pss_one (ps_if (pt_cmpR op_in_sign (pe_call GO (hr.mono (by omega)) rfl O.g O.F.kp O.b .nil pass0 (pa_cons (pv 1) pa_nil)) (pe_dget (hu_of hr) (pv 0) (pv 1) (fun _ _ => rfl)) (by rfl))
        (pss_one (ps_raise rfl (takes_of rfl rfl rfl rfl) (pmk_oex X.O X.iC X.tI GF hr X.b .nil pass0 (by rfl) X.gC (pa_cons (pv 1) pa_nil)))) pss_nil))), ?_⟩
    refine ⟨_, rfl, d, _, (sds l).map sg, rfl, .inl hd, foK_keys _ _, by rw [List.length_map]; have := sds_len g; omega, fun ys p hp hso np => ⟨p, rfl, ⟨_, SqL.of upd_same⟩, ?_⟩⟩
    obtain rfl := sorted_sds g hp hso
    have wk := walk_list (K := K) (a := p) (xs := ((sds l).map sg).map V.str)
    rw [List.length_map, List.length_map] at wk
    refine for_it wk (fun i σ H' => ∃ y1, σ = [some (.ref d), y1] ∧ Same H H' ∧ H' p = some (.lst (((sds l).map sg).map V.str)) ∧ ∀ j t, j < i → (sds l)[j]? = some t → fxP fo t = false) ⟨_, rfl, same_upd np, upd_same, fun j t h => absurd h (Nat.not_lt_zero _)⟩ (fun i σ H' _ h => by obtain ⟨_, _, _, h, _⟩ := h; exact SqL.of h) ?_ ?_
    · rintro i x σ H1 H2 hi ⟨y1, rfl, sm, ep, no⟩ ⟨rfl, hx⟩
      rw [List.getElem?_map, List.getElem?_map] at hx
      obtain ⟨y, hy, rfl⟩ := Option.map_eq_some_iff.mp hx
      obtain ⟨c, hci, rfl⟩ := Option.map_eq_some_iff.mp hy
      have hc : c ∈ sds l := List.mem_of_getElem? hci
      refine ⟨_, rfl, c, rfl, sds_asc g hc, _, rfl, _, rfl, d, _, rfl, foK_get (sm _ _ hd) hc, swp c, _, rfl, rfl, _, rfl, ite2 (fun t => ?_) (fun t => ?_)⟩
      · have t : decide (swp c ∈ (tx (fo c)).cps.toList) = true := t
        rw [tx_list] at t
        rw [find_at hci no t] at q
        exact ⟨_, rfl, by show 1 ≤ 1000; decide, mk1 X.O X.hw X.hf fun x H4 s4 n4 e4 => q H4 x (sm_trans sm s4) (L2.Same.free sm n4) e4⟩
      · have t : ¬ decide (swp c ∈ (tx (fo c)).cps.toList) = true := t
        rw [tx_list] at t
        refine ⟨_, rfl, sm, ep, fun j u hj hu => ?_⟩
        rcases Nat.lt_or_ge j i with h | h
        · exact no j u h hu
        · obtain rfl : j = i := by omega
          rw [hci] at hu
          cases hu
          exact Bool.eq_false_iff.mpr t
    · rintro σ H1 ⟨y1, rfl, sm, _, no⟩
      rw [find_no no] at q
      exact q H1 sm
def spChkAl (CA : Addr) : Sp := fun vs H Q E => ∃ l d adj fo, vs = [.ref d] ∧ GoodW l ∧ H d = some (.dK (foK (sds l) fo)) ∧ FoOk l adj (sds l) fo ∧
  match (sds l).findSome? fun s => ((sds l).find? (alP fo s)).map fun t => (s, t) with
  | none => ∀ H', Same H H' → Q .non H'
  | some v => ∀ H' x, Same H H' → H x = none → H' x = some (.xd [("other", .str (sg v.2)), ("one", .str (sg v.1)), ("word", .str "alike")]) → E (.ref CA) (some x) H'
set_option maxHeartbeats 1000000 in
theorem ok_chkAl {f CA fA CH fH : Addr} {fd fdA fdH : FuncData} {k : Nat} (B : BM mg) (F : Fun K "check_alike" "check_alike" sChkAl f fd)
    (T : HE K mg CH fH fdH) (X : XC2 K mg CA fA fdA) : FnOk P w K mg base (L2.CX P w) (k + 4) f fd ["forced_by"] (spChkAl CA) := by
  have GA : FnOk P w K mg base CX0 (k + 2) fA fdA ["self", "one", "other"] (sp2 K) := ok_AL T X.F
  refine F.okX scChkAl (fun vs H Q E h => ?_) (fun cdv A outer s H vs Q E hr h => ?_)
  · obtain ⟨l, d, adj, fo, rfl, _⟩ := h
    rfl
  · obtain ⟨l, d, adj, fo, rfl, g, hd, ok, q⟩ := h
    refine ⟨_, pss_one (ps_for (passes_of rfl) rfl (pi_list (pe_callB (call_sortedD rfl) (by rfl) B.sorted (by decide +kernel) (pa_cons (pv 0) pa_nil))) (pg_name (i := 1) scChkAl.nd rfl (.inl rfl))
      (pss_one (ps_for (passes_of rfl) rfl (pi_list (pe_callB (cr_sortedT rfl) (by rfl) B.sorted (by decide +kernel) (pa_cons (pe_dget (hu_of hr) (pv 0) (pv 1) (fun _ _ => rfl)) pa_nil))) (pg_name (i := 2) scChkAl.nd rfl (.inl rfl))
        (pss_one (ps_if (PW.pt (pw_and (pt_cmpR op_ne (pv 2) (pv 1) (nomark _)) (pw_and1 (pt_cmpR op_in_sign (pv 1) (pe_dget (hu_of hr) (pv 0) (pv 2) (fun _ _ => rfl)) (by rfl)))))
          (pss_one (ps_raise rfl (takes_of rfl rfl rfl rfl) (pmk_oex X.O X.iC X.tI GA hr X.b .nil pass0 (by rfl) X.gC (pa_cons (pv 1) (pa_cons (pv 2) pa_nil))))) pss_nil))))), ?_⟩
    refine ⟨_, rfl, d, _, (sds l).map sg, rfl, .inl hd, foK_keys _ _, by rw [List.length_map]; have := sds_len g; omega, fun ys p hp hso np => ⟨p, rfl, ⟨_, SqL.of upd_same⟩, ?_⟩⟩
    obtain rfl := sorted_sds g hp hso
    have wk := walk_list (K := K) (a := p) (xs := ((sds l).map sg).map V.str)
    rw [List.length_map, List.length_map] at wk
    refine for_it wk (fun i σ H' => ∃ y1 y2, σ = [some (.ref d), y1, y2] ∧ Same H H' ∧ H' p = some (.lst (((sds l).map sg).map V.str)) ∧ ∀ j t, j < i → (sds l)[j]? = some t → (sds l).find? (alP fo t) = none) ⟨_, _, rfl, same_upd np, upd_same, fun j t h => absurd h (Nat.not_lt_zero _)⟩ (fun i σ H' _ h => by obtain ⟨_, _, _, _, h, _⟩ := h; exact SqL.of h) ?_ ?_
    · rintro i x σ H1 H2 hi ⟨y1, y2, rfl, sm, ep, no⟩ ⟨rfl, hx⟩
      rw [List.getElem?_map, List.getElem?_map] at hx
      obtain ⟨y, hy, rfl⟩ := Option.map_eq_some_iff.mp hx
      obtain ⟨c, hci, rfl⟩ := Option.map_eq_some_iff.mp hy
      have hc : c ∈ sds l := List.mem_of_getElem? hci
      refine ⟨_, rfl, _, rfl, d, _, rfl, foK_get (sm _ _ hd) hc, tx (fo c), rfl, by rw [tx_len]; have := ok.len g hc; omega, fun zs r hz hzo nr => ⟨r, rfl, ⟨_, SqL.of upd_same⟩, ?_⟩⟩
      rw [sgs_tx] at hz
      obtain rfl := sorted_fo g ok hc hz hzo
      generalize hfl : ((sds l).filter fun m => decide (m ∈ fo c)) = fl at nr ⊢
      have ef : fl.find? (fun m => decide (m ≠ c) && decide (c ∈ fo m)) = (sds l).find? (alP fo c) := by
        rw [← hfl, List.find?_filter]
        congr 1
        funext m
        unfold alP
        by_cases h : m ∈ fo c
        · simp [h]
        · simp [h]
      have flm : ∀ m ∈ fl, m ∈ sds l := fun m hm => by rw [← hfl] at hm; exact (List.mem_filter.mp hm).1
      have wk2 := walk_list (K := K) (a := r) (xs := (fl.map sg).map V.str)
      rw [List.length_map, List.length_map] at wk2
      have npr : p ≠ r := ne_of_none ep nr
      refine for_it wk2 (fun j σ H' => ∃ y2, σ = [some (.ref d), some (.str (sg c)), y2] ∧ Same H H' ∧ H' p = some (.lst (((sds l).map sg).map V.str)) ∧ H' r = some (.lst ((fl.map sg).map V.str)) ∧ ∀ u t, u < j → fl[u]? = some t → (decide (t ≠ c) && decide (c ∈ fo t)) = false) ⟨_, rfl, sm_upd sm nr, by rw [upd_ne npr]; exact ep, upd_same, fun u t h => absurd h (Nat.not_lt_zero _)⟩
        (fun i σ H' _ h => by obtain ⟨_, _, _, _, h, _⟩ := h; exact SqL.of h) ?_ ?_
      · rintro j x σ H3 H4 hj ⟨y2, rfl, sm3, ep3, er3, no2⟩ ⟨rfl, hx⟩
        rw [List.getElem?_map, List.getElem?_map] at hx
        obtain ⟨z, hz2, rfl⟩ := Option.map_eq_some_iff.mp hx
        obtain ⟨m, hmj, rfl⟩ := Option.map_eq_some_iff.mp hz2
        have hmL : m ∈ sds l := flm m (List.mem_of_getElem? hmj)
        have next : (decide (m ≠ c) && decide (c ∈ fo m)) = false → ∀ u t, u < j + 1 → fl[u]? = some t → (decide (t ≠ c) && decide (c ∈ fo t)) = false := fun hmf u t hu ht => by
          rcases Nat.lt_or_ge u j with h | h
          · exact no2 u t h ht
          · obtain rfl : u = j := by omega
            rw [hmj] at ht
            cases ht
            exact hmf
        refine ⟨_, rfl, _, rfl, rfl, _, rfl, ite2 (fun t1 => ?_) (fun t1 => ?_)⟩
        · refine ⟨_, rfl, _, rfl, _, rfl, d, _, rfl, foK_get (sm3 _ _ hd) hmL, c, _, rfl, rfl, _, rfl, ite2 (fun t => ?_) (fun t => ?_)⟩
          · have t : decide (c ∈ (tx (fo m)).cps.toList) = true := t
            rw [tx_list] at t
            have t2 : ¬ sg m = sg c := by simpa using t1
            have t0 : decide (m ≠ c) = true := decide_eq_true fun e => t2 (by rw [e])
            have e1 : fl.find? (fun m => decide (m ≠ c) && decide (c ∈ fo m)) = some m := find_at hmj no2 (by rw [t0, t]; rfl)
            rw [ef] at e1
            rw [findS_at (v := (c, m)) hci (fun j t hj ht => by rw [no j t hj ht]; rfl) (by rw [e1]; rfl)] at q
            exact ⟨_, rfl, _, rfl, by show 2 ≤ 1000; decide, mk2 X.O X.hw X.h1 X.h2 fun x H5 s5 n5 e5 => q H5 x (sm_trans sm3 s5) (L2.Same.free sm3 n5) e5⟩
          · have t : ¬ decide (c ∈ (tx (fo m)).cps.toList) = true := t
            rw [tx_list] at t
            exact ⟨_, rfl, sm3, ep3, er3, next (by rw [Bool.eq_false_iff.mpr t]; simp)⟩
        · have t2 : sg m = sg c := by simpa using t1
          have t0 : decide (m ≠ c) = false := by simpa using sg_inj t2
          exact iteF ⟨_, rfl, sm3, ep3, er3, next (by rw [t0]; rfl)⟩
      · rintro σ H3 ⟨y2, rfl, sm3, ep3, er3, no2⟩
        refine ⟨_, _, rfl, sm3, ep3, fun j u hj hu => ?_⟩
        rcases Nat.lt_or_ge j i with h | h
        · exact no j u h hu
        · obtain rfl : j = i := by omega
          rw [hci] at hu
          cases hu
          rw [← ef]
          exact find_no no2
    · rintro σ H1 ⟨y1, y2, rfl, sm, _, no⟩
      rw [findS_no fun j t hj ht => by rw [no j t hj ht]; rfl] at q
      exact q H1 sm
end
end NC
namespace NC
open PySem PySem.Spec PyProof.Rows L2
theorem first_none {l : List Nat} {bs : List (List Nat)} (h : firstBad l bs = none) : ∀ b ∈ bs, isBar l b = true := fun b hb => by
  obtain ⟨i, hi⟩ := List.getElem?_of_mem hb
  have hl := (List.getElem?_eq_some_iff.mp hi).1
  have q := List.find?_eq_none.mp h i (by simpa using hl)
  unfold badAt at q
  rw [List.getD_eq_getElem?_getD, hi] at q
  simp at q
  exact q.1
/-- all that a hall's making asks for in the text -/
structure Txt8 (K : PySem.W.Frag) (mg : Str → Option Value) (tw : Tok) (fOther fSides fByW fIsW fIsB fCW fCB fCS fSt fRe fAF fCF fCA : Addr) (dOther dSides dByW dIsW dIsB dCW dCB dCS dSt dRe dAF dCF dCA : FuncData)
    (CH iH CB iB CF iF CA iA : Addr) (eH eB eF eA : FuncData) : Prop where
  B : BM mg
  mW : mg "WIDEST" = some (.int 12 tw)
  O : DF K mg "other" sOther ["side"] fOther dOther
  S : DF K mg "sides_of" sSides ["walls"] fSides dSides
  Y : DF K mg "by_walls" sByWalls ["walls", "sides"] fByW dByW
  W : DF K mg "is_walls" sIsWalls ["walls"] fIsW dIsW
  I : DF K mg "is_bar" sIsBar ["walls", "bar"] fIsB dIsB
  cw : DF K mg "check_walls" sChkWalls ["walls"] fCW dCW
  cb : DF K mg "check_bars" sChkBars ["walls", "bars"] fCB dCB
  cs : DF K mg "check_side" sChkSide ["walls", "side"] fCS dCS
  st : DF K mg "straight_from" sStraight ["walls", "bars"] fSt dSt
  re : DF K mg "reached" sReached ["straight", "one"] fRe dRe
  af : DF K mg "all_forced" sAllF ["walls", "bars"] fAF dAF
  cf : DF K mg "check_fixed" sChkFix ["forced_by"] fCF dCF
  ca : DF K mg "check_alike" sChkAl ["forced_by"] fCA dCA
  he : HE K mg CH iH eH
  xb : XC K mg "BadBar" "BadBar.__init__" sBBinit "at" CB iB eB
  xf : XC K mg "Fixed" "Fixed.__init__" sFXinit "side" CF iF eF
  xa : XC2 K mg CA iA eA
end NC
namespace NC
open PySem PySem.Spec PyProof.Rows L2
abbrev sHinit : Stmt := inClass (topS 25) 0
abbrev sHbars : Stmt := inClass (topS 25) 2
theorem scHinit : FnScope ["self", "walls", "bars", "forced_by"] ["self", "walls", "bars"] (defScope sHinit) := ⟨rfl, rfl, rfl, by decide +kernel, rfl, by decide +kernel, by decide +kernel⟩
theorem scHbars : FnScope ["self"] ["self"] (defScope sHbars) := ⟨rfl, rfl, rfl, by decide +kernel, rfl, by decide +kernel, by decide +kernel⟩
/-- the class Hall -/
structure HC (K : PySem.W.Frag) (mg : Str → Option Value) (C fi fb : Addr) (di db : FuncData) : Prop where
  gC : mg "Hall" = some (.ref C)
  cl : Cls K C
  mks : Mk K C fi
  F : ∃ dvs, FunD K "__init__" "Hall.__init__" (defArgs sHinit) (defBody sHinit) (defScope sHinit) dvs [] fi di
  b : Binds K di ["self", "walls", "bars"] []
  n1 : NoAttr K C "wall_text"
  n2 : NoAttr K C "bar_list"
  n3 : NoAttr K C "forced_by"
  mb : Meth K C "bars" fb
  Fb : Fun K "bars" "Hall.bars" sHbars fb db
  bb : Binds K db ["self"] []
/-- all but x stays -/
def SmX (x : Addr) (H H' : Hp) : Prop := ∀ b o, b ≠ x → H b = some o → H' b = some o
/-- a hall at x of the walls l, its bars' list at sb -/
structure HallAt (C : Addr) (H : Hp) (x dx sb D : Addr) (l : List Nat) (ys : List Str) (fo : Nat → List Nat) : Prop where
  x : H x = some (.ins C dx [("wall_text", .str (tx l)), ("bar_list", .ref sb), ("forced_by", .ref D)])
  sb : H sb = some (.lst (ys.map V.str))
  D : H D = some (.dK (foK (sds l) fo))
section
variable {P : Program} {w : World} {K : PySem.W.Frag} {mg : Str → Option Value} {base : Heap} {tw : Tok} {fOther fSides fByW fIsW fIsB fCW fCB fCS fSt fRe fAF fCF fCA : Addr} {dOther dSides dByW dIsW dIsB dCW dCB dCS dSt dRe dAF dCF dCA : FuncData}
    {CH iH CB iB CF iF CA iA : Addr} {eH eB eF eA : FuncData} {C fi fb : Addr} {di db : FuncData}
def spHinit (K : PySem.W.Frag) (C CB CF CA : Addr) : Sp := fun vs H Q E => ∃ x dx l a bs, vs = [.ref x, .str (tx l), .ref a] ∧ H x = some (.ins C dx []) ∧ GoodW l ∧ BarsOk bs ∧ bs.length < 64 ∧ SqL K H a ((bs.map tx).map V.str) ∧
  match firstBad l bs with
  | some i => ∀ H' d, Same H H' → H d = none → H' d = some (.xd [("at", .int (i : Nat)), ("word", .str "badbar")]) → E (.ref CB) (some d) H'
  | none => ∀ fo, FoOk l (adjOf bs) (sds l) fo → match vdOf (sds l) (fxP fo) (alP fo) with
    | .fixed s => ∀ H' d, Same H H' → H d = none → H' d = some (.xd [("side", .str (sg s)), ("word", .str "fixed")]) → E (.ref CF) (some d) H'
    | .alike s m => ∀ H' d, Same H H' → H d = none → H' d = some (.xd [("other", .str (sg m)), ("one", .str (sg s)), ("word", .str "alike")]) → E (.ref CA) (some d) H'
    | .ok => ∀ H' sb D ys, SmX x H H' → H sb = none → H D = none → HallAt C H' x dx sb D l ys fo → ys.Perm (bs.map tx) → sortedS ys = true → Q .non H'
set_option maxHeartbeats 1000000 in
theorem ok_Hinit {k : Nat} (Z : HC K mg C fi fb di db) (T : Txt8 K mg tw fOther fSides fByW fIsW fIsB fCW fCB fCS fSt fRe fAF fCF fCA dOther dSides dByW dIsW dIsB dCW dCB dCS dSt dRe dAF dCF dCA CH iH CB iB CF iF CA iA eH eB eF eA) :
    FnOk P w K mg base (L2.CX P w) (k + 5) fi di ["self", "walls", "bars"] (spHinit K C CB CF CA) := by
  have GW := ok_chkWalls (P := P) (w := w) (base := base) (k := k) T.B T.mW T.cw.F T.W
  have GB : FnOk P w K mg base (L2.CX P w) (k + 4) fCB dCB ["walls", "bars"] (spChkBars K CB) := ok_chkBars T.B T.cb.F T.I T.S T.he T.xb
  have GA : FnOk P w K mg base CX0 (k + 3) fAF dAF ["walls", "bars"] (spAllF K) := ok_allF T.B T.af.F T.st T.re T.Y T.S T.O
  have GF : FnOk P w K mg base (L2.CX P w) (k + 4) fCF dCF ["forced_by"] (spChkFix CF) := ok_chkFix T.B T.cf.F T.O T.he T.xf
  have GL : FnOk P w K mg base (L2.CX P w) (k + 4) fCA dCA ["forced_by"] (spChkAl CA) := ok_chkAl T.B T.ca.F T.he T.xa
  obtain ⟨dvs, ZF⟩ := Z.F
  refine ZF.ok scHinit (fun vs H Q E h => ?_) (fun cdv A outer s H vs Q E hr h => ?_)
  · obtain ⟨x, dx, l, a, bs, rfl, _⟩ := h
    rfl
  · obtain ⟨x, dx, l, a, bs, rfl, hx, g, hbs, hbl, hS, q⟩ := h
    have r2 : Room (k + 2) _ := hr.mono (by omega)
    have r3 : Room (k + 3) _ := hr.mono (by omega)
    refine ⟨_, pss_cons (ps_expr (pe_call GW r2 rfl T.cw.g T.cw.F.kp T.cw.b .nil pass0 (pa_cons (pv 1) pa_nil)))
      (pss_cons (ps_expr (pe_call (E := E) GB hr rfl T.cb.g T.cb.F.kp T.cb.b .nil (passes_call (takes_of rfl rfl rfl rfl) (fun _ _ _ _ h => h)) (pa_cons (pv 1) (pa_cons (pv 2) pa_nil))))
      (pss_cons (ps_set (i := 3) scHinit.nd rfl (.inl rfl) (pe_call GA r3 rfl T.af.g T.af.F.kp T.af.b .nil pass0 (pa_cons (pv 1) (pa_cons (pv 2) pa_nil))))
      (pss_cons (ps_expr (pe_call (E := E) GF hr rfl T.cf.g T.cf.F.kp T.cf.b .nil (passes_call (takes_of rfl rfl rfl rfl) (fun _ _ _ _ h => h)) (pa_cons (pv 3) pa_nil)))
      (pss_cons (ps_expr (pe_call (E := E) GL hr rfl T.ca.g T.ca.F.kp T.ca.b .nil (passes_call (takes_of rfl rfl rfl rfl) (fun _ _ _ _ h => h)) (pa_cons (pv 3) pa_nil)))
      (pss_cons (ps_fld (pv 0) (pv 1) rfl)
      (pss_cons (ps_fld (pv 0) (pe_callB cr_sortedS (by rfl) T.B.sorted (by decide +kernel) (pa_cons (pv 2) pa_nil)) rfl)
      (pss_one (ps_fld (pv 0) (pv 3) rfl)))))))), ?_⟩
    refine ⟨_, rfl, l, rfl, g, fun H1 s1 => ⟨_, rfl, _, rfl, l, a, bs, rfl, g, hbs, by omega, .inl (sm_l s1 hS), ?_⟩⟩
    cases fbd : firstBad l bs with
    | some i =>
      rw [fbd] at q
      intro H' d sm nd e
      exact q H' d (sm_trans s1 sm) (L2.Same.free s1 nd) e
    | none =>
      rw [fbd] at q
      have hbar := first_none fbd
      intro H2 s2
      have s12 := sm_trans s1 s2
      refine ⟨_, rfl, _, rfl, l, a, bs, rfl, g, hbar, by omega, .inl (sm_l s12 hS), fun H3 D fo s3 nD eD ok => ?_⟩
      have s13 := sm_trans s12 s3
      have q := q fo ok
      unfold vdOf at q
      refine ⟨_, rfl, l, D, adjOf bs, fo, rfl, g, eD, ok, ?_⟩
      cases h1 : (sds l).find? (fxP fo) with
      | some s0 =>
        rw [h1] at q
        exact fun H' d sm nd e => q H' d (sm_trans s13 sm) (L2.Same.free s13 nd) e
      | none =>
      rw [h1] at q
      intro H4 s4
      have s14 := sm_trans s13 s4
      refine ⟨_, rfl, l, D, adjOf bs, fo, rfl, g, s4 _ _ eD, ok, ?_⟩
      cases h2 : (sds l).findSome? fun s => ((sds l).find? (alP fo s)).map fun t => (s, t) with
      | some v =>
        rw [h2] at q
        exact fun H' d sm nd e => q H' d (sm_trans s14 sm) (L2.Same.free s14 nd) e
      | none =>
      rw [h2] at q
      intro H5 s5
      have s15 := sm_trans s14 s5
      have nxa : ∀ o, Same H H5 → SqL K (upd H5 x o) a ((bs.map tx).map V.str) := fun o sm => by
        have hS5 := sm_l sm hS
        rcases hS5 with (z | ⟨ob, z⟩) | z
        · exact .inl (.inl (by rw [upd_ne (ne_of z (sm _ _ hx) fun e => by cases e)]; exact z))
        · exact .inl (.inr ⟨ob, by rw [upd_ne (ne_of z (sm _ _ hx) fun e => by cases e)]; exact z⟩)
        · exact .inr z
      refine ⟨_, rfl, _, rfl, x, C, dx, _, rfl, s15 _ _ hx, Z.cl, Z.n1, by decide, ?_⟩
      refine ⟨_, rfl, a, bs.map tx, rfl, nxa _ s15, by rw [List.length_map]; exact hbl, fun ys p hp hs np => ?_⟩
      have npx : x ≠ p := ne_of_none upd_same np
      refine ⟨_, rfl, x, C, dx, _, rfl, by rw [upd_ne npx, upd_same], Z.cl, Z.n2, by show 1 < 1000; decide, ?_⟩
      refine ⟨_, rfl, _, rfl, x, C, dx, _, rfl, upd_same, Z.cl, Z.n3, by show 2 < 1000; decide, ?_⟩
      have np5 : H5 p = none := by
        rw [upd_ne (Ne.symm npx)] at np
        exact np
      have eD5 : H5 D = some (.dK (foK (sds l) fo)) := s5 _ _ (s4 _ _ eD)
      have nDx : D ≠ x := ne_of eD5 (s15 _ _ hx) fun z => by cases z
      have nDp : D ≠ p := ne_of_none eD5 np5
      refine q _ p D ys (fun b o hb e => ?_) (L2.Same.free s15 np5) (L2.Same.free s12 nD) ⟨upd_same, ?_, by rw [upd_ne nDx, upd_ne nDx, upd_ne nDp, upd_ne nDx]; exact eD5⟩ hp hs
      · have e5 := s15 _ _ e
        rw [upd_ne hb, upd_ne hb, upd_ne (ne_of_none e5 np5), upd_ne hb]
        exact e5
      · rw [upd_ne (Ne.symm npx), upd_ne (Ne.symm npx), upd_same]
/-! ### bars() -/
def spHbars (C : Addr) : Sp := fun vs H Q _ => ∃ x dx sb D l ys fo, vs = [.ref x] ∧ HallAt C H x dx sb D l ys fo ∧ ∀ p, H p = none → Q (.ref p) (upd H p (.lst (ys.map V.str)))
theorem ok_Hbars {k : Nat} (B : BM mg) (Z : HC K mg C fi fb di db) : FnOk P w K mg base CX0 (k + 1) fb db ["self"] (spHbars C) := by
  refine Z.Fb.ok scHbars (fun vs H Q E h => ?_) (fun cdv A outer s H vs Q E hr h => ?_)
  · obtain ⟨x, dx, sb, D, l, ys, fo, rfl, _⟩ := h
    rfl
  · obtain ⟨x, dx, sb, D, l, ys, fo, rfl, hA, q⟩ := h
    refine ⟨_, pss_one (ps_ret (pe_callTy call_list_of (by rfl) B.list (by decide +kernel) (pa_cons (pe_fld (pv 0) rfl) pa_nil))), ?_⟩
    exact ⟨_, rfl, x, C, dx, _, .ref sb, rfl, hA.x, Z.cl, Z.n2, rfl, sb, _, rfl, .inl (SqL.of hA.sb), q⟩
end
end NC
namespace NC
open PySem PySem.Spec PyProof.Rows L2
abbrev sStart : Stmt := topS 28
abbrev sDraw : Stmt := topS 29
abbrev sOf : Stmt := topS 30
abbrev sLetters : Stmt := topS 31
theorem scStart : FnScope ["_law_script", "_law_seed", "_law_cell"] ["_law_script"] (defScope sStart) := ⟨rfl, rfl, rfl, by decide +kernel, rfl, by decide +kernel, by decide +kernel⟩
theorem scDraw : FnScope ["_law_d", "_law_many", "_law_cell", "_law_digit", "_law_mix"] ["_law_d", "_law_many"] (defScope sDraw) := ⟨rfl, rfl, rfl, by decide +kernel, rfl, by decide +kernel, by decide +kernel⟩
theorem scOf : FnScope ["_law_d", "_law_some"] ["_law_d", "_law_some"] (defScope sOf) := ⟨rfl, rfl, rfl, by decide +kernel, rfl, by decide +kernel, by decide +kernel⟩
theorem scLetters : FnScope [] [] (defScope sLetters) := ⟨rfl, rfl, rfl, by decide +kernel, rfl, by decide +kernel, by decide +kernel⟩
def Dr (H : Hp) (d : Addr) : Prop := ∃ (c : Addr) (ns : List Int) (i a b e : Int), H d = some (.lst [.ref c, .int i, .int a, .int b, .int e]) ∧ H c = some (.lst (ns.map V.int)) ∧ 0 ≤ i
theorem SmX.refl (x : Addr) (H : Hp) : SmX x H H := fun _ _ _ h => h
theorem SmX.trans {x : Addr} {H H1 H2 : Hp} (a : SmX x H H1) (b : SmX x H1 H2) : SmX x H H2 := fun c o n h => b c o n (a c o n h)
theorem SmX.of {x : Addr} {H H1 : Hp} (a : Same H H1) : SmX x H H1 := fun c o _ h => a c o h
theorem SmX.upd {x : Addr} {H : Hp} {o : HO} : SmX x H (L2.upd H x o) := fun c z n h => by rw [upd_ne n]; exact h
/-- all but d's list stays, and the first of d's list too -/
def HeadC (H : Hp) (d c : Addr) : Prop := ∃ r, H d = some (.lst (.ref c :: r))
def SmD (d : Addr) (H H' : Hp) : Prop := SmX d H H' ∧ ∀ c, HeadC H d c → HeadC H' d c
theorem SmD.refl (x : Addr) (H : Hp) : SmD x H H := ⟨SmX.refl x H, fun _ h => h⟩
theorem SmD.trans {x : Addr} {H H1 H2 : Hp} (a : SmD x H H1) (b : SmD x H1 H2) : SmD x H H2 := ⟨a.1.trans b.1, fun c h => b.2 c (a.2 c h)⟩
theorem SmD.of {x : Addr} {H H1 : Hp} (a : Same H H1) : SmD x H H1 := ⟨SmX.of a, fun _ ⟨r, h⟩ => ⟨r, a _ _ h⟩⟩
theorem SmD.upd {x c : Addr} {H : Hp} {r r' : List V} (h : H x = some (.lst (.ref c :: r))) : SmD x H (L2.upd H x (.lst (.ref c :: r'))) := ⟨SmX.upd, fun c2 ⟨r2, h2⟩ => by
  rw [h] at h2
  have e : c = c2 := by
    injection h2 with h3
    injection h3 with h3
    injection h3 with h3 _
    injection h3
  exact ⟨r', by rw [← e]; exact upd_same⟩⟩
theorem dr_ne {H : Hp} {c d : Addr} {ns : List Int} {x : Addr} {i a b e : Int} (h1 : H d = some (.lst [.ref x, .int i, .int a, .int b, .int e])) (h2 : H c = some (.lst (ns.map V.int))) : c ≠ d := ne_of h2 h1 fun z => by
  have z2 : ns.map V.int = [.ref x, .int i, .int a, .int b, .int e] := by injection z
  cases ns with
  | nil => cases z2
  | cons n r =>
    rw [List.map_cons] at z2
    injection z2 with z3 _
    cases z3
theorem Dr.same {H H' : Hp} {d : Addr} (h : Dr H d) (e : Same H H') : Dr H' d := by
  obtain ⟨c, ns, i, a, b, f, h1, h2, h3⟩ := h
  exact ⟨c, ns, i, a, b, f, e _ _ h1, e _ _ h2, h3⟩
section
variable {P : Program} {w : World} {K : PySem.W.Frag} {mg : Str → Option Value} {base : Heap}
def spDraw : Sp := fun vs H Q _ => ∃ d n, vs = [.ref d, .int n] ∧ Dr H d ∧ 1 ≤ n ∧ n ≤ 1000 ∧ ∀ H' v, SmD d H H' → Dr H' d → 0 ≤ v → v < n → Q (.int v) H'
set_option maxHeartbeats 1000000 in
theorem ok_draw {f : Addr} {fd : FuncData} {k : Nat} (B : BM mg) (F : Fun K "_law_draw" "_law_draw" sDraw f fd) : FnOk P w K mg base CX0 (k + 1) f fd ["_law_d", "_law_many"] spDraw := by
  refine F.ok scDraw (fun vs H Q E h => ?_) (fun cdv A outer s H vs Q E hr h => ?_)
  · obtain ⟨d, n, rfl, _⟩ := h
    rfl
  · obtain ⟨d, n, rfl, D, hn1, hn2, q⟩ := h
    refine ⟨_, C8.pss_cut (ps_if (PW.pt (pw_and (pt_cmpR op_lt (pe_ix ix_list (pv 0) pe_int (fun _ _ => rfl)) (pv 1) (nomark _))
        (pw_and1 (pt_cmpR op_lt (pe_ix ix_list (pv 0) pe_int (fun _ _ => rfl)) (pe_callB call_len_seq (by rfl) B.len PySem.boot_len (pa_cons (pe_ix ix_list (pv 0) pe_int (fun _ _ => rfl)) pa_nil)) (nomark _)))))
      (pss_cons (ps_set (i := 2) scDraw.nd rfl (.inl rfl) (pe_ix ix_list (pe_ix ix_list (pv 0) pe_int (fun _ _ => rfl)) (pe_ix ix_list (pv 0) pe_int (fun _ _ => rfl)) (fun _ _ => rfl)))
      (pss_cons (ps_asg (pe_op op_add (pe_ix ix_list (pv 0) pe_int (fun _ _ => rfl)) pe_int) (pg_sub (pv 0) pe_int set_list))
      (pss_cons (ps_asg (pe_ifExp (pt_cmpR op_ge (pv 2) (pe_op op_pow pe_int pe_int) (nomark _)) (pv 2) pe_int) (pg_sub (pv 0) pe_int set_list))
      (pss_one (ps_asg (pe_op op_mod (pe_op op_add (pe_op op_add (pe_op op_mul (pe_ix ix_list (pv 0) pe_int (fun _ _ => rfl)) pe_int) (pe_op op_mod (pv 2) pe_int)) pe_int) pe_int) (pg_sub (pv 0) pe_int set_list)))))) pss_nil)
      (pss_cons (ps_if (pt_cmpR op_ge (pe_ix ix_list (pv 0) pe_int (fun _ _ => rfl)) (pv 1) (nomark _))
        (pss_cons (ps_set (i := 3) scDraw.nd rfl (.inl rfl) (pe_op op_mod (pe_ix ix_list (pv 0) pe_int (fun _ _ => rfl)) (pv 1)))
        (pss_cons (ps_asg (pe_op op_fdiv (pe_ix ix_list (pv 0) pe_int (fun _ _ => rfl)) (pv 1)) (pg_sub (pv 0) pe_int set_list))
        (pss_one (ps_ret (pv 3))))) pss_nil)
      (pss_cons (ps_asg (pe_op op_add (pe_ix ix_list (pv 0) pe_int (fun _ _ => rfl)) pe_int) (pg_sub (pv 0) pe_int set_list))
      (pss_cons (ps_set (i := 4) scDraw.nd rfl (.inl rfl) (pe_op op_add (pe_op op_add (pe_op op_mul (pe_ix ix_list (pv 0) pe_int (fun _ _ => rfl)) pe_int) (pe_op op_mul (pe_ix ix_list (pv 0) pe_int (fun _ _ => rfl)) pe_int)) pe_int))
      (pss_cons (ps_set (i := 4) scDraw.nd rfl (.inl rfl) (pe_op op_add (pe_op op_mul (pv 4) (pe_op op_add (pe_op op_mod (pv 4) pe_int) pe_int)) (pe_op op_mul (pe_ix ix_list (pv 0) pe_int (fun _ _ => rfl)) pe_int)))
      (pss_cons (ps_asg (pe_op op_mod (pv 4) pe_int) (pg_sub (pv 0) pe_int set_list))
      (pss_one (ps_ret (pe_op op_mod (pe_op op_add (pe_op op_fdiv (pe_ix ix_list (pv 0) pe_int (fun _ _ => rfl)) pe_int) (pe_op op_mul (pe_op op_mod (pe_ix ix_list (pv 0) pe_int (fun _ _ => rfl)) pe_int) pe_int)) (pv 1))))))))), ?_⟩
    obtain ⟨c, ns, i, a, b, e, hd, hc, hi⟩ := D
    have nc := dr_ne hd hc
    refine ⟨fun σ H' => ∃ y2 y3 y4, σ = [some (.ref d), some (.int n), y2, y3, y4] ∧ SmD d H H' ∧ Dr H' d, ?_, ?_⟩
    · refine ⟨_, rfl, d, _, 2, .int a, rfl, rfl, SqL.of hd, rfl, _, rfl, _, _, rfl, rfl, _, rfl, ite2 (fun t1 => ?_) (fun t1 => ?_)⟩
      · refine ⟨_, rfl, d, _, 1, .int i, rfl, rfl, SqL.of hd, rfl, _, rfl, d, _, 0, .ref c, rfl, rfl, SqL.of hd, rfl, c, _, rfl, .inl (SqL.of hc), _, _, rfl, rfl, _, rfl, ite2 (fun t2 => ?_) (fun t2 => ?_)⟩
        · have hil : i < (ns.length : Int) := by
            have := of_decide_eq_true t2
            rw [List.length_map] at this
            exact this
          obtain ⟨j, rfl⟩ := Int.eq_ofNat_of_zero_le hi
          have hjl : j < ns.length := by omega
          have hat : (ns.map V.int)[j]? = some (.int ns[j]) := by rw [List.getElem?_map, List.getElem?_eq_getElem hjl]; rfl
          refine ⟨_, rfl, d, _, 0, .ref c, rfl, rfl, SqL.of hd, rfl, _, rfl, d, _, 1, .int j, rfl, rfl, SqL.of hd, rfl, c, _, j, .int ns[j], rfl, rfl, SqL.of hc, atI_nat hat, ?_⟩
          generalize ns[j] = z
          refine ⟨_, rfl, d, _, 1, .int j, rfl, rfl, SqL.of hd, rfl, _, _, rfl, rfl, _, rfl, d, _, 1, 1, rfl, rfl, hd, rfl, ?_⟩
          have fin : ∀ (H2 : Hp) (z2 : Int), SmD d H H2 → H2 d = some (.lst [.ref c, .int ((j : Int) + 1), .int z2, .int b, .int e]) →
              ∃ H3, SmD d H H3 ∧ Dr H3 d ∧ H3 = upd H2 d (.lst ([.ref c, .int ((j : Int) + 1), .int z2, .int b, .int e].set 3 (.int ((b * 69621 + z % 998244353 + 1) % 2147483647)))) := fun H2 z2 s2 e2 =>
            ⟨_, s2.trans (SmD.upd e2), ⟨c, ns, _, _, _, _, upd_same, by rw [upd_ne nc]; exact s2.1 _ _ nc hc, by omega⟩, rfl⟩
          refine ⟨_, rfl, _, _, rfl, rfl, ⟨by decide, by decide, by decide⟩, _, _, rfl, rfl, _, rfl, ite2 (fun t3 => ?_) (fun t3 => ?_)⟩
          · refine ⟨_, rfl, _, rfl, d, _, 2, 2, rfl, rfl, upd_same, rfl, ?_⟩
            rw [L2.upd_upd]
            obtain ⟨H3, a1, a2, a3⟩ := fin (upd H d (.lst [.ref c, .int ((j : Int) + 1), .int z, .int b, .int e])) z (SmD.upd hd) upd_same
            refine ⟨_, rfl, d, _, 3, .int b, rfl, rfl, SqL.of upd_same, rfl, _, _, rfl, rfl, .inr ⟨by decide, by decide⟩, _, rfl, _, _, rfl, rfl, (by show (0 : Int) < 998244353; decide), _, _, rfl, rfl, _, _, rfl, rfl, _, _, rfl, rfl, (by show (0 : Int) < 2147483647; decide), _, rfl, d, _, 3, 3, rfl, rfl, upd_same, rfl, ?_⟩
            exact ⟨_, _, _, rfl, by rw [a3] at a1; exact a1, by rw [a3] at a2; exact a2⟩
          · refine ⟨_, rfl, d, _, 2, 2, rfl, rfl, upd_same, rfl, ?_⟩
            rw [L2.upd_upd]
            obtain ⟨H3, a1, a2, a3⟩ := fin (upd H d (.lst [.ref c, .int ((j : Int) + 1), .int 0, .int b, .int e])) 0 (SmD.upd hd) upd_same
            refine ⟨_, rfl, d, _, 3, .int b, rfl, rfl, SqL.of upd_same, rfl, _, _, rfl, rfl, .inr ⟨by decide, by decide⟩, _, rfl, _, _, rfl, rfl, (by show (0 : Int) < 998244353; decide), _, _, rfl, rfl, _, _, rfl, rfl, _, _, rfl, rfl, (by show (0 : Int) < 2147483647; decide), _, rfl, d, _, 3, 3, rfl, rfl, upd_same, rfl, ?_⟩
            exact ⟨_, _, _, rfl, by rw [a3] at a1; exact a1, by rw [a3] at a2; exact a2⟩
        · exact ⟨_, _, _, rfl, SmD.refl _ _, c, ns, i, a, b, e, hd, hc, hi⟩
      · exact iteF ⟨_, _, _, rfl, SmD.refl _ _, c, ns, i, a, b, e, hd, hc, hi⟩
    · rintro σ H1 ⟨y2, y3, y4, rfl, s1, c1, ns1, i1, a1, b1, e1, hd1, hc1, hi1⟩
      have nc1 := dr_ne hd1 hc1
      refine ⟨_, rfl, d, _, 2, .int a1, rfl, rfl, SqL.of hd1, rfl, _, rfl, _, _, rfl, rfl, _, rfl, ite2 (fun t1 => ?_) (fun t1 => ?_)⟩
      · refine ⟨_, rfl, d, _, 2, .int a1, rfl, rfl, SqL.of hd1, rfl, _, rfl, _, _, rfl, rfl, (by show 0 < n; omega), ?_⟩
        refine ⟨_, rfl, d, _, 2, .int a1, rfl, rfl, SqL.of hd1, rfl, _, rfl, _, _, rfl, rfl, ⟨by omega, by omega⟩, _, rfl, d, _, 2, 2, rfl, rfl, hd1, rfl, ?_⟩
        refine ⟨_, rfl, q _ _ (s1.trans (SmD.upd hd1)) ⟨c1, ns1, _, _, _, _, upd_same, by rw [upd_ne nc1]; exact hc1, hi1⟩ (Int.emod_nonneg _ (by omega)) (Int.emod_lt_of_pos _ (by omega))⟩
      · refine ⟨_, rfl, d, _, 4, .int e1, rfl, rfl, SqL.of hd1, rfl, _, _, rfl, rfl, _, rfl, d, _, 4, 4, rfl, rfl, hd1, rfl, ?_⟩
        have hd2 : (upd H1 d (.lst ([.ref c1, .int i1, .int a1, .int b1, .int e1].set 4 (.int (e1 + 1))))) d = some (.lst [.ref c1, .int i1, .int a1, .int b1, .int (e1 + 1)]) := upd_same
        refine ⟨_, rfl, d, _, 3, .int b1, rfl, rfl, SqL.of hd2, rfl, _, _, rfl, rfl, .inr ⟨by decide, by decide⟩, _, rfl, d, _, 4, .int (e1 + 1), rfl, rfl, SqL.of hd2, rfl, _, _, rfl, rfl, .inr ⟨by decide, by decide⟩, _, _, rfl, rfl, _, _, rfl, rfl, ?_⟩
        have m1 : 0 ≤ (b1 * 16807 + (e1 + 1) * 40692 + 7) % 65521 := Int.emod_nonneg _ (by decide)
        have m2 : (b1 * 16807 + (e1 + 1) * 40692 + 7) % 65521 < 65521 := Int.emod_lt_of_pos _ (by decide)
        refine ⟨_, rfl, _, rfl, _, _, rfl, rfl, (by show (0 : Int) < 65521; decide), _, _, rfl, rfl, _, _, rfl, rfl, .inr ⟨by show -(2 ^ 64) < (b1 * 16807 + (e1 + 1) * 40692 + 7) % 65521 + 3; omega, by show (b1 * 16807 + (e1 + 1) * 40692 + 7) % 65521 + 3 < 2 ^ 64; omega⟩, _, rfl, d, _, 4, .int (e1 + 1), rfl, rfl, SqL.of hd2, rfl, _, _, rfl, rfl, .inr ⟨by decide, by decide⟩, _, _, rfl, rfl, ?_⟩
        refine ⟨_, rfl, _, _, rfl, rfl, (by show (0 : Int) < 2147483629; decide), _, rfl, d, _, 3, 3, rfl, rfl, hd2, rfl, ?_⟩
        have hd3 : (upd (upd H1 d (.lst ([.ref c1, .int i1, .int a1, .int b1, .int e1].set 4 (.int (e1 + 1))))) d (.lst ([.ref c1, .int i1, .int a1, .int b1, .int (e1 + 1)].set 3 (.int (((b1 * 16807 + (e1 + 1) * 40692 + 7) * ((b1 * 16807 + (e1 + 1) * 40692 + 7) % 65521 + 3) + (e1 + 1) * 9176) % 2147483629))))) d = some (.lst [.ref c1, .int i1, .int a1, .int (((b1 * 16807 + (e1 + 1) * 40692 + 7) * ((b1 * 16807 + (e1 + 1) * 40692 + 7) % 65521 + 3) + (e1 + 1) * 9176) % 2147483629), .int (e1 + 1)]) := upd_same
        refine ⟨_, rfl, d, _, 3, .int (((b1 * 16807 + (e1 + 1) * 40692 + 7) * ((b1 * 16807 + (e1 + 1) * 40692 + 7) % 65521 + 3) + (e1 + 1) * 9176) % 2147483629), rfl, rfl, SqL.of hd3, rfl, _, _, rfl, rfl, ⟨by decide, by decide⟩, _, rfl, d, _, 3, .int (((b1 * 16807 + (e1 + 1) * 40692 + 7) * ((b1 * 16807 + (e1 + 1) * 40692 + 7) % 65521 + 3) + (e1 + 1) * 9176) % 2147483629), rfl, rfl, SqL.of hd3, rfl, _, _, rfl, rfl, (by show (0 : Int) < 8191; decide), _, _, rfl, rfl, .inr ⟨by decide, by decide⟩, _, _, rfl, rfl, _, rfl, _, _, rfl, rfl, (by show 0 < n; omega), ?_⟩
        refine q _ _ ((s1.trans (SmD.upd hd1)).trans (SmD.upd hd2)) ⟨c1, ns1, _, _, _, _, hd3, by rw [upd_ne nc1, upd_ne nc1]; exact hc1, hi1⟩ (Int.emod_nonneg _ (by omega)) (Int.emod_lt_of_pos _ (by omega))
end
end NC
namespace NC
open PySem PySem.Spec PyProof.Rows L2
def ltrs : List Nat := (List.range 26).map (· + 97)
theorem ltrs_eq : Str.ofString "abcdefghijklmnopqrstuvwxyz" = tx ltrs := by decide +kernel
theorem ltrs_at {i c : Nat} (h : ltrs[i]? = some c) : c = 97 + i ∧ i < 26 := by
  unfold ltrs at h
  rw [List.getElem?_map] at h
  obtain ⟨j, hj, e⟩ := Option.map_eq_some_iff.mp h
  obtain ⟨h1, h2⟩ := List.getElem?_eq_some_iff.mp hj
  rw [List.getElem_range] at h2
  rw [List.length_range] at h1
  omega
theorem smx_l {K : PySem.W.Frag} {d : Addr} {H H' : Hp} {a : Addr} {xs : List V} (e : SmX d H H') (n : a ≠ d) (h : SqL K H a xs) : SqL K H' a xs := by
  rcases h with (h | ⟨o, h⟩) | h
  · exact .inl (.inl (e _ _ n h))
  · exact .inl (.inr ⟨o, e _ _ n h⟩)
  · exact .inr h
theorem len_v {n : Nat} : V.int ((n : Nat) : Int) = V.int (n : Int) := rfl
section
variable {P : Program} {w : World} {K : PySem.W.Frag} {mg : Str → Option Value} {base : Heap}
/-! ### _law_start -/
def spStart (K : PySem.W.Frag) : Sp := fun vs H Q _ => ∃ (a : Addr) (ns : List Int), vs = [.ref a] ∧ SqL K H a (ns.map V.int) ∧ ∀ H' d, Same H H' → H d = none → Dr H' d → Q (.ref d) H'
theorem ok_start {f : Addr} {fd : FuncData} {k : Nat} (B : BM mg) (F : Fun K "_law_start" "_law_start" sStart f fd) : FnOk P w K mg base CX0 (k + 1) f fd ["_law_script"] (spStart K) := by
  refine F.ok scStart (fun vs H Q E h => ?_) (fun cdv A outer s H vs Q E hr h => ?_)
  · obtain ⟨a, ns, rfl, _⟩ := h
    rfl
  · obtain ⟨a, ns, rfl, hS, q⟩ := h
    refine ⟨_, pss_cons (ps_set (i := 1) scStart.nd rfl (.inl rfl) pe_int)
      (pss_cons (ps_for PassesOwn.never rfl (pi_list (pe_slice sl_list (pv 0) po_none (po_some pe_int))) (pg_name (i := 2) scStart.nd rfl (.inl rfl))
        (pss_one (ps_set (i := 1) scStart.nd rfl (.inl rfl) (pe_op op_mod (pe_op op_add (pe_op op_add (pe_op op_mul (pv 1) pe_int) (pe_op op_mod (pv 2) pe_int)) pe_int) pe_int))))
      (pss_one (ps_ret (pe_lst (pa_cons (pe_callTy call_list_of (by rfl) B.list (by decide +kernel) (pa_cons (pe_slice sl_list (pv 0) po_none (po_some pe_int)) pa_nil)) (pa_cons pe_int (pa_cons pe_int (pa_cons (pv 1) (pa_cons pe_int pa_nil))))))))), ?_⟩
    refine ⟨_, rfl, 63, rfl, a, _, rfl, hS, fun p np => ⟨p, rfl, ⟨_, SqL.of upd_same⟩, ?_⟩⟩
    have ec : cutV (ns.map V.int) none (some 63) = (ns.take 63).map V.int := by
      unfold cutV
      rw [HT.sIx_none, show HT.sIx (ns.map V.int).length (ns.map V.int).length (some 63) = min 63 (ns.map V.int).length from HT.sIx_nat _ _ 63, List.drop_zero, Nat.sub_zero, List.map_take, List.length_map]
      rcases Nat.le_total 63 ns.length with h | h
      · rw [Nat.min_eq_left h]
      · rw [Nat.min_eq_right h, List.take_of_length_le (by rw [List.length_map]; exact Nat.le_refl _), List.take_of_length_le (by rw [List.length_map]; exact h)]
    rw [ec]
    have wk := walk_list (K := K) (a := p) (xs := (ns.take 63).map V.int)
    refine for_it wk (fun i σ H' => ∃ (z : Int) (y2 : Option V), σ = [some (.ref a), some (.int z), y2] ∧ Same H H' ∧ H' p = some (.lst ((ns.take 63).map V.int))) ⟨_, _, rfl, same_upd np, upd_same⟩
      (fun i σ H' _ h => by obtain ⟨_, _, _, _, h⟩ := h; exact SqL.of h) ?_ ?_
    · rintro i x σ H1 H2 hi ⟨z, y2, rfl, sm, ep⟩ ⟨rfl, hx⟩
      rw [List.getElem?_map] at hx
      obtain ⟨c, hc, rfl⟩ := Option.map_eq_some_iff.mp hx
      exact ⟨_, rfl, _, _, rfl, rfl, .inr ⟨by decide, by decide⟩, _, rfl, _, _, rfl, rfl, (by show (0 : Int) < 1000003; decide), _, _, rfl, rfl, _, _, rfl, rfl, _, _, rfl, rfl, (by show (0 : Int) < 2147483647; decide), _, _, rfl, sm, ep⟩
    · rintro σ H1 ⟨z, y2, rfl, sm, ep⟩
      refine ⟨_, rfl, 63, rfl, a, _, rfl, sm_l sm hS, fun p2 np2 => ⟨p2, _, rfl, .inl (SqL.of upd_same), fun p3 np3 => ?_⟩⟩
      rw [ec] at np3 ⊢
      have s3 := sm_upd (o := .lst ((ns.take 63).map V.int)) (sm_upd (o := .lst ((ns.take 63).map V.int)) sm np2) np3
      refine ⟨_, rfl, by show 5 ≤ sizeLine; decide, fun d nd => ?_⟩
      have n3 : p3 ≠ d := ne_of_none upd_same nd
      exact q _ d (sm_upd s3 nd) (L2.Same.free s3 nd) ⟨p3, ns.take 63, 0, 0, _, 0, upd_same, by rw [upd_ne n3, upd_same], Int.le_refl _⟩
/-! ### _law_of -/
def spOf (K : PySem.W.Frag) : Sp := fun vs H Q _ => ∃ d x, vs = [.ref d, x] ∧ Dr H d ∧
  ((∃ a xs, x = .ref a ∧ a ≠ d ∧ SqL K H a xs ∧ 1 ≤ xs.length ∧ xs.length ≤ 1000 ∧ ∀ H' v (i : Nat), SmD d H H' → Dr H' d → xs[i]? = some v → Q v H') ∨
    ∃ l : List Nat, x = .str (tx l) ∧ 1 ≤ l.length ∧ l.length ≤ 1000 ∧ ∀ H' c, SmD d H H' → Dr H' d → c ∈ l → Q (.str (sg c)) H')
theorem ok_of {f fD : Addr} {fd fdD : FuncData} {k : Nat} (B : BM mg) (F : Fun K "_law_of" "_law_of" sOf f fd) (D : DF K mg "_law_draw" sDraw ["_law_d", "_law_many"] fD fdD) : FnOk P w K mg base CX0 (k + 2) f fd ["_law_d", "_law_some"] (spOf K) := by
  have GD : FnOk P w K mg base CX0 (k + 1) fD fdD ["_law_d", "_law_many"] spDraw := ok_draw B D.F
  refine F.ok scOf (fun vs H Q E h => ?_) (fun cdv A outer s H vs Q E hr h => ?_)
  · obtain ⟨d, x, rfl, _⟩ := h
    rfl
  · obtain ⟨d, x, rfl, hD, h⟩ := h
    refine ⟨_, pss_one (ps_ret (pe_ix (IxR.or ix_list ix_str) (pv 1) (pe_call GD hr rfl D.g D.F.kp D.b .nil pass0 (pa_cons (pv 0) (pa_cons (pe_callB (CallR.or call_len_seq call_len_str) (by rfl) B.len PySem.boot_len (pa_cons (pv 1) pa_nil)) pa_nil))) (fun _ _ => rfl))), ?_⟩
    rcases h with ⟨a, xs, rfl, nd, hS, h1, h2, q⟩ | ⟨l, rfl, h1, h2, q⟩
    · refine ⟨_, rfl, _, rfl, _, rfl, .inl ⟨a, xs, rfl, .inl hS, d, _, rfl, hD, by omega, by omega, fun H1 v s1 D1 v0 v1 => ?_⟩⟩
      obtain ⟨j, rfl⟩ := Int.eq_ofNat_of_zero_le v0
      have hj : j < xs.length := by omega
      exact .inl ⟨a, xs, j, xs[j], rfl, rfl, smx_l s1.1 nd hS, atI_nat (List.getElem?_eq_getElem hj), q H1 _ j s1 D1 (List.getElem?_eq_getElem hj)⟩
    · have hz : (tx l).length ≤ sizeLine := by rw [tx_len, sizeLine_eq]; omega
      refine ⟨_, rfl, _, rfl, _, rfl, .inr ⟨tx l, rfl, hz, d, _, rfl, hD, by rw [tx_len]; omega, by rw [tx_len]; omega, fun H1 v s1 D1 v0 v1 => ?_⟩⟩
      obtain ⟨j, rfl⟩ := Int.eq_ofNat_of_zero_le v0
      have hj : j < l.length := by rw [tx_len] at v1; omega
      exact .inr ⟨tx l, j, l[j], rfl, rfl, hz, by rw [tx_list]; exact atI_nat (List.getElem?_eq_getElem hj), q H1 _ s1 D1 (List.getElem_mem hj)⟩
/-! ### _law_letters -/
theorem ok_letters {f : Addr} {fd : FuncData} {k : Nat} (F : Fun K "_law_letters" "_law_letters" sLetters f fd) : FnOk P w K mg base CX0 (k + 1) f fd [] (fun vs H Q _ => vs = [] ∧ Q (.str (tx ltrs)) H) := by
  refine F.ok scLetters (fun vs H Q E h => ?_) (fun cdv A outer s H vs Q E hr h => ?_)
  · obtain ⟨rfl, _⟩ := h
    rfl
  · obtain ⟨rfl, q⟩ := h
    refine ⟨_, pss_one (ps_ret pe_str), ?_⟩
    show Q (.str (Str.ofString "abcdefghijklmnopqrstuvwxyz")) H
    rw [ltrs_eq]
    exact q
end
end NC
namespace NC
open PySem PySem.Spec PyProof.Rows L2
abbrev sShuts : Stmt := topS 32
theorem scShuts : FnScope ["_law_d", "_law_most", "_law_found", "_law_skip", "_law_sign"] ["_law_d", "_law_most"] (defScope sShuts) := ⟨rfl, rfl, rfl, by decide +kernel, rfl, by decide +kernel, by decide +kernel⟩
theorem cut_from (l : List Nat) (j : Nat) : cutS (tx l) (some ((j : Nat) : Int)) none = tx (l.drop j) := by
  unfold cutS
  rw [HT.sIx_none, HT.sIx_nat, tx_list, tx_len]
  show Str.mk _ = Str.mk _
  congr 1
  rcases Nat.le_total j l.length with h | h
  · rw [Nat.min_eq_left h, List.take_of_length_le (by rw [List.length_drop]; exact Nat.le_refl _)]
  · rw [Nat.min_eq_right h, List.drop_of_length_le (Nat.le_refl _), List.drop_of_length_le h]
    simp
/-- rising small letters -/
structure Rise (l : List Nat) : Prop where
  lo : 1 ≤ l.length
  sm : ∀ c ∈ l, 97 ≤ c ∧ c ≤ 122
  pw : l.Pairwise (· < ·)
theorem strK : (Str.ofString "k") = tx [107] := by decide +kernel
theorem str0 : (Str.ofString "") = tx [] := by decide +kernel
theorem good_k : Rise [107] := ⟨by decide, fun c h => by simp at h; omega, by simp⟩
section
variable {P : Program} {w : World} {K : PySem.W.Frag} {mg : Str → Option Value} {base : Heap}
def spShuts : Sp := fun vs H Q _ => ∃ (d : Addr) (n : Int), vs = [.ref d, .int n] ∧ Dr H d ∧ 1 ≤ n ∧ n ≤ 26 ∧ ∀ H' l, SmD d H H' → Dr H' d → Rise l → (l.length : Int) ≤ n → Q (.str (tx l)) H'
set_option maxHeartbeats 1000000 in
theorem ok_shuts {f fD fL : Addr} {fd fdD fdL : FuncData} {k : Nat} (B : BM mg) (F : Fun K "_law_shuts" "_law_shuts" sShuts f fd) (D : DF K mg "_law_draw" sDraw ["_law_d", "_law_many"] fD fdD) (Lt : DF K mg "_law_letters" sLetters [] fL fdL) :
    FnOk P w K mg base CX0 (k + 2) f fd ["_law_d", "_law_most"] spShuts := by
  have GD : FnOk P w K mg base CX0 (k + 1) fD fdD ["_law_d", "_law_many"] spDraw := ok_draw B D.F
  have GL := ok_letters (P := P) (w := w) (mg := mg) (base := base) (k := k) Lt.F
  refine F.ok scShuts (fun vs H Q E h => ?_) (fun cdv A outer s H vs Q E hr h => ?_)
  · obtain ⟨d, n, rfl, _⟩ := h
    rfl
  · obtain ⟨d, n, rfl, hD, hn1, hn2, q⟩ := h
    refine ⟨_, pss_cons (ps_set (i := 2) scShuts.nd rfl (.inl rfl) pe_str)
      (pss_cons (ps_set (i := 3) scShuts.nd rfl (.inl rfl) (pe_ix ix_list (pe_lst (pa_cons pe_int (pa_cons pe_int (pa_cons pe_int pa_nil)))) (pe_call GD hr rfl D.g D.F.kp D.b .nil pass0 (pa_cons (pv 0) (pa_cons pe_int pa_nil))) (fun _ _ => rfl)))
      (pss_cons (ps_for PassesOwn.never rfl (pi_str (pe_slice sl_str (pe_call0 GL hr rfl Lt.g Lt.F.kp Lt.b .nil pass0) (po_some (pe_call GD hr rfl D.g D.F.kp D.b .nil pass0 (pa_cons (pv 0) (pa_cons pe_int pa_nil)))) po_none)) (pg_name (i := 4) scShuts.nd rfl (.inl rfl))
        (pss_one (ps_if (PW.pt (pw_and (pt_cmpR op_lt (pe_callB call_len_str (by rfl) B.len PySem.boot_len (pa_cons (pv 2) pa_nil)) (pv 1) (nomark _))
            (pw_and1 (PW.pt (pw_or (pt_cmpR op_eq (pv 3) pe_int (nomark _)) (pw_or1 (pt_cmpR op_eq (pe_call GD hr rfl D.g D.F.kp D.b .nil pass0 (pa_cons (pv 0) (pa_cons (pv 3) pa_nil))) pe_int (nomark _))))))))
          (pss_one (ps_set (i := 2) scShuts.nd rfl (.inl rfl) (pe_op op_add_str (pv 2) (pv 4)))) pss_nil)))
      (pss_one (ps_ret (pe_ifExp (pt_cmpR op_ne (pv 2) pe_str (nomark _)) (pv 2) pe_str))))), ?_⟩
    refine ⟨by show 3 ≤ sizeLine; decide, fun p np => ?_⟩
    have ndp : d ≠ p := by
      obtain ⟨c, ns, i, a, b, e, hd, _⟩ := hD
      exact ne_of_none hd np
    have D1 : Dr (upd H p (.lst [.int 0, .int 2, .int 26])) d := hD.same (same_upd np)
    refine ⟨_, rfl, d, 3, rfl, D1, by decide, by decide, fun H1 v s1 D1' v0 v1 => ?_⟩
    have s01 : SmD d H H1 := (SmD.of (same_upd np)).trans s1
    have ep : H1 p = some (.lst [.int 0, .int 2, .int 26]) := s1.1 _ _ (Ne.symm ndp) upd_same
    obtain ⟨sk, hsk, hat⟩ : ∃ sk : Int, (sk = 0 ∨ sk = 2 ∨ sk = 26) ∧ atI [V.int 0, .int 2, .int 26] v = some (.int sk) := by
      have hv : v = 0 ∨ v = 1 ∨ v = 2 := by omega
      rcases hv with rfl | rfl | rfl
      · exact ⟨0, .inl rfl, rfl⟩
      · exact ⟨2, .inr (.inl rfl), rfl⟩
      · exact ⟨26, .inr (.inr rfl), rfl⟩
    refine ⟨p, _, v, .int sk, rfl, rfl, SqL.of ep, hat, ?_⟩
    refine ⟨rfl, _, rfl, d, 9, rfl, D1', by decide, by decide, fun H2 u s2 D2 u0 u1 => ?_⟩
    obtain ⟨j, rfl⟩ := Int.eq_ofNat_of_zero_le u0
    refine ⟨_, rfl, _, rfl, by rw [tx_len, sizeLine_eq]; decide, ?_⟩
    rw [cut_from]
    refine ⟨_, rfl, ?_⟩
    have lz : (tx (ltrs.drop j)).cps.size = (ltrs.drop j).length := tx_len _
    refine for_it walk_str (fun i σ H' => ∃ (l : List Nat) (y4 : Option V), σ = [some (.ref d), some (.int n), some (.str (tx l)), some (.int sk), y4] ∧ SmD d H H' ∧ Dr H' d ∧ l.Pairwise (· < ·) ∧ (∀ c ∈ l, 97 ≤ c ∧ c < 97 + (j + i) ∧ c ≤ 122) ∧ (l.length : Int) ≤ n)
      ⟨[], _, by rw [← str0]; rfl, s01.trans s2, D2, List.Pairwise.nil, (fun c h => absurd h (by simp)), by show (0 : Int) ≤ n; omega⟩ (fun _ _ _ _ _ => trivial) ?_ ?_
    · rintro i x σ H3 H4 hi ⟨l, y4, rfl, s3, D3, pw, hb, hln⟩ ⟨rfl, c, hc, rfl⟩
      have hcc : c = 97 + (j + i) ∧ j + i < 26 := by
        rw [← Array.getElem?_toList, tx_list, List.getElem?_drop] at hc
        exact ltrs_at hc
      have hlz : (tx l).length ≤ sizeLine := by rw [tx_len, sizeLine_eq]; omega
      have stay : ∀ (y : Option V) (H5 : Hp), SmD d H H5 → Dr H5 d → ∃ (l1 : List Nat) (y4 : Option V), [some (V.ref d), some (.int n), some (.str (tx l)), some (.int sk), y] = [some (.ref d), some (.int n), some (.str (tx l1)), some (.int sk), y4] ∧ SmD d H H5 ∧ Dr H5 d ∧ l1.Pairwise (· < ·) ∧
          (∀ c ∈ l1, 97 ≤ c ∧ c < 97 + (j + (i + 1)) ∧ c ≤ 122) ∧ (l1.length : Int) ≤ n := fun y H5 a1 a2 => ⟨l, y, rfl, a1, a2, pw, fun e he => by have := hb e he; omega, hln⟩
      have grow : ∀ (H5 : Hp), SmD d H H5 → Dr H5 d → (l.length : Int) < n → (tx l).length + (sg c).length ≤ sizeLine ∧ ∃ (l1 : List Nat) (y4 : Option V), [some (V.ref d), some (.int n), some (.str (tx l ++ sg c)), some (.int sk), some (.str (sg c))] = [some (.ref d), some (.int n), some (.str (tx l1)), some (.int sk), y4] ∧ SmD d H H5 ∧ Dr H5 d ∧ l1.Pairwise (· < ·) ∧
          (∀ c ∈ l1, 97 ≤ c ∧ c < 97 + (j + (i + 1)) ∧ c ≤ 122) ∧ (l1.length : Int) ≤ n := fun H5 a1 a2 hlt => by
        refine ⟨by rw [tx_len, sizeLine_eq]; show l.length + 1 ≤ _; omega, l ++ [c], _, by rw [sg_tx, tx_app], a1, a2, ?_, fun e he => ?_, by rw [List.length_append]; show ((l.length + 1 : Nat) : Int) ≤ n; omega⟩
        · refine List.pairwise_append.mpr ⟨pw, by simp, fun a ha b hb2 => ?_⟩
          have := hb a ha
          have := List.mem_singleton.mp hb2
          omega
        · rcases List.mem_append.mp he with z | z
          · have := hb e z
            omega
          · have := List.mem_singleton.mp z
            omega
      refine ⟨_, rfl, _, rfl, hlz, _, rfl, _, _, rfl, rfl, _, rfl, ite2 (fun t1 => ?_) (fun t1 => ?_)⟩
      · have hlt : (l.length : Int) < n := by
          have := of_decide_eq_true t1
          rw [tx_len] at this
          exact this
        refine ⟨_, rfl, rfl, _, rfl, ite2 (fun t2 => ?_) (fun t2 => ?_)⟩
        · obtain ⟨g1, g2⟩ := grow H4 s3 D3 hlt
          exact iteT ⟨_, rfl, _, rfl, _, _, rfl, rfl, g1, g2⟩
        · have hsk2 : 1 ≤ sk ∧ sk ≤ 1000 := by
            have : sk ≠ 0 := fun z => t2 (by rw [z]; exact decide_eq_true rfl)
            omega
          refine ⟨_, rfl, _, rfl, d, sk, rfl, D3, hsk2.1, hsk2.2, fun H5 v5 s5 D5 _ _ => ⟨rfl, _, rfl, ite2 (fun t3 => ?_) (fun t3 => ?_)⟩⟩
          · obtain ⟨g1, g2⟩ := grow H5 (s3.trans s5) D5 hlt
            exact ⟨_, rfl, _, rfl, _, _, rfl, rfl, g1, g2⟩
          · exact stay _ H5 (s3.trans s5) D5
      · exact iteF (stay _ H4 s3 D3)
    · rintro σ H3 ⟨l, y4, rfl, s3, D3, pw, hb, hln⟩
      refine ⟨_, rfl, rfl, _, rfl, ite2 (fun t1 => ?_) (fun t1 => ?_)⟩
      · have hl0 : l ≠ [] := fun z => by
          rw [z, ← str0] at t1
          exact absurd t1 (by decide +kernel)
        refine ⟨_, rfl, q H3 l s3 D3 ⟨List.length_pos_iff.mpr hl0, fun c hc => (by have := hb c hc; omega), pw⟩ hln⟩
      · show Q (.str (Str.ofString "k")) H3
        rw [strK]
        exact q H3 [107] s3 D3 good_k (by show (1 : Int) ≤ n; omega)
end
end NC
namespace NC
open PySem PySem.Spec PyProof.Rows L2
abbrev sSame : Stmt := topS 27
theorem scSame : FnScope ["_law_x", "_law_due", "_law_k"] ["_law_x", "_law_due"] (defScope sSame) := ⟨rfl, rfl, rfl, by decide +kernel, rfl, by decide +kernel, by decide +kernel⟩
theorem boot_isi : bootBuiltins "isinstance" = some (.builtin "isinstance") := PyProof.Rows.boot_isinstance
/-- two things that are the same all through, at most n lists or tuples within one another -/
inductive Alk (H : Hp) : Nat → V → V → Prop where
  | str {n : Nat} (a : Str) : Alk H n (.str a) (.str a)
  | bl {n : Nat} (a : Bool) : Alk H n (.bl a) (.bl a)
  | int {n : Nat} (a : Int) : Alk H n (.int a) (.int a)
  | non {n : Nat} : Alk H n .non .non
  | lst {n : Nat} {p r : Addr} {xs ys : List V} (ep : H p = some (.lst xs)) (er : H r = some (.lst ys)) (hl : xs.length = ys.length) (h5 : ys.length ≤ 5000) (h : ∀ (i : Nat) a b, xs[i]? = some a → ys[i]? = some b → Alk H n a b) : Alk H (n + 1) (.ref p) (.ref r)
  | tup {n : Nat} {p r : Addr} {xs ys : List V} (ep : H p = some (.tup xs)) (er : H r = some (.tup ys)) (hl : xs.length = ys.length) (h5 : ys.length ≤ 5000) (h : ∀ (i : Nat) a b, xs[i]? = some a → ys[i]? = some b → Alk H n a b) : Alk H (n + 1) (.ref p) (.ref r)
theorem Alk.same {H H' : Hp} (s : Same H H') : ∀ {n : Nat} {x y : V}, Alk H n x y → Alk H' n x y
  | _, _, _, .str a => .str a
  | _, _, _, .bl a => .bl a
  | _, _, _, .int a => .int a
  | _, _, _, .non => .non
  | _, _, _, .lst ep er hl h5 h => .lst (s _ _ ep) (s _ _ er) hl h5 fun i a b ha hb => (h i a b ha hb).same s
  | _, _, _, .tup ep er hl h5 h => .tup (s _ _ ep) (s _ _ er) hl h5 fun i a b ha hb => (h i a b ha hb).same s
theorem Alk.strs {H : Hp} {n : Nat} {p r : Addr} {xs : List Str} (ep : H p = some (.lst (xs.map V.str))) (er : H r = some (.lst (xs.map V.str))) (h5 : xs.length ≤ 5000) : Alk H (n + 1) (.ref p) (.ref r) :=
  .lst ep er rfl (by rw [List.length_map]; exact h5) fun i a b ha hb => by
    rw [ha] at hb
    cases hb
    rw [List.getElem?_map] at ha
    obtain ⟨z, _, rfl⟩ := Option.map_eq_some_iff.mp ha
    exact .str z
section
variable {P : Program} {w : World} {K : PySem.W.Frag} {mg : Str → Option Value} {base : Heap}
/-- yes alone: only of what is the same -/
def spYes : Nat → Sp := fun n vs H Q _ => ∃ x y, vs = [x, y] ∧ Alk H n x y ∧ ∀ H', Same H H' → Q (.bl true) H'
def spNo : Sp := fun _ _ _ _ => False
theorem range_true (n : Nat) : ((List.range n).map fun _ => true).all id = true := by
  rw [List.all_eq_true]
  intro x hx
  obtain ⟨_, _, e⟩ := List.mem_map.mp hx
  rw [← e]
  rfl
theorem dec_self (x : V) : decide (x = x) = true := decide_eq_true rfl
set_option maxHeartbeats 2000000 in
theorem ok_yes1 {f : Addr} {fd : FuncData} {k : Nat} {spR : Sp} {n : Nat} (B : BM mg) (hb : mg "bool" = none) (hst : mg "str" = none) (D : DF K mg "_law_same" sSame ["_law_x", "_law_due"] f fd) (GS : FnOk P w K mg base CX0 k f fd ["_law_x", "_law_due"] spR)
    (hR : ∀ m, n = m + 1 → ∀ a b H (Q : VK) E, Alk H m a b → (∀ H', Same H H' → Q (.bl true) H') → spR [a, b] H Q E) :
    FnOk P w K mg base CX0 (k + 1) f fd ["_law_x", "_law_due"] (spYes n) := by
  refine D.F.ok scSame (fun vs H Q E h => ?_) (fun cdv A outer s H vs Q E hr h => ?_)
  · obtain ⟨x, y, rfl, _⟩ := h
    rfl
  · obtain ⟨x, y, rfl, al, q⟩ := h
    refine ⟨_, pss_cons (ps_if (pt_val (pe_callB call_isiT (by rfl) B.isinstance boot_isi (pa_cons (pv 1) (pa_cons (pe_tup (pa_cons (pe_bltn (v := .ty "list") (by rfl) B.list (by decide +kernel) rfl) (pa_cons (pe_bltn (v := .ty "tuple") (by rfl) B.tuple (by decide +kernel) rfl) pa_nil))) pa_nil))))
        (pss_cons (ps_if (PW.pt (pw_or
            (pt_cmpR op_ne (pe_callB call_isi (by rfl) B.isinstance boot_isi (pa_cons (pv 1) (pa_cons (pe_bltn (v := .ty "list") (by rfl) B.list (by decide +kernel) rfl) pa_nil))) (pe_callB call_isi (by rfl) B.isinstance boot_isi (pa_cons (pv 0) (pa_cons (pe_bltn (v := .ty "list") (by rfl) B.list (by decide +kernel) rfl) pa_nil))) (nomark _))
            (pw_or1 (pt_cmpR op_ne (pe_callB call_isi (by rfl) B.isinstance boot_isi (pa_cons (pv 1) (pa_cons (pe_bltn (v := .ty "tuple") (by rfl) B.tuple (by decide +kernel) rfl) pa_nil))) (pe_callB call_isi (by rfl) B.isinstance boot_isi (pa_cons (pv 0) (pa_cons (pe_bltn (v := .ty "tuple") (by rfl) B.tuple (by decide +kernel) rfl) pa_nil))) (nomark _)))))
          (pss_one (ps_ret pe_bl)) pss_nil)
        (pss_one (ps_ret (pe_and (pe_cmpR op_eq (pe_callB call_len_seq (by rfl) B.len PySem.boot_len (pa_cons (pv 0) pa_nil)) (pe_callB call_len_seq (by rfl) B.len PySem.boot_len (pa_cons (pv 1) pa_nil)) (nomark _))
          (pe_one (pe_callB (cr_all rfl) (by rfl) B.all (by decide +kernel) (pa_cons (pe_lc (own := [("_law_k", 2)]) (g := gName 2) (tt := tYes) (te := tCall spR [] E0 (tCons (tOp (fun x y H Q => rIxL K x y H Q ∨ rIxT K x y H Q) (tVar 0) (tVar 2)) (tCons (tOp (fun x y H Q => rIxL K x y H Q ∨ rIxT K x y H Q) (tVar 1) (tVar 2)) tNil))) rfl scSame.nd (pi_range1 (by rfl) B.range (pa_cons (pe_callB call_len_seq (by rfl) B.len PySem.boot_len (pa_cons (pv 1) pa_nil)) pa_nil))
            (blkOk_by (N := ["_law_x", "_law_due", "_law_k"]) (sc := defScope sSame) (by decide +kernel)) (fun _ _ _ _ _ => pg_name (i := 2) scSame.nd rfl (Or.inl rfl)) (fun _ _ _ _ _ => pts_nil)
            (fun _ _ _ _ _ => pe_call GS hr rfl D.g D.F.kp D.b .nil pass0 (pa_cons (pe_ix (IxR.or ix_list ix_tup) (pv 0) (pv 2) (fun _ _ => rfl)) (pa_cons (pe_ix (IxR.or ix_list ix_tup) (pv 1) (pv 2) (fun _ _ => rfl)) pa_nil)))) pa_nil)))))))
        pss_nil)
      (pss_cons (ps_if (PW.pt (pw_or
            (pt_cmpR op_ne (pe_callB call_isi (by rfl) B.isinstance boot_isi (pa_cons (pv 0) (pa_cons (pe_bltn (v := .ty "bool") (by rfl) hb (by decide +kernel) rfl) pa_nil))) (pe_callB call_isi (by rfl) B.isinstance boot_isi (pa_cons (pv 1) (pa_cons (pe_bltn (v := .ty "bool") (by rfl) hb (by decide +kernel) rfl) pa_nil))) (nomark _))
            (pw_or1 (pt_cmpR op_ne (pe_callB call_isi (by rfl) B.isinstance boot_isi (pa_cons (pv 0) (pa_cons (pe_bltn (v := .ty "str") (by rfl) hst (by decide +kernel) rfl) pa_nil))) (pe_callB call_isi (by rfl) B.isinstance boot_isi (pa_cons (pv 1) (pa_cons (pe_bltn (v := .ty "str") (by rfl) hst (by decide +kernel) rfl) pa_nil))) (nomark _)))))
          (pss_one (ps_ret pe_bl)) pss_nil)
      (pss_one (ps_ret (pe_and (pe_cmpR op_eq (pe_cmp (pc_isN (pv 0))) (pe_cmp (pc_isN (pv 1))) (nomark _)) (pe_one (pe_cmpR op_eq (pv 0) (pv 1) (nomark _))))))), ?_⟩
    cases al with
    | str a =>
      refine ⟨_, rfl, by show 2 ≤ sizeLine; decide, fun T nT => ⟨_, T, _, .type "str", [.type "list", .type "tuple"], false, rfl, upd_same, .cons (.ty _) (.cons (.ty _) .nil), .base (.str _), kitAny_cons (kit_ty (b := "list") (r := false) (by decide +kernel)) (fun _ => kitAny_cons (kit_ty (b := "tuple") (r := false) (by decide +kernel)) (fun _ => rfl) (fun z => by cases z)) (fun z => by cases z), _, rfl, iteF ?_⟩⟩
      refine ⟨_, rfl, _, _, .type "str", .type "bool", false, rfl, .ty _, .base (.str _), kit_ty (by decide +kernel), _, rfl, _, _, .type "str", .type "bool", false, rfl, .ty _, .base (.str _), kit_ty (by decide +kernel), rfl, _, rfl, ite2 (fun z => absurd z (by decide)) (fun _ => ?_)⟩
      refine ⟨_, rfl, _, _, .type "str", .type "str", true, rfl, .ty _, .base (.str _), kit_ty (by decide +kernel), _, rfl, _, _, .type "str", .type "str", true, rfl, .ty _, .base (.str _), kit_ty (by decide +kernel), rfl, _, rfl, ite2 (fun z => absurd z (by decide)) (fun _ => ?_)⟩
      refine ⟨_, rfl, _, rfl, rfl, _, rfl, ?_⟩
      rw [dec_self]
      refine iteT ⟨_, rfl, _, rfl, rfl, ?_⟩
      rw [dec_self]
      exact q _ (same_upd nT)
    | bl a =>
      refine ⟨_, rfl, by show 2 ≤ sizeLine; decide, fun T nT => ⟨_, T, _, .type "bool", [.type "list", .type "tuple"], false, rfl, upd_same, .cons (.ty _) (.cons (.ty _) .nil), .base (.bl _), kitAny_cons (kit_ty (b := "list") (r := false) (by decide +kernel)) (fun _ => kitAny_cons (kit_ty (b := "tuple") (r := false) (by decide +kernel)) (fun _ => rfl) (fun z => by cases z)) (fun z => by cases z), _, rfl, iteF ?_⟩⟩
      refine ⟨_, rfl, _, _, .type "bool", .type "bool", true, rfl, .ty _, .base (.bl _), kit_ty (by decide +kernel), _, rfl, _, _, .type "bool", .type "bool", true, rfl, .ty _, .base (.bl _), kit_ty (by decide +kernel), rfl, _, rfl, ite2 (fun z => absurd z (by decide)) (fun _ => ?_)⟩
      refine ⟨_, rfl, _, _, .type "bool", .type "str", false, rfl, .ty _, .base (.bl _), kit_ty (by decide +kernel), _, rfl, _, _, .type "bool", .type "str", false, rfl, .ty _, .base (.bl _), kit_ty (by decide +kernel), rfl, _, rfl, ite2 (fun z => absurd z (by decide)) (fun _ => ?_)⟩
      refine ⟨_, rfl, _, rfl, rfl, _, rfl, ?_⟩
      rw [dec_self]
      refine iteT ⟨_, rfl, _, rfl, rfl, ?_⟩
      rw [dec_self]
      exact q _ (same_upd nT)
    | int a =>
      refine ⟨_, rfl, by show 2 ≤ sizeLine; decide, fun T nT => ⟨_, T, _, .type "int", [.type "list", .type "tuple"], false, rfl, upd_same, .cons (.ty _) (.cons (.ty _) .nil), .base (.int _), kitAny_cons (kit_ty (b := "list") (r := false) (by decide +kernel)) (fun _ => kitAny_cons (kit_ty (b := "tuple") (r := false) (by decide +kernel)) (fun _ => rfl) (fun z => by cases z)) (fun z => by cases z), _, rfl, iteF ?_⟩⟩
      refine ⟨_, rfl, _, _, .type "int", .type "bool", false, rfl, .ty _, .base (.int _), kit_ty (by decide +kernel), _, rfl, _, _, .type "int", .type "bool", false, rfl, .ty _, .base (.int _), kit_ty (by decide +kernel), rfl, _, rfl, ite2 (fun z => absurd z (by decide)) (fun _ => ?_)⟩
      refine ⟨_, rfl, _, _, .type "int", .type "str", false, rfl, .ty _, .base (.int _), kit_ty (by decide +kernel), _, rfl, _, _, .type "int", .type "str", false, rfl, .ty _, .base (.int _), kit_ty (by decide +kernel), rfl, _, rfl, ite2 (fun z => absurd z (by decide)) (fun _ => ?_)⟩
      refine ⟨_, rfl, _, rfl, rfl, _, rfl, ?_⟩
      rw [dec_self]
      refine iteT ⟨_, rfl, _, rfl, rfl, ?_⟩
      rw [dec_self]
      exact q _ (same_upd nT)
    | non =>
      refine ⟨_, rfl, by show 2 ≤ sizeLine; decide, fun T nT => ⟨_, T, _, .type "NoneType", [.type "list", .type "tuple"], false, rfl, upd_same, .cons (.ty _) (.cons (.ty _) .nil), .base .non, kitAny_cons (kit_ty (b := "list") (r := false) (by decide +kernel)) (fun _ => kitAny_cons (kit_ty (b := "tuple") (r := false) (by decide +kernel)) (fun _ => rfl) (fun z => by cases z)) (fun z => by cases z), _, rfl, iteF ?_⟩⟩
      refine ⟨_, rfl, _, _, .type "NoneType", .type "bool", false, rfl, .ty _, .base .non, kit_ty (by decide +kernel), _, rfl, _, _, .type "NoneType", .type "bool", false, rfl, .ty _, .base .non, kit_ty (by decide +kernel), rfl, _, rfl, ite2 (fun z => absurd z (by decide)) (fun _ => ?_)⟩
      refine ⟨_, rfl, _, _, .type "NoneType", .type "str", false, rfl, .ty _, .base .non, kit_ty (by decide +kernel), _, rfl, _, _, .type "NoneType", .type "str", false, rfl, .ty _, .base .non, kit_ty (by decide +kernel), rfl, _, rfl, ite2 (fun z => absurd z (by decide)) (fun _ => ?_)⟩
      refine ⟨_, rfl, _, rfl, rfl, _, rfl, ?_⟩
      rw [dec_self]
      refine iteT ⟨_, rfl, _, rfl, rfl, ?_⟩
      rw [dec_self]
      exact q _ (same_upd nT)
    | @lst m p r xs ys ep er hl h5 hal =>
      have s1 : ∀ {T : Addr}, H T = none → ∀ {o : HO}, (upd H T o) p = some (.lst xs) ∧ (upd H T o) r = some (.lst ys) := fun {T} nT {o} => ⟨by rw [upd_ne (ne_of_none ep nT)]; exact ep, by rw [upd_ne (ne_of_none er nT)]; exact er⟩
      refine ⟨_, rfl, by show 2 ≤ sizeLine; decide, fun T nT => ⟨_, T, _, .type "list", [.type "list", .type "tuple"], true, rfl, upd_same, .cons (.ty _) (.cons (.ty _) .nil), .base (.lst (s1 nT).2), kitAny_cons (kit_ty (b := "list") (r := true) (by decide +kernel)) (fun z => by cases z) (fun _ => rfl), _, rfl, iteT ?_⟩⟩
      have sT : Same H (upd H T (.tup [V.ty "list", V.ty "tuple"])) := same_upd nT
      generalize (upd H T (.tup [V.ty "list", V.ty "tuple"])) = H1 at sT ⊢
      have ep1 := sT _ _ ep
      have er1 := sT _ _ er
      refine ⟨_, rfl, _, _, .type "list", .type "list", true, rfl, .ty _, .base (.lst er1), kit_ty (by decide +kernel), _, rfl, _, _, .type "list", .type "list", true, rfl, .ty _, .base (.lst ep1), kit_ty (by decide +kernel), rfl, _, rfl, ite2 (fun z => absurd z (by decide)) (fun _ => ?_)⟩
      refine ⟨_, rfl, _, _, .type "list", .type "tuple", false, rfl, .ty _, .base (.lst er1), kit_ty (by decide +kernel), _, rfl, _, _, .type "list", .type "tuple", false, rfl, .ty _, .base (.lst ep1), kit_ty (by decide +kernel), rfl, _, rfl, ite2 (fun z => absurd z (by decide)) (fun _ => ?_)⟩
      refine ⟨_, rfl, p, _, rfl, .inl (SqL.of ep1), _, rfl, r, _, rfl, .inl (SqL.of er1), rfl, _, rfl, ?_⟩
      rw [hl, dec_self]
      refine iteT ⟨_, rfl, r, _, rfl, .inl (SqL.of er1), _, rfl, by omega, by omega, ?_⟩
      rw [show ((ys.length : Nat) : Int).toNat = ys.length by exact Int.toNat_natCast _]
      intro Da nD
      refine lc_it walk_range (fun i H' => Same H1 H' ∧ H' Da = some (.lst (((List.range i).map fun _ => true).map V.bl))) ⟨same_upd nD, upd_same⟩ (fun _ _ _ _ => trivial) ?_ ?_
      · rintro i v H2 H3 hi ⟨s2, e2⟩ ⟨rfl, rfl⟩
        have hx : i < xs.length := by omega
        have ax : atI xs (0 + (i : Int)) = some xs[i] := by
          rw [show (0 + (i : Int)) = ((i : Nat) : Int) by omega]
          exact atI_nat (List.getElem?_eq_getElem hx)
        have ay : atI ys (0 + (i : Int)) = some ys[i] := by
          rw [show (0 + (i : Int)) = ((i : Nat) : Int) by omega]
          exact atI_nat (List.getElem?_eq_getElem hi)
        refine ⟨rfl, yes_i ⟨_, rfl, _, rfl, .inl ⟨p, _, _, _, rfl, rfl, SqL.of (s2 _ _ ep1), ax, _, rfl, _, rfl, .inl ⟨r, _, _, _, rfl, rfl, SqL.of (s2 _ _ er1), ay, hR m rfl _ _ _ _ _ ((hal i _ _ (List.getElem?_eq_getElem hx) (List.getElem?_eq_getElem hi)).same (sm_trans sT s2)) fun H4 s4 => ⟨_, s4 _ _ e2, ?_, sm_over (sm_trans s2 s4) nD, ?_⟩⟩⟩⟩⟩
        · rw [List.length_map, List.length_map, List.length_range, sizeLine_eq]
          omega
        · rw [upd_same, List.range_succ, List.map_append, List.map_append]
          rfl
      · rintro H2 ⟨s2, e2⟩
        refine ⟨_, _, rfl, SqL.of e2, ?_⟩
        rw [range_true]
        exact q _ (sm_trans sT s2)
    | @tup m p r xs ys ep er hl h5 hal =>
      have s1 : ∀ {T : Addr}, H T = none → ∀ {o : HO}, (upd H T o) p = some (.tup xs) ∧ (upd H T o) r = some (.tup ys) := fun {T} nT {o} => ⟨by rw [upd_ne (ne_of_none ep nT)]; exact ep, by rw [upd_ne (ne_of_none er nT)]; exact er⟩
      refine ⟨_, rfl, by show 2 ≤ sizeLine; decide, fun T nT => ⟨_, T, _, .type "tuple", [.type "list", .type "tuple"], true, rfl, upd_same, .cons (.ty _) (.cons (.ty _) .nil), .base (.tup (s1 nT).2), kitAny_cons (kit_ty (b := "list") (r := false) (by decide +kernel)) (fun _ => kitAny_cons (kit_ty (b := "tuple") (r := true) (by decide +kernel)) (fun z => by cases z) (fun _ => rfl)) (fun z => by cases z), _, rfl, iteT ?_⟩⟩
      have sT : Same H (upd H T (.tup [V.ty "list", V.ty "tuple"])) := same_upd nT
      generalize (upd H T (.tup [V.ty "list", V.ty "tuple"])) = H1 at sT ⊢
      have ep1 := sT _ _ ep
      have er1 := sT _ _ er
      refine ⟨_, rfl, _, _, .type "tuple", .type "list", false, rfl, .ty _, .base (.tup er1), kit_ty (by decide +kernel), _, rfl, _, _, .type "tuple", .type "list", false, rfl, .ty _, .base (.tup ep1), kit_ty (by decide +kernel), rfl, _, rfl, ite2 (fun z => absurd z (by decide)) (fun _ => ?_)⟩
      refine ⟨_, rfl, _, _, .type "tuple", .type "tuple", true, rfl, .ty _, .base (.tup er1), kit_ty (by decide +kernel), _, rfl, _, _, .type "tuple", .type "tuple", true, rfl, .ty _, .base (.tup ep1), kit_ty (by decide +kernel), rfl, _, rfl, ite2 (fun z => absurd z (by decide)) (fun _ => ?_)⟩
      refine ⟨_, rfl, p, _, rfl, .inr (SqT.of ep1), _, rfl, r, _, rfl, .inr (SqT.of er1), rfl, _, rfl, ?_⟩
      rw [hl, dec_self]
      refine iteT ⟨_, rfl, r, _, rfl, .inr (SqT.of er1), _, rfl, by omega, by omega, ?_⟩
      rw [show ((ys.length : Nat) : Int).toNat = ys.length by exact Int.toNat_natCast _]
      intro Da nD
      refine lc_it walk_range (fun i H' => Same H1 H' ∧ H' Da = some (.lst (((List.range i).map fun _ => true).map V.bl))) ⟨same_upd nD, upd_same⟩ (fun _ _ _ _ => trivial) ?_ ?_
      · rintro i v H2 H3 hi ⟨s2, e2⟩ ⟨rfl, rfl⟩
        have hx : i < xs.length := by omega
        have ax : atI xs (0 + (i : Int)) = some xs[i] := by
          rw [show (0 + (i : Int)) = ((i : Nat) : Int) by omega]
          exact atI_nat (List.getElem?_eq_getElem hx)
        have ay : atI ys (0 + (i : Int)) = some ys[i] := by
          rw [show (0 + (i : Int)) = ((i : Nat) : Int) by omega]
          exact atI_nat (List.getElem?_eq_getElem hi)
        refine ⟨rfl, yes_i ⟨_, rfl, _, rfl, .inr ⟨p, _, _, _, rfl, rfl, SqT.of (s2 _ _ ep1), ax, _, rfl, _, rfl, .inr ⟨r, _, _, _, rfl, rfl, SqT.of (s2 _ _ er1), ay, hR m rfl _ _ _ _ _ ((hal i _ _ (List.getElem?_eq_getElem hx) (List.getElem?_eq_getElem hi)).same (sm_trans sT s2)) fun H4 s4 => ⟨_, s4 _ _ e2, ?_, sm_over (sm_trans s2 s4) nD, ?_⟩⟩⟩⟩⟩
        · rw [List.length_map, List.length_map, List.length_range, sizeLine_eq]
          omega
        · rw [upd_same, List.range_succ, List.map_append, List.map_append]
          rfl
      · rintro H2 ⟨s2, e2⟩
        refine ⟨_, _, rfl, SqL.of e2, ?_⟩
        rw [range_true]
        exact q _ (sm_trans sT s2)
theorem ok_yes {f : Addr} {fd : FuncData} {k : Nat} (B : BM mg) (hb : mg "bool" = none) (hst : mg "str" = none) (D : DF K mg "_law_same" sSame ["_law_x", "_law_due"] f fd) : ∀ n, FnOk P w K mg base CX0 (k + n + 2) f fd ["_law_x", "_law_due"] (spYes n)
  | 0 => ok_yes1 (spR := spNo) B hb hst D (D.F.ok scSame (fun vs H Q E h => h.elim) (fun cdv A outer s H vs Q E hr h => h.elim)) fun m e => by cases e
  | n + 1 => ok_yes1 B hb hst D (ok_yes B hb hst D n) fun m e a b H Q E al q => by
    cases e
    exact ⟨a, b, rfl, al, q⟩
end
end NC
/-! except clauses with a name, as many as there are: a caught exception on the ground (Gnd), one clause (gnd_as), none left (gnd_out), the statement (ps_try_manyA) -/
namespace NC
open PySem PySem.Spec PyProof.Rows L2
/-- the ends of a suite whose clause names slot i -/
def endsAs (i : Nat) (D : Ends) : Ends := { nx := fun σ => D.nx (σ.set i none), rt := D.rt, bk := fun σ => D.bk (σ.set i none), ct := fun σ => D.ct (σ.set i none) }
abbrev Clause := Value × Nat × (Addr → Value → Option Addr → TS)
def wManyA (K : PySem.W.Frag) (Wout : WX) (D : Ends) : List Clause → WX
  | [] => Wout
  | c :: r => fun cls d σ H => ∃ b, PySem.W.exmOne K cls c.1 = some b ∧ (b = true → ∀ a, H a = none → c.2.2 a cls d (endsAs c.2.1 D) (σ.set c.2.1 (some (.ref a))) H) ∧ (b = false → wManyA K Wout D r cls d σ H)
/-- the clause 'except x as n' reads c -/
structure AsOk (X : Cx) (x n : Str) (suite : List Stmt) (c : Clause) : Prop where
  slot : X.N[c.2.1]? = some n
  kind : X.env.kindOf n = some .local
  cls : Names X x c.1
  run : ∀ (a : Addr) (oe : Obj) (cls : Value) (d : Option Addr) (pn : List (Addr × Obj)), Zc cls d oe → (∃ vs, oe.data = .fields vs) → PSs (X.suite a ((a, oe) :: pn)) suite (c.2.2 a cls d)
inductive HdsA (X : Cx) : List ExceptHandler → List Clause → Prop
  | nil : HdsA X [] []
  | cons {x n : Str} {c : Clause} {b₀ : Stmt} {suite : List Stmt} {p q : Pos} {hds : List ExceptHandler} {l : List Clause} (ok : AsOk X x n (b₀ :: suite) c) (r : HdsA X hds l) : HdsA X (.ExceptHandler (some (.Name x p)) (some n) (b₀ :: suite) q :: hds) (c :: l)
/-- the exception at a, caught in X's own frame, with the state t -/
structure Gnd (X : Cx) (pins : List (Addr × Obj)) (a : Addr) (cls : Value) (d : Option Addr) (σ : L2.St) (H : Hp) (B : Heap) (t0 t : Shared) : Prop where
  own : X.stack = X.env :: X.outer
  frm : X.env.frame = some X.env.locals
  was : Inv X pins σ H t0
  low : ∀ b o, t0.heap.get? b = some o → b ∉ frs X.stack → B.get? b = some o
  up : t0.heap.UpToSlots t.heap
  new : H a = none
  io : t.os = t0.os
  gen : AllBare t.gens
  fly : HandSPX.FlyingZ B (X.env :: X.outer) a (Zc cls d) t.heap
section
variable {X : Cx} {pins : List (Addr × Obj)} {a : Addr} {cls : Value} {d : Option Addr} {σ : L2.St} {H : Hp} {B : Heap} {t0 t : Shared} {D : Ends}
theorem Gnd.to (G : Gnd X pins a cls d σ H B t0 t) {h : Heap} (f : HandSPX.FlyingZ B (X.env :: X.outer) a (Zc cls d) h) (u : t.heap.UpToSlots h) : Gnd X pins a cls d σ H B t0 { t with heap := h } := { G with up := G.up.trans u, fly := f }
theorem Gnd.now (G : Gnd X pins a cls d σ H B t0 t) : Inv X pins σ H t := G.was.landed G.low G.fly.1 G.up G.io G.gen
/-- the exception is no frame -/
theorem Gnd.off (G : Gnd X pins a cls d σ H B t0 t) : a ∉ frs (X.env :: X.outer) := fun z => by
  obtain ⟨o, vs, g1, _, g2⟩ := G.fly.there
  obtain ⟨_, o2, g3, g4⟩ := G.fly.2.2.1.mem z
  exact g4 _ ((Option.some.inj (g3.symm.trans g1)) ▸ g2)
/-- the state in the clause's suite -/
theorem Gnd.inS (G : Gnd X pins a cls d σ H B t0 t) : ∃ oe, Zc cls d oe ∧ (∃ vs, oe.data = .fields vs) ∧ t.heap.get? a = some oe ∧ Inv (X.suite a ((a, oe) :: (X.pn ++ pins))) [] σ H t := by
  obtain ⟨o, vs, g1, g2, g3⟩ := G.fly.there
  refine ⟨o, g2, ⟨vs, g3⟩, g1, G.now.suite g1 g3 G.new (fun z => G.off ?_) fun z => G.off ?_⟩
  · exact List.mem_filterMap.mpr ⟨_, .head _, G.frm.trans (congrArg some z.symm)⟩
  · exact let ⟨e, m, q⟩ := List.mem_filterMap.mp z; List.mem_filterMap.mpr ⟨e, .tail _ m, q⟩
/-- no clause is left: it flies on -/
theorem gnd_out {Wout : WX} (tk : Takes X Wout) (G : Gnd X pins a cls d σ H B t0 t) (w : Wout cls d σ H) : wpAny (model X.prog X.w) X.A (handleBy (.ref a) X.env []) (SP X pins D) X.xe t := by
  have away : wpAny (model X.prog X.w) X.A (setFlight (.ref a) (some X.env.locals)) (fun _ v => wpAny (model X.prog X.w) X.A (throw (.ref a) : Sem Flow) (SP X pins D) X.xe v) X.xe t :=
    HandSPX.setFlight_upZ G.fly fun g held u => wpAny_throw (tk _ _ ⟨a, B, t0, pins, σ, H, cls, d, rfl, G.was, G.low, G.up.trans u, .inr (.inr (G.own ▸ held)), G.new, G.io, G.gen, w⟩)
  rw [← G.frm] at away
  obtain ⟨_, _, _, o, vs, tb, _, _, g1, _, g2, g3, _⟩ := G.fly
  refine wpAny_handleBy_nil ?_
  unfold PySem.passOn
  refine wpAny_bind (wpAny_field g1 g2 g3 ?_)
  have nn : ¬ (Value.ref tb == Value.none) = true := by simp
  rw [if_neg nn]
  first | exact wpAny_bind (wpAny_pure (wpAny_bind away)) | exact wpAny_bind away
/-- one clause: its suite, or what follows it -/
theorem gnd_as {x n : Str} {c : Clause} {b₀ : Stmt} {suite : List Stmt} {p q : Pos} {hds : List ExceptHandler} (hN : X.N.Nodup) (C : AsOk X x n (b₀ :: suite) c) (G : Gnd X pins a cls d σ H B t0 t) {b : Bool} (m : PySem.W.exmOne X.K cls c.1 = some b)
    (yes : b = true → c.2.2 a cls d (endsAs c.2.1 D) (σ.set c.2.1 (some (.ref a))) H) (no : b = false → wpAny (model X.prog X.w) X.A (handleBy (.ref a) X.env hds) (SP X pins D) X.xe t) :
    wpAny (model X.prog X.w) X.A (handleBy (.ref a) X.env (.ExceptHandler (some (.Name x p)) (some n) (b₀ :: suite) q :: hds)) (SP X pins D) X.xe t := by
  obtain ⟨oe, z1, z2, z3, I⟩ := G.inS
  have lk : PySem.W.Looks (model X.prog X.w) t.heap (typeOf (.ref a)) cls := fun _ _ _ _ k r => wpAny_typeOf_ref (k _ _ z3) (z1.1.symm ▸ r)
  have nm : ∀ {Q E : Value → Shared → Prop}, Q c.1 t → wpAny (model X.prog X.w) (X.A.mark (some (.ref a))) (eval (.Name x p) X.env) Q E t := fun {Q E} r => C.cls.2.2.elim
    (fun g => ld_glob (X := X.suite a ((a, oe) :: (X.pn ++ pins))) I C.cls.1 g r C.cls.2.1) (fun g => ld_blt (X := X.suite a ((a, oe) :: (X.pn ++ pins))) I C.cls.1 g.1 g.2.1 r g.2.2 C.cls.2.1)
  refine wpAny_handleBy_cons (codeAny_handlers_test (nm ((PySem.W.exm_one (M := model X.prog X.w) G.now.kIn lk m).here ?_))) nofun
  cases b with
  | false => exact no rfl
  | true =>
    refine codeAny_handlers_suite_as (HandSPX.lands_againZ G.fly fun g f u => ?_)
    obtain ⟨o2, y1, y2, _, I2⟩ := (G.to f u).inS
    refine store_ok (X := X.suite a ((a, o2) :: (X.pn ++ pins))) (v := .ref a) I2 hN C.slot (.inl C.kind) rfl (fun v I3 => ?_) (.inr C.kind)
    have gone : ∀ {τ : L2.St} {G' : Hp} {v' : Shared} {R : Shared → Prop}, Inv (X.suite a ((a, o2) :: (X.pn ++ pins))) [] τ G' v' → (∀ v2, Inv X pins (τ.set c.2.1 none) G' v2 → R v2) → wpAny (model X.prog X.w) X.A (do bindName X.env n .none; unbindBehindTheSuite X.env n q) (fun _ v2 => R v2) X.xe v' :=
      fun k r => gone_ok (k.unsuite G.was.ok) hN C.slot C.kind r
    refine wpAny_mono ((C.run a o2 cls d (X.pn ++ pins) y1 y2).run [] v _ H _ I3 (yes rfl)) (fun fl v' r => ?_) fun _ _ e => e.elim
    match fl, r with
    | .next, ⟨τ, G', k, r⟩ => exact gone k fun v2 k2 => ⟨_, G', k2, r⟩
    | .brk, ⟨τ, G', k, r⟩ => exact gone k fun v2 k2 => ⟨_, G', k2, r⟩
    | .cont, ⟨τ, G', k, r⟩ => exact gone k fun v2 k2 => ⟨_, G', k2, r⟩
    | .ret _, ⟨y, τ, G', k, rl, r⟩ => exact gone k fun v2 k2 => ⟨y, _, G', k2, rl, r⟩
theorem gnd_all {Wout : WX} (hN : X.N.Nodup) (tk : Takes X Wout) (G : Gnd X pins a cls d σ H B t0 t) : ∀ {hds : List ExceptHandler} {l : List Clause}, HdsA X hds l → wManyA X.K Wout D l cls d σ H → wpAny (model X.prog X.w) X.A (handleBy (.ref a) X.env hds) (SP X pins D) X.xe t
  | _, _, .nil, w => gnd_out tk G w
  | _, _, .cons ok r, ⟨_, m, yes, no⟩ => gnd_as hN ok G m (fun e => yes e a G.new) fun e => gnd_all hN tk G r (no e)
theorem ps_try_manyA {body : List Stmt} {h₀ : ExceptHandler} {hds : List ExceptHandler} {l : List Clause} {pos : Pos} {tb : WX → TS} {Wout : WX} (own : X.stack = X.env :: X.outer) (frm : X.env.frame = some X.env.locals) (hN : X.N.Nodup) (tk : Takes X Wout)
    (bd : ∀ (W : WX) (pn : List (Addr × Obj)) (xe : Value → Shared → Prop), Takes (X.tr pn xe) W → PSs (X.tr pn xe) body (tb W)) (cl : HdsA X (h₀ :: hds) l) : PS X (.Try body (h₀ :: hds) [] [] pos) (fun D σ H => tb (wManyA X.K Wout D l) D σ H) := by
  refine ⟨fun ps s σ0 H0 D I h => wpAny_Try_except (wpAny_mono ((bd _ (X.pn ++ ps) _ ?_).run [] s σ0 H0 D (I.toTry _) h) (fun fl v r => ?_) fun _ _ e => e)⟩
  · rintro u v ⟨a, B, t0, _, σ, H, cls, d, rfl, J, low, up, sky, new, io, gen, w⟩
    have fr : X.A.frames = some (X.env :: X.outer) := I.ok.frames.trans (congrArg some own)
    refine Sky.land (Z := Zc cls d) Zc.steady fr frm (B := B) (own ▸ sky) fun g f u => ?_
    exact gnd_all hN tk (show Gnd X ps a cls d σ H B t0 { v with heap := g } from ⟨own, frm, J.ofTry I.ok, low, up.trans u, new, io, gen, f⟩) cl w
  · match fl, r with
    | .next, ⟨τ, G', k, r⟩ => exact wpAny_execs_nil ⟨τ, G', k.ofTry I.ok, r⟩
    | .brk, ⟨τ, G', k, r⟩ => exact ⟨τ, G', k.ofTry I.ok, r⟩
    | .cont, ⟨τ, G', k, r⟩ => exact ⟨τ, G', k.ofTry I.ok, r⟩
    | .ret _, ⟨y, τ, G', k, rl, r⟩ => exact ⟨y, τ, G', k.ofTry I.ok, rl, r⟩
end
end NC
/-! what is handed to a def and called there, at any depth: Acts (f, called with nothing, does tl), Uses (a def that is handed such an f) -/
namespace NC
open PySem PySem.Spec PyProof.Rows L2
theorem un_join {fs gs : List Addr} {H0 H1 H2 : Hp} {h0 h1 h2 : Heap} (a : Un fs [] H0 H1 h0 h1) (b : Un gs [] H1 H2 h1 h2) (y : ∀ c ∈ gs, c ∈ fs ∨ h0.get? c = none) : Un fs [] H0 H2 h0 h2 where
  keep := fun c o g n nf nx => b.keep c o (a.keep c o g n nf nx) (a.free c o g n nx) (fun m => (y c m).elim nf fun z => by rw [g] at z; cases z) nx
  slot := fun c o g n mf nx => by
    obtain ⟨_, g1⟩ := a.slot c o g n mf nx
    obtain ⟨sl, g2⟩ := b.any g1 (a.free c o g n nx) nx
    exact ⟨sl, g2⟩
  free := fun c o g n nx => let ⟨o1, g1⟩ := a.there c o g nx; b.free c o1 g1 (a.free c o g n nx) nx
  there := fun c o g nx => let ⟨o1, g1⟩ := a.there c o g nx; b.there c o1 g1 nx
  tups := fun c xs g => b.tups c xs (a.tups c xs g)
  frzs := fun c o u g => b.frzs c o u (a.frzs c o u g)
  tbls := fun c ps g => by
    obtain ⟨m, g1⟩ := a.tbls c ps g
    obtain ⟨m', g2⟩ := b.tbls c _ g1
    exact ⟨m ++ m', g2.trans (by rw [Array.append_assoc])⟩
/-- f, called with nothing, does tl as long as J; fs H0 h0: the frames and the heaps that this was said of -/
structure Acts (P : Program) (w : World) (K : PySem.W.Frag) (mg : Str → Option Value) (B : Heap) (k : Nat) (f : Addr) (J : Hp → Prop) (fs : List Addr) (H0 : Hp) (h0 : Heap) (tl : XK → Hp → VK → Prop) : Prop where
  obj : ∀ (G : Hp) (s : Shared), Un fs [] H0 G h0 s.heap → HOk P w G s.heap → J G → PySem.W.FnAt f s.heap
  run : ∀ (A : Around) (out : List Env) (s : Shared) (G : Hp) (Q : VK) (E : XK), Room (k + 1) A → Env0 P w K mg B A out s G → Un fs [] H0 G h0 s.heap → J G → tl E G Q →
    codeAny (model P w) A (.call (.ref f) ⟨[], []⟩) (CR (L2.CX P w) out P w G s Q E) s
section
variable {P : Program} {w : World} {K : PySem.W.Frag} {mg : Str → Option Value} {B : Heap} {k j : Nat} {f g : Addr} {J : Hp → Prop} {fs gs : List Addr} {H0 H1 : Hp} {h0 h1 : Heap} {tl : XK → Hp → VK → Prop}
theorem Acts.move (a : Acts P w K mg B k f J fs H0 h0 tl) (u : Un fs [] H0 H1 h0 h1) (y : ∀ c ∈ gs, c ∈ fs ∨ h0.get? c = none) : Acts P w K mg B k f J gs H1 h1 tl :=
  ⟨fun G s v => a.obj G s (un_join u v y), fun A out s G Q E r e v => a.run A out s G Q E r e (un_join u v y)⟩
theorem Acts.mono {i : Nat} (a : Acts P w K mg B k f J fs H0 h0 tl) (l : k ≤ i) : Acts P w K mg B i f J fs H0 h0 tl := ⟨a.obj, fun A out s G Q E r => a.run A out s G Q E (r.mono (by omega))⟩
/-- from a def's beginning to where it stands -/
theorem Acts.here {Z : Cx} {pins : List (Addr × Obj)} {σ : L2.St} {H : Hp} {s : Shared} (I : Inv Z pins σ H s) (ex : Z.ex = []) (a : Acts Z.prog Z.w Z.K Z.mg Z.base k f J Z.fs Z.H_0 Z.s_0.heap tl) : Acts Z.prog Z.w Z.K Z.mg Z.base k f J (frs Z.stack) H s.heap tl :=
  a.move (ex ▸ I.base) fun c m => (List.mem_cons.mp (I.stkSub c m)).elim (fun e => .inr (by rw [e]; exact Heap.get?_none_of_le I.ok.above)) .inl
/-- the def at g, handed an f that does tl, does what sp says -/
def Uses (P : Program) (w : World) (K : PySem.W.Frag) (mg : Str → Option Value) (B : Heap) (k j : Nat) (g : Addr) (fd : FuncData) (ps : List Str) (sp : Addr → (XK → Hp → VK → Prop) → List V → Hp → VK → Prop) : Prop :=
  ∀ (A : Around) (out : List Env) (s : Shared) (H : Hp) (args : Args) (us : List Value) (vs : List V) (Q : VK) (f : Addr) (J : Hp → Prop) (tl : XK → Hp → VK → Prop), Room j A → Env0 P w K mg B A out s H → BindsTo s fd args (ps.zip us) → Vals vs us → vs.length = ps.length →
    Acts P w K mg B k f J (frs out) H s.heap tl → J H → sp f tl vs H Q → codeAny (model P w) A (.call (.ref g) args) (CR C8.CX0 out P w H s Q C8.E0) s
variable {fd : FuncData} {ps : List Str} {sp : Addr → (XK → Hp → VK → Prop) → List V → Hp → VK → Prop}
theorem uses_of {x qual : Str} {st : Stmt} {N : List Str} (F : Fun K x qual st g fd) (S : FnScope N ps (defScope st))
    (body : ∀ (cdv : Value) (A : Around) (out : List Env) (s : Shared) (H : Hp) (vs : List V) (Q : VK) (f : Addr) (J : Hp → Prop) (tl : XK → Hp → VK → Prop), Room j (A.deeper (envOfC qual (defScope st) s.heap.objs.size g cdv)) → Acts P w K mg B k f J (frs out) H s.heap tl → J H → sp f tl vs H Q →
      ∃ t, PSs (cxOf C8.CX0 P w K mg B N qual (defScope st) g cdv A out s H C8.E0).nox (defBody st) t ∧ t { nx := fun _ G => Q .non G, rt := Q } (L2.start N vs) H) : Uses P w K mg B k (j + 1) g fd ps sp := by
  obtain ⟨oc, od, kV, doc, pm, an, cd, ct, osl, rfl, lk, cc⟩ := F.ex
  intro A out s H args us vs Q f J tl r e0 b v l a jH h
  refine LamX.run_ofS (N := N) (us := us) lk cc S r e0 b v l fun r2 => ?_
  obtain ⟨t, d, q⟩ := body cd A out s H vs Q f J tl r2 a jH h
  exact ⟨t, d.nox, q⟩
end
section
variable {Z : Cx} {k j i : Nat} {f g : Addr} {J : Hp → Prop} {tl : XK → Hp → VK → Prop} {fd : FuncData} {ps : List Str} {sp : Addr → (XK → Hp → VK → Prop) → List V → Hp → VK → Prop} {x y : Str} {p p2 pos : Pos} {e : Expr} {es : List Expr} {t : TA} {E : XK}
theorem end_of {CX : CXT} {pins : List (Addr × Obj)} {σ : L2.St} {H : Hp} {s s' : Shared} {Q : VK} {r : Result} (I : Inv Z pins σ H s) (px : Passes CX Z E) (h : CR CX Z.stack Z.prog Z.w H s Q E r s') : wants (EP Z pins σ Q) Z.xe r s' := by
  match r, h with
  | .ok (.ret _), h => exact I.after h
  | .error _, h => exact px _ _ _ _ _ _ I h
/-- y(), y holding such an f -/
theorem pe_thunk (a : Acts Z.prog Z.w Z.K Z.mg Z.base k f J Z.fs Z.H_0 Z.s_0.heap tl) (ex : Z.ex = []) (px : Passes (L2.CX Z.prog Z.w) Z E) (r : Room (k + 1) Z.A) (at_ : PE Z (.Name y p) (tVar i)) :
    PE Z (.Call (.Name y p) [] [] p2) (fun σ H Q => σ[i]? = some (some (.ref f)) ∧ J H ∧ tl E H Q) := ⟨fun pins s σ H Q I ⟨sv, jH, h⟩ => by
  refine wpAny_Call_Name_kw (thn (at_.run pins s σ H (fun v G => v = .ref f ∧ J G ∧ tl E G Q) I ⟨_, sv, rfl, jH, h⟩) ?_)
  rintro u s1 ⟨v, G, I1, rv, rfl, jG, hG⟩
  obtain rfl : u = Value.ref f := rv
  have un : Un Z.fs [] Z.H_0 G Z.s_0.heap s1.heap := ex ▸ I1.base
  exact PySem.W.callWith_F0 (a.obj G s1 un I1.hok jG) (wpAny_call (codeAny_mono (a.run _ _ _ _ Q E r I1.env0 un jG hG) fun _ _ q => end_of I1 px q))⟩
/-- x(e, ..), x a def that is handed such an f -/
theorem pe_uses (U : Uses Z.prog Z.w Z.K Z.mg Z.base k j g fd ps sp) (r : Room j Z.A) (gl : Gl Z x) (hm : Z.mg x = some (.ref g)) (kp : PySem.W.keepIn Z.K (.ref g) = true) (b : Binds Z.K fd ps []) (ha : PA Z (e :: es) t)
    (a : Acts Z.prog Z.w Z.K Z.mg Z.base k f J Z.fs Z.H_0 Z.s_0.heap tl) (ex : Z.ex = []) (db : (x == ("__debug__" : Str)) = false := by decide) (h1 : starEach (e :: es) Z.env = (false, eval e Z.env) :: starEach es Z.env := by rfl) (h2 : (backTo pos (starEach es Z.env)).any (·.1) = false := by rfl) :
    PE Z (.Call (.Name x p) (e :: es) [] pos) (fun σ H Q => t σ H fun vs G => vs.length = ps.length ∧ J G ∧ sp f tl vs G Q) := ⟨fun pins s σ H Q I h => by
  refine wpAny_Call_Name_kw (ld_glob I gl hm (PySem.W.callWith_K (h₀ := Z.base) I.mod.kin kp (thn (ha.run pos pins s σ H _ I h) ?_) h1 h2) db)
  rintro us s1 ⟨vs, G, I1, v, l, jG, hG⟩
  have l2 : us.length = ps.length := v.length ▸ l
  have bt : BindsTo s1 fd ⟨us, []⟩ (ps.zip us) := by
    have z := b s1 us I1.kIn (by rw [List.append_nil]; exact l2)
    rw [List.append_nil] at z
    exact z
  exact ⟨I1.kIn, wpAny_call (codeAny_mono (U _ _ _ _ _ us vs Q f J tl r I1.env0 bt v l (a.here I1 ex) jG hG) fun _ _ q => end_of (CX := C8.CX0) (E := C8.E0) I1 (fun _ _ _ _ _ _ _ z => z.elim) q)⟩⟩
end
/-! ### a lambda without parameters -/
section
variable {X : Cx} {pins : List (Addr × Obj)} {σ : L2.St} {H : Hp} {s : Shared} {params : Arguments} {body : Expr} {scope : Scope} {f c' : Addr} {pm ctv : Value} {k : Nat} {t : XK → TE}
theorem acts_lam (I : Inv X pins σ H s) (L : LamX.LamS X.env.scope scope) (hf : s.heap.get? f = some (PySem.W.kla_obj "<lambda>" (X.env.qual ++ "<lambda>") params body scope (cloFrom X.env.cells scope.names []) pm c' ctv)) (nf : H f = none) (off : f ∉ frs X.stack)
    (nb : bindArgs (PySem.W.kla_fn "<lambda>" (X.env.qual ++ "<lambda>") params body scope (cloFrom X.env.cells scope.names []) pm (.ref c') ctv) ⟨[], []⟩ = pure [])
    (pb : ∀ (A : Around) (out : List Env) (s : Shared) (H : Hp) (E : XK), Room k (A.deeper (LamX.lamEnv X scope s.heap.objs.size f c')) → PE (LamX.lamCx X A out s H E scope f c') body (t E)) :
    Acts X.prog X.w X.K X.mg X.base k f (fun G => G c' = some (LamX.CodeO c' (X.env.qual ++ "<lambda>"))) (frs X.stack) H s.heap (fun E G Q => t E σ G Q) := by
  have stays : ∀ {G : Hp} {h : Heap}, Un (frs X.stack) [] H G s.heap h → h.get? f = _ := fun u => u.keep f _ hf nf off nofun
  refine ⟨fun G v u _ _ => ⟨_, _, _, _, stays u⟩, fun A out v G Q E r e0 u jG h => ?_⟩
  obtain ⟨⟨co, fl, tk, c1, c2, c3⟩, _⟩ := e0.hok c' _ jG
  refine PySem.W.kla_callFunE r.depth (stays u) rfl L.co L.gen rfl ⟨c', co, fl, tk, rfl, c1, c2, c3⟩ ?_
  rw [nb]
  have lim : v.heap.NoLimit := e0.mod.nolimit.keeps fun b o z => (e0.bs b o z).1
  refine wpAny_pure (wpAny_newFunctionEnv (fun y m => (L.own y m).2) nofun (fun h1 ns sb => ⟨lim.fresh _ sb, ?_⟩) L.kind)
  have old : ∀ b o, v.heap.get? b = some o → h1.get? b = some o := fun b o z => sb.extBut b o (Nat.ne_of_lt (Heap.lt_size z)) (Heap.get?_push_of_some _ z)
  have V := LamX.lam_start2 (E := E) (f := f) (c' := c') (tk := v.toks + ([] : List (Str × Value)).length) I L e0 r.hd u ns old
  refine PySem.W.kla_codeExpr (wpAny_mono ((pb A out v G E (r.deeper _)).run [] _ σ G Q V h) ?_ fun _ _ z => z)
  rintro u2 v2 ⟨y, G2, V2, ry, qy⟩
  exact ⟨y, G2, V2.os, V2.bare, V2.base, V2.hok, ry, qy⟩
end
section
variable {X : Cx} {T : List (Addr × Str)} {c P g : Addr} {params : Arguments} {body : Expr} {scope : Scope} {k j : Nat} {t : XK → TE} {es : List Expr} {vs0 : List V} {fd : FuncData} {ps : List Str} {sp : Addr → (XK → Hp → VK → Prop) → List V → Hp → VK → Prop} {x : Str} {p lpos pos : Pos}
def tLamU (T : List (Addr × Str)) (sp : Addr → (XK → Hp → VK → Prop) → List V → Hp → VK → Prop) (vs0 : List V) (t : XK → TE) : TE := fun σ H Q => LamX.Tabs T H ∧ ∀ f H1, LamX.ExtN H H1 → LamX.Tabs T H1 → sp f (fun E G R => t E σ G R) (.ref f :: vs0) H1 Q
/-- x(lambda: body, constants ..) -/
theorem pe_lamU (U : Uses X.prog X.w X.K X.mg X.base k j g fd ps sp) (r : Room j X.A) (gl : Gl X x) (hm : X.mg x = some (.ref g)) (kp : PySem.W.keepIn X.K (.ref g) = true) (b : Binds X.K fd ps []) (ln : vs0.length + 1 = ps.length) (ha : PA X es (fun _ H Q => Q vs0 H))
    (TB : LamX.TabB X.base X.mg c P) (hc : X.env.code = .ref c) (hT : (P, X.env.qual ++ "<lambda>") ∈ T) (hu : ∀ p ∈ T, p.1 = P → p.2 = X.env.qual ++ "<lambda>") (L : LamX.LamS X.env.scope scope) (nd : defaultsOf params X.env = ([], []))
    (nb : ∀ (q : Str) (cl : List (Str × Addr)) (pm cv ctv : Value), bindArgs (PySem.W.kla_fn "<lambda>" q params body scope cl pm cv ctv) ⟨[], []⟩ = pure [])
    (pb : ∀ (A : Around) (out : List Env) (s : Shared) (H : Hp) (E : XK) (f c' : Addr), Room k (A.deeper (LamX.lamEnv X scope s.heap.objs.size f c')) → PE (LamX.lamCx X A out s H E scope f c') body (t E)) (ex : X.ex = [])
    (db : (x == ("__debug__" : Str)) = false := by decide) (h1 : starEach (.Lambda params body scope lpos :: es) X.env = (false, eval (.Lambda params body scope lpos) X.env) :: starEach es X.env := by rfl) (h2 : (backTo pos (starEach es X.env)).any (·.1) = false := by rfl) :
    PE X (.Call (.Name x p) (.Lambda params body scope lpos :: es) [] pos) (tLamU T sp vs0 t) := ⟨fun pins s σ H Q I ⟨tb, h⟩ => by
  refine wpAny_Call_Name_kw (ld_glob I gl hm (PySem.W.callWith_K (h₀ := X.base) I.mod.kin kp ?_ h1 h2) db)
  rw [h1]
  refine Calls.spliced_cons (LamX.lam_make2 I TB hc hT hu tb nd (L.has I.ok) fun f c' pm ctv H1 s1 I1 eN T1 hf nf off jc => ?_)
  have offs : f ∉ X.fs := fun z => off (I1.ok.stk.elim (fun e => e ▸ z) fun e => by
    rw [e.1]
    exact let ⟨v, m, q⟩ := List.mem_filterMap.mp z; List.mem_filterMap.mpr ⟨v, .tail _ m, q⟩)
  have nl : f ≠ X.env.locals := fun z => by
    obtain ⟨m, ⟨o, es, ep, ho, hd, _⟩, _⟩ := I1.loc
    rw [← z, hf] at ho
    cases ho
    cases hd
  have I2 : Inv X ((f, _) :: pins) σ H1 s1 := I1.pins_of fun q m => (List.mem_cons.mp m).elim (fun e => by rw [e]; exact ⟨hf, nf, nl, offs, nofun⟩) fun m2 => I1.pin q (List.mem_append_right _ m2)
  refine thn (ha.run pos _ s1 σ H1 (fun vs G => vs = vs0 ∧ G = H1) I2 ⟨rfl, rfl⟩) ?_
  rintro us s2 ⟨vs, G, I3, v, rfl, rfl⟩
  obtain ⟨hf3, _⟩ := I3.pin (f, _) (List.mem_append_right _ (.head _))
  have I4 : Inv X pins σ G s2 := I3.pins_of fun q m => I3.pin q (List.mem_append_right _ (.tail _ m))
  have l2 : (Value.ref f :: us).length = ps.length := by rw [List.length_cons, ← v.length]; exact ln
  have bt : BindsTo s2 fd ⟨.ref f :: us, []⟩ (ps.zip (.ref f :: us)) := by
    have z := b s2 (.ref f :: us) I4.kIn (by rw [List.append_nil]; exact l2)
    rw [List.append_nil] at z
    exact z
  have a := acts_lam (k := k) (t := t) I4 L hf3 nf off (nb _ _ _ _ _) fun A out s H E => pb A out s H E f c'
  exact ⟨I4.kIn, wpAny_call (codeAny_mono (U _ _ _ _ _ (.ref f :: us) (.ref f :: vs) Q f _ _ r I4.env0 bt (.cons rfl v) ln a jc (h f G eN T1)) fun _ _ q => end_of (CX := C8.CX0) (E := C8.E0) I4 (fun _ _ _ _ _ _ _ z => z.elim) q)⟩⟩
end
end NC
/-! except (A, B, C) as n -/
namespace NC
open PySem PySem.Spec PyProof.Rows L2
theorem frames_kept {h h' B : Heap} (k : ∀ b o, h.get? b = some o → h'.get? b = some o) : ∀ {l : List Env}, h.FunFrames B l → h'.FunFrames B l
  | [], _ => trivial
  | _ :: _, ⟨a, ⟨L, o, b, c, d, e⟩, r⟩ => ⟨a, ⟨L, o, b, c, k _ _ d, e⟩, frames_kept k r⟩
theorem fly_kept {h h' B : Heap} {l : List Env} {a : Addr} {Z : Obj → Prop} (k : ∀ b o, h.get? b = some o → h'.get? b = some o) (x : HandSPX.FlyingZ B l a Z h) : HandSPX.FlyingZ B l a Z h' := by
  obtain ⟨s, n, fr, oe, vs, T, oT, ts, e1, e2, e3, e4, e5, e6, e7, e8, e9⟩ := x
  exact ⟨fun b o e => k b o (s b o e), n, frames_kept k fr, oe, vs, T, oT, ts, k _ _ e1, e2, e3, e4, e5, e6, k _ _ e7, e8, e9⟩
section
variable {X : Cx} {pins : List (Addr × Obj)} {a : Addr} {cls : Value} {d : Option Addr} {σ : L2.St} {H : Hp} {B : Heap} {t0 t : Shared} {D : Ends}
def wTup (K : PySem.W.Frag) (Wout : WX) (D : Ends) (cs : List Value) (i : Nat) (ts : Addr → Value → Option Addr → TS) : WX := fun cls d σ H => ∃ b, PySem.W.exmAny K cls cs = some b ∧
  (b = true → ∀ a, H a = none → ts a cls d (endsAs i D) (σ.set i (some (.ref a))) H) ∧ (b = false → Wout cls d σ H)
theorem gnd_tup {Wout : WX} {n x1 x2 x3 : Str} {c1 c2 c3 : Value} {i kk : Nat} {ts : Addr → Value → Option Addr → TS} {b₀ : Stmt} {suite : List Stmt} {p1 p2 p3 pt q : Pos} (hN : X.N.Nodup) (slot : X.N[i]? = some n) (kind : X.env.kindOf n = some .local)
    (n1 : Names X x1 c1) (n2 : Names X x2 c2) (n3 : Names X x3 c3) (run : ∀ (a : Addr) (oe : Obj) (cls : Value) (d : Option Addr) (pn : List (Addr × Obj)), Zc cls d oe → (∃ vs, oe.data = .fields vs) → PSs (X.suite a ((a, oe) :: pn)) (b₀ :: suite) (ts a cls d))
    (tk : Takes X Wout) (G : Gnd X pins a cls d σ H B t0 t) (w : wTup X.K Wout D [c1, c2, c3] i ts cls d σ H) :
    wpAny (model X.prog X.w) X.A (handleBy (.ref a) X.env [.ExceptHandler (some (.Tuple [.Name x1 p1, .Name x2 p2, .Name x3 p3] kk pt)) (some n) (b₀ :: suite) q]) (SP X pins D) X.xe t := by
  obtain ⟨b, m, yes, no⟩ := w
  obtain ⟨oe, z1, z2, z3, I⟩ := G.inS
  have nm : ∀ {x : Str} {c : Value} {p : Pos} {Q E : Value → Shared → Prop}, Names X x c → Q c t → wpAny (model X.prog X.w) (X.A.mark (some (.ref a))) (eval (.Name x p) X.env) Q E t := fun {x c p Q E} ok r => ok.2.2.elim
    (fun g => ld_glob (X := X.suite a ((a, oe) :: (X.pn ++ pins))) I ok.1 g r ok.2.1) (fun g => ld_blt (X := X.suite a ((a, oe) :: (X.pn ++ pins))) I ok.1 g.1 g.2.1 r g.2.2 ok.2.1)
  have kp : ∀ b o, t.heap.get? b = some o → (t.heap.push { cls := .type "tuple", data := .seq [c1, c2, c3].toArray }).get? b = some o := fun _ _ z => Heap.get?_push_of_some _ z
  have G1 := G.to (fly_kept kp G.fly) (.of_keeps kp)
  have lk : PySem.W.Looks (model X.prog X.w) (t.heap.push { cls := .type "tuple", data := .seq [c1, c2, c3].toArray }) (typeOf (.ref a)) cls := fun _ _ _ _ k r => wpAny_typeOf_ref (k _ _ (kp _ _ z3)) (z1.1.symm ▸ r)
  refine wpAny_handleBy_cons (codeAny_handlers_test (wpAny_Tuple (wpAny_items_cons (nm n1 (wpAny_items_cons (nm n2 (wpAny_items_cons (nm n3 (wpAny_items_nil ⟨by size_fits, ?_⟩)))))))) ) nofun
  refine (PySem.W.exm_tup3 (M := model X.prog X.w) (G.now.kIn.keeps kp) lk (Heap.get?_push_size t.heap rfl) m).here ?_
  cases b with
  | false => exact gnd_out tk G1 (no rfl)
  | true =>
    refine codeAny_handlers_suite_as (HandSPX.lands_againZ G1.fly fun g f u => ?_)
    obtain ⟨o2, y1, y2, _, I2⟩ := (G1.to f u).inS
    refine store_ok (X := X.suite a ((a, o2) :: (X.pn ++ pins))) (v := .ref a) I2 hN slot (.inl kind) rfl (fun v I3 => ?_) (.inr kind)
    have gone : ∀ {τ : L2.St} {G' : Hp} {v' : Shared} {R : Shared → Prop}, Inv (X.suite a ((a, o2) :: (X.pn ++ pins))) [] τ G' v' → (∀ v2, Inv X pins (τ.set i none) G' v2 → R v2) → wpAny (model X.prog X.w) X.A (do bindName X.env n .none; unbindBehindTheSuite X.env n q) (fun _ v2 => R v2) X.xe v' :=
      fun k r => gone_ok (k.unsuite G.was.ok) hN slot kind r
    refine wpAny_mono ((run a o2 cls d (X.pn ++ pins) y1 y2).run [] v _ H _ I3 (yes rfl a G.new)) (fun fl v' r => ?_) fun _ _ e => e.elim
    match fl, r with
    | .next, ⟨τ, G', k, r⟩ => exact gone k fun v2 k2 => ⟨_, G', k2, r⟩
    | .brk, ⟨τ, G', k, r⟩ => exact gone k fun v2 k2 => ⟨_, G', k2, r⟩
    | .cont, ⟨τ, G', k, r⟩ => exact gone k fun v2 k2 => ⟨_, G', k2, r⟩
    | .ret _, ⟨y, τ, G', k, rl, r⟩ => exact gone k fun v2 k2 => ⟨y, _, G', k2, rl, r⟩
theorem ps_try_tup {body : List Stmt} {pos : Pos} {tb : WX → TS} {Wout : WX} {n x1 x2 x3 : Str} {c1 c2 c3 : Value} {i kk : Nat} {ts : Addr → Value → Option Addr → TS} {b₀ : Stmt} {suite : List Stmt} {p1 p2 p3 pt q : Pos} (own : X.stack = X.env :: X.outer) (frm : X.env.frame = some X.env.locals) (hN : X.N.Nodup) (tk : Takes X Wout)
    (bd : ∀ (W : WX) (pn : List (Addr × Obj)) (xe : Value → Shared → Prop), Takes (X.tr pn xe) W → PSs (X.tr pn xe) body (tb W)) (slot : X.N[i]? = some n) (kind : X.env.kindOf n = some .local)
    (n1 : Names X x1 c1) (n2 : Names X x2 c2) (n3 : Names X x3 c3) (run : ∀ (a : Addr) (oe : Obj) (cls : Value) (d : Option Addr) (pn : List (Addr × Obj)), Zc cls d oe → (∃ vs, oe.data = .fields vs) → PSs (X.suite a ((a, oe) :: pn)) (b₀ :: suite) (ts a cls d)) :
    PS X (.Try body [.ExceptHandler (some (.Tuple [.Name x1 p1, .Name x2 p2, .Name x3 p3] kk pt)) (some n) (b₀ :: suite) q] [] [] pos) (fun D σ H => tb (wTup X.K Wout D [c1, c2, c3] i ts) D σ H) := by
  refine ⟨fun ps s σ0 H0 D I h => wpAny_Try_except (wpAny_mono ((bd _ (X.pn ++ ps) _ ?_).run [] s σ0 H0 D (I.toTry _) h) (fun fl v r => ?_) fun _ _ e => e)⟩
  · rintro u v ⟨a, B, t0, _, σ, H, cls, d, rfl, J, low, up, sky, new, io, gen, w⟩
    have fr : X.A.frames = some (X.env :: X.outer) := I.ok.frames.trans (congrArg some own)
    refine Sky.land (Z := Zc cls d) Zc.steady fr frm (B := B) (own ▸ sky) fun g f u => ?_
    exact gnd_tup hN slot kind n1 n2 n3 run tk (show Gnd X ps a cls d σ H B t0 { v with heap := g } from ⟨own, frm, J.ofTry I.ok, low, up.trans u, new, io, gen, f⟩) w
  · match fl, r with
    | .next, ⟨τ, G', k, r⟩ => exact wpAny_execs_nil ⟨τ, G', k.ofTry I.ok, r⟩
    | .brk, ⟨τ, G', k, r⟩ => exact ⟨τ, G', k.ofTry I.ok, r⟩
    | .cont, ⟨τ, G', k, r⟩ => exact ⟨τ, G', k.ofTry I.ok, r⟩
    | .ret _, ⟨y, τ, G', k, rl, r⟩ => exact ⟨y, τ, G', k.ofTry I.ok, rl, r⟩
end
end NC
/-! C(), an own refusal whose __init__ takes nothing but self -/
namespace NC
open PySem PySem.Spec PyProof.Rows L2
section
variable {X : Cx}
/-- the two objects that the making of a refusal lays: its arguments' tuple, itself -/
abbrev twoO (h : Heap) (C : Addr) : Heap := (h.push (PySem.W.kdv_tup [])).push (PySem.HandSPX.excO C h.objs.size)
theorem pmk_oex0 {x : Str} {C fI : Addr} {k : Nat} {fd : FuncData} {sp : Sp} {p pos : Pos} (O : OexC X.K C) (ini : PySem.W.findIn X.K (.ref C) "__init__" = some (some (.ref fI))) (fn : PySem.W.typeIn X.K (.ref fI) = some (.type "function"))
    (G : FnOk X.prog X.w X.K X.mg X.base C8.CX0 k fI fd ["self"] sp) (room : Room (k + 1) X.A) (b : Binds X.K fd ["self"] []) (gl : Gl X x) (mx : X.mg x = some (.ref C)) (db : (x == ("__debug__" : Str)) = false := by decide) :
    PMk X (.Call (.Name x p) [] [] pos) (tMkO C sp [] tNil) := fun pins s σ H Q I h => by
  obtain ⟨nm, q, N, bs, bm, sn, sub, ab, col, dd, k0, k1, k2, k3, k5, hC, hbm⟩ := O.cls
  obtain ⟨hp, gn, dr, tk, os⟩ := s
  have new : hp.objs.size ≤ hp.objs.size + 1 := by omega
  have want := h.2 (hp.objs.size + 1) (I.hok.fresh new)
  have old : ∀ b o, hp.get? b = some o → (twoO hp C).get? b = some o := fun b o z => Heap.get?_push_of_some _ (Heap.get?_push_of_some _ z)
  have there : (twoO hp C).get? (hp.objs.size + 1) = some (PySem.HandSPX.excO C hp.objs.size) := by heap_get
  have J : Inv X pins σ (upd H (hp.objs.size + 1) (exo (hp.objs.size + 1) C none)) ⟨twoO hp C, gn, dr, tk, os⟩ := I.laid (t' := tk) old new (exo_ok there)
  have bt := b ⟨twoO hp C, gn, dr, tk, os⟩ [.ref (hp.objs.size + 1)] J.kIn rfl
  have ran := G.run _ X.stack _ _ ⟨[.ref (hp.objs.size + 1)], []⟩ [.ref (hp.objs.size + 1)] [.ref (hp.objs.size + 1)] _ C8.E0 (room.make C [] []) (J.env0.make C [] []) bt (.cons rfl .nil) want
  refine wpAny_Call_Name_kw (ld_glob I gl mx (PySem.W.callWith_K0 (first := []) I.kIn O.kC (wpAny_call ?_)) db)
  refine PySem.HandSPX.call_own PySem.F.excBase_ValueError (fun Y => PySem.HandSPX.refsVE_contains Y bm hbm) (I.kIn _ _ hC) (PySem.W.looks_findIn I.kIn ini) (fun self => PySem.W.bind_fn I.kIn self fn) (Nat.zero_le _) (codeAny_mono ran fun r v z => ?_)
  match r, z with
  | .ok (.ret u), z =>
    obtain ⟨y, H2, o2, b2, u2, ok2, ry, rfl, d, fs, g1, g2, g3, g4⟩ := z
    obtain ⟨h2, n2, d2, t2, os2⟩ := v
    exact ⟨ry, mk_end (raises_own O.exC O.tyC) I new old u2 ok2 o2 b2 g1 g2 g3 g4⟩
/-- f(k = v, ..), no value by place -/
theorem pe_callN0 {CX : CXT} {k : Nat} {f : Addr} {fd : FuncData} {ps ks : List Str} {sp : Sp} {E : XK} {x : Str} {p pos : Pos} {kws : List Keyword} {tk : TA} {g : List Value → List Value → List Value} {gV : List V → List V → List V}
    (G : FnOk X.prog X.w X.K X.mg X.base CX k f fd ps sp) (room : Room k X.A) (gl : Gl X x) (mx : X.mg x = some (.ref f)) (kp : PySem.W.keepIn X.K (.ref f) = true) (b : KBn X.K fd ps 0 ks g gV) (px : Passes CX X E) (pk : PK X kws tk)
    (al : (backToKw pos (keywordEach kws X.env)).all (·.1.isSome) = true := by rfl) (nm : (backToKw pos (keywordEach kws X.env)).filterMap (·.1) = ks := by rfl) (db : (x == ("__debug__" : Str)) = false := by decide)
    (pl : ((backTo pos (starEach [] X.env)).any (·.1) || (backToKw pos (keywordEach kws X.env)).any (·.1.isNone)) = false := by rfl) : PE X (.Call (.Name x p) [] kws pos) (tCallN 0 ks.length sp gV E tNil tk) := ⟨fun pins s σ H Q I h => by
  refine wpAny_Call_Name_kw (ld_glob I gl mx (PySem.W.callWith_KW0 (h₀ := X.base) (first := []) I.mod.kin kp al (thn (pk.run pos pins s σ H _ I h) ?_) pl) db)
  rintro ws v ⟨zs, G2, J, rz, _, l2, q⟩
  rw [nm]
  exact ⟨J.kIn, run_fnN (us := []) (vs := []) G room b px J .nil rz rfl l2 q⟩⟩
end
end NC
/-! o.m(a=.., b=..): an own method, called by keywords only -/
namespace NC
open PySem PySem.Spec PyProof.Rows L2
def tMethN (C : Addr) (m : Str) (n : Nat) (sp : Sp) (gV : List V → List V → List V) (E : XK) (ta : TE) (tk : TA) : TE := fun σ H Q => ta σ H fun x H1 => ∃ a dx fs, x = .ref a ∧ H1 a = some (.ins C dx fs) ∧ fs.lookup m = none ∧ tk σ H1 fun zs H2 => zs.length = n ∧ sp (gV [x] zs) H2 Q E
section
variable {X : Cx}
theorem pe_methN0 {CX : CXT} {k : Nat} {C f : Addr} {fd : FuncData} {ps ks : List Str} {sp : Sp} {E : XK} {m : Str} {o : Expr} {apos pos : Pos} {ta : TE} {kws : List Keyword} {tk : TA} {g : List Value → List Value → List Value} {gV : List V → List V → List V} {pl : Sem Bool}
    (at_ : PE X o ta) (cl : Cls X.K C) (mt : Meth X.K C m f) (G : FnOk X.prog X.w X.K X.mg X.base CX k f fd ps sp) (room : Room k X.A) (b : KBn X.K fd ps 1 ks g gV) (px : Passes CX X E) (pk : PK X kws tk)
    (al : (backToKw pos (keywordEach kws X.env)).all (·.1.isSome) = true := by rfl) (nm : (backToKw pos (keywordEach kws X.env)).filterMap (·.1) = ks := by rfl)
    (pln : ((backTo pos (starEach [] X.env)).any (·.1) || (backToKw pos (keywordEach kws X.env)).any (·.1.isNone)) = false := by rfl)
    (ev : eval (.Call (.Attribute o m apos) [] kws pos) X.env = (do
      let ov ← eval o X.env
      standAt apos.atName
      let (f, first) ← holding [ov] (getMethod ov m pl)
      callWith pos f first (backTo pos (starEach [] X.env)) (backToKw pos (keywordEach kws X.env))) := by rfl) :
    PE X (.Call (.Attribute o m apos) [] kws pos) (tMethN C m ks.length sp gV E ta tk) := ⟨fun pins s σ H Q I h => by
  refine PySem.W.methodCall_KW (pl := pl) (thn (at_.run pins s σ H _ I h) ?_) ev
  rintro u t ⟨x, H1, J, rx, a, dx, fs, rfl, ea, no, q⟩
  cases (show u = Value.ref a from rx)
  refine getmeth_ok J ea cl mt no (PySem.W.callWith_KW0 (h₀ := X.base) (first := [.ref a]) J.mod.kin mt.kp al (thn (pk.run pos pins t σ H1 _ J q) ?_) pln)
  rintro ws v ⟨zs, G2, J2, rz, l2, q2⟩
  rw [nm]
  exact ⟨J2.kIn, run_fnN (us := [.ref a]) (vs := [.ref a]) G room b px J2 (.cons rfl .nil) rz rfl l2 q2⟩⟩
end
end NC
namespace NC
open PySem PySem.Spec PyProof.Rows L2
theorem passF {X : Cx} : Passes (L2.CX X.prog X.w) X E0 := fun _ _ _ _ _ _ _ h => by
  obtain ⟨_, _, _, _, _, _, _, _, _, _, _, _, z⟩ := h
  exact z.elim
def spLaw (K : PySem.W.Frag) : Sp := fun vs H Q _ => ∃ (a : Addr) (ns : List Int), vs = [.ref a] ∧ SqL K H a (ns.map V.int) ∧ ∀ H', Q (.bl true) H'
end NC
/-! lambdas that are kept in a list and handed on from a comprehension: FnO (a function object that is tracked), LamOk (what a kept lambda does), pe_lam, lc_own (a comprehension whose element is told of the def's own state), pe_usesB -/
namespace NC
open PySem PySem.Spec PyProof.Rows L2
def FnO (f : Addr) (o : Obj) : HO := .ext fun h => h.get? f = some o
theorem fnO_ne {f : Addr} {o : Obj} (ps : Array Value) : FnO f o ≠ .tbl ps := fun z => by unfold FnO at z; cases z
theorem fnO_ok {P : Program} {w : World} {H : Hp} {h : Heap} {f : Addr} {o : Obj} (e : h.get? f = some o) : ObjOk P w H h f (FnO f o) := ⟨e, ⟨o, e⟩, fun _ _ a st => st _ a⟩
section
variable {X : Cx} {pins : List (Addr × Obj)} {σ : L2.St} {H : Hp} {s : Shared} {T : List (Addr × Str)} {c P : Addr} {params : Arguments} {body : Expr} {scope : Scope} {pos : Pos}
abbrev lamO (X : Cx) (params : Arguments) (body : Expr) (scope : Scope) (pm : Value) (c' : Addr) (ctv : Value) : Obj := PySem.W.kla_obj "<lambda>" (X.env.qual ++ "<lambda>") params body scope (cloFrom X.env.cells scope.names []) pm c' ctv
/-- a lambda is made, and its function object is tracked from now on -/
theorem lam_new {E : Value → Shared → Prop} {Q : Value → Shared → Prop} (I : Inv X pins σ H s) (TB : LamX.TabB X.base X.mg c P) (hc : X.env.code = .ref c) (hT : (P, X.env.qual ++ "<lambda>") ∈ T) (hu : ∀ p ∈ T, p.1 = P → p.2 = X.env.qual ++ "<lambda>") (tb : LamX.Tabs T H) (nd : defaultsOf params X.env = ([], []))
    (fr : ∀ y ∈ scope.names, y.2 = .free → ∃ c, X.env.cells.lookup y.1 = some c)
    (q : ∀ (f c' : Addr) (pm ctv : Value) (G : Hp) (v : Shared), Inv X pins σ (upd G f (FnO f (lamO X params body scope pm c' ctv))) v → G f = none → LamX.ExtN H G → LamX.Tabs T G → G c' = some (LamX.CodeO c' (X.env.qual ++ "<lambda>")) → Q (.ref f) v) :
    wpAny (model X.prog X.w) X.A (eval (.Lambda params body scope pos) X.env) Q E s := by
  obtain ⟨ps, eP, ok, old⟩ := tb _ hT
  have hP := I.hok P _ eP
  refine PySem.W.kla_eval nd ?_
  cases am : codeAmong pos ps.toList with
  | some cv =>
    obtain ⟨c', rfl, ec⟩ := old pos cv am
    refine PySem.W.kla_makeFunctionHit (mg := X.mg) (ps := ps) (closure_ok fr) I.ok.glob (I.mod.glob.keeps I.bk) hc (TB.code.keeps I.bk) hP ok am (TB.bm.keeps I.bk) fun ctv h1 tk k1 sz => ?_
    have n1 : H h1.objs.size = none := I.hok.fresh sz
    exact q _ c' _ ctv H _ (I.laid (t' := tk) (fun b u e => Heap.get?_push_of_some _ (k1 b u e)) sz (fnO_ok (Heap.get?_push_size _ rfl))) n1 (LamX.ExtN.refl H) tb ec
  | none =>
    refine PySem.W.kla_makeFunction (mg := X.mg) (ps := ps) (closure_ok fr) I.ok.glob (I.mod.glob.keeps I.bk) hc (TB.code.keeps I.bk) hP ok am TB.gP (TB.bm.keeps I.bk) fun c' ctv h1 tk k1 ge lt rc tbl => ?_
    obtain ⟨c2, oc, vs, t, e2, hoc, hd, hv⟩ := rc
    cases e2
    have nC : H c' = none := I.hok.fresh ge
    have I1 := LamX.inv_table (t' := tk) (more := #[rawInt pos.line, rawInt pos.col, .ref c']) I eP k1 tbl ge ⟨oc, vs, t, hoc, hd, hv⟩
    generalize hG : upd (upd H P (.tbl (ps ++ #[rawInt pos.line, rawInt pos.col, .ref c']))) c' (LamX.CodeO c' (X.env.qual ++ "<lambda>")) = G at I1
    have gC : G c' = some (LamX.CodeO c' (X.env.qual ++ "<lambda>")) := by rw [← hG, upd_same]
    have gP : G P = some (.tbl (ps ++ #[rawInt pos.line, rawInt pos.col, .ref c'])) := by rw [← hG, upd_ne (ne_of_none eP nC), upd_same]
    have ex : LamX.ExtN H G := fun b o e n => by
      rw [← hG, upd_ne (ne_of_none e nC), upd_ne (fun z => by rw [z, eP] at e; exact n ps (Option.some.inj e).symm)]
      exact e
    have sz : h1.objs.size ≤ h1.objs.size := Nat.le_refl _
    have I2 := I1.laid (a := h1.objs.size) (t' := tk) (o := FnO h1.objs.size (lamO X params body scope ((X.mg "__name__").getD .none) c' ctv)) (h' := h1.push (lamO X params body scope ((X.mg "__name__").getD .none) c' ctv)) (fun b u e => Heap.get?_push_of_some _ e) sz (fnO_ok (Heap.get?_push_size _ rfl))
    have eL : (ps ++ #[rawInt pos.line, rawInt pos.col, .ref c']).toList = ps.toList ++ [rawInt pos.line, rawInt pos.col, .ref c'] := by simp
    refine q _ c' _ ctv G _ I2 (I1.hok.fresh sz) ex (fun p hp => ?_) gC
    by_cases hb : p.1 = P
    · rw [hu p hp hb, hb]
      refine ⟨_, gP, by rw [eL]; exact PySem.TriplesOk_snoc _ _ _ _ ok, fun p' cv ecv => ?_⟩
      rw [eL] at ecv
      exact (LamX.among_app _ ok ecv).elim (fun z => let ⟨c0, e1, e2⟩ := old p' cv z; ⟨c0, e1, ex _ _ e2 LamX.codeO_ne⟩) fun z => ⟨c', z, gC⟩
    · obtain ⟨p1, a1, a2, a3⟩ := tb p hp
      have g1 : G p.1 = some (.tbl p1) := by rw [← hG, upd_ne (ne_of_none a1 nC), upd_ne hb]; exact a1
      exact ⟨p1, g1, a2, fun p' cv ecv => let ⟨c0, e1, e2⟩ := a3 p' cv ecv; ⟨c0, e1, ex _ _ e2 LamX.codeO_ne⟩⟩
/-- what a kept lambda does when it is called: t, read in the maker's slots as they are then -/
def LamOk (X : Cx) (k : Nat) (G : Hp) (f : Addr) (t : XK → TE) : Prop := ∃ (params : Arguments) (body : Expr) (scope : Scope) (pm : Value) (c' : Addr) (ctv : Value), LamX.LamS X.env.scope scope ∧ G f = some (FnO f (lamO X params body scope pm c' ctv)) ∧ G c' = some (LamX.CodeO c' (X.env.qual ++ "<lambda>")) ∧
  bindArgs (PySem.W.kla_fn "<lambda>" (X.env.qual ++ "<lambda>") params body scope (cloFrom X.env.cells scope.names []) pm (.ref c') ctv) ⟨[], []⟩ = pure [] ∧
  ∀ (A : Around) (out : List Env) (s : Shared) (H : Hp) (E : XK), Room k (A.deeper (LamX.lamEnv X scope s.heap.objs.size f c')) → PE (LamX.lamCx X A out s H E scope f c') body (t E)
theorem LamOk.ext {k : Nat} {G G1 : Hp} {f : Addr} {t : XK → TE} (h : LamOk X k G f t) (e : LamX.ExtN G G1) : LamOk X k G1 f t := by
  obtain ⟨params, body, scope, pm, c', ctv, a, b, c, d, r⟩ := h
  exact ⟨params, body, scope, pm, c', ctv, a, e _ _ b fnO_ne, e _ _ c LamX.codeO_ne, d, r⟩
theorem ExtN_laid {G : Hp} {f : Addr} {o : HO} (n : G f = none) : LamX.ExtN G (upd G f o) := fun b u e _ => by rw [upd_ne (ne_of_none e n)]; exact e
def tLamV (X : Cx) (T : List (Addr × Str)) (k : Nat) (t : XK → TE) : TE := fun _ H Q => LamX.Tabs T H ∧ ∀ f G, LamX.ExtN H G → LamX.Tabs T G → LamOk X k G f t → Q (.ref f) G
/-- lambda: body, as a value -/
theorem pe_lam {k : Nat} {t : XK → TE} (TB : LamX.TabB X.base X.mg c P) (hc : X.env.code = .ref c) (hT : (P, X.env.qual ++ "<lambda>") ∈ T) (hu : ∀ p ∈ T, p.1 = P → p.2 = X.env.qual ++ "<lambda>") (L : LamX.LamS X.env.scope scope) (nd : defaultsOf params X.env = ([], []))
    (nb : ∀ (q : Str) (cl : List (Str × Addr)) (pm cv ctv : Value), bindArgs (PySem.W.kla_fn "<lambda>" q params body scope cl pm cv ctv) ⟨[], []⟩ = pure [])
    (pb : ∀ (A : Around) (out : List Env) (s : Shared) (H : Hp) (E : XK) (f c' : Addr), Room k (A.deeper (LamX.lamEnv X scope s.heap.objs.size f c')) → PE (LamX.lamCx X A out s H E scope f c') body (t E)) :
    PE X (.Lambda params body scope pos) (tLamV X T k t) := ⟨fun pins s σ H Q I ⟨tb, h⟩ => by
  refine lam_new I TB hc hT hu tb nd (L.has I.ok) fun f c' pm ctv G v I1 n1 e1 t1 gc => ?_
  have l1 : LamX.ExtN G (upd G f (FnO f (lamO X params body scope pm c' ctv))) := ExtN_laid n1
  have t2 : LamX.Tabs T (upd G f (FnO f (lamO X params body scope pm c' ctv))) := t1.ext fun b o e => by rw [upd_ne (ne_of_none e n1)]; exact e
  exact ⟨.ref f, _, I1, rfl, h f _ (e1.trans l1) t2 ⟨params, body, scope, pm, c', ctv, L, upd_same, l1 _ _ gc LamX.codeO_ne, nb _ _ _ _ _, fun A out s H E r => pb A out s H E f c' r⟩⟩⟩
/-- a kept lambda, called from anywhere as long as the maker's frame is as it is -/
theorem LamOk.acts {k : Nat} {f : Addr} {t : XK → TE} (I : Inv X pins σ H s) (h : LamOk X k H f t) :
    ∃ J : Hp → Prop, J H ∧ Acts X.prog X.w X.K X.mg X.base k f J (frs X.stack) H s.heap (fun E G Q => t E σ G Q) := by
  obtain ⟨params, body, scope, pm, c', ctv, L, gf, gc, nb, pb⟩ := h
  refine ⟨fun G => G f = some (FnO f (lamO X params body scope pm c' ctv)) ∧ G c' = some (LamX.CodeO c' (X.env.qual ++ "<lambda>")), ⟨gf, gc⟩, fun G v u ho jG => ?_, fun A out v G Q E r e0 u jG h => ?_⟩
  · exact ⟨_, _, _, _, (ho f _ jG.1).1⟩
  · obtain ⟨⟨co, fl, tk, c1, c2, c3⟩, _⟩ := e0.hok c' _ jG.2
    have hf : v.heap.get? f = some (lamO X params body scope pm c' ctv) := (e0.hok f _ jG.1).1
    refine PySem.W.kla_callFunE r.depth hf rfl L.co L.gen rfl ⟨c', co, fl, tk, rfl, c1, c2, c3⟩ ?_
    rw [nb]
    have lim : v.heap.NoLimit := e0.mod.nolimit.keeps fun b o z => (e0.bs b o z).1
    refine wpAny_pure (wpAny_newFunctionEnv (fun y m => (L.own y m).2) nofun (fun h1 ns sb => ⟨lim.fresh _ sb, ?_⟩) L.kind)
    have old : ∀ b o, v.heap.get? b = some o → h1.get? b = some o := fun b o z => sb.extBut b o (Nat.ne_of_lt (Heap.lt_size z)) (Heap.get?_push_of_some _ z)
    have V := LamX.lam_start2 (E := E) (f := f) (c' := c') (tk := v.toks + ([] : List (Str × Value)).length) I L e0 r.hd u ns old
    refine PySem.W.kla_codeExpr (wpAny_mono ((pb A out v G E (r.deeper _)).run [] _ σ G Q V h) ?_ fun _ _ z => z)
    rintro u2 v2 ⟨y, G2, V2, ry, qy⟩
    exact ⟨y, G2, V2.os, V2.bare, V2.base, V2.hok, ry, qy⟩
end
end NC
/-! a comprehension whose element is told of the def's own state: lc_blk, lc_own, pe_lcI; a def that is handed a kept lambda there: pe_usesB -/
namespace NC
open PySem PySem.Spec PyProof.Rows L2
section
variable {X : Cx} {pins : List (Addr × Obj)} {σ : L2.St} {H : Hp} {s : Shared} {Q : VK} {elt tg iter : Expr} {scope : Scope} {own : List (Str × Nat)} {pos : Pos} {wi : TI} {g : TG} {te : TE}
theorem lc_blk {it D : Addr} {fp : List Addr} {tn : Nat → Heap → Prop} {J : It} {HL : Hp} {sL : Shared} {W : Nat → Nat → Hp → Prop} {m0 : Nat} (calm : X.calm = true) (nd : X.N.Nodup) (nm : BlkOk X.N X.env.scope scope own)
    (to : ∀ (v : Shared) (G : Hp) (C : Addr) (cl : List (Str × Addr)) (fp : List Addr), PG (X.blk v G scope (compEnvC scope cl C X.env) fp) tg g)
    (el : ∀ (v : Shared) (G : Hp) (C : Addr) (cl : List (Str × Addr)) (fp : List Addr), Inv X pins σ G v → (∀ b ∈ fp, FpOk X pins G b) → PE (X.blk v G scope (compEnvC scope cl C X.env) fp) elt te)
    (T : Turn X.prog X.w X.K tg J fp it tn) (IL : Inv X pins σ HL sL) (tL : tn 0 sL.heap) (fL : ∀ b ∈ fp, FpOk X pins HL b) (szL : ∀ b ∈ fp, b < sL.heap.objs.size) (w0 : W 0 m0 HL)
    (turn : ∀ i m G, W i m G → (J.stop i G ∧ Q (.ref D) G) ∨ (J.go i G ∧ ∃ Nx : Hp → Prop, (∀ G', Nx G' → ∃ m', m' < m ∧ W (i + 1) m' G') ∧ ∀ x G', J.yld i G x G' → g x (wipe σ (own.map (·.2))) G' fun σ2 G2 => wipe σ2 (own.map (·.2)) = wipe σ (own.map (·.2)) ∧ tYes σ2 G2 fun b G3 =>
      if b = true then te σ2 G3 fun y G4 => ∃ acc, G4 D = some (.lst acc) ∧ acc.length < sizeLine ∧ Nx (upd G4 D (.lst (acc ++ [y]))) else Nx G3)) :
    codeAny (model X.prog X.w) X.A (.compStart (.ListComp elt [⟨tg, iter, [], 0⟩] scope pos) 0 (.ref it) (.ref D) (compEnvC scope (cellsFrom (sL.heap.objs.size + 1) scope.names (cloFrom X.env.cells scope.names [])) sL.heap.objs.size X.env))
      (compPost (model X.prog X.w) X.A X.xe none (EP X pins σ Q) (.ref D) sL.heap.objs.size) { sL with heap := pushCells (sL.heap.push { cls := .type "dict", data := .dict #[] }) scope.names } := by
  have IB := block_start IL nm nd (fun b m => ⟨fL b m, szL b m⟩)
  have tB : tn 0 ({ sL with heap := pushCells (sL.heap.push { cls := .type "dict", data := .dict #[] }) scope.names } : Shared).heap := T.keep _ _ _ tL fun b _ o e => pushCells_keeps _ _ _ _ (Heap.get?_push_of_some _ e)
  have pg := to sL HL sL.heap.objs.size (cellsFrom (sL.heap.objs.size + 1) scope.names (cloFrom X.env.cells scope.names [])) fp
  have pe := el sL HL sL.heap.objs.size (cellsFrom (sL.heap.objs.size + 1) scope.names (cloFrom X.env.cells scope.names [])) fp IL fL
  generalize hce : compEnvC scope (cellsFrom (sL.heap.objs.size + 1) scope.names (cloFrom X.env.cells scope.names [])) sL.heap.objs.size X.env = ce at IB pg pe ⊢
  have cL : ce.locals = sL.heap.objs.size := by subst hce; rfl
  generalize ({ sL with heap := pushCells (sL.heap.push { cls := .type "dict", data := .dict #[] }) scope.names } : Shared) = sB at IB tB ⊢
  have ofp : ∀ {τ : L2.St} {G : Hp} {v : Shared}, Inv (X.blk sL HL scope ce fp) [] τ G v → (∀ b ∈ fp, G b = none) → ∀ b ∈ fp, FpOk (X.blk sL HL scope ce fp) [] G b := fun {τ G v} K n b m =>
    ⟨n b m, (K.ok.exf b m).1, K.ok.exfs b m, .inl m, fun x c e => (K.ok.exf b m).2 x c e, fun p hp => absurd (show p ∈ ([] : List (Addr × Obj)) ++ [] from hp) (by simp)⟩
  have loop : codeAny (model X.prog X.w) X.A (.compLoop (.ListComp elt [⟨tg, iter, [], 0⟩] scope pos) 0 (.ref it) (.ref D) ce) (compPost (model X.prog X.w) X.A X.xe none (EP X pins σ Q) (.ref D) sL.heap.objs.size) sB := by
    refine compLoop_any (fun n v => ∃ i G, Inv (X.blk sL HL scope ce fp) [] (wipe σ (own.map (·.2))) G v ∧ tn i v.heap ∧ (∀ b ∈ fp, G b = none) ∧ W i n G) ?_ m0 ⟨0, HL, IB, tB, fun b m => (fL b m).1, w0⟩
    rintro n v ⟨i, G, Iv, tv, nv, wv⟩
    rcases turn i n G wv with ⟨stop, fin⟩ | ⟨go, Nx, dec, step⟩
    · refine thnF (T.done (X.blk sL HL scope ce fp) rfl rfl rfl calm i [] v _ G (fun _ _ => False) Iv (ofp Iv nv) tv stop) ?_
      rintro _ v1 ⟨rfl, I1⟩
      have Ib : Inv X pins σ G v1 := IL.call' (ch := fp) I1.os I1.base I1.hok I1.bare fun b m => ⟨(fL b m).2.2.2.1, (fL b m).2.1, (fL b m).2.2.2.2.1, (fL b m).2.2.2.2.2⟩
      obtain ⟨mp, ns, _⟩ := I1.loc
      have ns : v1.heap.Ns ce.locals mp := ns
      have nC : G ce.locals = none := I1.free
      rw [cL] at ns nC
      obtain ⟨f0, f1, _, f3, f4, f5⟩ : FpOk X pins G sL.heap.objs.size := IL.fpOk (Nat.le_refl _) nC
      exact ⟨mp, ns, fun h2 sb => ⟨.ref D, G, Ib.turned (t' := v1.toks) (fun b o hb e => (sb.2 b hb).trans e) f0 f1 f3 f4 f5, rfl, fin⟩⟩
    · refine thnF (T.item (X.blk sL HL scope ce fp) rfl rfl rfl calm i [] v _ G (fun _ _ => False) Iv (ofp Iv nv) tv go) ?_
      rintro _ v1 ⟨u, rfl, z1⟩
      refine thnF z1 fun _ v2 ⟨x, G2, I2, r2, y2, t2, n2⟩ => ?_
      refine thnF (pg.run _ v2 _ G2 x u _ (I2.pinned (ofp I2 n2) (T.obj _ _ t2)) r2 (step x G2 y2)) fun _ v3 ⟨σ3, G3, I3, w3, q3⟩ => ?_
      have q3 := (show if true = true then te σ3 G3 _ else Nx G3 from q3)
      rw [if_pos rfl] at q3
      refine wpAny_tests_nil ?_
      rw [if_pos rfl]
      refine thnF (pe.run _ v3 σ3 G3 _ I3 q3) fun z v4 ⟨yv, G4, I4, r4, acc, hD, hz, nx⟩ => ?_
      refine app_ok (X := X.blk sL HL scope ce fp) I4 hD hz r4 fun v5 I5 => ?_
      obtain ⟨m', lt, w'⟩ := dec _ nx
      have kp : ∀ b ∈ fp, ∀ o, v2.heap.get? b = some o → v5.heap.get? b = some o ∧ upd G4 D (.lst (acc ++ [yv])) b = none := fun b m o e =>
        let z := I5.pin (b, o) (List.mem_append_right _ (List.mem_append_right _ (mem_pinsAt m e)))
        ⟨z.1, z.2.1⟩
      have ln : (wipe σ (own.map (·.2))).length = σ3.length := by rw [← w3, wipe_length]
      exact ⟨m', lt, i + 1, _, (I5.unpinned (pins := [])).weak ln (fun j y e => by rw [← w3] at e; exact (wipe_some e).1), T.keep _ _ _ t2 fun b m o e => (kp b m o e).1, fun b m => let ⟨o, e, _⟩ := T.obj _ _ t2 b m; (kp b m o e).2, w'⟩
  exact codeAny_compStart_list loop (T.self X.A 0 _ _ _ tB loop)
theorem lc_own (calm : X.calm = true) (nd : X.N.Nodup) (walk : PI X tg iter wi) (nm : BlkOk X.N X.env.scope scope own)
    (to : ∀ (v : Shared) (G : Hp) (C : Addr) (cl : List (Str × Addr)) (fp : List Addr), PG (X.blk v G scope (compEnvC scope cl C X.env) fp) tg g)
    (el : ∀ (v : Shared) (G : Hp) (C : Addr) (cl : List (Str × Addr)) (fp : List Addr), Inv X pins σ G v → (∀ b ∈ fp, FpOk X pins G b) → PE (X.blk v G scope (compEnvC scope cl C X.env) fp) elt te)
    (plain : ∀ x, foldedSetIterable iter X.env x = pure x) (I : Inv X pins σ H s) (h : tLc wi g tYes te (own.map (·.2)) σ H Q) :
    wpAny (model X.prog X.w) X.A (eval (.ListComp elt [⟨tg, iter, [], 0⟩] scope pos) X.env) (EP X pins σ Q) X.xe s := by
  rw [eval_ListComp]
  refine wpAny_comprehension_free (use := none) rfl plain (closure_ok fun y m e => (nm.free y m e).elim (fun z => I.ok.has _ (.inl z)) fun z => I.ok.has _ (.inr z)) nm.kind (fun y m e => by rw [nm.uniq y m, e])
    (thn (walk.run pins s σ H _ I h) fun _ _ z => thn z fun itv sI zI => ?_)
  obtain ⟨it, fp, tn, J, HI, rfl, II, T, t0, fI, q⟩ := zI
  refine wpAny_newObj_type (newEnv_comp ?_) (by show 0 ≤ sizeLine; decide)
  have nD : HI sI.heap.objs.size = none := II.hok.fresh (Nat.le_refl _)
  obtain ⟨W, ⟨m0, w0⟩, turn⟩ := q _ nD
  have there : ∀ b ∈ fp, b < sI.heap.objs.size := fun b m => let ⟨_, e, _⟩ := T.obj _ _ t0 b m; Heap.lt_size e
  have IL : Inv X pins σ (upd HI sI.heap.objs.size (.lst [])) { sI with heap := sI.heap.push { cls := .type "list", data := .seq ([] : List Value).toArray } } :=
    II.laid (t' := sI.toks) (fun b o e => Heap.get?_push_of_some _ e) (Nat.le_refl _) ⟨Nat.zero_le _, [], 0, .nil, Heap.get?_push_size _ rfl⟩
  have fL : ∀ b ∈ fp, FpOk X pins (upd HI sI.heap.objs.size (.lst [])) b := fun b m => ⟨by rw [upd_ne (Nat.ne_of_lt (there b m))]; exact (fI b m).1, (fI b m).2⟩
  exact lc_blk calm nd nm to el T IL (T.keep _ _ _ t0 fun b _ o e => Heap.get?_push_of_some _ e) fL (fun b m => by show b < (sI.heap.push _).objs.size; rw [Heap.size_push]; exact Nat.lt_succ_of_lt (there b m)) w0 turn
end
section
variable {X : Cx} {elt tg iter : Expr} {scope : Scope} {own : List (Str × Nat)} {pos : Pos} {wi : TI} {g : TG} {te : L2.St → TE}
theorem pe_lcI (calm : X.calm = true) (nd : X.N.Nodup) (walk : PI X tg iter wi) (nm : BlkOk X.N X.env.scope scope own)
    (to : ∀ (v : Shared) (G : Hp) (C : Addr) (cl : List (Str × Addr)) (fp : List Addr), PG (X.blk v G scope (compEnvC scope cl C X.env) fp) tg g)
    (el : ∀ (pins : List (Addr × Obj)) (σ : L2.St) (v : Shared) (G : Hp) (C : Addr) (cl : List (Str × Addr)) (fp : List Addr), Inv X pins σ G v → (∀ b ∈ fp, FpOk X pins G b) → PE (X.blk v G scope (compEnvC scope cl C X.env) fp) elt (te σ))
    (plain : ∀ x, foldedSetIterable iter X.env x = pure x := by intro _; rfl) :
    PE X (.ListComp elt [⟨tg, iter, [], 0⟩] scope pos) (fun σ H Q => tLc wi g tYes (te σ) (own.map (·.2)) σ H Q) :=
  ⟨fun pins s σ H Q I h => lc_own calm nd walk nm to (fun v G C cl fp => el pins σ v G C cl fp) plain I h⟩
end
section
variable {X : Cx} {pins : List (Addr × Obj)} {σ : L2.St} {H : Hp} {s : Shared} {scope : Scope} {ce : Env} {fp : List Addr} {k j : Nat} {g : Addr} {fd : FuncData} {ps : List Str} {sp : Addr → (XK → Hp → VK → Prop) → List V → Hp → VK → Prop} {x : Str} {p pos : Pos} {e : Expr} {es : List Expr} {t : TA}
def tUsesB (X : Cx) (k n : Nat) (sp : Addr → (XK → Hp → VK → Prop) → List V → Hp → VK → Prop) (t : TA) (σ : L2.St) : TE := fun τ G Q => t τ G fun vs G1 => vs.length = n ∧ ∃ f tb, LamOk X k G1 f tb ∧ sp f (fun E G R => tb E σ G R) vs G1 Q
/-- x(e, ..) in a comprehension of the def that made the lambda, e that lambda -/
theorem pe_usesB (I : Inv X pins σ H s) (fI : ∀ b ∈ fp, FpOk X pins H b) (U : Uses X.prog X.w X.K X.mg X.base k j g fd ps sp) (r : Room j X.A) (gl : Gl (X.blk s H scope ce fp) x) (hm : X.mg x = some (.ref g)) (kp : PySem.W.keepIn X.K (.ref g) = true) (b : Binds X.K fd ps [])
    (ha : PA (X.blk s H scope ce fp) (e :: es) t) (db : (x == ("__debug__" : Str)) = false := by decide)
    (h1 : starEach (e :: es) (X.blk s H scope ce fp).env = (false, eval e (X.blk s H scope ce fp).env) :: starEach es (X.blk s H scope ce fp).env := by rfl) (h2 : (backTo pos (starEach es (X.blk s H scope ce fp).env)).any (·.1) = false := by rfl) :
    PE (X.blk s H scope ce fp) (.Call (.Name x p) (e :: es) [] pos) (tUsesB X k ps.length sp t σ) := ⟨fun pn v τ G Q IZ h => by
  refine wpAny_Call_Name_kw (ld_glob IZ gl hm (PySem.W.callWith_K (h₀ := X.base) IZ.mod.kin kp (thn (ha.run pos pn v τ G _ IZ h) ?_) h1 h2) db)
  rintro us v1 ⟨vs, G1, I1, vv, l, f, tb, lo, hG⟩
  have l2 : us.length = ps.length := vv.length ▸ l
  have bt : BindsTo v1 fd ⟨us, []⟩ (ps.zip us) := by
    have z := b v1 us I1.kIn (by rw [List.append_nil]; exact l2)
    rw [List.append_nil] at z
    exact z
  have Ix : Inv X pins σ G1 v1 := I.call' (ch := fp) I1.os I1.base I1.hok I1.bare fun b m => ⟨(fI b m).2.2.2.1, (fI b m).2.1, (fI b m).2.2.2.2.1, (fI b m).2.2.2.2.2⟩
  obtain ⟨J, jG, ac⟩ := lo.acts Ix
  exact ⟨I1.kIn, wpAny_call (codeAny_mono (U _ _ _ _ _ us vs Q f J _ r I1.env0 bt vv l ac jG hG) fun _ _ q => end_of (CX := C8.CX0) (E := C8.E0) I1 (fun _ _ _ _ _ _ _ z => z.elim) q)⟩⟩
end
end NC
namespace NC
open PySem PySem.Spec PyProof.Rows L2
abbrev sWord : Stmt := topS 33
abbrev sRef : Stmt := topS 34
abbrev nWord : List Str := ["_law_ask", "_law_found", "e"]
theorem scWord : FnScope nWord ["_law_ask"] (defScope sWord) := ⟨rfl, rfl, rfl, by decide +kernel, rfl, by decide +kernel, by decide +kernel⟩
theorem scRef : FnScope ["_law_ask", "_law_due"] ["_law_ask", "_law_due"] (defScope sRef) := ⟨rfl, rfl, rfl, by decide +kernel, rfl, by decide +kernel, by decide +kernel⟩
/-- e.f in a suite, the class told by the reading -/
def tXfG (K : PySem.W.Frag) (a : Addr) (cls : Value) (d : Option Addr) (f : Str) (te : TE) : TE := fun σ H Q => te σ H fun x H1 => x = .ref a ∧ ∃ (C dd : Addr) (fs : List (Str × V)) (v : V), cls = .ref C ∧ XfC K C ∧ PySem.W.findIn K (.ref C) f = some none ∧ d = some dd ∧ H1 dd = some (.xd fs) ∧ fs.lookup f = some v ∧ Q v H1
theorem pe_xfG {X : Cx} {a : Addr} {oe : Obj} {cls : Value} {d : Option Addr} {pn : List (Addr × Obj)} {e : Expr} {i : Nat} {pos : Pos} {n : Str} (hz : Zc cls d oe) (hf : ∃ vs, oe.data = .fields vs) (at_ : PE (X.suite a ((a, oe) :: pn)) e (tVar i))
    (hb : attributeBase e n X.env (eval e X.env) = eval e X.env := by rfl) : PE (X.suite a ((a, oe) :: pn)) (.Attribute e n pos) (tXfG X.K a cls d n (tVar i)) :=
  ⟨fun ps s σ H Q I ⟨v, sv, ev, C, dd, fs, u, ec, T, no, ed, ea, lu, q⟩ => (pe_xf (C := C) T no hz hf at_ hb).run ps s σ H Q I ⟨v, sv, ev, ec, dd, fs, u, ed, ea, lu, q⟩⟩
theorem takes_len {X : Cx} {W : WX} (t : Takes X W) : Takes X (fun c d σ H => σ.length = X.N.length → W c d σ H) := fun u s' ⟨a, B, sI, pins, σ, H, cls, d, e, I, nb, up, sky, na, os, ag, w⟩ =>
  t u s' ⟨a, B, sI, pins, σ, H, cls, d, e, I, nb, up, sky, na, os, ag, w I.len⟩
def FldAt (K : PySem.W.Frag) (cls : Value) (d : Option Addr) (f : Str) (H : Hp) (q : V → Prop) : Prop := ∃ (C dd : Addr) (fs : List (Str × V)) (v : V), cls = .ref C ∧ XfC K C ∧ PySem.W.findIn K (.ref C) f = some none ∧ d = some dd ∧ H dd = some (.xd fs) ∧ fs.lookup f = some v ∧ q v
/-- the three families -/
abbrev fam (CH CM CN : Addr) : List Value := [.ref CH, .ref CM, .ref CN]
def EchW (K : PySem.W.Frag) (CH CM CN : Addr) (Q : VK) : XK := fun cls d H' => PySem.W.exmAny K cls (fam CH CM CN) = some true ∧ FldAt K cls d "word" H' fun v => ∀ T, H' T = none → Q (.ref T) (upd H' T (.tup [.non, v]))
/-- what _law_word makes of what it asks -/
def spWord (K : PySem.W.Frag) (CH CM CN : Addr) : Addr → (XK → Hp → VK → Prop) → List V → Hp → VK → Prop := fun f tl vs H Q => vs = [.ref f] ∧ tl (EchW K CH CM CN Q) H fun x H1 => 2 ≤ sizeLine ∧ ∀ T, H1 T = none → ∃ v, some (some (V.ref T)) = some (some v) ∧ Q v (upd H1 T (.tup [x, .str ""]))
section
variable {P : Program} {w : World} {K : PySem.W.Frag} {mg : Str → Option Value} {base : Heap}
set_option maxHeartbeats 1000000 in
theorem ok_word {g CH CM CN : Addr} {fd : FuncData} {k : Nat} (F : Fun K "_law_word" "_law_word" sWord g fd) (hH : mg "HallError" = some (.ref CH)) (hM : mg "Missing" = some (.ref CM)) (hN : mg "NothingLeft" = some (.ref CN)) : Uses P w K mg base k (k + 2) g fd ["_law_ask"] (spWord K CH CM CN) := by
  refine uses_of F scWord fun cdv A out s H vs Q f J tl hr a jH h => ?_
  obtain ⟨rfl, h⟩ := h
  refine ⟨_, pss_cons (ps_try_tup (X := (cxOf C8.CX0 P w K mg base nWord "_law_word" (defScope sWord) g cdv A out s H C8.E0).nox)
      (tb := fun W D σ G => ∃ Ech : XK, (∀ cls d σ' H', Ech cls d H' → σ'.length = 3 → W cls d σ' H') ∧ tAsg (tTup (tCons (fun σZ HZ R => σZ[0]? = some (some (.ref f)) ∧ J HZ ∧ tl Ech HZ R) (tCons (tC (.str "")) tNil))) (gName 1) D σ G)
      (i := 2) (c1 := .ref CH) (c2 := .ref CM) (c3 := .ref CN) (ts := fun a cls d => tAsg (tTup (tCons (tC .non) (tCons (tXfG K a cls d "word" (tVar 2)) tNil))) (gName 1))
      rfl rfl scWord.nd LamX.takes0 (fun W pn xe tk => ?_) rfl rfl ⟨rfl, by decide, .inl hH⟩ ⟨rfl, by decide, .inl hM⟩ ⟨rfl, by decide, .inl hN⟩
      (fun a oe cls d pn hz hf => pss_one (ps_set (i := 1) scWord.nd rfl (.inl rfl) (pe_tup (pa_cons pe_non (pa_cons (pe_xfG hz hf (pv 2)) pa_nil))))))
    (pss_one (ps_ret (pv 1))), ?_⟩
  · refine ⟨fun pins s' σ G D I h' => ?_⟩
    obtain ⟨Ech, hW, h3⟩ := h'
    exact (pss_one (ps_set (X := (cxOf C8.CX0 P w K mg base nWord "_law_word" (defScope sWord) g cdv A out s H C8.E0).nox.tr pn xe) (i := 1) scWord.nd rfl (.inl rfl)
      (pe_tup (pa_cons (pe_thunk (E := Ech) a rfl (passes_call (takes_len tk) hW) hr (pv 0)) (pa_cons pe_str pa_nil))))).run pins s' σ G D I h3
  · refine ⟨EchW K CH CM CN Q, fun cls d σ' H' he hl => ?_, ⟨rfl, jH, h⟩⟩
    obtain ⟨y0, y1, y2, rfl⟩ : ∃ y0 y1 y2, σ' = [y0, y1, y2] := by
      match σ', hl with
      | [a, b, c], _ => exact ⟨a, b, c, rfl⟩
    obtain ⟨e1, C, dd, fs, v, h1, h2, h3, h4, h5, h6, h7⟩ := he
    exact ⟨true, e1, fun _ a na => ⟨_, rfl, rfl, C, dd, fs, v, h1, h2, h3, h4, h5, h6, by show 2 ≤ sizeLine; decide, fun T nT => ⟨_, rfl, h7 T nT⟩⟩, fun z => by cases z⟩
/-- what _law_refused makes of what it asks, where that is refused; Good: how -/
def spRef (K : PySem.W.Frag) (CH CM CN : Addr) : Addr → (XK → Hp → VK → Prop) → List V → Hp → VK → Prop := fun f tl vs H Q => ∃ (due : Str) (Good : XK), vs = [.ref f, .str due] ∧ okS due ∧
  (∀ cls d G, Good cls d G → PySem.W.exmAny K cls (fam CH CM CN) = some true ∧ FldAt K cls d "word" G fun v => ∃ z, v = .str z ∧ okS z ∧ ∀ G', Same G G' → Q (.bl (decide (z = due))) G') ∧ ∀ (E : XK) (R : VK), (∀ cls d G, Good cls d G → E cls d G) → tl E H R
theorem none_shaped {z : Str} (h : okS z) : SeqAt.shaped (.tuple [.none, .str z]) = true := by
  have q := strOk_of h
  show (PyData.canLay0 _ && decide (PyData.depth _ ≤ 64)) = true
  simp [PyData.canLay0, PyData.canLayAll0, PyData.depth, PyData.depthAll, q]
theorem none_eqv (a b : Str) : PyData.eqv (.tuple [.none, .str a]) (.tuple [.none, .str b]) = decide (a = b) := by
  show (PyData.eqv .none .none && (PyData.eqv (.str a) (.str b) && true)) = _
  by_cases e : a = b
  · subst e
    simp [PyData.eqv]
  · simp [PyData.eqv, e]
set_option maxHeartbeats 1000000 in
theorem ok_ref {g gW CH CM CN : Addr} {fd fdW : FuncData} {k : Nat} (F : Fun K "_law_refused" "_law_refused" sRef g fd) (W : DF K mg "_law_word" sWord ["_law_ask"] gW fdW) (hH : mg "HallError" = some (.ref CH)) (hM : mg "Missing" = some (.ref CM)) (hN : mg "NothingLeft" = some (.ref CN)) :
    Uses P w K mg base k (k + 3) g fd ["_law_ask", "_law_due"] (spRef K CH CM CN) := by
  have UW : Uses P w K mg base k (k + 2) gW fdW ["_law_ask"] (spWord K CH CM CN) := ok_word W.F hH hM hN
  refine uses_of F scRef fun cdv A out s H vs Q f J tl hr a jH h => ?_
  obtain ⟨due, Good, rfl, hd, hg, h⟩ := h
  refine ⟨_, pss_one (ps_ret (pe_cmpR (op_eqD hr.units) (pe_uses UW hr (by rfl) W.g W.F.kp W.b (pa_cons (pv 0) pa_nil) a rfl) (pe_tup (pa_cons pe_non (pa_cons (pv 1) pa_nil))) (nomark _))), ?_⟩
  refine ⟨_, rfl, rfl, jH, rfl, h _ _ fun cls d G hG => ?_⟩
  obtain ⟨e1, C, dd, fs, v, h1, h2, h3, h4, h5, h6, z, rfl, hz, q⟩ := hg cls d G hG
  refine ⟨e1, C, dd, fs, _, h1, h2, h3, h4, h5, h6, fun T nT => ?_⟩
  refine ⟨_, rfl, by show 2 ≤ sizeLine; decide, fun T2 nT2 => ?_⟩
  have n12 : T ≠ T2 := ne_of_none upd_same nT2
  refine ⟨_, _, .tup (a := T) (xs := [V.non, .str z]) (SqT.of (by rw [upd_ne n12, upd_same])) (.cons .non (.cons (.str _) .nil)), .tup (a := T2) (xs := [V.non, .str due]) (SqT.of upd_same) (.cons .non (.cons (.str _) .nil)), none_shaped hz, none_shaped hd, ?_⟩
  rw [none_eqv]
  exact q _ (sm_upd (same_upd nT) nT2)
end
end NC
namespace NC
open PySem PySem.Spec PyProof.Rows L2
/-- a kept lambda that is refused as it should be -/
theorem ref_yes {X : Cx} {K : PySem.W.Frag} {CH CM CN CS : Addr} {k : Nat} {G : Hp} {f : Addr} {tb : XK → TE} {σ : L2.St} {Q : VK} {w : Str} (lo : LamOk X k G f tb) (okw : okS w) (ms : PySem.W.exmAny K (.ref CS) (fam CH CM CN) = some true) (xf : XfC K CS) (hw : PySem.W.findIn K (.ref CS) "word" = some none)
    (act : ∀ (E : XK) (R : VK), (∀ x G', Same G G' → G' x = some (.xd [("word", .str w)]) → E (.ref CS) (some x) G') → tb E σ G R) (q : ∀ G', Same G G' → Q (.bl true) G') :
    ∃ f' tb', LamOk X k G f' tb' ∧ spRef K CH CM CN f' (fun E G R => tb' E σ G R) [.ref f, .str w] G Q := by
  refine ⟨f, tb, lo, w, fun cls dd G' => ∃ x, cls = .ref CS ∧ dd = some x ∧ Same G G' ∧ G' x = some (.xd [("word", .str w)]), rfl, okw, ?_, fun E R hE => act E R fun x G' s e => hE _ _ _ ⟨x, rfl, rfl, s, e⟩⟩
  rintro cls dd G1 ⟨x, rfl, rfl, sG, eG⟩
  refine ⟨ms, CS, x, _, _, rfl, xf, hw, rfl, eG, rfl, w, rfl, okw, fun G2 s2 => ?_⟩
  rw [decide_eq_true rfl]
  exact q G2 (sm_trans sG s2)
theorem LamOk.upd {X : Cx} {k : Nat} {G : Hp} {f b : Addr} {t : XK → TE} {xs ys : List V} (h : LamOk X k G f t) (e : G b = some (.lst xs)) : LamOk X k (L2.upd G b (.lst ys)) f t := by
  obtain ⟨params, body, scope, pm, c', ctv, a, gf, gc, d, r⟩ := h
  exact ⟨params, body, scope, pm, c', ctv, a, by rw [upd_ne (ne_of gf e fun z => by unfold FnO at z; cases z)]; exact gf, by rw [upd_ne (ne_of gc e fun z => by unfold LamX.CodeO at z; cases z)]; exact gc, d, r⟩
theorem LamOk.same {X : Cx} {k : Nat} {G G1 : Hp} {f : Addr} {t : XK → TE} (h : LamOk X k G f t) (e : Same G G1) : LamOk X k G1 f t := h.ext (.of e)
theorem tabs_smx {T : List (Addr × Str)} {H H' : Hp} {d : Addr} (t : LamX.Tabs T H) (D : Dr H d) (s : SmX d H H') : LamX.Tabs T H' := fun p hp => by
  obtain ⟨ps, h1, h2, h3⟩ := t p hp
  obtain ⟨c0, ns, i, a, b, e, hd, _⟩ := D
  refine ⟨ps, s _ _ (ne_of h1 hd fun z => by cases z) h1, h2, fun pos cv hc => ?_⟩
  obtain ⟨c, e1, e2⟩ := h3 pos cv hc
  exact ⟨c, e1, s _ _ (ne_of e2 hd fun z => by unfold LamX.CodeO at z; cases z) e2⟩
theorem Dr.ext {H H' : Hp} {d : Addr} (h : Dr H d) (e : LamX.ExtN H H') : Dr H' d := by
  obtain ⟨c, ns, i, a, b, f, h1, h2, h3⟩ := h
  exact ⟨c, ns, i, a, b, f, e _ _ h1 (fun _ z => by cases z), e _ _ h2 (fun _ z => by cases z), h3⟩
theorem tabs_upd {T : List (Addr × Str)} {H : Hp} {b : Addr} {xs ys : List V} (t : LamX.Tabs T H) (h : H b = some (.lst xs)) : LamX.Tabs T (L2.upd H b (.lst ys)) := fun p hp => by
  obtain ⟨ps, h1, h2, h3⟩ := t p hp
  refine ⟨ps, by rw [upd_ne (ne_of h1 h fun z => by cases z)]; exact h1, h2, fun pos cv hc => ?_⟩
  obtain ⟨c, e1, e2⟩ := h3 pos cv hc
  exact ⟨c, e1, by rw [upd_ne (ne_of e2 h fun z => by unfold LamX.CodeO at z; cases z)]; exact e2⟩
end NC
namespace NC
open PySem PySem.Spec PyProof.Rows L2
/-- a refusal of its word alone -/
def sp0 (K : PySem.W.Frag) (word : Str) : Sp := fun vs H Q _ => ∃ a C, vs = [.ref a] ∧ OexC K C ∧ PySem.W.findIn K (.ref C) "word" = some none ∧ H a = some (exo a C none) ∧
  ∀ dx H', H dx = none → dx ≠ a → (∀ b, b ≠ dx → b ≠ a → H' b = H b) → H' a = some (exo a C (some dx)) → H' dx = some (exd dx [("word", .str word)]) → Q .non H'
structure XC0 (K : PySem.W.Frag) (mg : Str → Option Value) (x q : Str) (st : Stmt) (C fI : Addr) (fd : FuncData) : Prop where
  gC : mg x = some (.ref C)
  O : OexC K C
  hw : PySem.W.findIn K (.ref C) "word" = some none
  iC : PySem.W.findIn K (.ref C) "__init__" = some (some (.ref fI))
  tI : PySem.W.typeIn K (.ref fI) = some (.type "function")
  F : Fun K "__init__" q st fI fd
  b : Binds K fd ["self"] []
theorem mk0 {K : PySem.W.Frag} {C : Addr} {word : Str} (hO : OexC K C) (hw : PySem.W.findIn K (.ref C) "word" = some none) {H1 : Hp} {Q : XK}
    (q : ∀ d H', Same H1 H' → H1 d = none → H' d = some (.xd [("word", .str word)]) → Q (.ref C) (some d) H') :
    ∀ a, H1 a = none → sp0 K word (.ref a :: ([] ++ [])) (upd H1 a (exo a C none))
      (fun u H2 => u = .non ∧ ∃ (d : Addr) (fs : List (Str × V)), H2 a = some (exo a C (some d)) ∧ H2 d = some (exd d fs) ∧ H1 d = none ∧ Q (.ref C) (some d) (upd (del H2 a) d (.xd fs))) (fun _ _ _ => False) := by
  intro a na
  refine ⟨a, C, rfl, hO, hw, upd_same, fun dx H' n1 n2 k e1 e2 => ?_⟩
  have hd : H1 dx = none := by
    rw [upd_ne n2] at n1
    exact n1
  refine ⟨rfl, dx, _, e1, e2, hd, q dx _ (fun b o hb => ?_) hd upd_same⟩
  have b1 : b ≠ dx := ne_of_none hb hd
  have b2 : b ≠ a := ne_of_none hb na
  rw [upd_ne b1, del_ne b2, k b b1 b2, upd_ne b2]
  exact hb
end NC
/-! enumerate of a text; zip of two texts -/
namespace NC
open PySem PySem.Spec PyProof.Rows L2
/-- the sign of x at i -/
abbrev SgAt (x : Str) (i : Nat) (v : V) : Prop := ∃ c, x.cps[i]? = some c ∧ v = .str ⟨#[c]⟩
def ItES (x : Str) : It :=
  ⟨fun i _ => i < x.cps.size, fun i H v H' => ∃ T s, v = .ref T ∧ H T = none ∧ H' = upd H T (.tup [.int (i : Nat), s]) ∧ SgAt x i s, fun i _ => x.cps.size ≤ i⟩
def AtES (x : Str) (t : Tok) (e it : Addr) (i : Nat) (h : Heap) : Prop := (∃ last, IsEnum h e it ((i : Nat) : Int) last) ∧ h.IsStrIter it (strIterType x) x t i ∧ e ≠ it ∧ i ≤ x.cps.size
theorem AtES.olds {x : Str} {t : Tok} {e it : Addr} {i : Nat} {h : Heap} (st : AtES x t e it i h) {b : Addr} (m : b ∈ [e, it]) : b < h.objs.size := by
  obtain ⟨⟨_, g1⟩, ⟨o2, g2, _⟩, _⟩ := st
  rcases List.mem_cons.mp m with rfl | m
  · exact Heap.lt_size g1
  · exact (List.mem_singleton.mp m) ▸ Heap.lt_size g2
theorem turn_enumS {P : Program} {w : World} {K : PySem.W.Frag} {elts : List Expr} {kk : Nat} {tpos : Pos} (x : Str) (tk0 : Tok) (e it : Addr) : Turn P w K (.Tuple elts kk tpos) (ItES x) [e, it] e (AtES x tk0 e it) where
  mem := .head _
  obj := fun i h st b m => by
    rcases List.mem_cons.mp m with rfl | m
    · exact st.1.elim fun _ g => ⟨_, g, nofun⟩
    · obtain ⟨o, g, _, k⟩ := st.2.1
      exact ⟨o, (List.mem_singleton.mp m) ▸ g, fun v z => nomatch k.symm.trans z⟩
  keep := fun i h h' st k => ⟨st.1.imp fun _ g => k e (.head _) _ g, let ⟨o, ho, r⟩ := st.2.1; ⟨o, k it (.tail _ (.head _)) o ho, r⟩, st.2.2⟩
  item := by
    rintro X rfl rfl rfl calm i ps t σ H E I fre st lt
    have lt : i < x.cps.size := lt
    obtain ⟨_, enu⟩ := st.1
    have old : e < t.heap.objs.size := st.olds (.head _)
    refine wpAny_pyNext_enum_itemD (Draws.text (prog := X.prog) (w := X.w) (A := X.A.in1) (I.ok.hd calm) it x tk0) enu st.2.1 lt st.2.2.1 (by simp [st.2.2.1]) fun y g tk ay own on pair _ stay => ?_
    obtain ⟨c, u, hc, rfl⟩ := ay
    refine ⟨_, rfl, wpAny_letOwnedTupleGo_enum (s := { t with heap := g, toks := tk + 1 }) own fun g2 enu2 but => ?_⟩
    have pair2 : g2.get? t.heap.objs.size = some { cls := .type "tuple", data := .seq #[.int i tk, .str ⟨#[c]⟩ u] } := (but.2 _ (Nat.ne_of_gt old)).trans pair
    refine ⟨.ref t.heap.objs.size, upd H t.heap.objs.size (.tup [.int (i : Nat), .str ⟨#[c]⟩]), I.turnedNew (ch := [e, it]) (fun b o nb z => (but.2 b fun q => nb (by simp [q])).trans (stay b o (fun q => nb (by simp [q])) (fun q => nb (by simp [q])) z)) fre (Nat.le_refl _)
        ⟨by show 2 ≤ sizeLine; decide, [.int i tk, .str ⟨#[c]⟩ u], .cons ⟨_, rfl⟩ (.cons ⟨_, rfl⟩ .nil), ⟨_, pair2, rfl, _, rfl⟩⟩, rfl, ⟨_, _, rfl, I.hok.fresh (Nat.le_refl _), rfl, c, hc, rfl⟩, ⟨⟨.str ⟨#[c]⟩ u, ?_⟩, ?_, st.2.2.1, lt⟩, fun b m => ?_⟩
    · exact (show ((i + 1 : Nat) : Int) = (i : Int) + 1 by omega) ▸ enu2
    · obtain ⟨o, ho, r⟩ := on
      exact ⟨o, (but.2 it (Ne.symm st.2.2.1)).trans ho, r⟩
    · exact (upd_ne (Nat.ne_of_lt (st.olds m))).trans (fre b m).1
  done := by
    rintro X rfl rfl rfl calm i ps t σ H E I fre st le
    have le : x.cps.size ≤ i := le
    obtain ⟨_, enu⟩ := st.1
    have ei : i = x.cps.size := Nat.le_antisymm st.2.2.2 le
    have it0 : t.heap.IsStrIter it (strIterType x) x tk0 x.cps.size := ei ▸ st.2.1
    have ty : t.TypeIs (.ref e) "enumerate" := ⟨_, enu, rfl⟩
    have fr := fre it (.tail _ (.head _))
    unfold pyNext
    refine wpAny_bind (wpAny_attempt (wpAny_callSpecial?_slot (name := Str.ofString "__next__") ty F.slot_enumerate_next (wpAny_call_entry F.slot_enumerate_next ty F.entry_enumerate_next ?_ (F.args_enumerate_next_1 _))))
    show wpAny _ _ (field (.ref e) 2 >>= fun _ => _) _ _ _
    refine wpAny_bind (wpAny_field enu rfl (x := .ref it) rfl (wpAny_bind ((Draws.text (prog := X.prog) (w := X.w) (A := X.A.in1) (I.ok.hd calm) it x tk0).done _ _ _ it0 fun g z but hz => ?_)))
    exact wpAny_bind (wpAny_isInstance (T := "StopIteration") (b := true) hz isSubtype_stop (wpAny_pure ⟨rfl, I.turned (t' := t.toks) (fun b o nb q => but b o nb q) fr.1 fr.2.1 fr.2.2.2.1 fr.2.2.2.2.1 fr.2.2.2.2.2⟩))
  self := fun _ _ _ _ _ st h => st.1.elim fun _ g => wpAny_pyIter_enum g h
def iEnumS (ta : TA) : TI := fun σ H R => ta σ H fun vs H1 => ∃ x, vs = [.str x] ∧ R (ItES x) H1
theorem pi_enumS {X : Cx} {e : Expr} {ta : TA} {p pos tpos : Pos} {elts : List Expr} {kk : Nat} (gl : Gl X "enumerate") (bi : X.mg "enumerate" = none) (arg : PA X [e] ta) (one : starEach [e] X.env = [(false, eval e X.env)] := by rfl) :
    PI X (.Tuple elts kk tpos) (.Call (.Name "enumerate" p) [e] [] pos) (iEnumS ta) := by
  refine ⟨fun ps t σ H R I h => Call_ (ld_blt I gl bi boot_enumerate (PyProof.Rows.callWith_type1 (thn (arg.run pos ps t σ H _ I h) fun us v r => ?_) one rfl))⟩
  obtain ⟨vs, G, J, rv, x, rfl, r⟩ := r
  cases rv with
  | cons r1 rr =>
    cases rr
    obtain ⟨tk0, rfl⟩ := r1
    have new : ∀ b ∈ [v.heap.objs.size + 1, v.heap.objs.size], FpOk X ps G b := fun b m => by
      have up : v.heap.objs.size ≤ b := by
        simp at m
        omega
      exact J.fpOk up (J.hok.fresh up)
    exact call_enumerate_str fun g enu iter _ stay => wpAny_pyIter_enum enu ⟨v.heap.objs.size + 1, _, _, _, G, rfl, J.kept (t' := v.toks) stay, turn_enumS x tk0 (v.heap.objs.size + 1) v.heap.objs.size, ⟨⟨.none, enu⟩, iter, Nat.succ_ne_self _, Nat.zero_le _⟩, new, r⟩
theorem walk_enumS {x : Str} : Walk (ItES x) x.cps.size (fun _ => True) (fun i H v H' => ∃ T s, v = .ref T ∧ H T = none ∧ H' = upd H T (.tup [.int (i : Nat), s]) ∧ SgAt x i s) :=
  ⟨fun _ _ hi _ => hi, fun _ _ => Nat.le_refl _, fun _ _ _ _ _ _ y => y⟩
/-! ### zip -/
def ItZS (x y : Str) : It :=
  ⟨fun i _ => i < x.cps.size ∧ i < y.cps.size, fun i H v H' => ∃ T s u, v = .ref T ∧ H T = none ∧ H' = upd H T (.tup [s, u]) ∧ SgAt x i s ∧ SgAt y i u, fun i _ => x.cps.size ≤ i ∨ y.cps.size ≤ i⟩
def AtZS (x y : Str) (t1 t2 : Tok) (z TI TO i1 i2 : Addr) (i : Nat) (h : Heap) : Prop := IsZip h z TI TO .none ∧ IsTupOf2 h TI (.ref i1) (.ref i2) ∧ (∃ a b, IsTupOf2 h TO a b) ∧ h.IsStrIter i1 (strIterType x) x t1 i ∧ h.IsStrIter i2 (strIterType y) y t2 i ∧ i ≤ x.cps.size ∧ i ≤ y.cps.size
theorem AtZS.olds {x y : Str} {t1 t2 : Tok} {z TI TO i1 i2 : Addr} {i : Nat} {h : Heap} (st : AtZS x y t1 t2 z TI TO i1 i2 i h) : ∀ b ∈ [z, TI, TO, i1, i2], ∃ o, h.get? b = some o ∧ ∀ v, o.data ≠ .cell v := by
  obtain ⟨hz, hI, ⟨a, b, hO⟩, ⟨o1, e1, _, d1⟩, ⟨o2, e2, _, d2⟩, _⟩ := st
  simp only [List.mem_cons, List.not_mem_nil, or_false, forall_eq_or_imp, forall_eq]
  exact ⟨⟨_, hz, nofun⟩, ⟨_, hI, nofun⟩, ⟨_, hO, nofun⟩, ⟨o1, e1, fun v q => nomatch d1.symm.trans q⟩, ⟨o2, e2, fun v q => nomatch d2.symm.trans q⟩⟩
theorem turn_zipS {P : Program} {w : World} {K : PySem.W.Frag} {elts : List Expr} {kk : Nat} {tpos : Pos} (x y : Str) (t1 t2 : Tok) {z TI TO i1 i2 : Addr} (S : ZipSep2 z TI TO i1 i2 [i1] [i2]) :
    Turn P w K (.Tuple elts kk tpos) (ItZS x y) [z, TI, TO, i1, i2] z (AtZS x y t1 t2 z TI TO i1 i2) where
  mem := .head _
  obj := fun i h st b m => st.olds b m
  keep := fun i h h' st k => by
    obtain ⟨hz, hI, ⟨a, b, hO⟩, ⟨o1, e1, r1⟩, ⟨o2, e2, r2⟩, le⟩ := st
    exact ⟨k z (by simp) _ hz, k TI (by simp) _ hI, ⟨a, b, k TO (by simp) _ hO⟩, ⟨o1, k i1 (by simp) _ e1, r1⟩, ⟨o2, k i2 (by simp) _ e2, r2⟩, le⟩
  item := by
    rintro X rfl rfl rfl calm i ps t σ H E I fre st ⟨l1, l2⟩
    have olds := st.olds
    obtain ⟨hz, hI, ⟨a, b, hO⟩, s1, s2, _⟩ := st
    have old : z < t.heap.objs.size := Heap.lt_size hz
    refine wpAny_pyNext_zipD2_item S (Draws.text (prog := X.prog) (w := X.w) (A := X.A.in1) (I.ok.hd calm) i1 x t1) (Draws.text (prog := X.prog) (w := X.w) (A := X.A.in1) (I.ok.hd calm) i2 y t2) hz hI hO s1 s2 l1 l2 fun v1 v2 g tk p1 p2 hz' hO' s1' s2' pair _ stay => ?_
    obtain ⟨c1, u1, h1, rfl⟩ := p1
    obtain ⟨c2, u2, h2, rfl⟩ := p2
    refine ⟨_, rfl, wpAny_letOwnedTupleGo_zip (s := { t with heap := g, toks := tk }) hz' fun g2 hz2 but => ?_⟩
    have pair2 : g2.get? t.heap.objs.size = some { cls := .type "tuple", data := .seq #[.str ⟨#[c1]⟩ u1, .str ⟨#[c2]⟩ u2] } := (but.2 _ (Nat.ne_of_gt old)).trans pair
    have lts : ∀ b ∈ [z, TI, TO, i1, i2], b < t.heap.objs.size := fun b m => let ⟨_, g, _⟩ := olds b m; Heap.lt_size g
    refine ⟨.ref t.heap.objs.size, upd H t.heap.objs.size (.tup [.str ⟨#[c1]⟩, .str ⟨#[c2]⟩]), I.turnedNew (ch := [z, TI, TO, i1, i2]) (fun b o nb q => (but.2 b fun e => nb (by simp [e])).trans (stay b o (fun e => nb (by simp [e])) (fun e => nb (by simp [e])) (fun e => nb (by simp [e])) (fun e => nb (by simp [e])) q)) fre (Nat.le_refl _)
        ⟨by show 2 ≤ sizeLine; decide, [.str ⟨#[c1]⟩ u1, .str ⟨#[c2]⟩ u2], .cons ⟨_, rfl⟩ (.cons ⟨_, rfl⟩ .nil), ⟨_, pair2, rfl, _, rfl⟩⟩, rfl, ⟨_, _, _, rfl, I.hok.fresh (Nat.le_refl _), rfl, ⟨c1, h1, rfl⟩, ⟨c2, h2, rfl⟩⟩, ⟨hz2, ?_, ⟨_, _, (but.2 _ S.TOz).trans hO'⟩, ?_, ?_, l1, l2⟩, fun b m => ?_⟩
    · exact (but.2 _ S.TIz).trans (stay _ _ S.TIz S.TITO S.TIi1 S.TIi2 hI)
    · obtain ⟨o, ho, r⟩ := s1'
      exact ⟨o, (but.2 _ (Ne.symm S.zi1)).trans ho, r⟩
    · obtain ⟨o, ho, r⟩ := s2'
      exact ⟨o, (but.2 _ (Ne.symm S.zi2)).trans ho, r⟩
    · exact (upd_ne (Nat.ne_of_lt (lts b m))).trans (fre b m).1
  done := by
    rintro X rfl rfl rfl calm i ps t σ H E I fre st fin
    obtain ⟨hz, hI, ⟨a, b, hO⟩, s1, s2, le1, le2⟩ := st
    have fin : x.cps.size ≤ i ∨ y.cps.size ≤ i := fin
    refine wpAny_pyNext_zipD2_end S (Draws.text (prog := X.prog) (w := X.w) (A := X.A.in1) (I.ok.hd calm) i1 x t1) (Draws.text (prog := X.prog) (w := X.w) (A := X.A.in1) (I.ok.hd calm) i2 y t2) hz hI hO s1 s2 le1 le2 (by omega) fun g tk stay => ?_
    exact ⟨rfl, I.turnedL (t' := tk) (ch := [z, TI, TO, i1, i2]) (fun b o nb q => stay b o (fun e => nb (by simp [e])) (fun e => nb (by simp [e])) (fun e => nb (by simp [e])) (fun e => nb (by simp [e])) q) fre⟩
  self := fun _ _ _ _ _ st h => wpAny_pyIter_zip st.1 h
def iZipS (ta : TA) : TI := fun σ H R => ta σ H fun vs H1 => ∃ x y, vs = [.str x, .str y] ∧ R (ItZS x y) H1
theorem pi_zipS {X : Cx} {e e2 : Expr} {ta : TA} {p pos tpos : Pos} {elts : List Expr} {kk : Nat} (gl : Gl X "zip") (bi : X.mg "zip" = none) (arg : PA X [e, e2] ta)
    (st : starEach [e, e2] X.env = (false, eval e X.env) :: starEach [e2] X.env := by rfl) (pl : (backTo pos (starEach [e2] X.env)).any (·.1) = false := by rfl) :
    PI X (.Tuple elts kk tpos) (.Call (.Name "zip" p) [e, e2] [] pos) (iZipS ta) := by
  refine ⟨fun ps t σ H R I h => Call_ (ld_blt I gl bi PyProof.Rows.boot_zip (PyProof.Rows.callWith_type1 (thn (arg.run pos ps t σ H _ I h) fun us v r => ?_) st pl))⟩
  obtain ⟨vs, G, J, rv, x, y, rfl, r⟩ := r
  cases rv with
  | cons r1 rr =>
    cases rr with
    | cons r2 rr =>
      cases rr
      obtain ⟨t1, rfl⟩ := r1
      obtain ⟨t2, rfl⟩ := r2
      refine zip_begins2 (begins_text x t1) (begins_text y t2) trivial trivial fun g hz hI hO g1 g2 _ stay => wpAny_pyIter_zip hz ?_
      have new : ∀ b ∈ [v.heap.objs.size + 4, v.heap.objs.size + 2, v.heap.objs.size + 3, v.heap.objs.size, v.heap.objs.size + 1], FpOk X ps G b := fun b m => by
        have up : v.heap.objs.size ≤ b := by
          simp at m
          omega
        exact J.fpOk up (J.hok.fresh up)
      exact ⟨_, _, _, _, G, rfl, J.kept (t' := v.toks) stay, turn_zipS x y t1 t2 (zip_sep2 (fp1 := []) (fp2 := []) (fun _ h => nomatch h) (fun _ h => nomatch h)), ⟨hz, hI, ⟨_, _, hO⟩, ⟨_, g1, rfl, rfl⟩, ⟨_, g2, rfl, rfl⟩, Nat.zero_le _, Nat.zero_le _⟩, new, r⟩
theorem walk_zipS {x y : Str} {n : Nat} (hn : n = min x.cps.size y.cps.size) : Walk (ItZS x y) n (fun _ => True) (fun i H v H' => ∃ T s u, v = .ref T ∧ H T = none ∧ H' = upd H T (.tup [s, u]) ∧ SgAt x i s ∧ SgAt y i u) :=
  ⟨fun i _ hi _ => ⟨by omega, by omega⟩, fun _ _ => by show _ ∨ _; omega, fun _ _ _ _ _ _ y => y⟩
/-- a statement that is never come to -/
theorem ps_dead {X : Cx} {st : Stmt} : PS X st (fun _ _ _ => False) := ⟨fun _ _ _ _ _ _ h => h.elim⟩
end NC
/-! len(x) of an own class with its own __len__ -/
namespace NC
open PySem PySem.Spec PyProof.Rows L2
theorem cr_lenOwn {X : Cx} {CX : CXT} {C f : Addr} {fd : FuncData} {n : Nat} {sp : Sp} {E : XK} (F : FnOk X.prog X.w X.K X.mg X.base CX n f fd ["self"] sp) (hs : PySem.W.findIn X.K (.ref C) "__len__" = some (some (.ref f))) (hf : PySem.W.isFn X.K (.ref f) = true) (hb : Binds X.K fd ["self"] []) (hr : Room (n + 1) X.A) (hx : Passes CX X E) :
    CallR X (.builtin "len") (fun xs H Q => ∃ a dx fs, xs = [.ref a] ∧ H a = some (.ins C dx fs) ∧ sp [.ref a] H (fun v G => ∃ m : Nat, v = .int (m : Int) ∧ (m : Int) < 2 ^ 63 ∧ Q (.int (m : Int)) G) E) := by
  intro pins s σ H xs us Q I r h
  obtain ⟨a, dx, fs, rfl, ha, h⟩ := h
  obtain ⟨u, rfl, rx⟩ := vals1 r
  cases rx
  obtain ⟨mA, J, _⟩ := ins_get I.hok ha
  obtain ⟨od, J, _⟩ := J.look
  refine Calls.call_function_entry PySem.kind_len PySem.plain_len PySem.entry_len (PySem.args_len1 _) ?_
  unfold Builtin.«len»
  refine wpAny_bind (m := oneArg "len" _) (wpAny_pure ?_)
  refine wpAny_bind (m := callSpecial? (.ref a) (Str.ofString "__len__")) (PySem.W.special_fn I.kIn J hs (beq_iff_eq.mp hf) ?_)
  have e0 : Env0 X.prog X.w X.K X.mg X.base X.A.in1 X.stack s H := by
    have e := I.env0
    exact ⟨e.frames, e.mod, e.bs, e.bsz, e.funs, e.frf, e.hok, e.bare⟩
  have bt : BindsTo s fd ⟨[.ref a], []⟩ ((["self"] : List Str).zip [Value.ref a]) := by
    have z := hb s [.ref a] I.kIn rfl
    simpa using z
  refine wpAny_call (codeAny_mono (F.run X.A.in1 X.stack s H ⟨[.ref a], []⟩ [.ref a] [.ref a] _ E hr.in1 e0 bt (.cons rfl .nil) h) fun r s' hq => ?_)
  cases r with
  | error e => exact hx pins σ H s e s' I hq
  | ok fl =>
    cases fl with
    | ret w =>
      obtain ⟨z, G, I1, rz, m, rfl, hm, q⟩ := I.after hq
      obtain ⟨t, rfl⟩ := rz
      refine wpAny_bind (wpAny_holding (wpAny_pure ?_))
      refine wpAny_bind (wpAny_letGo ?_)
      show wpAny _ _ (if ((m : Nat) : Int) < 0 then _ else _) _ _ _
      rw [if_neg (by omega)]
      show wpAny _ _ (if ((m : Nat) : Int) ≥ 2 ^ 63 then _ else _) _ _ _
      rw [if_neg (by omega)]
      exact wpAny_bind (wpAny_mkInt (wpAny_pure ⟨_, rfl, ⟨.int (m : Int), G, I1.tok _, ⟨_, rfl⟩, q⟩⟩))
    | next => exact False.elim hq
    | brk => exact False.elim hq
    | cont => exact False.elim hq
end NC
namespace NC
open PySem PySem.Spec PyProof.Rows L2
open PySem.Froz (SD sObj runD addTx tailTx TxOk sing itObj itEnd finU two is_str next_x end_x at_of at_end add_x add_ok get_upd)
/-- a text that is there already is not added -/
theorem dup_x {P : Program} {w : World} {A : Around} {E : Value → Shared → Prop} {s : Shared} {a : Addr} {T : String} {D : SD} {l : List Str} {k : Str} {u : Tok} {Q : Bool → Shared → Prop} (ho : s.heap.get? a = some (sObj T D)) (F : TxOk P w D l) (hk : k ∈ l) (hb : l.length < scanBound)
    (h : Q false s) : wpAny (model P w) A (setAddHashed a (.str k u) (hashStr w k)) Q E s := by
  obtain ⟨es, ep, t⟩ := D
  have hd : (sObj T (es, ep, t)).data = .set es ep t := rfl
  have hf : t.fits es.size = true := F.fit
  have hel : ElemsOf (strKind P w) es.toList := F.el
  have hsz : es.size = l.length := F.sz
  have hb0 : es.size < scanBound := by omega
  have hkey : (strKind P w).is k (.str k u) = true := is_str k u
  obtain ⟨e, he, hp⟩ := (F.mem k).mp hk
  unfold setAddHashed setAddHashedIn
  refine wpAny_holding (wpAny_bind (wpAny_setState_of ho hd hf ?_))
  dsimp only
  rw [byScan_of rfl hb0 hel]
  simp only [↓reduceIte]
  unfold setAddByScan
  refine wpAny_bind ?_
  refine wpAny_bind (wpAny_rule ?_)
  refine wpAny_bind (wpAny_setScan_of (knd := strKind P w) (k := k) hkey ho hd hf hel ?_)
  cases hr : List.findIdx? (fun e => (strKind P w).is k e.2) es.toList with
  | none =>
    have := List.findIdx?_eq_none_iff.mp hr e he
    rw [hp] at this
    exact Bool.noConfusion this
  | some j =>
    dsimp only
    exact wpAny_pure (wpAny_pure h)
/-- the rest of a text's signs into the set, some of them there already -/
theorem loop_any {P : Program} {w : World} {A : Around} {R : Result → Shared → Prop} {a it : Addr} (hne : a ≠ it) {x : Str} {u : Tok} {led : Bool} (hh : A.handled = none) : ∀ (cs : List Nat) (i : Nat) (D : SD) (l : List Str) (s : Shared), x.cps.toList.drop i = cs →
    s.heap.get? a = some (sObj "set" D) → s.heap.get? it = some (itObj x u i) → TxG led D → TxOk P w D l → l.Nodup → l.length + cs.length < scanBound →
    (∀ (h' : Heap) (tk : Nat) (D' : SD) (l' : List Str), h'.get? a = some (sObj "set" D') → TxG led D' → TxOk P w D' l' → l'.Nodup → (∀ k, k ∈ l' ↔ k ∈ l ∨ k ∈ cs.map sg) → l'.length ≤ l.length + cs.length →
      (∀ b o, b ≠ a → b ≠ it → s.heap.get? b = some o → h'.get? b = some o) → R (.ok (.ret .none)) { s with heap := h', toks := tk }) →
    codeAny (model P w) A (.builtin "set.update.loop" ⟨[.ref a, .ref it], []⟩) R s
  | [], i, D, l, s, hd, ha, hit, G, F, hn, _, h => by
    refine codeAny_builtin PyProof.Rows.F.entry_set_update_loop ?_
    rw [Around.under_plainId PyProof.Rows.F.plain_set_update_loop _]
    show wpAny _ A.in1 (pyNext (.ref it) >>= _) _ _ s
    refine wpAny_bind (end_x (u := u) (by exact hh) hit (at_end hd) ?_)
    show wpAny _ A.in1 (ret Value.none) _ _ _
    refine wpAny_pure ?_
    have e1 : ∀ b o, b ≠ it → s.heap.get? b = some o → (PySem.Froz.endHeap s.heap it i).get? b = some o := fun b o hb e =>
      Heap.get?_push_of_some _ (Heap.get?_push_of_some _ (Heap.get?_update_of_ne _ (Ne.symm hb) e))
    exact h (PySem.Froz.endHeap s.heap it i) s.toks D l (e1 a _ hne ha) G F hn (fun k => by simp) (Nat.le_refl _) fun b o _ h2 e => e1 b o h2 e
  | c :: r, i, D, l, s, hd, ha, hit, G, F, hn, hb, h => by
    obtain ⟨hx, hd2⟩ := at_of hd
    have hb2 : l.length + (r.length + 1) < scanBound := hb
    refine codeAny_builtin PyProof.Rows.F.entry_set_update_loop ?_
    rw [Around.under_plainId PyProof.Rows.F.plain_set_update_loop _]
    show wpAny _ A.in1 (pyNext (.ref it) >>= _) _ _ s
    refine wpAny_bind (next_x (u := u) hit hx ?_)
    show wpAny _ A.in1 (holding [Value.str (sing c) s.toks] (setAdd a (.str (sing c) s.toks)) >>= _) _ _ _
    refine wpAny_bind (wpAny_holding ?_)
    unfold setAdd
    refine wpAny_holding ?_
    refine wpAny_bind ((strKind P w).pyHash (k := sing c) (is_str _ _) ?_)
    have ha1 : (s.heap.update it (fun _ => itObj x u (i + 1))).get? a = some (sObj "set" D) := PySem.Heap.get?_update_of_ne _ (Ne.symm hne) ha
    have hit1 : (s.heap.update it (fun _ => itObj x u (i + 1))).get? it = some (itObj x u (i + 1)) := get_upd _ hit rfl
    by_cases hcl : sing c ∈ l
    · refine dup_x (l := l) (D := D) (s := { s with heap := s.heap.update it (fun _ => itObj x u (i + 1)), toks := s.toks + 1 + 1 }) ha1 F hcl (by omega) ?_
      refine wpAny_pure ⟨plainId_quiet PyProof.Rows.F.plain_set_update_loop _, loop_any hne hh r (i + 1) D l _ hd2 ha1 hit1 G F hn (by omega) fun h' tk D' l' k1 k2 k3 k4 k5 k6 k7 => ?_⟩
      refine h h' tk D' l' k1 k2 k3 k4 (fun k => ?_) (by show l'.length ≤ l.length + (r.length + 1); omega) fun b o h1 h2 e => k7 b o h1 h2 (Heap.get?_update_of_ne _ (Ne.symm h2) e)
      rw [k5 k, List.map_cons, List.mem_cons]
      refine ⟨fun z => z.elim .inl fun z => .inr (.inr z), fun z => z.elim .inl fun z => z.elim (fun z => .inl ?_) .inr⟩
      rw [z]
      exact hcl
    · refine add_x (l := l) (D := D) (s := { s with heap := s.heap.update it (fun _ => itObj x u (i + 1)), toks := s.toks + 1 + 1 }) ha1 F hcl (by omega) ?_
      have ha2 : ((s.heap.update it (fun _ => itObj x u (i + 1))).update a (fun _ => sObj "set" (addTx (hashStr w (sing c)) (.str (sing c) s.toks) D))).get? a = some (sObj "set" (addTx (hashStr w (sing c)) (.str (sing c) s.toks) D)) := get_upd _ ha1 rfl
      have hit2 : ((s.heap.update it (fun _ => itObj x u (i + 1))).update a (fun _ => sObj "set" (addTx (hashStr w (sing c)) (.str (sing c) s.toks) D))).get? it = some (itObj x u (i + 1)) := PySem.Heap.get?_update_of_ne _ hne hit1
      refine wpAny_pure ⟨plainId_quiet PyProof.Rows.F.plain_set_update_loop _, loop_any hne hh r (i + 1) _ (sing c :: l) _ hd2 ha2 hit2 (txg_add G) (add_ok s.toks F) (List.nodup_cons.mpr ⟨hcl, hn⟩) (by show l.length + 1 + r.length < scanBound; omega) fun h' tk D' l' k1 k2 k3 k4 k5 k6 k7 => ?_⟩
      refine h h' tk D' l' k1 k2 k3 k4 (fun k => ?_) (by show l'.length ≤ l.length + (r.length + 1); have k6 : l'.length ≤ l.length + 1 + r.length := k6; omega) fun b o h1 h2 e => k7 b o h1 h2 (Heap.get?_update_of_ne _ (Ne.symm h1) (Heap.get?_update_of_ne _ (Ne.symm h2) e))
      rw [k5 k, List.map_cons, List.mem_cons, List.mem_cons]
      show (k = sg c ∨ k ∈ l) ∨ _ ↔ k ∈ l ∨ k = sg c ∨ _
      refine ⟨fun z => ?_, fun z => ?_⟩
      · rcases z with (z | z) | z
        · exact .inr (.inl z)
        · exact .inl z
        · exact .inr (.inr z)
      · rcases z with z | z | z
        · exact .inl (.inr z)
        · exact .inl (.inl z)
        · exact .inr z
set_option maxHeartbeats 3200000 in
/-- set(text), some of its signs alike -/
theorem call_set_any {P : Program} {w : World} {A : Around} {E : Value → Shared → Prop} {s : Shared} {x : Str} {t : Tok} {Q : Value → Shared → Prop} (hh : A.handled = none) (hA : x.cps.all (· < 128) = true)
    (hb : x.cps.toList.length < 64)
    (h : ∀ (h' : Heap) (tk : Nat) (D : SD) (l : List Str), h'.get? s.heap.objs.size = some (sObj "set" D) → TxG (!w.params.followText "set-order") D → TxOk P w D l → l.Nodup → (∀ k, k ∈ l ↔ k ∈ sgs x) → l.length ≤ x.cps.toList.length →
      (∀ b o, s.heap.get? b = some o → h'.get? b = some o) → Q (.ref s.heap.objs.size) { s with heap := h', toks := tk }) :
    wpAny (model P w) A (call (.type "set") [.str x t]) Q E s := by
  obtain ⟨c, tl, hmro⟩ := PySem.F.called_set.mro
  have hmade := PySem.F.called_set.made
  have hsub := PySem.F.called_set.sub
  generalize hled : (!w.params.followText "set-order") = led at h
  refine wpAny_call (codeAny_of_tree ?_)
  show wpAny _ _ (callAny (.type "set") _) _ _ _
  refine wpAny_pure ⟨Code.quiet_builtin _ (by decide +kernel), codeAny_builtin PySem.F.entry_type_call ?_⟩
  rw [Around.under_plain (weight_type_call_type "set" [.str x t] []) rfl]
  have n1 := PySem.F.called_set.notType
  have n2 := PySem.F.called_set.canCreate
  have hct := PySem.F.typeCall_set_1 (.str x t)
  repeat (any_goals (first | assumption | wp_step))
  refine codeAny_mono (code_set_led1 (.str x t) (E := E) (Q₁ := fun ob s1 => ob = .ref s.heap.objs.size ∧ s1 = { s with heap := s.heap.push (sObj "set" (#[], 0, .fresh 0 0 led)) }) ⟨rfl, by rw [hled]; rfl⟩) fun r s1 hr => ?_
  cases r with
  | error e => exact hr
  | ok fl =>
    cases fl with
    | ret ob =>
      obtain ⟨rfl, rfl⟩ := hr
      have hS : (s.heap.push (sObj "set" (#[], 0, .fresh 0 0 led))).get? s.heap.objs.size = some (sObj "set" (#[], 0, .fresh 0 0 led)) := Heap.get?_push_size _ rfl
      have hT : Shared.TypeIs { s with heap := s.heap.push (sObj "set" (#[], 0, .fresh 0 0 led)) } (.ref s.heap.objs.size) "set" := ⟨_, hS, rfl⟩
      have hli := PySem.F.called_set.init.lookup
      have hbi := PySem.F.called_set.init.bind (.ref s.heap.objs.size)
      repeat (any_goals (first | assumption | wp_step))
      refine codeAny_mono (codeAny_call_builtin (R := wants (fun r s2 => r = .none ∧ Q (.ref s.heap.objs.size) s2) E) PySem.F.called_set.init.plain PySem.F.entry_set_init (check_set_init_1 hT ?_)) fun r2 s2 hr2 => ?_
      · unfold Builtin.«set.__init__» noKeywords Builtin.Frozenset.updateFrom
        have b1 : isSubtype (.type "str") (.type "set") = pure false := by rw [isSubtype_type]; kernel_rfl
        have b2 : isSubtype (.type "str") (.type "frozenset") = pure false := by rw [isSubtype_type]; kernel_rfl
        have b3 : (Value.type "str" == Value.type "dict") = false := by decide
        generalize hPI : pyIter = PI
        wp_walk
        subst hPI
        refine wpAny_pyIter_ascii hA ?_
        refine wpAny_bind (wpAny_runValue ?_)
        have hz : (s.heap.push (sObj "set" (#[], 0, .fresh 0 0 led))).objs.size = s.heap.objs.size + 1 := Heap.size_push ..
        have g0 : TxG led ((#[], 0, .fresh 0 0 led) : SD) := ⟨List.Pairwise.nil, rfl⟩
        have o0 : TxOk P w ((#[], 0, .fresh 0 0 led) : SD) [] := Froz.TxOk.nil rfl
        refine loop_any (A := A.in1.in1) (u := t) (D := (#[], 0, .fresh 0 0 led)) (l := []) (by show s.heap.objs.size ≠ (s.heap.push _).objs.size; rw [hz]; omega) (by simp [hh]) x.cps.toList 0 _ rfl (Heap.get?_push_of_some _ hS) (Heap.get?_push_size _ rfl) g0 o0 List.nodup_nil (by show 0 + x.cps.toList.length < scanBound; unfold scanBound; omega) fun h' tk D l e1 e2 e3 e4 e6 e7 e5 => ?_
        refine wpAny_pure ?_
        show wpAny _ _ (ret Value.none) _ _ _
        refine wpAny_pure ⟨rfl, h h' tk D l e1 e2 e3 e4 (fun k => (e6 k).trans ⟨fun z => z.elim (fun z => nomatch z) id, .inr⟩) (by have e7 : l.length ≤ 0 + x.cps.toList.length := e7; omega) fun b o e => e5 b o ?_ ?_ (Heap.get?_push_of_some _ (Heap.get?_push_of_some _ e))⟩
        · exact Nat.ne_of_lt (Heap.lt_size e)
        · show b ≠ (s.heap.push _).objs.size
          rw [hz]
          exact Nat.ne_of_lt (Nat.lt_succ_of_lt (Heap.lt_size e))
      · cases r2 with
        | error e => exact hr2
        | ok f2 =>
          cases f2 with
          | ret r =>
            obtain ⟨rfl, hq⟩ := hr2
            repeat (any_goals (first | assumption | wp_step))
          | _ => exact hr2.elim
    | _ => exact hr.elim
section
variable {X : Cx}
theorem cr_setA (hc : X.calm = true) : CallR X (.type "set") (fun xs H Q => ∃ z, xs = [.str z] ∧ z.cps.all (· < 128) = true ∧ z.cps.toList.length < 64 ∧
    ∀ p l, H p = none → l.Nodup → (∀ k, k ∈ l ↔ k ∈ sgs z) → l.length ≤ z.cps.toList.length → Q (.ref p) (upd H p (SetTx X.prog X.w p l))) := by
  intro pins s σ H xs us Q I r h
  obtain ⟨z, rfl, hA, hl, q⟩ := h
  obtain ⟨u, rfl, t, rfl⟩ := vals1 r
  refine call_set_any (P := X.prog) (w := X.w) (I.ok.hd hc) hA hl fun h' tk D l e1 e2 e3 e4 e6 e7 e5 => ?_
  exact ⟨.ref s.heap.objs.size, _, I.laid e5 (Nat.le_refl _) (setTx_ok e1 e2 e3), rfl, q _ l (I.hok.fresh (Nat.le_refl _)) e4 e6 e7⟩
end
end NC
/-! sorted of a list or a tuple of texts: cr_sortedA -/
namespace NC
open PySem PySem.Spec PyProof.Rows L2
def rSortedA (K : PySem.W.Frag) : List V → Hp → VK → Prop := fun vs H Q => ∃ (a : Addr) (xs : List Str), vs = [V.ref a] ∧ (SqL K H a (xs.map V.str) ∨ SqT K H a (xs.map V.str)) ∧ xs.length < 64 ∧
  ∀ (ys : List Str) (p : Addr), ys.Perm xs → sortedS ys = true → H p = none → Q (.ref p) (upd H p (.lst (ys.map V.str)))
theorem cr_sortedA {X : Cx} : CallR X (.builtin "sorted") (rSortedA X.K) := by
  intro pins s σ H vs us Q I r h
  obtain ⟨a, xs, rfl, hs | hs, h64, q⟩ := h
  · exact cr_sortedS pins s σ H [.ref a] us Q I r ⟨a, xs, rfl, hs, h64, q⟩
  · obtain ⟨its, rv, ⟨o, e, c, n, d⟩, hz⟩ := I.tuple hs
    rw [Vals.ref1 r]
    have hl := rv.length
    rw [List.length_map] at hl
    refine srt_str I (.ref a) xs h64 (fun E Q' hQ => ?_) q
    refine PySem.wpAny_collect_seq a (.inr rfl) e c d (fun h' k => hQ _ its xs rfl rfl k rv.strs (List.Perm.refl _)) ?_
    rw [List.size_toArray, sizeLine_eq]
    omega
end NC
namespace NC
open PySem PySem.Spec PyProof.Rows L2
abbrev sBWinit : Stmt := inClass (topS 3) 0
theorem scBW : FnScope ["self"] ["self"] (defScope sBWinit) := ⟨rfl, rfl, rfl, by decide +kernel, rfl, by decide +kernel, by decide +kernel⟩
theorem leS_le {a b : Nat} (h : leS (sg a) (sg b)) : a ≤ b := by
  have h2 : ([a] : List Nat) ≤ [b] := h
  have h3 : ¬ ([b] : List Nat) < [a] := h2
  rw [lt1] at h3
  omega
theorem rise_of {l : List Nat} {ys z : List Str} (so : sortedS ys = true) (p : ys.Perm z) (nd : z.Nodup) (mem : ∀ k, k ∈ z ↔ k ∈ l.map sg) : ys = l.map sg ↔ l.Pairwise (· < ·) := by
  constructor
  · intro e
    subst e
    have pw := sortedS_pw _ so
    have n1 : (l.map sg).Nodup := p.nodup_iff.mpr nd
    rw [List.pairwise_map] at pw
    have n2 : l.Pairwise fun a b => sg a ≠ sg b := List.pairwise_map.mp n1
    refine (pw.and n2).imp fun {a b} h => ?_
    have h1 := leS_le h.1
    have h2 : a ≠ b := fun e => h.2 (by rw [e])
    omega
  · intro pw
    have n1 : (l.map sg).Nodup := List.pairwise_map.mpr (pw.imp fun {a b} h e => by have := sg_inj e; omega)
    have p2 : z.Perm (l.map sg) := (List.perm_ext_iff_of_nodup nd n1).mpr mem
    refine sortedS_eq so (p.trans p2) (List.pairwise_map.mpr (pw.imp fun {a b} h => ?_))
    show ¬ ([b] : List Nat) < [a]
    rw [lt1]
    omega
section
variable {P : Program} {w : World} {K : PySem.W.Frag} {mg : Str → Option Value} {base : Heap}
theorem ok_BW {CH fH f : Addr} {fd fdH : FuncData} {k : Nat} (T : HE K mg CH fH fdH) (F : Fun K "__init__" "BadWalls.__init__" sBWinit f fd) : FnOk P w K mg base CX0 (k + 2) f fd ["self"] (sp0 K "badwalls") := by
  have GH : FnOk P w K mg base CX0 (k + 1) fH fdH ["self", "word"] (spHE K) := ok_HE T
  obtain ⟨mc, rd, fc⟩ := T.rd
  refine F.ok scBW (fun vs H Q E h => ?_) (fun cdv A outer s H vs Q E hr h => ?_)
  · obtain ⟨a, C, rfl, _⟩ := h
    rfl
  · obtain ⟨a, C, rfl, hO, hw, ha, q⟩ := h
    refine ⟨_, pss_one (ps_expr (pe_clsfn (by rfl) T.gC rd fc GH hr T.F.kp T.b .nil pass0 (pa_cons (pv 0) (pa_cons pe_str pa_nil)))), ?_⟩
    refine ⟨_, rfl, a, C, _, rfl, hO, hw, ha, fun dx n ne => q dx _ n ne (fun b h1 h2 => ?_) upd_same ?_⟩
    · rw [upd_ne h2, upd_ne h1]
    · rw [upd_ne ne, upd_same]
/-! ### is_walls, exact -/
def spWallsX : Sp := fun vs H Q _ => ∃ l, vs = [.str (tx l)] ∧ (∀ c ∈ l, c < 128) ∧ l.length ≤ 60 ∧ ∀ H' b, Same H H' → (b = true ↔ GoodW l) → Q (.bl b) H'
theorem ok_wallsX {f : Addr} {fd : FuncData} {k : Nat} {tw : Tok} (B : BM mg) (mW : mg "WIDEST" = some (.int 12 tw)) (F : Fun K "is_walls" "is_walls" sIsWalls f fd) : FnOk P w K mg base CX0 (k + 1) f fd ["walls"] spWallsX := by
  refine F.ok scIsWalls (fun vs H Q E h => ?_) (fun cdv A outer s H vs Q E hr h => ?_)
  · obtain ⟨l, rfl, _⟩ := h
    rfl
  · obtain ⟨l, rfl, asc, len, q⟩ := h
    have hlz : (tx l).length ≤ sizeLine := by rw [tx_len, sizeLine_eq]; omega
    have ls : (tx l).cps.size = l.length := tx_len l
    refine ⟨_, pss_cons (ps_set (i := 1) scIsWalls.nd rfl (.inl rfl) (pe_callB (cr_all rfl) (by rfl) B.all (by decide +kernel) (pa_cons
        (pe_lc (own := [("letter", 2)]) (g := gName 2) (tt := tYes) rfl scIsWalls.nd (pi_str (pv 0)) (blkOk_by (N := ["walls", "small", "letter"]) (sc := defScope sIsWalls) (by decide +kernel))
          (fun _ _ _ _ _ => pg_name (i := 2) scIsWalls.nd rfl (Or.inl rfl)) (fun _ _ _ _ _ => pts_nil) (fun _ _ _ _ _ => pe_chain op_le_str op_le_str pe_str (pv 2) pe_str)) pa_nil)))
      (pss_one (ps_ret (pe_and (pv 1) (pe_and (pe_chain op_le op_le pe_int (pe_callB call_len_str (by rfl) B.len PySem.boot_len (pa_cons (pv 0) pa_nil)) (pe_glob (v := .int 12) rfl mW ⟨_, rfl⟩))
        (pe_one (pe_cmpR (op_eqD hr.units) (pe_callB (cr_sortedSetT rfl) (by rfl) B.sorted (by decide +kernel) (pa_cons (pe_callTy (cr_setA rfl) (by rfl) B.set (by decide +kernel) (pa_cons (pv 0) pa_nil)) pa_nil))
          (pe_callTy (cr_listS rfl) (by rfl) B.list (by decide +kernel) (pa_cons (pv 0) pa_nil)) (nomark _))))))), ?_⟩
    refine ⟨_, rfl, tx l, rfl, fun D hD => lc_it walk_str (fun i H' => Same H H' ∧ H' D = some (.lst (((l.take i).map fun c => decide (97 ≤ c ∧ c ≤ 122)).map V.bl))) ⟨same_upd hD, upd_same⟩ (fun _ _ _ _ => trivial) ?_ ?_⟩
    · rintro i x H1 H2 hi ⟨sm, eD⟩ ⟨rfl, c, hc, rfl⟩
      have e : l[i]? = some c := by
        rw [← Array.getElem?_toList, tx_list] at hc
        exact hc
      have fin : ∀ b : Bool, b = decide (97 ≤ c ∧ c ≤ 122) → ∃ acc, H2 D = some (.lst acc) ∧ acc.length < sizeLine ∧ Same H (upd H2 D (.lst (acc ++ [.bl b]))) ∧ (upd H2 D (.lst (acc ++ [.bl b]))) D = some (.lst (((l.take (i + 1)).map fun c => decide (97 ≤ c ∧ c ≤ 122)).map V.bl)) := fun b hb => by
        refine ⟨_, eD, ?_, sm_over sm hD, ?_⟩
        · rw [List.length_map, List.length_map, List.length_take, sizeLine_eq]
          omega
        · rw [upd_same, List.take_add_one, e, List.map_append, List.map_append, hb]
          rfl
      by_cases h1 : 97 ≤ c
      · refine ⟨rfl, yes_i ⟨_, rfl, _, _, rfl, rfl, true, ?_, iteT ⟨_, _, rfl, rfl, ?_⟩⟩⟩
        · rw [strA]
          show V.bl (!decide (([c] : List Nat) < [97])) = .bl true
          rw [decide_eq_false (by rw [lt1]; omega)]
          rfl
        · have e2 : (!decide ((Str.ofString "z").cps.toList < (⟨#[c]⟩ : Str).cps.toList)) = decide (97 ≤ c ∧ c ≤ 122) := by
            rw [strZ]
            show (!decide (([122] : List Nat) < [c])) = _
            rw [Bool.eq_iff_iff, Bool.not_eq_true', decide_eq_false_iff_not, decide_eq_true_eq, lt1]
            omega
          exact fin _ e2
      · refine ⟨rfl, yes_i ⟨_, rfl, _, _, rfl, rfl, false, ?_, iteF (fin false ?_)⟩⟩
        · rw [strA]
          show V.bl (!decide (([c] : List Nat) < [97])) = .bl false
          rw [decide_eq_true (by rw [lt1]; omega)]
          rfl
        · exact (decide_eq_false (by omega)).symm
    · rintro H1 ⟨sm, eD⟩
      rw [ls, List.take_length] at eD
      refine ⟨_, _, rfl, SqL.of eD, ?_⟩
      generalize hb1 : ((l.map fun c => decide (97 ≤ c ∧ c ≤ 122))).all id = b1
      have h1 : b1 = true ↔ ∀ c ∈ l, 97 ≤ c ∧ c ≤ 122 := by
        rw [← hb1, List.all_map, List.all_eq_true]
        exact ⟨fun h c hc => of_decide_eq_true (h c hc), fun h c hc => decide_eq_true (h c hc)⟩
      refine ⟨_, rfl, b1, rfl, ?_⟩
      cases b1 with
      | false =>
        refine iteF (q H1 false sm ⟨fun z => (by cases z), fun g => ?_⟩)
        exact absurd (h1.mpr g.sm) (by simp)
      | true =>
        have sml := h1.mp rfl
        refine iteT ⟨_, rfl, _, rfl, hlz, _, _, rfl, rfl, decide (1 ≤ l.length), ?_, ?_⟩
        · show V.bl (decide ((1 : Int) ≤ ((tx l).length : Int))) = _
          rw [tx_len]
          congr 1
          rw [Bool.eq_iff_iff, decide_eq_true_eq, decide_eq_true_eq]
          omega
        by_cases c1 : 1 ≤ l.length
        · rw [decide_eq_true c1]
          refine iteT ⟨_, _, rfl, rfl, decide (l.length ≤ 12), ?_, ?_⟩
          · show V.bl (decide (((tx l).length : Int) ≤ 12)) = _
            rw [tx_len]
            congr 1
            rw [Bool.eq_iff_iff, decide_eq_true_eq, decide_eq_true_eq]
            omega
          by_cases c2 : l.length ≤ 12
          · rw [decide_eq_true c2]
            refine iteT ⟨_, rfl, tx l, rfl, ?_, by rw [tx_list]; omega, fun p z hp nd mem zl => ?_⟩
            · rw [← Array.all_toList, tx_list, List.all_eq_true]
              intro c hc
              have := asc c hc
              simpa using this
            · rw [sgs_tx] at mem
              rw [tx_list] at zl
              refine ⟨p, z, rfl, upd_same, nd, by omega, fun ys r hy hs hr2 => ?_⟩
              refine ⟨_, rfl, _, rfl, hlz, fun a ha => ?_⟩
              rw [sgs_tx]
              have hra : r ≠ a := ne_of_none upd_same ha
              have oks : ∀ x ∈ l.map sg, okS x := fun x hx => by
                obtain ⟨c, hc, rfl⟩ := List.mem_map.mp hx
                exact okS_sg (asc c hc)
              have oky : ∀ x ∈ ys, okS x := fun x hx => oks x ((mem x).mp (hy.mem_iff.mp hx))
              refine ⟨_, _, .lst (SqL.of (by rw [upd_ne hra, upd_same])) (dpAll_strs _), .lst (SqL.of upd_same) (dpAll_strs _), shaped_strs oky, shaped_strs oks, ?_⟩
              show Q (.bl (PyData.eqvAll _ _)) _
              rw [eqvAll_strs]
              refine q _ _ (sm_upd (sm_upd (sm_upd sm hp) hr2) ha) ?_
              rw [decide_eq_true_eq, rise_of hs hy nd mem]
              exact ⟨fun h => ⟨c1, c2, sml, h⟩, fun g => g.rise⟩
          · rw [decide_eq_false c2]
            exact iteF (q H1 false sm ⟨fun z => (by cases z), fun g => absurd g.hi c2⟩)
        · rw [decide_eq_false c1]
          exact iteF ⟨false, rfl, iteF (q H1 false sm ⟨fun z => (by cases z), fun g => absurd g.lo c1⟩)⟩
end
end NC
namespace NC
open PySem PySem.Spec PyProof.Rows L2
/-- a list or a tuple -/
def SqA (K : PySem.W.Frag) (H : Hp) (a : Addr) (xs : List V) : Prop := SqL K H a xs ∨ SqT K H a xs
theorem sm_a {K : PySem.W.Frag} {H H' : Hp} {a : Addr} {xs : List V} (s : Same H H') (h : SqA K H a xs) : SqA K H' a xs := h.imp (sm_l s) (sm_t s)
abbrev sHwalls : Stmt := inClass (topS 25) 1
abbrev sHlen : Stmt := inClass (topS 25) 13
theorem scHwalls : FnScope ["self"] ["self"] (defScope sHwalls) := ⟨rfl, rfl, rfl, by decide +kernel, rfl, by decide +kernel, by decide +kernel⟩
theorem scHlen : FnScope ["self"] ["self"] (defScope sHlen) := ⟨rfl, rfl, rfl, by decide +kernel, rfl, by decide +kernel, by decide +kernel⟩
/-- Hall.walls, Hall.__len__ -/
structure HW (K : PySem.W.Frag) (C fw fn : Addr) (dw dn : FuncData) : Prop where
  mw : Meth K C "walls" fw
  Fw : Fun K "walls" "Hall.walls" sHwalls fw dw
  bw : Binds K dw ["self"] []
  an : PySem.W.findIn K (.ref C) "__len__" = some (some (.ref fn))
  nn : PySem.W.isFn K (.ref fn) = true
  Fn_ : Fun K "__len__" "Hall.__len__" sHlen fn dn
  bn : Binds K dn ["self"] []
/-- a refusal of this class and word, whatever its fields -/
abbrev BadF (CR : Addr) (w : Str) (H : Hp) (E : XK) : Prop := ∀ (fs : List (Str × V)) (H' : Hp) (d : Addr), Same H H' → H d = none → H' d = some (.xd fs) → fs.lookup (Str.ofString "word") = some (V.str w) → E (.ref CR) (some d) H'
theorem BadF.later {CR : Addr} {w : Str} {H H1 : Hp} {E : XK} (b : BadF CR w H E) (s : Same H H1) : BadF CR w H1 E := fun fs H' d sm n e l => b fs H' d (sm_trans s sm) (L2.Same.free s n) e l
section
variable {P : Program} {w : World} {K : PySem.W.Frag} {mg : Str → Option Value} {base : Heap} {tw : Tok} {fOther fSides fByW fIsW fIsB fCW fCB fCS fSt fRe fAF fCF fCA : Addr} {dOther dSides dByW dIsW dIsB dCW dCB dCS dSt dRe dAF dCF dCA : FuncData}
    {CH iH CB iB CF iF CA iA : Addr} {eH eB eF eA : FuncData} {C fi fb : Addr} {di db : FuncData}
def spHinitA (K : PySem.W.Frag) (C CB CF CA : Addr) : Sp := fun vs H Q E => ∃ x dx l a bs, vs = [.ref x, .str (tx l), .ref a] ∧ H x = some (.ins C dx []) ∧ GoodW l ∧ BarsOk bs ∧ bs.length < 64 ∧ SqA K H a ((bs.map tx).map V.str) ∧
  match firstBad l bs with
  | some i => ∀ H' d, Same H H' → H d = none → H' d = some (.xd [("at", .int (i : Nat)), ("word", .str "badbar")]) → E (.ref CB) (some d) H'
  | none => ∀ fo, FoOk l (adjOf bs) (sds l) fo → match vdOf (sds l) (fxP fo) (alP fo) with
    | .fixed s => ∀ H' d, Same H H' → H d = none → H' d = some (.xd [("side", .str (sg s)), ("word", .str "fixed")]) → E (.ref CF) (some d) H'
    | .alike s m => ∀ H' d, Same H H' → H d = none → H' d = some (.xd [("other", .str (sg m)), ("one", .str (sg s)), ("word", .str "alike")]) → E (.ref CA) (some d) H'
    | .ok => ∀ H' sb D ys, SmX x H H' → H sb = none → H D = none → HallAt C H' x dx sb D l ys fo → ys.Perm (bs.map tx) → sortedS ys = true → Q .non H'
set_option maxHeartbeats 1000000 in
theorem ok_HinitA {k : Nat} (Z : HC K mg C fi fb di db) (T : Txt8 K mg tw fOther fSides fByW fIsW fIsB fCW fCB fCS fSt fRe fAF fCF fCA dOther dSides dByW dIsW dIsB dCW dCB dCS dSt dRe dAF dCF dCA CH iH CB iB CF iF CA iA eH eB eF eA) :
    FnOk P w K mg base (L2.CX P w) (k + 5) fi di ["self", "walls", "bars"] (spHinitA K C CB CF CA) := by
  have GW := ok_chkWalls (P := P) (w := w) (base := base) (k := k) T.B T.mW T.cw.F T.W
  have GB : FnOk P w K mg base (L2.CX P w) (k + 4) fCB dCB ["walls", "bars"] (spChkBars K CB) := ok_chkBars T.B T.cb.F T.I T.S T.he T.xb
  have GA : FnOk P w K mg base CX0 (k + 3) fAF dAF ["walls", "bars"] (spAllF K) := ok_allF T.B T.af.F T.st T.re T.Y T.S T.O
  have GF : FnOk P w K mg base (L2.CX P w) (k + 4) fCF dCF ["forced_by"] (spChkFix CF) := ok_chkFix T.B T.cf.F T.O T.he T.xf
  have GL : FnOk P w K mg base (L2.CX P w) (k + 4) fCA dCA ["forced_by"] (spChkAl CA) := ok_chkAl T.B T.ca.F T.he T.xa
  obtain ⟨dvs, ZF⟩ := Z.F
  refine ZF.ok scHinit (fun vs H Q E h => ?_) (fun cdv A outer s H vs Q E hr h => ?_)
  · obtain ⟨x, dx, l, a, bs, rfl, _⟩ := h
    rfl
  · obtain ⟨x, dx, l, a, bs, rfl, hx, g, hbs, hbl, hS, q⟩ := h
    have r2 : Room (k + 2) _ := hr.mono (by omega)
    have r3 : Room (k + 3) _ := hr.mono (by omega)
    refine ⟨_, pss_cons (ps_expr (pe_call GW r2 rfl T.cw.g T.cw.F.kp T.cw.b .nil pass0 (pa_cons (pv 1) pa_nil)))
      (pss_cons (ps_expr (pe_call (E := E) GB hr rfl T.cb.g T.cb.F.kp T.cb.b .nil (passes_call (takes_of rfl rfl rfl rfl) (fun _ _ _ _ h => h)) (pa_cons (pv 1) (pa_cons (pv 2) pa_nil))))
      (pss_cons (ps_set (i := 3) scHinit.nd rfl (.inl rfl) (pe_call GA r3 rfl T.af.g T.af.F.kp T.af.b .nil pass0 (pa_cons (pv 1) (pa_cons (pv 2) pa_nil))))
      (pss_cons (ps_expr (pe_call (E := E) GF hr rfl T.cf.g T.cf.F.kp T.cf.b .nil (passes_call (takes_of rfl rfl rfl rfl) (fun _ _ _ _ h => h)) (pa_cons (pv 3) pa_nil)))
      (pss_cons (ps_expr (pe_call (E := E) GL hr rfl T.ca.g T.ca.F.kp T.ca.b .nil (passes_call (takes_of rfl rfl rfl rfl) (fun _ _ _ _ h => h)) (pa_cons (pv 3) pa_nil)))
      (pss_cons (ps_fld (pv 0) (pv 1) rfl)
      (pss_cons (ps_fld (pv 0) (pe_callB cr_sortedA (by rfl) T.B.sorted (by decide +kernel) (pa_cons (pv 2) pa_nil)) rfl)
      (pss_one (ps_fld (pv 0) (pv 3) rfl)))))))), ?_⟩
    refine ⟨_, rfl, l, rfl, g, fun H1 s1 => ⟨_, rfl, _, rfl, l, a, bs, rfl, g, hbs, by omega, sm_a s1 hS, ?_⟩⟩
    cases fbd : firstBad l bs with
    | some i =>
      rw [fbd] at q
      intro H' d sm nd e
      exact q H' d (sm_trans s1 sm) (L2.Same.free s1 nd) e
    | none =>
      rw [fbd] at q
      have hbar := first_none fbd
      intro H2 s2
      have s12 := sm_trans s1 s2
      refine ⟨_, rfl, _, rfl, l, a, bs, rfl, g, hbar, by omega, sm_a s12 hS, fun H3 D fo s3 nD eD ok => ?_⟩
      have s13 := sm_trans s12 s3
      have q := q fo ok
      unfold vdOf at q
      refine ⟨_, rfl, l, D, adjOf bs, fo, rfl, g, eD, ok, ?_⟩
      cases h1 : (sds l).find? (fxP fo) with
      | some s0 =>
        rw [h1] at q
        exact fun H' d sm nd e => q H' d (sm_trans s13 sm) (L2.Same.free s13 nd) e
      | none =>
      rw [h1] at q
      intro H4 s4
      have s14 := sm_trans s13 s4
      refine ⟨_, rfl, l, D, adjOf bs, fo, rfl, g, s4 _ _ eD, ok, ?_⟩
      cases h2 : (sds l).findSome? fun s => ((sds l).find? (alP fo s)).map fun t => (s, t) with
      | some v =>
        rw [h2] at q
        exact fun H' d sm nd e => q H' d (sm_trans s14 sm) (L2.Same.free s14 nd) e
      | none =>
      rw [h2] at q
      intro H5 s5
      have s15 := sm_trans s14 s5
      have nxa : ∀ o, Same H H5 → SqA K (upd H5 x o) a ((bs.map tx).map V.str) := fun o sm => by
        have hS5 := sm_a sm hS
        have ex := sm _ _ hx
        rcases hS5 with ((z | ⟨ob, z⟩) | z) | ((z | ⟨ob, z⟩) | z)
        · exact .inl (.inl (.inl (by rw [upd_ne (ne_of z ex fun e => by cases e)]; exact z)))
        · exact .inl (.inl (.inr ⟨ob, by rw [upd_ne (ne_of z ex fun e => by cases e)]; exact z⟩))
        · exact .inl (.inr z)
        · exact .inr (.inl (.inl (by rw [upd_ne (ne_of z ex fun e => by cases e)]; exact z)))
        · exact .inr (.inl (.inr ⟨ob, by rw [upd_ne (ne_of z ex fun e => by cases e)]; exact z⟩))
        · exact .inr (.inr z)
      refine ⟨_, rfl, _, rfl, x, C, dx, _, rfl, s15 _ _ hx, Z.cl, Z.n1, by decide, ?_⟩
      refine ⟨_, rfl, a, bs.map tx, rfl, nxa _ s15, by rw [List.length_map]; exact hbl, fun ys p hp hs np => ?_⟩
      have npx : x ≠ p := ne_of_none upd_same np
      refine ⟨_, rfl, x, C, dx, _, rfl, by rw [upd_ne npx, upd_same], Z.cl, Z.n2, by show 1 < 1000; decide, ?_⟩
      refine ⟨_, rfl, _, rfl, x, C, dx, _, rfl, upd_same, Z.cl, Z.n3, by show 2 < 1000; decide, ?_⟩
      have np5 : H5 p = none := by
        rw [upd_ne (Ne.symm npx)] at np
        exact np
      have eD5 : H5 D = some (.dK (foK (sds l) fo)) := s5 _ _ (s4 _ _ eD)
      have nDx : D ≠ x := ne_of eD5 (s15 _ _ hx) fun z => by cases z
      have nDp : D ≠ p := ne_of_none eD5 np5
      refine q _ p D ys (fun b o hb e => ?_) (L2.Same.free s15 np5) (L2.Same.free s12 nD) ⟨upd_same, ?_, by rw [upd_ne nDx, upd_ne nDx, upd_ne nDp, upd_ne nDx]; exact eD5⟩ hp hs
      · have e5 := s15 _ _ e
        rw [upd_ne hb, upd_ne hb, upd_ne (ne_of_none e5 np5), upd_ne hb]
        exact e5
      · rw [upd_ne (Ne.symm npx), upd_ne (Ne.symm npx), upd_same]
/-! ### Hall.__init__, of walls that are none -/
def spHinitX (CW : Addr) : Sp := fun vs H _ E => ∃ x l v, vs = [.ref x, .str (tx l), v] ∧ (∀ c ∈ l, c < 128) ∧ l.length ≤ 60 ∧ ¬ GoodW l ∧ BadF CW "badwalls" H E
theorem ok_chkWallsX {f fW CW iW : Addr} {fd fdW eW : FuncData} {k : Nat} {tw : Tok} (B : BM mg) (mW : mg "WIDEST" = some (.int 12 tw)) (F : Fun K "check_walls" "check_walls" sChkWalls f fd) (W : DF K mg "is_walls" sIsWalls ["walls"] fW fdW) (He : HE K mg CH iH eH) (X : XC0 K mg "BadWalls" "BadWalls.__init__" sBWinit CW iW eW) :
    FnOk P w K mg base (L2.CX P w) (k + 4) f fd ["walls"] (fun vs H _ E => ∃ l, vs = [.str (tx l)] ∧ (∀ c ∈ l, c < 128) ∧ l.length ≤ 60 ∧ ¬ GoodW l ∧ BadF CW "badwalls" H E) := by
  have GW : FnOk P w K mg base CX0 (k + 1) fW fdW ["walls"] spWallsX := ok_wallsX B mW W.F
  have GB : FnOk P w K mg base CX0 (k + 2) iW eW ["self"] (sp0 K "badwalls") := ok_BW He X.F
  refine F.okX scChkWalls (fun vs H Q E h => ?_) (fun cdv A outer st H vs Q E hr h => ?_)
  · obtain ⟨l, rfl, _⟩ := h
    rfl
  · obtain ⟨l, rfl, asc, len, ng, qe⟩ := h
    refine ⟨_, pss_one (ps_if (pt_not (pt_val (pe_call GW (hr.mono (by omega)) rfl W.g W.F.kp W.b .nil pass0 (pa_cons (pv 0) pa_nil)))) (pss_one (ps_raise rfl (takes_of rfl rfl rfl rfl) (pmk_oex0 X.O X.iC X.tI GB hr X.b (by rfl) X.gC))) pss_nil), ?_⟩
    refine ⟨_, rfl, l, rfl, asc, len, fun H1 b s1 hb => ?_⟩
    have e : b = false := by
      cases b with
      | false => rfl
      | true => exact absurd (hb.mp rfl) ng
    subst e
    exact ⟨_, rfl, iteT ⟨Nat.zero_le _, mk0 X.O X.hw fun d H4 s4 n4 e4 => qe _ H4 d (sm_trans s1 s4) (L2.Same.free s1 n4) e4 rfl⟩⟩
theorem ok_HinitX {CW iW : Addr} {eW : FuncData} {k : Nat} (Z : HC K mg C fi fb di db) (T : Txt8 K mg tw fOther fSides fByW fIsW fIsB fCW fCB fCS fSt fRe fAF fCF fCA dOther dSides dByW dIsW dIsB dCW dCB dCS dSt dRe dAF dCF dCA CH iH CB iB CF iF CA iA eH eB eF eA) (X : XC0 K mg "BadWalls" "BadWalls.__init__" sBWinit CW iW eW) :
    FnOk P w K mg base (L2.CX P w) (k + 5) fi di ["self", "walls", "bars"] (spHinitX CW) := by
  have GW := ok_chkWallsX (P := P) (w := w) (base := base) (k := k) T.B T.mW T.cw.F T.W T.he X
  obtain ⟨dvs, ZF⟩ := Z.F
  refine ZF.ok scHinit (fun vs H Q E h => ?_) (fun cdv A outer s H vs Q E hr h => ?_)
  · obtain ⟨x, l, v, rfl, _⟩ := h
    rfl
  · obtain ⟨x, l, v, rfl, h⟩ := h
    refine ⟨_, pss_cons (ps_expr (pe_call (E := E) GW hr rfl T.cw.g T.cw.F.kp T.cw.b .nil (passes_call (takes_of rfl rfl rfl rfl) (fun _ _ _ _ h => h)) (pa_cons (pv 1) pa_nil)))
      (pss_cons ps_dead (pss_cons ps_dead (pss_cons ps_dead (pss_cons ps_dead (pss_cons ps_dead (pss_cons ps_dead (pss_one ps_dead))))))), ?_⟩
    exact ⟨_, rfl, l, rfl, h⟩
/-! ### walls(), len() -/
def spHwalls (C : Addr) : Sp := fun vs H Q _ => ∃ x dx sb D l ys fo, vs = [.ref x] ∧ HallAt C H x dx sb D l ys fo ∧ Q (.str (tx l)) H
theorem ok_Hwalls {fw fn : Addr} {dw dn : FuncData} {k : Nat} (Z : HC K mg C fi fb di db) (Y : HW K C fw fn dw dn) : FnOk P w K mg base CX0 (k + 1) fw dw ["self"] (spHwalls C) := by
  refine Y.Fw.ok scHwalls (fun vs H Q E h => ?_) (fun cdv A outer st H vs Q E hr h => ?_)
  · obtain ⟨x, dx, sb, D, l, ys, fo, rfl, _⟩ := h
    rfl
  · obtain ⟨x, dx, sb, D, l, ys, fo, rfl, hA, q⟩ := h
    refine ⟨_, pss_one (ps_ret (pe_fld (pv 0) rfl)), ?_⟩
    exact ⟨_, rfl, x, C, dx, _, .str (tx l), rfl, hA.x, Z.cl, Z.n1, rfl, q⟩
def spHlen (C : Addr) : Sp := fun vs H Q _ => ∃ x dx sb D l ys fo, vs = [.ref x] ∧ HallAt C H x dx sb D l ys fo ∧ l.length ≤ 100 ∧ Q (.int (l.length : Int)) H
theorem ok_Hlen {fw fn : Addr} {dw dn : FuncData} {k : Nat} (B : BM mg) (Z : HC K mg C fi fb di db) (Y : HW K C fw fn dw dn) : FnOk P w K mg base CX0 (k + 1) fn dn ["self"] (spHlen C) := by
  refine Y.Fn_.ok scHlen (fun vs H Q E h => ?_) (fun cdv A outer st H vs Q E hr h => ?_)
  · obtain ⟨x, dx, sb, D, l, ys, fo, rfl, _⟩ := h
    rfl
  · obtain ⟨x, dx, sb, D, l, ys, fo, rfl, hA, hl, q⟩ := h
    refine ⟨_, pss_one (ps_ret (pe_callB call_len_str (by rfl) B.len PySem.boot_len (pa_cons (pe_fld (pv 0) rfl) pa_nil))), ?_⟩
    refine ⟨_, rfl, x, C, dx, _, .str (tx l), rfl, hA.x, Z.cl, Z.n1, rfl, _, rfl, by rw [tx_len, sizeLine_eq]; omega, ?_⟩
    rw [tx_len]
    exact q
end
end NC
namespace NC
open PySem PySem.Spec PyProof.Rows L2
/-- a kept lambda that is refused as it should be, whatever the refusal's fields -/
theorem ref_yesF {X : Cx} {K : PySem.W.Frag} {CH CM CN CS : Addr} {k : Nat} {G : Hp} {f : Addr} {tb : XK → TE} {σ : L2.St} {Q : VK} {w : Str} (lo : LamOk X k G f tb) (okw : okS w) (ms : PySem.W.exmAny K (.ref CS) (fam CH CM CN) = some true) (xf : XfC K CS) (hw : PySem.W.findIn K (.ref CS) "word" = some none)
    (act : ∀ (E : XK) (R : VK), BadF CS w G E → tb E σ G R) (q : ∀ G', Same G G' → Q (.bl true) G') :
    ∃ f' tb', LamOk X k G f' tb' ∧ spRef K CH CM CN f' (fun E G R => tb' E σ G R) [.ref f, .str w] G Q := by
  refine ⟨f, tb, lo, w, fun cls dd G' => ∃ x fs, cls = .ref CS ∧ dd = some x ∧ Same G G' ∧ G' x = some (.xd fs) ∧ fs.lookup (Str.ofString "word") = some (V.str w), rfl, okw, ?_, fun E R hE => act E R fun fs G' x s _ e l => hE _ _ _ ⟨x, fs, rfl, rfl, s, e, l⟩⟩
  rintro cls dd G1 ⟨x, fs, rfl, rfl, sG, eG, el⟩
  refine ⟨ms, CS, x, _, _, rfl, xf, hw, rfl, eG, el, w, rfl, okw, fun G2 s2 => ?_⟩
  rw [decide_eq_true rfl]
  exact q G2 (sm_trans sG s2)
theorem all_rep (n : Nat) : ((List.replicate n true)).all id = true := by
  rw [List.all_eq_true]
  exact fun x hx => (List.mem_replicate.mp hx).2
/-- the kept lambdas fs of the list at LA, which do ts -/
structure Kp (X : Cx) (k : Nat) (Sx : Hp → Prop) (LA : Addr) (ts : List (XK → TE)) (fs : List Addr) (G : Hp) : Prop where
  S : Sx G
  e : G LA = some (.lst (fs.map V.ref))
  len : fs.length = ts.length
  lo : ∀ (i : Nat) (f : Addr) (t : XK → TE), fs[i]? = some f → ts[i]? = some t → LamOk X k G f t
theorem Kp.one {X : Cx} {k : Nat} {Sx : Hp → Prop} {LA f : Addr} {t : XK → TE} {G : Hp} (lo : LamOk X k G f t) (n : G LA = none) (s : Sx (upd G LA (.lst [V.ref f]))) : Kp X k Sx LA [t] [f] (upd G LA (.lst [V.ref f])) :=
  ⟨s, upd_same, rfl, fun i f' t' h1 h2 => by
    match i, h1, h2 with
    | 0, h1, h2 => cases h1; cases h2; exact lo.same (same_upd n)⟩
theorem Kp.snoc {X : Cx} {k : Nat} {Sx : Hp → Prop} {LA f : Addr} {ts : List (XK → TE)} {fs : List Addr} {t : XK → TE} {G G1 : Hp} (h : Kp X k Sx LA ts fs G) (ex : LamX.ExtN G G1) (lo : LamOk X k G1 f t) (s : Sx (upd G1 LA (.lst (fs.map V.ref ++ [V.ref f])))) :
    Kp X k Sx LA (ts ++ [t]) (fs ++ [f]) (upd G1 LA (.lst (fs.map V.ref ++ [V.ref f]))) := by
  have e1 : G1 LA = some (.lst (fs.map V.ref)) := ex _ _ h.e (fun _ z => by cases z)
  refine ⟨s, by rw [upd_same, List.map_append]; rfl, by rw [List.length_append, List.length_append, h.len]; rfl, fun i f' t' h1 h2 => ?_⟩
  rcases Nat.lt_or_ge i fs.length with z | z
  · rw [List.getElem?_append_left z] at h1
    rw [List.getElem?_append_left (by rw [← h.len]; exact z)] at h2
    exact ((h.lo i f' t' h1 h2).ext ex).upd e1
  · rw [List.getElem?_append_right z] at h1
    rw [List.getElem?_append_right (by rw [← h.len]; exact z), ← h.len] at h2
    match i - fs.length, h1, h2 with
    | 0, h1, h2 => cases h1; cases h2; exact lo.upd e1
end NC
/-! text[::-1], of which it is told that it has no other signs: pe_revS -/
namespace NC
open PySem PySem.Spec PyProof.Rows L2
theorem isPart_raw1 {v : Value} {o : Option Int} (h : IsPart v o) : ∃ l : Option (Int × Tok), v = partValue l ∧ l.map (·.1) = o := by
  obtain ⟨l, a, b⟩ := IsPart.raw h
  exact ⟨l, a, b⟩
def tRevS (te : TE) : TE := fun σ H Q => te σ H fun x H1 => ∃ z : List Nat, x = .str (tx z) ∧ z.length ≤ sizeLine ∧ ∀ u : List Nat, (∀ c ∈ u, c ∈ z) → u.length ≤ z.length → Q (.str (tx u)) H1
theorem pe_revS {X : Cx} {e : Expr} {te : TE} {k : Nat} {p1 p2 p3 pos : Pos} (he : PE X e te) : PE X (.Subscript e (.Slice none none (some (.UnaryOp .USub (.Constant (.int 1) k p1) p2)) p3) pos) (tRevS te) := by
  refine ⟨fun pins s σ H Q I h => ?_⟩
  refine Subscript_ (thn (he.run pins s σ H _ I h) fun v s1 ⟨x, H1, I1, r1, q1⟩ => ?_)
  obtain ⟨z, ex, hz, q⟩ := q1
  subst ex
  obtain ⟨t, rfl⟩ := r1
  have hst : PO X (some (.UnaryOp .USub (.Constant (.int 1) k p1) p2)) (tPart (tUn (rU fun i => .int (-i)) (tC (.int 1)))) := po_some (pe_un un_neg pe_int)
  refine wpAny_Slice (thn (po_none.run pins s1 σ H1 (fun o H2 => o = none ∧ H2 = H1) I1 ⟨rfl, rfl⟩) fun vl s2 ⟨l, H2, I2, pl, el, e2⟩ => ?_)
  subst el e2
  refine thn (po_none.run pins s2 σ H2 (fun o H3 => o = none ∧ H3 = H2) I2 ⟨rfl, rfl⟩) fun vu s3 ⟨u, H3, I3, pu, eu, e3⟩ => ?_
  subst eu e3
  refine thn (hst.run pins s3 σ H3 (fun o H4 => o = some (-1) ∧ H4 = H3) I3 ⟨1, rfl, -1, rfl, rfl, rfl⟩) fun vs s4 ⟨o, H4, I4, ps, eo, e4⟩ => ?_
  subst eo e4
  have I5 : Inv X pins σ H4 { s4 with heap := s4.heap.push { cls := .type "slice", data := .fields #[vl, vu, vs] } } := I4.kept (t' := s4.toks) fun b ob q => Heap.get?_push_of_some _ q
  obtain ⟨rl, el, e1⟩ := isPart_raw1 pl
  obtain ⟨ru, eu, e2⟩ := isPart_raw1 pu
  obtain ⟨rs, es, e3⟩ := isPart_raw1 ps
  show wpAny (model X.prog X.w) X.A (subscriptTail e (.Slice none none (some (.UnaryOp .USub (.Constant (.int 1) k p1) p2)) p3) (.str (tx z) t) (.ref s4.heap.objs.size)) (EP X pins σ Q) X.xe { s4 with heap := s4.heap.push { cls := .type "slice", data := .fields #[vl, vu, vs] } }
  refine tail_any (ops := [.ref s4.heap.objs.size, .str (tx z) t]) (typeIs_str _ _ _) (F.slot_str_getitem.lookup) ?_ (by with_unfolding_all rfl)
  refine wpAny_getItem_str_slice (l := rl) (u := ru) (st := rs) ⟨_, Heap.get?_push_size _ rfl, rfl, by rw [el, eu, es]⟩ (by rw [e3]; decide) ?_
  unfold sliceMade
  rw [e3]
  show Made.post (if ((-1 : Int) == 1 && _) = true then _ else _) _ _
  rw [if_neg (by simp)]
  have hsl : (slicePicked (tx z) rl ru rs).length ≤ z.length := by
    unfold slicePicked
    rw [e3]
    have := sliceIndicesBy_le (rl.map (·.1)) (ru.map (·.1)) (-1) (by decide) (tx z).length
    exact this
  generalize slicePicked (tx z) rl ru rs = is at hsl ⊢
  have hm : ∀ c ∈ is.filterMap ((tx z).cps[·]?), c ∈ z := fun c hc => by
    obtain ⟨i, _, e⟩ := List.mem_filterMap.mp hc
    have e : z.toArray[i]? = some c := e
    rw [List.getElem?_toArray] at e
    exact List.mem_of_getElem? e
  have hl : (is.filterMap ((tx z).cps[·]?)).length ≤ z.length := Nat.le_trans (List.length_filterMap_le _ _) hsl
  have hq := q _ hm hl
  exact ⟨by show (List.toArray _).size ≤ _; rw [List.size_toArray]; exact Nat.le_trans hl hz, .str _, H4, I5.tok _, ⟨_, rfl⟩, hq⟩
end NC
namespace NC
open PySem PySem.Spec PyProof.Rows L2
abbrev sText : Stmt := topS 35
abbrev sGood : Stmt := topS 36
abbrev nText : List Str := ["_law_d", "_law_text_here", "_law_how", "_law_at"]
theorem scText : FnScope nText ["_law_d"] (defScope sText) := ⟨rfl, rfl, rfl, by decide +kernel, rfl, by decide +kernel, by decide +kernel⟩
theorem scGood : FnScope ["_law_text_here", "_law_k"] ["_law_text_here"] (defScope sGood) := ⟨rfl, rfl, rfl, by decide +kernel, rfl, by decide +kernel, by decide +kernel⟩
theorem cutS_to (l : List Nat) (j : Nat) : cutS (tx l) none (some ((j : Nat) : Int)) = tx (l.take j) := by
  unfold cutS
  rw [HT.sIx_none, HT.sIx_nat, tx_list, tx_len]
  show Str.mk _ = Str.mk _
  congr 1
  rw [List.drop_zero, Nat.sub_zero]
  rcases Nat.le_total j l.length with h | h
  · rw [Nat.min_eq_left h]
  · rw [Nat.min_eq_right h, List.take_of_length_le (Nat.le_refl _), List.take_of_length_le h]
theorem cutS_in (z : List Nat) (a b : Option Int) : ∃ u : List Nat, cutS (tx z) a b = tx u ∧ (∀ c ∈ u, c ∈ z) ∧ u.length ≤ z.length := by
  unfold cutS
  rw [tx_list]
  refine ⟨_, rfl, fun c hc => List.mem_of_mem_drop (List.mem_of_mem_take hc), ?_⟩
  rw [List.length_take, List.length_drop]
  omega
theorem Dr.ne {H : Hp} {d p : Addr} (D : Dr H d) (n : H p = none) : p ≠ d := by
  obtain ⟨c, ns, i, a, b, e, hd, _⟩ := D
  exact Ne.symm (ne_of_none hd n)
theorem str8 : [V.str (Str.ofString "A"), .str (Str.ofString "Z"), .str (Str.ofString "0"), .str (Str.ofString " "), .str (Str.ofString "~"), .str (Str.ofString "{"), .str (Str.ofString "@"), .str (Str.ofString "aa")] = ([[65], [90], [48], [32], [126], [123], [64], [97, 97]].map tx).map V.str := by decide +kernel
section
variable {P : Program} {w : World} {K : PySem.W.Frag} {mg : Str → Option Value} {base : Heap}
/-- a text of up to forty plain signs -/
def spText : Sp := fun vs H Q _ => ∃ d, vs = [.ref d] ∧ Dr H d ∧ ∀ H' u, SmD d H H' → Dr H' d → (∀ c ∈ u, c < 128) → u.length ≤ 60 → Q (.str (tx u)) H'
set_option maxHeartbeats 2000000 in
theorem ok_text {f fDraw fOf fLet fShuts : Addr} {fd dDraw dOf dLet dShuts : FuncData} {k : Nat} (B : BM mg) (F : Fun K "_law_text" "_law_text" sText f fd) (Ld : DF K mg "_law_draw" sDraw ["_law_d", "_law_many"] fDraw dDraw) (Lo : DF K mg "_law_of" sOf ["_law_d", "_law_some"] fOf dOf) (Ll : DF K mg "_law_letters" sLetters [] fLet dLet) (Ls : DF K mg "_law_shuts" sShuts ["_law_d", "_law_most"] fShuts dShuts) :
    FnOk P w K mg base CX0 (k + 3) f fd ["_law_d"] spText := by
  have GD : FnOk P w K mg base CX0 (k + 1) fDraw dDraw ["_law_d", "_law_many"] spDraw := ok_draw B Ld.F
  have GO : FnOk P w K mg base CX0 (k + 2) fOf dOf ["_law_d", "_law_some"] (spOf K) := ok_of B Lo.F Ld
  have GS : FnOk P w K mg base CX0 (k + 2) fShuts dShuts ["_law_d", "_law_most"] spShuts := ok_shuts B Ls.F Ld Ll
  refine F.ok scText (fun vs H Q E h => ?_) (fun cdv A outer st H vs Q E hr h => ?_)
  · obtain ⟨d, rfl, _⟩ := h
    rfl
  · obtain ⟨d, rfl, hD, q⟩ := h
    have r1 : Room (k + 1) _ := hr.mono (by omega)
    have r2 : Room (k + 2) _ := hr.mono (by omega)
    have nd := scText.nd
    refine ⟨_, pss_cons (ps_set (i := 1) nd rfl (.inl rfl) (pe_call GS r2 rfl Ls.g Ls.F.kp Ls.b .nil pass0 (pa_cons (pv 0) (pa_cons (pe_op op_add pe_int (pe_call GD r1 rfl Ld.g Ld.F.kp Ld.b .nil pass0 (pa_cons (pv 0) (pa_cons pe_int pa_nil)))) pa_nil))))
      (pss_cons (ps_set (i := 2) nd rfl (.inl rfl) (pe_call GD r1 rfl Ld.g Ld.F.kp Ld.b .nil pass0 (pa_cons (pv 0) (pa_cons pe_int pa_nil))))
      (pss_cons (ps_set (i := 3) nd rfl (.inl rfl) (pe_call GD r1 rfl Ld.g Ld.F.kp Ld.b .nil pass0 (pa_cons (pv 0) (pa_cons (pe_callB call_len_str (by rfl) B.len PySem.boot_len (pa_cons (pv 1) pa_nil)) pa_nil))))
      (pss_cons (ps_if (pt_cmpR op_eq (pv 2) pe_int (nomark _)) (pss_one (ps_ret (pe_op op_add_str (pe_op op_add_str (pe_slice sl_str (pv 1) po_none (po_some (pv 3))) (pe_slice sl_str (pv 1) (po_some (pv 3)) (po_some (pe_op op_add (pv 3) pe_int)))) (pe_slice sl_str (pv 1) (po_some (pv 3)) po_none)))) pss_nil)
      (pss_cons (ps_if (pt_cmpR op_eq (pv 2) pe_int (nomark _)) (pss_one (ps_ret (pe_revS (pv 1)))) pss_nil)
      (pss_cons (ps_if (pt_cmpR op_eq (pv 2) pe_int (nomark _)) (pss_one (ps_ret (pe_op op_add_str (pe_op op_add_str (pe_slice sl_str (pv 1) po_none (po_some (pv 3))) (pe_call GO r2 rfl Lo.g Lo.F.kp Lo.b .nil pass0 (pa_cons (pv 0) (pa_cons (pe_lst (pa_cons pe_str (pa_cons pe_str (pa_cons pe_str (pa_cons pe_str (pa_cons pe_str (pa_cons pe_str (pa_cons pe_str (pa_cons pe_str pa_nil))))))))) pa_nil)))) (pe_slice sl_str (pv 1) (po_some (pe_op op_add (pv 3) pe_int)) po_none)))) pss_nil)
      (pss_cons (ps_if (pt_cmpR op_eq (pv 2) pe_int (nomark _)) (pss_one (ps_ret (pe_op op_add_str (pe_slice sl_str (pv 1) (po_some (pv 3)) po_none) (pe_slice sl_str (pv 1) po_none (po_some (pv 3)))))) pss_nil)
      (pss_one (ps_ret (pe_call GO r2 rfl Lo.g Lo.F.kp Lo.b .nil pass0 (pa_cons (pv 0) (pa_cons (pe_lst (pa_cons (pv 1) (pa_cons (pv 1) (pa_cons (pv 1) (pa_cons (pe_slice sl_str (pv 1) po_none (po_some (pv 3))) pa_nil))))) pa_nil))))))))))), ?_⟩
    have app : ∀ {a b : List Nat}, (∀ c ∈ a, c < 128) → (∀ c ∈ b, c < 128) → ∀ c ∈ a ++ b, c < 128 := fun {a b} h1 h2 c hc => (List.mem_append.mp hc).elim (h1 c) (h2 c)
    have bnd : ∀ a b : List Nat, a.length ≤ 60 → b.length ≤ 60 → (tx a).length + (tx b).length ≤ sizeLine := fun a b h1 h2 => by rw [tx_len, tx_len, sizeLine_eq]; omega
    refine ⟨_, rfl, _, rfl, d, 15, rfl, hD, by decide, by decide, fun H1 v1 s1 D1 a0 a1 => ?_⟩
    refine ⟨_, _, rfl, rfl, d, _, rfl, D1, by omega, by omega, fun H2 l s2 D2 R hl => ?_⟩
    have pl : l.length ≤ 15 := by omega
    have pa : ∀ c ∈ l, c < 128 := fun c hc => by have := R.sm c hc; omega
    have hz : (tx l).length ≤ sizeLine := by rw [tx_len, sizeLine_eq]; omega
    have lo := R.lo
    refine ⟨_, rfl, d, 8, rfl, D2, by decide, by decide, fun H3 how s3 D3 _ _ => ?_⟩
    refine ⟨_, rfl, _, rfl, _, rfl, hz, d, _, rfl, D3, by rw [tx_len]; omega, by rw [tx_len]; omega, fun H4 at' s4 D4 b0 b1 => ?_⟩
    have s04 := ((s1.trans s2).trans s3).trans s4
    refine ⟨_, rfl, rfl, _, rfl, ite2 (fun _ => ?_) (fun _ => ?_)⟩
    · refine ⟨_, rfl, _, rfl, _, rfl, _, rfl, hz, ?_⟩
      obtain ⟨u1, e1, m1, l1⟩ := cutS_in l none (some at')
      rw [e1]
      refine ⟨_, rfl, _, rfl, _, rfl, _, rfl, _, _, rfl, rfl, _, rfl, _, rfl, hz, ?_⟩
      obtain ⟨u2, e2, m2, l2⟩ := cutS_in l (some at') (some (at' + 1))
      rw [e2]
      refine ⟨_, _, rfl, rfl, bnd _ _ (by omega) (by omega), ?_⟩
      rw [tx_app]
      refine ⟨_, rfl, _, rfl, _, rfl, _, rfl, hz, ?_⟩
      obtain ⟨u3, e3, m3, l3⟩ := cutS_in l (some at') none
      rw [e3]
      refine ⟨_, _, rfl, rfl, bnd _ _ (by rw [List.length_append]; omega) (by omega), ?_⟩
      rw [tx_app]
      exact q H4 _ s04 D4 (app (app (fun c hc => pa c (m1 c hc)) (fun c hc => pa c (m2 c hc))) (fun c hc => pa c (m3 c hc))) (by rw [List.length_append, List.length_append]; omega)
    refine ⟨_, rfl, rfl, _, rfl, ite2 (fun _ => ?_) (fun _ => ?_)⟩
    · exact ⟨_, rfl, l, rfl, by rw [sizeLine_eq]; omega, fun u hu ul => q H4 u s04 D4 (fun c hc => pa c (hu c hc)) (by omega)⟩
    refine ⟨_, rfl, rfl, _, rfl, ite2 (fun _ => ?_) (fun _ => ?_)⟩
    · refine ⟨_, rfl, _, rfl, _, rfl, _, rfl, hz, ?_⟩
      obtain ⟨u1, e1, m1, l1⟩ := cutS_in l none (some at')
      rw [e1]
      refine ⟨_, rfl, by show 8 ≤ sizeLine; decide, fun p np => ?_⟩
      rw [str8]
      refine ⟨d, _, rfl, D4.same (same_upd np), .inl ⟨p, _, rfl, D4.ne np, SqL.of upd_same, by show 1 ≤ 8; decide, by show 8 ≤ 1000; decide, fun H5 v i s5 D5 hv => ?_⟩⟩
      rw [List.getElem?_map, List.getElem?_map] at hv
      obtain ⟨z, hz1, rfl⟩ := Option.map_eq_some_iff.mp hv
      obtain ⟨x, hx, rfl⟩ := Option.map_eq_some_iff.mp hz1
      have hx := List.mem_of_getElem? hx
      have xa : ∀ c ∈ x, c < 128 := (by decide : ∀ x ∈ [[65], [90], [48], [32], [126], [123], [64], [97, 97]], ∀ c ∈ x, c < 128) x hx
      have xl : x.length ≤ 2 := (by decide : ∀ x ∈ [[65], [90], [48], [32], [126], [123], [64], [97, 97]], x.length ≤ 2) x hx
      refine ⟨_, _, rfl, rfl, bnd _ _ (by omega) (by omega), ?_⟩
      rw [tx_app]
      refine ⟨_, rfl, _, rfl, _, _, rfl, rfl, _, rfl, _, rfl, hz, ?_⟩
      obtain ⟨u3, e3, m3, l3⟩ := cutS_in l (some (at' + 1)) none
      rw [e3]
      refine ⟨_, _, rfl, rfl, bnd _ _ (by rw [List.length_append]; omega) (by omega), ?_⟩
      rw [tx_app]
      exact q H5 _ ((s04.trans (SmD.of (same_upd np))).trans s5) D5 (app (app (fun c hc => pa c (m1 c hc)) xa) (fun c hc => pa c (m3 c hc))) (by rw [List.length_append, List.length_append]; omega)
    refine ⟨_, rfl, rfl, _, rfl, ite2 (fun _ => ?_) (fun _ => ?_)⟩
    · refine ⟨_, rfl, _, rfl, _, rfl, _, rfl, hz, ?_⟩
      obtain ⟨u1, e1, m1, l1⟩ := cutS_in l (some at') none
      rw [e1]
      refine ⟨_, rfl, _, rfl, _, rfl, _, rfl, hz, ?_⟩
      obtain ⟨u3, e3, m3, l3⟩ := cutS_in l none (some at')
      rw [e3]
      refine ⟨_, _, rfl, rfl, bnd _ _ (by omega) (by omega), ?_⟩
      rw [tx_app]
      exact q H4 _ s04 D4 (app (fun c hc => pa c (m1 c hc)) (fun c hc => pa c (m3 c hc))) (by rw [List.length_append]; omega)
    refine ⟨_, rfl, _, rfl, _, rfl, _, rfl, _, rfl, _, rfl, _, rfl, _, rfl, hz, ?_⟩
    obtain ⟨u1, e1, m1, l1⟩ := cutS_in l none (some at')
    rw [e1]
    refine ⟨by show 4 ≤ sizeLine; decide, fun p np => ?_⟩
    refine ⟨d, _, rfl, D4.same (same_upd np), .inl ⟨p, _, rfl, D4.ne np, SqL.of upd_same, by show 1 ≤ 4; decide, by show 4 ≤ 1000; decide, fun H5 v i s5 D5 hv => ?_⟩⟩
    have s05 := (s04.trans (SmD.of (same_upd np))).trans s5
    match i, hv with
    | 0, hv => cases hv; exact q H5 l s05 D5 pa (by omega)
    | 1, hv => cases hv; exact q H5 l s05 D5 pa (by omega)
    | 2, hv => cases hv; exact q H5 l s05 D5 pa (by omega)
    | 3, hv => cases hv; exact q H5 u1 s05 D5 (fun c hc => pa c (m1 c hc)) (by omega)
/-! ### _law_good -/
theorem goodW_iff {l : List Nat} (h1 : 1 ≤ l.length) (h2 : l.length ≤ 12) : GoodW l ↔ ∀ (k c : Nat), l[k]? = some c → (97 ≤ c ∧ c ≤ 122) ∧ ∀ b, 0 < k → l[k - 1]? = some b → b < c := by
  constructor
  · intro g k c hc
    refine ⟨g.sm c (List.mem_of_getElem? hc), fun b h0 hb => ?_⟩
    have i1 := (List.getElem?_eq_some_iff.mp hc)
    have i2 := (List.getElem?_eq_some_iff.mp hb)
    have := List.pairwise_iff_getElem.mp g.rise (k - 1) k i2.1 i1.1 (by omega)
    rw [i1.2, i2.2] at this
    exact this
  · intro h
    refine ⟨h1, h2, fun c hc => ?_, ?_⟩
    · obtain ⟨k, hk⟩ := List.getElem?_of_mem hc
      exact (h k c hk).1
    · have step : ∀ (j i : Nat) (hj : i + j + 1 < l.length) (hi : i < l.length), l[i] < l[i + j + 1] := fun j => by
        induction j with
        | zero => intro i hj hi; exact (h (i + 0 + 1) _ (List.getElem?_eq_getElem hj)).2 _ (by omega) (by show l[i + 0 + 1 - 1]? = _; exact List.getElem?_eq_getElem hi)
        | succ j ih =>
          intro i hj hi
          have a := ih i (by omega) hi
          have b := (h (i + (j + 1) + 1) _ (List.getElem?_eq_getElem hj)).2 (l[i + j + 1]'(by omega)) (by omega) (by show l[i + (j + 1) + 1 - 1]? = _; exact List.getElem?_eq_getElem (by omega))
          omega
      refine List.pairwise_iff_getElem.mpr fun i j hi hj lt => ?_
      have := step (j - i - 1) i (by omega) hi
      have e : i + (j - i - 1) + 1 = j := by omega
      simpa [e] using this
def spGood : Sp := fun vs H Q _ => ∃ l, vs = [.str (tx l)] ∧ (∀ c ∈ l, c < 128) ∧ l.length ≤ 60 ∧ ∀ H' b, Same H H' → (b = true ↔ GoodW l) → Q (.bl b) H'
set_option maxHeartbeats 2000000 in
theorem ok_good {f fLet : Addr} {fd dLet : FuncData} {k : Nat} (B : BM mg) (F : Fun K "_law_good" "_law_good" sGood f fd) (Ll : DF K mg "_law_letters" sLetters [] fLet dLet) : FnOk P w K mg base CX0 (k + 2) f fd ["_law_text_here"] spGood := by
  have GL := ok_letters (P := P) (w := w) (mg := mg) (base := base) (k := k) Ll.F
  refine F.ok scGood (fun vs H Q E h => ?_) (fun cdv A outer st H vs Q E hr h => ?_)
  · obtain ⟨l, rfl, _⟩ := h
    rfl
  · obtain ⟨l, rfl, asc, len, q⟩ := h
    have nd := scGood.nd
    have hz : (tx l).length ≤ sizeLine := by rw [tx_len, sizeLine_eq]; omega
    refine ⟨_, pss_cons (ps_if (pt_not (pt_chain op_le op_le pe_int (pe_callB call_len_str (by rfl) B.len PySem.boot_len (pa_cons (pv 0) pa_nil)) pe_int)) (pss_one (ps_ret pe_bl)) pss_nil)
      (pss_cons (ps_for PassesOwn.never rfl (pi_range1 (by rfl) B.range (pa_cons (pe_callB call_len_str (by rfl) B.len PySem.boot_len (pa_cons (pv 0) pa_nil)) pa_nil)) (pg_name (i := 1) nd rfl (.inl rfl))
        (pss_one (ps_if (PW.pt (pw_or (pt_cmpR op_notIn_sign (pe_ix ix_str (pv 0) (pv 1) (fun _ _ => rfl)) (pe_call0 GL hr rfl Ll.g Ll.F.kp Ll.b .nil pass0) (by rfl)) (pw_or1 (PW.pt (pw_and (pt_cmpR op_gt (pv 1) pe_int (nomark _)) (pw_and1 (pt_cmpR op_ge_str (pe_ix ix_str (pv 0) (pe_op op_sub (pv 1) pe_int) (fun _ _ => rfl)) (pe_ix ix_str (pv 0) (pv 1) (fun _ _ => rfl)) (nomark _)))))))) (pss_one (ps_ret pe_bl)) pss_nil)))
      (pss_one (ps_ret pe_bl))), ?_⟩
    have cv1 : V.bl (decide ((1 : Int) ≤ ((tx l).length : Int))) = V.bl (decide (1 ≤ l.length)) := by
      rw [tx_len]
      congr 1
      rw [Bool.eq_iff_iff, decide_eq_true_eq, decide_eq_true_eq]
      omega
    have cv2 : V.bl (decide (((tx l).length : Int) ≤ 12)) = V.bl (decide (l.length ≤ 12)) := by
      rw [tx_len]
      congr 1
      rw [Bool.eq_iff_iff, decide_eq_true_eq, decide_eq_true_eq]
      omega
    refine ⟨_, rfl, _, rfl, hz, _, _, rfl, rfl, decide (1 ≤ l.length), cv1, ?_⟩
    by_cases c1 : 1 ≤ l.length
    · rw [decide_eq_true c1]
      refine iteT ⟨_, _, rfl, rfl, decide (l.length ≤ 12), cv2, ?_⟩
      by_cases c2 : l.length ≤ 12
      · rw [decide_eq_true c2]
        refine iteF ?_
        refine ⟨_, rfl, _, rfl, hz, _, rfl, by omega, by rw [tx_len]; omega, ?_⟩
        rw [tx_len, Int.toNat_natCast]
        have lt128 : ∀ c, c < 128 → (c ∈ ltrs ↔ 97 ≤ c ∧ c ≤ 122) := by decide
        refine for_it walk_range (fun i σ H' => ∃ (y1 : Option V), σ = [some (.str (tx l)), y1] ∧ Same H H' ∧ ∀ (k c : Nat), k < i → l[k]? = some c → (97 ≤ c ∧ c ≤ 122) ∧ ∀ b, 0 < k → l[k - 1]? = some b → b < c) ⟨_, rfl, L2.Same.refl _, fun k c hk => absurd hk (Nat.not_lt_zero _)⟩ (fun _ _ _ _ _ => trivial) ?_ ?_
        · rintro i v σ H1 H2 hi ⟨y1, rfl, s1, hok⟩ ⟨rfl, rfl⟩
          have hci := List.getElem?_eq_getElem hi
          have ac := asc _ (List.getElem_mem hi)
          have ati : atI (tx l).cps.toList (0 + (i : Int)) = some l[i] := by
            rw [tx_list, Int.zero_add]
            exact atI_nat hci
          refine ⟨_, rfl, _, rfl, _, _, _, rfl, rfl, hz, ati, rfl, l[i], tx ltrs, rfl, rfl, _, rfl, ?_⟩
          rw [tx_list]
          have no : ¬ ((97 ≤ l[i] ∧ l[i] ≤ 122) ∧ ∀ b, 0 < i → l[i - 1]? = some b → b < l[i]) → Q (.bl false) H2 := fun h => q H2 false s1 ⟨fun z => (by cases z), fun g => absurd ((goodW_iff c1 c2).mp g i _ hci) h⟩
          have yes : ((97 ≤ l[i] ∧ l[i] ≤ 122) ∧ ∀ b, 0 < i → l[i - 1]? = some b → b < l[i]) → ∀ (k c : Nat), k < i + 1 → l[k]? = some c → (97 ≤ c ∧ c ≤ 122) ∧ ∀ b, 0 < k → l[k - 1]? = some b → b < c := fun h k c hk hc => by
            rcases Nat.lt_or_ge k i with z | z
            · exact hok k c z hc
            · have : k = i := by omega
              subst this
              rw [hci] at hc
              cases hc
              exact h
          by_cases cm : l[i] ∈ ltrs
          · have rng := (lt128 _ ac).mp cm
            rw [decide_eq_true cm]
            refine iteF ⟨_, rfl, _, _, rfl, rfl, _, rfl, ite2 (fun t1 => ?_) (fun t1 => ?_)⟩
            · have i0 : 0 < i := by
                have := of_decide_eq_true t1
                omega
              have atp : atI (tx l).cps.toList (0 + (i : Int) - 1) = some (l[i - 1]'(by omega)) := by
                rw [tx_list, show 0 + (i : Int) - 1 = ((i - 1 : Nat) : Int) by omega]
                exact atI_nat (List.getElem?_eq_getElem (by omega))
              refine ⟨_, rfl, _, rfl, _, _, rfl, rfl, _, _, _, rfl, rfl, hz, atp, _, rfl, _, rfl, _, _, _, rfl, rfl, hz, ati, _, _, rfl, rfl, _, rfl, ?_⟩
              show if (!decide (([l[i - 1]'(by omega)] : List Nat) < [l[i]])) = true then _ else _
              by_cases lt : l[i - 1]'(by omega) < l[i]
              · rw [decide_eq_true (by rw [lt1]; exact lt)]
                refine iteF ⟨_, rfl, s1, yes ⟨rng, fun b _ hb => ?_⟩⟩
                rw [List.getElem?_eq_getElem (by omega)] at hb
                cases hb
                exact lt
              · rw [decide_eq_false (by rw [lt1]; exact lt)]
                exact iteT (no fun h => lt (h.2 _ i0 (List.getElem?_eq_getElem (by omega))))
            · have i0 : i = 0 := by
                refine Classical.byContradiction fun z => t1 ?_
                exact decide_eq_true (by omega)
              exact ⟨_, rfl, s1, yes ⟨rng, fun b h0 => by omega⟩⟩
          · rw [decide_eq_false cm]
            exact iteT (no fun h => cm ((lt128 _ ac).mpr h.1))
        · rintro σ H1 ⟨y1, rfl, s1, hok⟩
          refine q H1 true s1 ⟨fun _ => (goodW_iff c1 c2).mpr fun k c hc => hok k c ?_ hc, fun _ => rfl⟩
          exact (List.getElem?_eq_some_iff.mp hc).1
      · rw [decide_eq_false c2]
        exact iteT (q H false (L2.Same.refl _) ⟨fun z => (by cases z), fun g => absurd g.hi c2⟩)
    · rw [decide_eq_false c1]
      exact iteF ⟨_, rfl, iteT (q H false (L2.Same.refl _) ⟨fun z => (by cases z), fun g => absurd g.lo c1⟩)⟩
end
end NC
/-! halls that are fine by their rooms; the rooms as the program begins them, wall by wall -/
namespace NC
open PySem PySem.Spec PyProof.Rows L2
open Classical in
noncomputable def foC (l : List Nat) (bs : List (List Nat)) (s : Nat) : List Nat := (sds l).filter fun t => decide (Frc (adjOf bs) s t)
open Classical in
theorem foC_mem {l : List Nat} (g : GoodW l) {bs : List (List Nat)} (hb : ∀ b ∈ bs, isBar l b = true) : ∀ s ∈ sds l, ∀ t, t ∈ foC l bs s ↔ Frc (adjOf bs) s t := fun s hs t => by
  unfold foC
  rw [List.mem_filter]
  exact ⟨fun h => of_decide_eq_true h.2, fun h => ⟨Frc.mem g hb hs h, decide_eq_true h⟩⟩
/-- the hall is let by -/
def Okv (l : List Nat) (bs : List (List Nat)) : Prop := ∀ fo : Nat → List Nat, (∀ s ∈ sds l, ∀ t, t ∈ fo s ↔ Frc (adjOf bs) s t) → vdOf (sds l) (fxP fo) (alP fo) = .ok
theorem vd_ok {L : List Nat} {fx : Nat → Bool} {al : Nat → Nat → Bool} (h1 : ∀ s ∈ L, fx s = false) (h2 : ∀ s ∈ L, ∀ t ∈ L, al s t = false) : vdOf L fx al = .ok := by
  unfold vdOf
  rw [List.find?_eq_none.mpr fun s hs => by rw [h1 s hs]; decide]
  have e : (L.findSome? fun s => (L.find? (al s)).map fun t => (s, t)) = none := List.findSome?_eq_none_iff.mpr fun s hs => by
    rw [List.find?_eq_none.mpr fun t ht => by rw [h2 s hs t ht]; decide]
    rfl
  rw [e]
theorem okv_nil {l : List Nat} (g : GoodW l) : Okv l [] := fun fo hf => by
  have one : ∀ {s t : Nat}, Frc (adjOf []) s t → t = s := fun {s t} h => h.ind (p := fun x => x = s) rfl fun a b _ k => absurd k (by simp [adjOf])
  refine vd_ok (fun s hs => ?_) (fun s hs t ht => ?_)
  · refine decide_eq_false fun z => ?_
    have e := one ((hf s hs _).mp z)
    rcases sds_lt g hs with q | q
    · rw [swp_small q] at e
      omega
    · rw [swp_great q] at e
      omega
  · unfold alP
    by_cases h : t ∈ fo s
    · have e := one ((hf s hs t).mp h)
      simp [e]
    · simp [h]
structure Fine (l : List Nat) (rs : List (List Nat)) : Prop where
  has : ∀ c ∈ l, (∃ r ∈ rs, c ∈ r) ∧ ∃ r ∈ rs, c ∉ r
  apart : ∀ x y, isBar l [x, y] = true → ∃ r ∈ rs, inR [x, y] r = true ∨ inR [swp x, swp y] r = true
theorem Fine.ok {l : List Nat} (g : GoodW l) {bs : List (List Nat)} (hb : ∀ b ∈ bs, isBar l b = true) (F : Fine l (rms l bs)) : Okv l bs := fun fo hf => by
  have mr := rms_mem g hb
  rw [vd_same g hb hf (foC_mem g hb)]
  have ne : rms l bs ≠ [] := fun z => by
    obtain ⟨c, hc⟩ : ∃ c, c ∈ l := by
      have := g.lo
      cases l with
      | nil => exact absurd this (by decide)
      | cons c r => exact ⟨c, List.mem_cons_self ..⟩
    obtain ⟨⟨r, hr, _⟩, _⟩ := F.has c hc
    rw [z] at hr
    cases hr
  have other : ∀ {s : Nat} {r : List Nat}, s ∈ sds l → r ∈ rms l bs → (s ∉ r ↔ swp s ∈ r) := fun {s r} hs hr => by
    obtain ⟨p, rfl, _⟩ := (mr r).mp hr
    rw [rm_mem g hs, rm_mem g (sds_swp g hs), val_swp (sds_lt g hs)]
    cases val p s <;> simp
  refine vd_ok (fun s hs => ?_) (fun s hs t ht => ?_)
  · unfold fxL
    rw [if_neg ne]
    have : ∃ r ∈ rms l bs, s ∈ r := by
      rcases sds_shape g hs with z | z
      · exact (F.has s z.2.2).1
      · obtain ⟨_, r, hr, hn⟩ := F.has (s + 32) z.2.2
        refine ⟨r, hr, ?_⟩
        have := (other (sds_of_small z.2.2) hr).mp hn
        rw [swp_small (by omega), show s + 32 - 32 = s by omega] at this
        exact this
    obtain ⟨r, hr, hsr⟩ := this
    rw [show ((rms l bs).any fun r => decide (s ∈ r)) = true from List.any_eq_true.mpr ⟨r, hr, decide_eq_true hsr⟩]
    rfl
  · unfold alL
    by_cases e : lwc s = lwc t
    · rw [e]; simp
    · have main : ∃ r ∈ rms l bs, (s ∈ r ∧ t ∉ r) ∨ (s ∉ r ∧ t ∈ r) := by
        have hst := sds_swp g ht
        have lt2 : lwc (swp t) = lwc t := by
          rcases sds_lt g ht with q | q
          · rw [swp_small q]
            unfold lwc
            rw [if_pos (by omega), if_neg (by omega)]
            omega
          · rw [swp_great q]
            unfold lwc
            rw [if_neg (by omega), if_pos q]
        have fin : ∀ r ∈ rms l bs, (s ∈ r ∧ swp t ∈ r) ∨ (swp s ∈ r ∧ t ∈ r) → (s ∈ r ∧ t ∉ r) ∨ (s ∉ r ∧ t ∈ r) := fun r hr h => h.imp (fun z => ⟨z.1, (other ht hr).mpr z.2⟩) (fun z => ⟨(other hs hr).mpr z.1, z.2⟩)
        have bar : ∀ {x y : Nat}, x ∈ sds l → y ∈ sds l → lwc x < lwc y → isBar l [x, y] = true := fun {x y} hx hy h => by
          show (decide (x ∈ sds l) && (decide (y ∈ sds l) && decide (lwc x < lwc y))) = true
          rw [decide_eq_true hx, decide_eq_true hy, decide_eq_true h]
          rfl
        rcases Nat.lt_or_ge (lwc s) (lwc t) with h | h
        · obtain ⟨r, hr, z⟩ := F.apart s (swp t) (bar hs hst (by rw [lt2]; exact h))
          refine ⟨r, hr, fin r hr (z.imp (fun z => ?_) (fun z => ?_))⟩
          · simp [inR] at z
            exact z
          · rw [swp_swp (sds_lt g ht)] at z
            simp [inR] at z
            exact z
        · obtain ⟨r, hr, z⟩ := F.apart (swp t) s (bar hst hs (by rw [lt2]; omega))
          refine ⟨r, hr, fin r hr (z.imp (fun z => ?_) (fun z => ?_))⟩
          · simp [inR] at z
            exact ⟨z.2, z.1⟩
          · rw [swp_swp (sds_lt g ht)] at z
            simp [inR] at z
            exact ⟨z.2, z.1⟩
      obtain ⟨r, hr, z⟩ := main
      have : (rms l bs).all (fun r => decide (decide (s ∈ r) = decide (t ∈ r))) = false := by
        rw [List.all_eq_false]
        refine ⟨r, hr, ?_⟩
        rcases z with ⟨a, b⟩ | ⟨a, b⟩
        · simp [a, b]
        · simp [a, b]
      rw [this]
      simp
/-- may s stand behind what is begun -/
def goes (fo : Nat → List Nat) (s : Nat) (r : List Nat) : Bool := !r.any fun h => decide (swp h ∈ fo s)
def okP (fo : Nat → List Nat) : List Nat → List Nat → Bool
  | _, [] => true
  | a, s :: r => goes fo s a && okP fo (a ++ [s]) r
def prT (l : List Nat) (fo : Nat → List Nat) : Nat → List (List Nat)
  | 0 => [[]]
  | k + 1 => (prT l fo k).flatMap fun r => ([upc (l.getD k 0), l.getD k 0].filter fun s => goes fo s r).map fun s => r ++ [s]
def okR (fo : Nat → List Nat) (r : List Nat) : Bool := okP fo [] r
theorem okP_snoc (fo : Nat → List Nat) : ∀ (a r : List Nat) (s : Nat), okP fo a (r ++ [s]) = (okP fo a r && goes fo s (a ++ r))
  | a, [], s => by
    show (goes fo s a && true) = (true && goes fo s (a ++ []))
    rw [List.append_nil, Bool.and_true, Bool.true_and]
  | a, x :: r, s => by
    show (goes fo x a && okP fo (a ++ [x]) (r ++ [s])) = (goes fo x a && okP fo (a ++ [x]) r && goes fo s (a ++ x :: r))
    rw [okP_snoc fo (a ++ [x]) r s, Bool.and_assoc, List.append_assoc]
    rfl
theorem okR_snoc (fo : Nat → List Nat) (r : List Nat) (s : Nat) : okR fo (r ++ [s]) = (okR fo r && goes fo s r) := okP_snoc fo [] r s
theorem prT_eq (l : List Nat) (fo : Nat → List Nat) : ∀ k, prT l fo k = (allT l k).filter (okR fo)
  | 0 => rfl
  | k + 1 => by
    show (prT l fo k).flatMap _ = ((allT l k).flatMap _).filter _
    rw [prT_eq l fo k, List.filter_flatMap]
    generalize l.getD k 0 = c
    generalize allT l k = A
    induction A with
    | nil => rfl
    | cons r t ih =>
      rw [List.flatMap_cons, List.filter_cons]
      have e : [r ++ [upc c], r ++ [c]].filter (okR fo) = if okR fo r = true then (([upc c, c].filter fun s => goes fo s r).map fun s => r ++ [s]) else [] := by
        by_cases h : okR fo r = true
        · rw [if_pos h]
          simp only [List.filter_cons, List.filter_nil, okR_snoc, h, Bool.true_and]
          by_cases h1 : goes fo (upc c) r = true <;> by_cases h2 : goes fo c r = true <;> simp [h1, h2]
        · have h' : okR fo r = false := by simpa using h
          rw [if_neg h]
          simp only [List.filter_cons, List.filter_nil, okR_snoc, h', Bool.false_and]
          rfl
      rw [e]
      by_cases h : okR fo r = true
      · rw [if_pos h, if_pos h, List.flatMap_cons, ih]
      · rw [if_neg h, if_neg h, ih]
        rfl
theorem okP_iff (fo : Nat → List Nat) : ∀ (r a : List Nat), okP fo a r = true ↔ ∀ i s, r[i]? = some s → ∀ h, (h ∈ a ∨ h ∈ r.take i) → swp h ∉ fo s
  | [], a => by
    constructor
    · intro _ i s hi
      simp at hi
    · intro _
      rfl
  | x :: r, a => by
    show (goes fo x a && okP fo (a ++ [x]) r) = true ↔ _
    rw [Bool.and_eq_true, okP_iff fo r (a ++ [x])]
    have hg : goes fo x a = true ↔ ∀ h ∈ a, swp h ∉ fo x := by
      unfold goes
      rw [Bool.not_eq_true', List.any_eq_false]
      constructor
      · exact fun z h hh k => z h hh (decide_eq_true k)
      · exact fun z h hh k => z h hh (of_decide_eq_true k)
    rw [hg]
    constructor
    · rintro ⟨h1, h2⟩ i s hi h hh
      cases i with
      | zero =>
        cases hi
        rcases hh with q | q
        · exact h1 h q
        · simp at q
      | succ i =>
        refine h2 i s hi h ?_
        rcases hh with q | q
        · exact .inl (List.mem_append_left _ q)
        · rw [List.take_succ_cons] at q
          rcases List.mem_cons.mp q with e | e
          · exact .inl (by rw [e]; simp)
          · exact .inr e
    · intro H
      refine ⟨fun h hh => H 0 x rfl h (.inl hh), fun i s hi h hh => H (i + 1) s hi h ?_⟩
      rw [List.take_succ_cons]
      rcases hh with q | q
      · rcases List.mem_append.mp q with e | e
        · exact .inl e
        · exact .inr (by rw [List.mem_singleton.mp e]; simp)
      · exact .inr (List.mem_cons_of_mem _ q)
/-- the program's rooms are the law's -/
theorem prT_rms {l : List Nat} (g : GoodW l) {bs : List (List Nat)} (hb : ∀ b ∈ bs, isBar l b = true) {fo : Nat → List Nat} (hf : ∀ s ∈ sds l, ∀ t, t ∈ fo s ↔ Frc (adjOf bs) s t) : prT l fo l.length = rms l bs := by
  rw [prT_eq]
  unfold rms
  refine List.filter_congr fun r hr => ?_
  obtain ⟨p, rfl⟩ := (allT_mem g.nd (Nat.le_refl _) r).mp hr
  rw [List.take_length]
  have key : (!bs.any fun b => inR b (rmOf l p)) = true ↔ Sat bs p := by
    constructor
    · intro h
      obtain ⟨p', e, hs⟩ := (rms_mem g hb (rmOf l p)).mp (List.mem_filter.mpr ⟨(allT_mem g.nd (Nat.le_refl _) _).mpr ⟨p, by rw [List.take_length]⟩, h⟩)
      intro x y hxy
      rintro ⟨vx, vy⟩
      obtain ⟨x', y', e2, hx, hy, _⟩ := bar_two (hb _ hxy)
      obtain ⟨rfl, rfl⟩ : x = x' ∧ y = y' := by simpa using e2
      have a := (rm_mem g hx).mpr vx
      have b := (rm_mem g hy).mpr vy
      rw [e] at a b
      exact hs x y hxy ⟨(rm_mem g hx).mp a, (rm_mem g hy).mp b⟩
    · intro h
      exact (List.mem_filter.mp ((rms_mem g hb (rmOf l p)).mpr ⟨p, rfl, h⟩)).2
  rw [Bool.eq_iff_iff, key]
  unfold okR
  rw [okP_iff]
  have rl : (rmOf l p).length = l.length := by unfold rmOf; rw [List.length_map]
  have at_ : ∀ {i s : Nat}, (rmOf l p)[i]? = some s → ∃ hi : i < l.length, lwc s = l[i] ∧ s ∈ sds l := fun {i s} h => by
    have hm := List.mem_of_getElem? h
    have hs := rm_asc g hm
    obtain ⟨hi, _⟩ := List.getElem?_eq_some_iff.mp h
    rw [rl] at hi
    refine ⟨hi, ?_, hs⟩
    unfold rmOf at h
    rw [List.getElem?_map, List.getElem?_eq_getElem hi] at h
    have e : (if p l[i] then l[i] else upc l[i]) = s := Option.some.inj h
    have h1 := g.sm l[i] (List.getElem_mem hi)
    rw [← e]
    by_cases hp : p l[i] = true
    · rw [if_pos hp]
      unfold lwc
      rw [if_neg (by omega)]
    · rw [if_neg hp, upc_small h1]
      unfold lwc
      rw [if_pos (by omega)]
      omega
  constructor
  · intro H x y hxy
    rintro ⟨vx, vy⟩
    obtain ⟨x', y', e2, hx, hy, hlt⟩ := bar_two (hb _ hxy)
    obtain ⟨rfl, rfl⟩ : x = x' ∧ y = y' := by simpa using e2
    obtain ⟨i, hi, ei⟩ := List.getElem_of_mem ((rm_mem g hx).mpr vx)
    obtain ⟨j, hj, ej⟩ := List.getElem_of_mem ((rm_mem g hy).mpr vy)
    have gi : (rmOf l p)[i]? = some x := by rw [List.getElem?_eq_getElem hi, ei]
    have gj : (rmOf l p)[j]? = some y := by rw [List.getElem?_eq_getElem hj, ej]
    obtain ⟨hi2, wi, _⟩ := at_ gi
    obtain ⟨hj2, wj, _⟩ := at_ gj
    have hij : i < j := by
      rcases Nat.lt_trichotomy i j with z | z | z
      · exact z
      · subst z
        rw [wi, wj] at hlt
        omega
      · have := List.pairwise_iff_getElem.mp g.rise j i hj2 hi2 z
        rw [wi, wj] at hlt
        omega
    have hxt : x ∈ (rmOf l p).take j := List.mem_of_getElem? (i := i) (by rw [List.getElem?_take_of_lt hij]; exact gi)
    have ky : swp x ∈ adjOf bs y := (adj_iff g hb (sds_lt g (sds_swp g hx))).mpr (by rw [swp_swp (sds_lt g hx)]; exact .inr hxy)
    exact H j y gj x (.inr hxt) ((hf y hy _).mpr (Frc.refl.step ky))
  · intro hS i s hi h hh k
    rcases hh with q | q
    · cases q
    · obtain ⟨_, _, hs⟩ := at_ hi
      have hm : h ∈ rmOf l p := List.mem_of_mem_take q
      have hhs := rm_asc g hm
      have v1 := (rm_mem g hs).mp (List.mem_of_getElem? hi)
      have v2 := hS.frc g hb v1 ((hf s hs _).mp k)
      rw [val_swp (sds_lt g hhs), (rm_mem g hhs).mp hm] at v2
      cases v2
end NC
namespace NC
open PySem PySem.Spec PyProof.Rows L2
abbrev sLaw : Stmt := topS 37
abbrev nLaw : List Str := ["_law_script", "_law_d", "_law_turn", "_law_text_here", "_law_found", "_law_word_here", "_law_told", "_law_sign", "_law_asks", "_law_ask"]
theorem scLaw : FnScope nLaw ["_law_script"] (defScope sLaw) := ⟨rfl, rfl, rfl, by decide +kernel, rfl, by decide +kernel, by decide +kernel⟩
/-- the families of refusals -/
structure EX (K : PySem.W.Frag) (mg : Str → Option Value) (CH CM CN CW : Addr) : Prop where
  gM : mg "Missing" = some (.ref CM)
  gN : mg "NothingLeft" = some (.ref CN)
  s : XfC K CW
  ms : PySem.W.exmAny K (.ref CW) (fam CH CM CN) = some true
/-- the name of the law's lambdas -/
def lamN (c : Value) : Str := (envOfC "law" (defScope sLaw) 0 0 c).qual ++ "<lambda>"
def spLawT (K : PySem.W.Frag) (T : List (Addr × Str)) : Sp := fun vs H Q _ => ∃ (a : Addr) (ns : List Int), vs = [.ref a] ∧ SqL K H a (ns.map V.int) ∧ LamX.Tabs T H ∧ ∀ H', Q (.bl true) H'
theorem fnok_or {P : Program} {w : World} {K : PySem.W.Frag} {mg : Str → Option Value} {base : Heap} {CX : CXT} {k : Nat} {f : Addr} {fd : FuncData} {ps : List Str} {sp sp' : Sp} (F : FnOk P w K mg base CX k f fd ps sp) (G : FnOk P w K mg base CX k f fd ps sp') : FnOk P w K mg base CX k f fd ps (fun vs H Q E => sp vs H Q E ∨ sp' vs H Q E) :=
  ⟨fun vs H Q E q => q.elim (F.len vs H Q E) (G.len vs H Q E), fun A outer s H args us vs Q E hr he hb hv hs => hs.elim (F.run A outer s H args us vs Q E hr he hb hv) (G.run A outer s H args us vs Q E hr he hb hv)⟩
def spHor (K : PySem.W.Frag) (C CB CF CA CW : Addr) : Sp := fun vs H Q E => spHinitA K C CB CF CA vs H Q E ∨ spHinitX CW vs H Q E
theorem HallAt.same {C : Addr} {H H' : Hp} {x dx sb D : Addr} {l : List Nat} {ys : List Str} {fo : Nat → List Nat} (h : HallAt C H x dx sb D l ys fo) (s : Same H H') : HallAt C H' x dx sb D l ys fo := ⟨s _ _ h.x, s _ _ h.sb, s _ _ h.D⟩
/-- the law's state -/
structure SK (T : List (Addr × Str)) (d : Addr) (H : Hp) : Prop where
  dr : Dr H d
  T : LamX.Tabs T H
theorem SK.same {T : List (Addr × Str)} {d : Addr} {H H' : Hp} (s : SK T d H) (e : Same H H') : SK T d H' := ⟨s.dr.same e, s.T.ext e⟩
theorem SK.ext {T : List (Addr × Str)} {d : Addr} {H H' : Hp} (s : SK T d H) (e : LamX.ExtN H H') (t : LamX.Tabs T H') : SK T d H' := ⟨s.dr.ext e, t⟩
theorem SK.smd {T : List (Addr × Str)} {d : Addr} {H H' : Hp} (s : SK T d H) (e : SmD d H H') (D' : Dr H' d) : SK T d H' := ⟨D', tabs_smx s.T s.dr e.1⟩
/-- the law's own helpers -/
structure Hlp (K : PySem.W.Frag) (mg : Str → Option Value) (fSt fDr fOf fLe fShu fSam fWor fRef fTex fGoo : Addr) (dSt dDr dOf dLe dShu dSam dWor dRef dTex dGoo : FuncData) : Prop where
  start : DF K mg "_law_start" sStart ["_law_script"] fSt dSt
  draw : DF K mg "_law_draw" sDraw ["_law_d", "_law_many"] fDr dDr
  of : DF K mg "_law_of" sOf ["_law_d", "_law_some"] fOf dOf
  letters : DF K mg "_law_letters" sLetters [] fLe dLe
  shuts : DF K mg "_law_shuts" sShuts ["_law_d", "_law_most"] fShu dShu
  same : DF K mg "_law_same" sSame ["_law_x", "_law_due"] fSam dSam
  word : DF K mg "_law_word" sWord ["_law_ask"] fWor dWor
  ref : DF K mg "_law_refused" sRef ["_law_ask", "_law_due"] fRef dRef
  text : DF K mg "_law_text" sText ["_law_d"] fTex dTex
  good : DF K mg "_law_good" sGood ["_law_text_here"] fGoo dGoo
  ms : mg "str" = none
  mb : mg "bool" = none
section
variable {P : Program} {w : World} {K : PySem.W.Frag} {mg : Str → Option Value} {base : Heap} {tw : Tok} {fOther fSides fByW fIsW fIsB fCW fCB fCS fSt' fRe fAF fCF fCA : Addr} {dOther dSides dByW dIsW dIsB dCW dCB dCS dSt' dRe dAF dCF dCA : FuncData}
    {CH iH CB iB CF iF CA iA CW iW CM CN : Addr} {eH eB eF eA eW : FuncData} {C fi fb fw fn e : Addr} {di db dw dn : FuncData}
    {fSt fDr fOf fLe fShu fSam fWor fRef fTex fGoo : Addr} {dSt dDr dOf dLe dShu dSam dWor dRef dTex dGoo : FuncData}
set_option maxHeartbeats 16000000 in
theorem ok_law {f c PT_ : Addr} {kV doc pm ct oc : Value} {an od : Option Addr} {osl : Array (Option Value)} {k : Nat}
    (lk : K.lookup f = some ⟨oc, od, .func (PySem.W.fnOf "law" "law" (defArgs sLaw) (defBody sLaw) (defScope sLaw) .none kV doc pm an (.ref c) ct), osl⟩) (hcd : PySem.W.codeIn K (.ref c) "law" = true) (TB : LamX.TabB base mg c PT_) (X : EX K mg CH CM CN CW)
    (Z : HC K mg C fi fb di db) (Y : HW K C fw fn dw dn) (ZD : Binds K di ["self", "walls", "bars"] [.ref e]) (eT : ∃ (oe : Obj) (ne : Nat), K.lookup e = some oe ∧ oe.cls = .type "tuple" ∧ oe.data = .seq #[] ne)
    (XW : XC0 K mg "BadWalls" "BadWalls.__init__" sBWinit CW iW eW)
    (T : Txt8 K mg tw fOther fSides fByW fIsW fIsB fCW fCB fCS fSt' fRe fAF fCF fCA dOther dSides dByW dIsW dIsB dCW dCB dCS dSt' dRe dAF dCF dCA CH iH CB iB CF iF CA iA eH eB eF eA)
    (L : Hlp K mg fSt fDr fOf fLe fShu fSam fWor fRef fTex fGoo dSt dDr dOf dLe dShu dSam dWor dRef dTex dGoo) :
    FnOk P w K mg base CX0 (k + 10) f (PySem.W.fnOf "law" "law" (defArgs sLaw) (defBody sLaw) (defScope sLaw) .none kV doc pm an (.ref c) ct) ["_law_script"] (spLawT K [(PT_, lamN (.ref c))]) := by
  have B := T.B
  have GSt : FnOk P w K mg base CX0 (k + 1) fSt dSt ["_law_script"] (spStart K) := ok_start B L.start.F
  have GO : FnOk P w K mg base CX0 (k + 2) fOf dOf ["_law_d", "_law_some"] (spOf K) := ok_of B L.of.F L.draw
  have GL := ok_letters (P := P) (w := w) (mg := mg) (base := base) (k := k) L.letters.F
  have GTx : FnOk P w K mg base CX0 (k + 3) fTex dTex ["_law_d"] spText := ok_text B L.text.F L.draw L.of L.letters L.shuts
  have GG : FnOk P w K mg base CX0 (k + 2) fGoo dGoo ["_law_text_here"] spGood := ok_good B L.good.F L.letters
  have GY : FnOk P w K mg base CX0 (k + 4) fSam dSam ["_law_x", "_law_due"] (spYes 2) := ok_yes B L.mb L.ms L.same 2
  have GOt : FnOk P w K mg base CX0 (k + 1) fOther dOther ["side"] spOther := ok_other T.O.F
  have GHo : FnOk P w K mg base (L2.CX P w) (k + 5) fi di ["self", "walls", "bars"] (spHor K C CB CF CA CW) := fnok_or (ok_HinitA Z T) (ok_HinitX Z T XW)
  have GHx : FnOk P w K mg base (L2.CX P w) (k + 5) fi di ["self", "walls", "bars"] (spHinitX CW) := ok_HinitX Z T XW
  have GW : FnOk P w K mg base CX0 (k + 1) fw dw ["self"] (spHwalls C) := ok_Hwalls Z Y
  have GB : FnOk P w K mg base CX0 (k + 1) fb db ["self"] (spHbars C) := ok_Hbars B Z
  have GN : FnOk P w K mg base CX0 (k + 1) fn dn ["self"] (spHlen C) := ok_Hlen B Z Y
  have UW : Uses P w K mg base (k + 6) (k + 8) fWor dWor ["_law_ask"] (spWord K CH CM CN) := ok_word L.word.F T.he.gC X.gM X.gN
  have UR : Uses P w K mg base (k + 6) (k + 9) fRef dRef ["_law_ask", "_law_due"] (spRef K CH CM CN) := ok_ref L.ref.F L.word T.he.gC X.gM X.gN
  refine fn_of lk hcd scLaw (fun vs H Q E h => ?_) (fun A outer st H vs Q E hr h => ?_)
  · obtain ⟨a, ns, rfl, _⟩ := h
    rfl
  · obtain ⟨a, ns, rfl, hS, hT, q⟩ := h
    have r1 : Room (k + 1) _ := hr.mono (by omega)
    have r2 : Room (k + 2) _ := hr.mono (by omega)
    have r3 : Room (k + 3) _ := hr.mono (by omega)
    have r4 : Room (k + 4) _ := hr.mono (by omega)
    have r8 : Room (k + 8) _ := hr.mono (by omega)
    have nd := scLaw.nd
    have hu := hr.units
    refine ⟨_, PSs.nox (pss_cons (ps_set (i := 1) nd rfl (.inl rfl) (pe_call GSt r1 rfl L.start.g L.start.F.kp L.start.b .nil pass0 (pa_cons (pv 0) pa_nil)))
      (pss_cons (ps_for PassesOwn.never rfl (pi_range1 (by rfl) B.range (pa_cons pe_int pa_nil)) (pg_name (i := 2) nd rfl (.inl rfl))
        (pss_cons (ps_set (i := 3) nd rfl (.inr rfl) (pe_call GTx r3 rfl L.text.g L.text.F.kp L.text.b .nil pass0 (pa_cons (pv 1) pa_nil)))
        (pss_cons (ps_asg (pe_lamU (T := [(PT_, lamN (.ref c))]) (vs0 := []) (t := fun E => tMake C (spHor K C CB CF CA CW) [.ref e] E (tCons (tVar 3) tNil)) UW r8 rfl L.word.g L.word.F.kp L.word.b rfl pa_nil TB rfl (List.mem_cons_self ..) (fun p hp _ => by rw [List.mem_singleton.mp hp]; rfl)
            (LamX.lamS_by (sc := defScope sLaw) (by decide +kernel)) rfl (fun _ _ _ _ _ => rfl)
            (fun A out s H E f c' hr2 => pe_make (E := E) Z.mks GHo (hr2.mono (by omega)) rfl Z.gC ZD (.cons rfl .nil) (passes_call (takes_of rfl rfl rfl rfl) (fun _ _ _ _ h => h)) (pa_cons (pv 3) pa_nil)) rfl) (pg_tup rfl (pgs_cons (pg_name (i := 4) nd rfl (.inl rfl)) (pgs_cons (pg_name (i := 5) nd rfl (.inl rfl)) pgs_nil))))
        (pss_cons (ps_if (pt_cmpR op_ne (pv 5) (pe_ifExp (pt_val (pe_call GG r2 rfl L.good.g L.good.F.kp L.good.b .nil pass0 (pa_cons (pv 3) pa_nil))) pe_str pe_str) (nomark _)) (pss_one (ps_ret pe_bl)) pss_nil)
        (pss_one (ps_if (pt_cmpR op_eq (pv 5) pe_str (nomark _))
          (pss_cons (ps_set (i := 6) nd rfl (.inl rfl) (pe_lst (pa_cons (pe_meth0 (pv 4) Z.cl Y.mw GW r1 Y.bw .nil pass0) (pa_cons (pe_meth0 (pv 4) Z.cl Z.mb GB r1 Z.bb .nil pass0) (pa_cons (pe_callB (cr_lenOwn GN Y.an Y.nn Y.bn r2 pass0) (by rfl) B.len PySem.boot_len (pa_cons (pv 4) pa_nil)) pa_nil)))))
          (pss_one (ps_if (pt_not (pt_val (pe_call GY r4 rfl L.same.g L.same.F.kp L.same.b .nil pass0 (pa_cons (pv 6) (pa_cons (pe_lst (pa_cons (pv 3) (pa_cons (pe_lst pa_nil) (pa_cons (pe_callB call_len_str (by rfl) B.len PySem.boot_len (pa_cons (pv 3) pa_nil)) pa_nil)))) pa_nil))))) (pss_one (ps_ret pe_bl)) pss_nil))) pss_nil))))))
      (pss_cons (ps_set (i := 7) nd rfl (.inl rfl) (pe_call GO r2 rfl L.of.g L.of.F.kp L.of.b .nil pass0 (pa_cons (pv 1) (pa_cons (pe_call0 GL r1 rfl L.letters.g L.letters.F.kp L.letters.b .nil pass0) pa_nil))))
      (pss_cons (ps_if (pt_not (pt_val (pe_call GY r4 rfl L.same.g L.same.F.kp L.same.b .nil pass0 (pa_cons (pe_lst (pa_cons (pe_call GOt r1 rfl T.O.g T.O.F.kp T.O.b .nil pass0 (pa_cons (pv 7) pa_nil)) (pa_cons (pe_call GOt r1 rfl T.O.g T.O.F.kp T.O.b .nil pass0 (pa_cons (pe_upper (pv 7)) pa_nil)) (pa_cons (pe_glob (v := .int 12) rfl T.mW ⟨_, rfl⟩) pa_nil)))) (pa_cons (pe_lst (pa_cons (pe_upper (pv 7)) (pa_cons (pv 7) (pa_cons pe_int pa_nil)))) pa_nil))))) (pss_one (ps_ret pe_bl)) pss_nil)
      (pss_cons (ps_set (i := 8) nd rfl (.inl rfl) (pe_lst (pa_cons (pe_lam (T := [(PT_, lamN (.ref c))]) (k := k + 6) (t := fun E => tMake C (spHinitX CW) [] E (tCons (tC (.str "")) (tCons (tLst (tCons (tC (.str "aB")) tNil)) tNil))) TB rfl (List.mem_cons_self ..) (fun p hp _ => by rw [List.mem_singleton.mp hp]; rfl)
            (LamX.lamS_by (sc := defScope sLaw) (by decide +kernel)) rfl (fun _ _ _ _ _ => rfl)
            (fun A out s H E f c' hr2 => pe_make (E := E) Z.mks GHx (hr2.mono (by omega)) rfl Z.gC Z.b .nil (passes_call (takes_of rfl rfl rfl rfl) (fun _ _ _ _ h => h)) (pa_cons pe_str (pa_cons (pe_lst (pa_cons pe_str pa_nil)) pa_nil)))) pa_nil)))
      (pss_cons (ps_expr (pe_bm PySem.F.plainAttrs_list PySem.F.slot_list_append PySem.F.type_list_append mt_append (pv 8) (pa_cons (pe_lam (T := [(PT_, lamN (.ref c))]) (k := k + 6) (t := fun E => tMake C (spHinitX CW) [] E (tCons (tC (.str "ba")) (tCons (tLst (tCons (tC (.str "x")) tNil)) tNil))) TB rfl (List.mem_cons_self ..) (fun p hp _ => by rw [List.mem_singleton.mp hp]; rfl)
            (LamX.lamS_by (sc := defScope sLaw) (by decide +kernel)) rfl (fun _ _ _ _ _ => rfl)
            (fun A out s H E f c' hr2 => pe_make (E := E) Z.mks GHx (hr2.mono (by omega)) rfl Z.gC Z.b .nil (passes_call (takes_of rfl rfl rfl rfl) (fun _ _ _ _ h => h)) (pa_cons pe_str (pa_cons (pe_lst (pa_cons pe_str pa_nil)) pa_nil)))) pa_nil)))
      (pss_one (ps_ret (pe_callB (cr_all rfl) (by rfl) B.all (by decide +kernel) (pa_cons (pe_lcI (own := [("_law_ask", 9)]) (g := gName 9) rfl nd (pi_list (pv 8)) (blkOk_by (N := nLaw) (sc := defScope sLaw) (by decide +kernel)) (fun _ _ _ _ _ => pg_name (i := 9) nd rfl (Or.inl rfl)) (fun pins σ v G C cl fp I hf => pe_usesB I hf UR hr (by rfl) L.ref.g L.ref.F.kp L.ref.b (pa_cons (pv 9) (pa_cons pe_str pa_nil)))) pa_nil)))))))))), ?_⟩
    refine ⟨_, rfl, a, ns, rfl, hS, fun H0 d s0 nd0 D0 => ?_⟩
    have S0 : SK [(PT_, lamN (.ref c))] d H0 := ⟨D0, hT.ext s0⟩
    have okW : okS "badwalls" := by
      rw [show (Str.ofString "badwalls") = tx [98, 97, 100, 119, 97, 108, 108, 115] by decide +kernel]
      exact okS_tx (by decide)
    obtain ⟨oe, ne, ke, ce, de⟩ := eT
    have hE : ∀ {H' : Hp}, SqA K H' e (([] : List (List Nat)).map tx |>.map V.str) := .inr (.inr ⟨oe, #[], ne, ke, ce, de, by decide, .nil⟩)
    refine ⟨6, rfl, by decide, by decide, ?_⟩
    refine for_it walk_range (fun i σ H' => ∃ (y2 y3 y4 y5 y6 : Option V), σ = [some (.ref a), some (.ref d), y2, y3, y4, y5, y6, none, none, none] ∧ SK [(PT_, lamN (.ref c))] d H') ⟨_, _, _, _, _, rfl, S0⟩ (fun _ _ _ _ _ => trivial) ?_ ?_
    · rintro i0 v σ Ha Hb hi0 ⟨y2, y3, y4, y5, y6, rfl, Sa⟩ ⟨rfl, rfl⟩
      refine ⟨_, rfl, d, rfl, Sa.dr, fun H1 l s1 D1 asc len => ?_⟩
      have S1 := Sa.smd s1 D1
      have hz : (tx l).length ≤ sizeLine := by rw [tx_len, sizeLine_eq]; omega
      refine ⟨S1.T, fun f1 G1 x1 t1 => ⟨rfl, ?_⟩⟩
      have A1 := S1.ext x1 t1
      refine ⟨_, rfl, fun x dx nx ndx nne => ?_⟩
      have s8 : Same G1 (upd (upd G1 dx (.own x)) x (.ins C dx [])) := sm_upd (same_upd ndx) (by rw [upd_ne (Ne.symm nne)]; exact nx)
      by_cases g : GoodW l
      · refine .inl ⟨x, dx, l, e, [], rfl, upd_same, g, fun b hb => (by cases hb), by decide, hE, ?_⟩
        rw [show firstBad l [] = none from rfl]
        intro fo hfo
        rw [okv_nil g fo (hfo.iff g (fun b hb => (by cases hb)))]
        intro H2 sb D ys s9 nsb nD hat hp hso
        refine ⟨rfl, ?_⟩
        have s2 : Same G1 H2 := fun b o hb => s9 b o (ne_of_none hb nx) (s8 b o hb)
        have ey : ys = [] := List.Perm.eq_nil hp
        subst ey
        refine ⟨by show 2 ≤ sizeLine; decide, fun T2 nT2 => ⟨_, rfl, ?_⟩⟩
        have s3 := sm_upd (o := .tup [.ref x, .str ""]) s2 nT2
        have hat3 := hat.same (same_upd (o := .tup [.ref x, .str ""]) nT2)
        refine ⟨T2, _, rfl, SqT.of upd_same, rfl, _, _, rfl, _, _, rfl, rfl, ?_⟩
        generalize (upd H2 T2 (HO.tup [V.ref x, V.str (Str.ofString "")])) = H3 at s3 hat3 ⊢
        refine ⟨_, rfl, _, rfl, l, rfl, asc, len, fun H4 b s4 hb => ?_⟩
        have e4 : b = true := hb.mpr g
        subst e4
        refine ⟨_, rfl, iteT ⟨rfl, _, rfl, ?_⟩⟩
        rw [decide_eq_true rfl]
        refine iteF ?_
        refine ⟨_, rfl, rfl, _, rfl, ?_⟩
        rw [decide_eq_true rfl]
        refine iteT ?_
        have hat4 := hat3.same s4
        have s14 := sm_trans s3 s4
        refine ⟨_, rfl, x, dx, _, rfl, hat4.x, rfl, x, dx, sb, D, l, [], fo, rfl, hat4, _, rfl, x, dx, _, rfl, hat4.x, rfl, x, dx, sb, D, l, [], fo, rfl, hat4, fun p np => ?_⟩
        have s5 := same_upd (o := .lst (([] : List Str).map V.str)) np
        have hat5 := hat4.same s5
        refine ⟨_, rfl, x, dx, _, rfl, hat5.x, x, dx, sb, D, l, [], fo, rfl, hat5, by omega, l.length, rfl, by omega, ?_⟩
        have ep : (upd H4 p (.lst (([] : List Str).map V.str))) p = some (.lst []) := upd_same
        generalize (upd H4 p (HO.lst (List.map V.str []))) = H5 at s5 hat5 ep ⊢
        refine ⟨by show 3 ≤ sizeLine; decide, fun q1 nq1 => ?_⟩
        have s6 := same_upd (o := .lst [.str (tx l), .ref p, .int (l.length : Int)]) nq1
        refine ⟨_, rfl, _, rfl, Nat.zero_le _, fun p2 np2 => ?_⟩
        refine ⟨_, rfl, _, rfl, hz, by show 3 ≤ sizeLine; decide, fun q2 nq2 => ?_⟩
        rw [tx_len]
        have s7 := same_upd (o := .lst []) np2
        have s10 := same_upd (o := .lst [.str (tx l), .ref p2, .int (l.length : Int)]) nq2
        refine ⟨_, _, rfl, .lst (s10 _ _ (s7 _ _ upd_same)) upd_same rfl (by show 3 ≤ 5000; decide) (fun i a b ha hb => ?_), fun H' s11 => ⟨_, rfl, iteF ⟨_, _, _, _, _, rfl, A1.same (sm_trans s14 (sm_trans s5 (sm_trans s6 (sm_trans s7 (sm_trans s10 s11)))))⟩⟩⟩
        match i, ha, hb with
        | 0, ha, hb => cases ha; cases hb; exact .str _
        | 1, ha, hb => cases ha; cases hb; exact .lst (s10 _ _ (s7 _ _ (s6 _ _ ep))) (s10 _ _ upd_same) rfl (by decide) (fun i a b ha hb => by simp at ha)
        | 2, ha, hb => cases ha; cases hb; exact .int _
      · refine .inr ⟨x, l, _, rfl, asc, len, g, fun fs H2 dd s2 n2 e2 l2 => ?_⟩
        refine ⟨X.ms, CW, dd, fs, _, rfl, X.s, XW.hw, rfl, e2, l2, fun T2 nT2 => ?_⟩
        have s3 := sm_upd (o := .tup [.non, .str "badwalls"]) (sm_trans s8 s2) nT2
        refine ⟨T2, _, rfl, SqT.of upd_same, rfl, _, _, rfl, _, _, rfl, rfl, ?_⟩
        generalize (upd H2 T2 (HO.tup [V.non, V.str (Str.ofString "badwalls")])) = H3 at s3 ⊢
        refine ⟨_, rfl, _, rfl, l, rfl, asc, len, fun H4 b s4 hb => ?_⟩
        have e4 : b = false := by
          cases b with
          | false => rfl
          | true => exact absurd (hb.mp rfl) g
        subst e4
        refine ⟨_, rfl, iteF ⟨rfl, _, rfl, ?_⟩⟩
        rw [decide_eq_true rfl]
        refine iteF ?_
        refine ⟨_, rfl, rfl, _, rfl, ?_⟩
        rw [decide_eq_false (by decide +kernel)]
        exact iteF ⟨_, _, _, _, _, rfl, A1.same (sm_trans s3 s4)⟩
    rintro σ Ha ⟨y2, y3, y4, y5, y6, rfl, Sa⟩
    refine ⟨_, rfl, rfl, d, _, rfl, Sa.dr, .inr ⟨ltrs, rfl, by decide, by decide, fun H1 c1 s1 D1 hc => ?_⟩⟩
    have S1 := Sa.smd s1 D1
    have cr : 97 ≤ c1 ∧ c1 ≤ 122 := (by decide : ∀ c ∈ ltrs, 97 ≤ c ∧ c ≤ 122) c1 hc
    have uc : Txt.upper (sg c1) = sg (upc c1) := upper_tx (l := [c1]) (fun e he => by rw [List.mem_singleton.mp he]; omega)
    have e1 : swp c1 = upc c1 := by rw [swp_small cr, upc_small cr]
    have e2 : swp (upc c1) = c1 := by rw [upc_small cr, swp_great (by omega)]; omega
    refine ⟨_, rfl, c1, rfl, by omega, ?_⟩
    rw [e1]
    refine ⟨_, rfl, ⟨_, rfl⟩, _, rfl, rfl, by show 1 ≤ 5592405; decide, ?_⟩
    rw [uc]
    refine ⟨upc c1, rfl, by rw [upc_small cr]; omega, ?_⟩
    rw [e2]
    refine ⟨by show 3 ≤ sizeLine; decide, fun p np => ?_⟩
    refine ⟨_, rfl, ⟨_, rfl⟩, _, rfl, rfl, by show 1 ≤ 5592405; decide, ?_⟩
    rw [uc]
    refine ⟨_, rfl, by show 3 ≤ sizeLine; decide, fun p2 np2 => ?_⟩
    have s2 := same_upd (o := .lst [.str (sg (upc c1)), .str (sg c1), .int 12]) np2
    refine ⟨_, _, rfl, .lst (s2 _ _ upd_same) upd_same rfl (by show 3 ≤ 5000; decide) (fun i a b ha hb => ?_), fun H2 s3 => ⟨_, rfl, iteF ?_⟩⟩
    · match i, ha, hb with
      | 0, ha, hb => cases ha; cases hb; exact .str _
      | 1, ha, hb => cases ha; cases hb; exact .str _
      | 2, ha, hb => cases ha; cases hb; exact .int _
    have S2 := S1.same (sm_trans (same_upd np) (sm_trans s2 s3))
    have es : (Str.ofString "") = tx [] := by decide +kernel
    have eb : (Str.ofString "ba") = tx [98, 97] := by decide +kernel
    refine ⟨S2.T, fun zf1 zG1 zx1 zt1 zl1 => ⟨by show 1 ≤ sizeLine; decide, fun zLA znLA => ?_⟩⟩
    have zK1 := Kp.one (Sx := fun G => LamX.Tabs [(PT_, lamN (.ref c))] G) zl1 znLA (zt1.ext (same_upd znLA))
    refine ⟨_, rfl, .inl ⟨rfl, _, SqL.of zK1.e⟩, zK1.S, fun zf2 zG2 zx2 zt2 zl2 => ⟨zLA, _, _, rfl, rfl, zx2 _ _ zK1.e (fun _ z => by cases z), by show 1 < sizeLine; decide, ?_⟩⟩
    have zK2 := zK1.snoc zx2 zl2 (tabs_upd zt2 (zx2 _ _ zK1.e (fun _ z => by cases z)))
    have zeA := zK2.e
    have zSA := zK2.S
    have zlo := zK2.lo
    generalize (upd zG2 zLA _) = zGZ at zeA zSA zlo ⊢
    refine ⟨_, rfl, zLA, rfl, ⟨_, SqL.of zeA⟩, fun zDe zne => ?_⟩
    refine lc_it (walk_list (K := K) (a := zLA) (xs := _)) (fun i H' => Same zGZ H' ∧ H' zDe = some (.lst ((List.replicate i true).map V.bl))) ⟨same_upd zne, upd_same⟩ (fun i H' _ h => SqL.of (h.1 _ _ zeA)) ?_ ?_
    · rintro i v Hc Hd hi ⟨ua, ea⟩ ⟨rfl, hv⟩
      rw [List.getElem?_map] at hv
      obtain ⟨fi, hfi, rfl⟩ := Option.map_eq_some_iff.mp hv
      have hin : i < 2 := hi
      have cont : ∀ G', Same Hd G' → ∃ acc, G' zDe = some (.lst acc) ∧ acc.length < sizeLine ∧ Same zGZ (upd G' zDe (.lst (acc ++ [.bl true]))) ∧ (upd G' zDe (.lst (acc ++ [.bl true]))) zDe = some (.lst ((List.replicate (i + 1) true).map V.bl)) := fun G' s' => by
        refine ⟨_, s' _ _ ea, ?_, sm_over (sm_trans ua s') zne, ?_⟩
        · rw [List.length_map, List.length_replicate, sizeLine_eq]
          omega
        · rw [upd_same, List.replicate_succ', List.map_append]
          rfl
      match i, hin, hfi, cont with
      | 0, _, hfi, cont => exact ⟨rfl, yes_i ⟨_, rfl, rfl, ref_yesF ((zlo 0 _ _ hfi rfl).same ua) okW X.ms X.s XW.hw (fun E R hE => ⟨by show 1 ≤ sizeLine; decide, fun q1 nq1 => fun x dx nx ndx nne => ⟨x, [], _, congrArg (fun z => [V.ref x, .str z, .ref q1]) es, fun c h => (by cases h), by decide, fun g => absurd g.lo (by decide), hE.later (sm_upd (sm_upd (same_upd nq1) ndx) (by rw [upd_ne (Ne.symm nne)]; exact nx))⟩⟩) cont⟩⟩
      | 1, _, hfi, cont => exact ⟨rfl, yes_i ⟨_, rfl, rfl, ref_yesF ((zlo 1 _ _ hfi rfl).same ua) okW X.ms X.s XW.hw (fun E R hE => ⟨by show 1 ≤ sizeLine; decide, fun q1 nq1 => fun x dx nx ndx nne => ⟨x, [98, 97], _, congrArg (fun z => [V.ref x, .str z, .ref q1]) eb, by decide, by decide, fun g => absurd g.rise (by decide), hE.later (sm_upd (sm_upd (same_upd nq1) ndx) (by rw [upd_ne (Ne.symm nne)]; exact nx))⟩⟩) cont⟩⟩
    rintro zHE ⟨zua, zea⟩
    refine ⟨zDe, _, rfl, SqL.of zea, ?_⟩
    rw [all_rep]
    exact q zHE
end
end NC
namespace NC
open PySem PySem.Spec PyProof.Rows L2
theorem exm_of {K : PySem.W.Frag} {R S : Addr} {b : Bool} (h1 : PySem.W.subIn K (.ref S) (.type "BaseException") = some true) (h2 : PySem.W.isClsIn K S = true) (h3 : PySem.W.typeIn K (.ref S) = some (.type "type")) (h4 : PySem.W.subIn K (.ref R) (.ref S) = some b) :
    PySem.W.exmOne K (.ref R) (.ref S) = some b := by
  have e1 : (PySem.W.subIn K (.ref S) (.type "BaseException") == some true) = true := by rw [h1] <;> rfl
  have e2 : ((PySem.W.clsIn K S).isSome && PySem.W.typeIn K (.ref S) == some (.type "type")) = true := by
    have h2' : (PySem.W.clsIn K S).isSome = true := h2
    rw [h2', h3] <;> rfl
  show (if (PySem.W.subIn K (.ref S) (.type "BaseException") == some true) = true then (if ((PySem.W.clsIn K S).isSome && PySem.W.typeIn K (.ref S) == some (.type "type")) = true then PySem.W.subIn K (.ref R) (.ref S) else none) else none) = some b
  rw [if_pos e1, if_pos e2]
  exact h4
theorem exmAny_of {K : PySem.W.Frag} {cls c : Value} {r : List Value} {a b : Bool} (h1 : PySem.W.exmOne K cls c = some a) (h2 : PySem.W.exmAny K cls r = some b) : PySem.W.exmAny K cls (c :: r) = some (a || b) := by
  unfold PySem.W.exmAny
  rw [h1, h2]
set_option maxHeartbeats 4000000 in
theorem all_mk {l : PySem.W.OpenLaw} {w : World} {K : PySem.W.Frag} {h : Heap} {mg : Str → Option Value} {fa : Addr} {PT : Addr} (X : K.In h) (G : h.Ns mainGlobals mg) (hfa : mg "law" = some (.ref fa)) (hPT : h.get? PT = some { cls := .none, data := .fields #[] }) (nPT : K.lookup PT = none)
    {f_O : Addr} {oc_O kV_O dc_O pm_O cd_O ct_O : Value} {od_O an_O : Option Addr} {sl_O : Array (Option Value)}
    {f_S : Addr} {oc_S kV_S dc_S pm_S cd_S ct_S : Value} {od_S an_S : Option Addr} {sl_S : Array (Option Value)}
    {f_Y : Addr} {oc_Y kV_Y dc_Y pm_Y cd_Y ct_Y : Value} {od_Y an_Y : Option Addr} {sl_Y : Array (Option Value)}
    {f_W : Addr} {oc_W kV_W dc_W pm_W cd_W ct_W : Value} {od_W an_W : Option Addr} {sl_W : Array (Option Value)}
    {f_I : Addr} {oc_I kV_I dc_I pm_I cd_I ct_I : Value} {od_I an_I : Option Addr} {sl_I : Array (Option Value)}
    {f_cw : Addr} {oc_cw kV_cw dc_cw pm_cw cd_cw ct_cw : Value} {od_cw an_cw : Option Addr} {sl_cw : Array (Option Value)}
    {f_cb : Addr} {oc_cb kV_cb dc_cb pm_cb cd_cb ct_cb : Value} {od_cb an_cb : Option Addr} {sl_cb : Array (Option Value)}
    {f_cs : Addr} {oc_cs kV_cs dc_cs pm_cs cd_cs ct_cs : Value} {od_cs an_cs : Option Addr} {sl_cs : Array (Option Value)}
    {f_st : Addr} {oc_st kV_st dc_st pm_st cd_st ct_st : Value} {od_st an_st : Option Addr} {sl_st : Array (Option Value)}
    {f_re : Addr} {oc_re kV_re dc_re pm_re cd_re ct_re : Value} {od_re an_re : Option Addr} {sl_re : Array (Option Value)}
    {f_af : Addr} {oc_af kV_af dc_af pm_af cd_af ct_af : Value} {od_af an_af : Option Addr} {sl_af : Array (Option Value)}
    {f_cf : Addr} {oc_cf kV_cf dc_cf pm_cf cd_cf ct_cf : Value} {od_cf an_cf : Option Addr} {sl_cf : Array (Option Value)}
    {f_ca : Addr} {oc_ca kV_ca dc_ca pm_ca cd_ca ct_ca : Value} {od_ca an_ca : Option Addr} {sl_ca : Array (Option Value)}
    {f_start : Addr} {oc_start kV_start dc_start pm_start cd_start ct_start : Value} {od_start an_start : Option Addr} {sl_start : Array (Option Value)}
    {f_draw : Addr} {oc_draw kV_draw dc_draw pm_draw cd_draw ct_draw : Value} {od_draw an_draw : Option Addr} {sl_draw : Array (Option Value)}
    {f_of : Addr} {oc_of kV_of dc_of pm_of cd_of ct_of : Value} {od_of an_of : Option Addr} {sl_of : Array (Option Value)}
    {f_letters : Addr} {oc_letters kV_letters dc_letters pm_letters cd_letters ct_letters : Value} {od_letters an_letters : Option Addr} {sl_letters : Array (Option Value)}
    {f_shuts : Addr} {oc_shuts kV_shuts dc_shuts pm_shuts cd_shuts ct_shuts : Value} {od_shuts an_shuts : Option Addr} {sl_shuts : Array (Option Value)}
    {f_same : Addr} {oc_same kV_same dc_same pm_same cd_same ct_same : Value} {od_same an_same : Option Addr} {sl_same : Array (Option Value)}
    {f_word : Addr} {oc_word kV_word dc_word pm_word cd_word ct_word : Value} {od_word an_word : Option Addr} {sl_word : Array (Option Value)}
    {f_ref : Addr} {oc_ref kV_ref dc_ref pm_ref cd_ref ct_ref : Value} {od_ref an_ref : Option Addr} {sl_ref : Array (Option Value)}
    {f_text : Addr} {oc_text kV_text dc_text pm_text cd_text ct_text : Value} {od_text an_text : Option Addr} {sl_text : Array (Option Value)}
    {f_good : Addr} {oc_good kV_good dc_good pm_good cd_good ct_good : Value} {od_good an_good : Option Addr} {sl_good : Array (Option Value)}
    {CH : Addr}
    {CB : Addr}
    {CF : Addr}
    {CA : Addr}
    {CW : Addr}
    {CM : Addr}
    {CN : Addr}
    {nm_CB q_CB : Str} {N_CB : Addr} {bs_CB bm_CB sub_CB : List Value} {sn_CB : List Str} {ab_CB : Bool} {col_CB : Option Bool} {dd_CB : Option Addr} {m0_CB m1_CB m2_CB m3_CB m5_CB : Option Value}
    {nm_CF q_CF : Str} {N_CF : Addr} {bs_CF bm_CF sub_CF : List Value} {sn_CF : List Str} {ab_CF : Bool} {col_CF : Option Bool} {dd_CF : Option Addr} {m0_CF m1_CF m2_CF m3_CF m5_CF : Option Value}
    {nm_CA q_CA : Str} {N_CA : Addr} {bs_CA bm_CA sub_CA : List Value} {sn_CA : List Str} {ab_CA : Bool} {col_CA : Option Bool} {dd_CA : Option Addr} {m0_CA m1_CA m2_CA m3_CA m5_CA : Option Value}
    {nm_CW q_CW : Str} {N_CW : Addr} {bs_CW bm_CW sub_CW : List Value} {sn_CW : List Str} {ab_CW : Bool} {col_CW : Option Bool} {dd_CW : Option Addr} {m0_CW m1_CW m2_CW m3_CW m5_CW : Option Value}
    {f_iH : Addr} {oc_iH kV_iH dc_iH pm_iH cd_iH ct_iH : Value} {od_iH an_iH : Option Addr} {sl_iH : Array (Option Value)}
    {f_iB : Addr} {oc_iB kV_iB dc_iB pm_iB cd_iB ct_iB : Value} {od_iB an_iB : Option Addr} {sl_iB : Array (Option Value)}
    {f_iF : Addr} {oc_iF kV_iF dc_iF pm_iF cd_iF ct_iF : Value} {od_iF an_iF : Option Addr} {sl_iF : Array (Option Value)}
    {f_iA : Addr} {oc_iA kV_iA dc_iA pm_iA cd_iA ct_iA : Value} {od_iA an_iA : Option Addr} {sl_iA : Array (Option Value)}
    {f_iW : Addr} {oc_iW kV_iW dc_iW pm_iW cd_iW ct_iW : Value} {od_iW an_iW : Option Addr} {sl_iW : Array (Option Value)}
    {T_hi e_hi : Addr} {oc_T : Value} {od_T : Option Addr} {n_T : Nat} {sl_T : Array (Option Value)}
    {C : Addr}
    {f_hb : Addr} {oc_hb kV_hb dc_hb pm_hb cd_hb ct_hb : Value} {od_hb an_hb : Option Addr} {sl_hb : Array (Option Value)}
    {f_hwl : Addr} {oc_hwl kV_hwl dc_hwl pm_hwl cd_hwl ct_hwl : Value} {od_hwl an_hwl : Option Addr} {sl_hwl : Array (Option Value)}
    {f_hln : Addr} {oc_hln kV_hln dc_hln pm_hln cd_hln ct_hln : Value} {od_hln an_hln : Option Addr} {sl_hln : Array (Option Value)}
    {f_hi : Addr} {oc_hi kV_hi dc_hi pm_hi cd_hi ct_hi : Value} {od_hi an_hi : Option Addr} {sl_hi : Array (Option Value)}
    {od_e : Option Addr} {n_e : Nat} {sl_e : Array (Option Value)}
    {tw : Tok}
    {c : Addr} {fL : Addr} {ocL kVL dcL pmL ctL : Value} {odL anL : Option Addr} {slL : Array (Option Value)}
    (a_O : PySem.W.nsIn K mainGlobals "other" = some (some (.ref f_O)))
    (l_O : K.lookup f_O = some ⟨oc_O, od_O, .func (PySem.W.fnOf "other" "other" (defArgs sOther) (defBody sOther) (defScope sOther) .none kV_O dc_O pm_O an_O cd_O ct_O), sl_O⟩)
    (c_O : PySem.W.codeIn K cd_O "other" = true)
    (k_O : PySem.W.keepIn K (.ref f_O) = true)
    (a_S : PySem.W.nsIn K mainGlobals "sides_of" = some (some (.ref f_S)))
    (l_S : K.lookup f_S = some ⟨oc_S, od_S, .func (PySem.W.fnOf "sides_of" "sides_of" (defArgs sSides) (defBody sSides) (defScope sSides) .none kV_S dc_S pm_S an_S cd_S ct_S), sl_S⟩)
    (c_S : PySem.W.codeIn K cd_S "sides_of" = true)
    (k_S : PySem.W.keepIn K (.ref f_S) = true)
    (a_Y : PySem.W.nsIn K mainGlobals "by_walls" = some (some (.ref f_Y)))
    (l_Y : K.lookup f_Y = some ⟨oc_Y, od_Y, .func (PySem.W.fnOf "by_walls" "by_walls" (defArgs sByWalls) (defBody sByWalls) (defScope sByWalls) .none kV_Y dc_Y pm_Y an_Y cd_Y ct_Y), sl_Y⟩)
    (c_Y : PySem.W.codeIn K cd_Y "by_walls" = true)
    (k_Y : PySem.W.keepIn K (.ref f_Y) = true)
    (a_W : PySem.W.nsIn K mainGlobals "is_walls" = some (some (.ref f_W)))
    (l_W : K.lookup f_W = some ⟨oc_W, od_W, .func (PySem.W.fnOf "is_walls" "is_walls" (defArgs sIsWalls) (defBody sIsWalls) (defScope sIsWalls) .none kV_W dc_W pm_W an_W cd_W ct_W), sl_W⟩)
    (c_W : PySem.W.codeIn K cd_W "is_walls" = true)
    (k_W : PySem.W.keepIn K (.ref f_W) = true)
    (a_I : PySem.W.nsIn K mainGlobals "is_bar" = some (some (.ref f_I)))
    (l_I : K.lookup f_I = some ⟨oc_I, od_I, .func (PySem.W.fnOf "is_bar" "is_bar" (defArgs sIsBar) (defBody sIsBar) (defScope sIsBar) .none kV_I dc_I pm_I an_I cd_I ct_I), sl_I⟩)
    (c_I : PySem.W.codeIn K cd_I "is_bar" = true)
    (k_I : PySem.W.keepIn K (.ref f_I) = true)
    (a_cw : PySem.W.nsIn K mainGlobals "check_walls" = some (some (.ref f_cw)))
    (l_cw : K.lookup f_cw = some ⟨oc_cw, od_cw, .func (PySem.W.fnOf "check_walls" "check_walls" (defArgs sChkWalls) (defBody sChkWalls) (defScope sChkWalls) .none kV_cw dc_cw pm_cw an_cw cd_cw ct_cw), sl_cw⟩)
    (c_cw : PySem.W.codeIn K cd_cw "check_walls" = true)
    (k_cw : PySem.W.keepIn K (.ref f_cw) = true)
    (a_cb : PySem.W.nsIn K mainGlobals "check_bars" = some (some (.ref f_cb)))
    (l_cb : K.lookup f_cb = some ⟨oc_cb, od_cb, .func (PySem.W.fnOf "check_bars" "check_bars" (defArgs sChkBars) (defBody sChkBars) (defScope sChkBars) .none kV_cb dc_cb pm_cb an_cb cd_cb ct_cb), sl_cb⟩)
    (c_cb : PySem.W.codeIn K cd_cb "check_bars" = true)
    (k_cb : PySem.W.keepIn K (.ref f_cb) = true)
    (a_cs : PySem.W.nsIn K mainGlobals "check_side" = some (some (.ref f_cs)))
    (l_cs : K.lookup f_cs = some ⟨oc_cs, od_cs, .func (PySem.W.fnOf "check_side" "check_side" (defArgs sChkSide) (defBody sChkSide) (defScope sChkSide) .none kV_cs dc_cs pm_cs an_cs cd_cs ct_cs), sl_cs⟩)
    (c_cs : PySem.W.codeIn K cd_cs "check_side" = true)
    (k_cs : PySem.W.keepIn K (.ref f_cs) = true)
    (a_st : PySem.W.nsIn K mainGlobals "straight_from" = some (some (.ref f_st)))
    (l_st : K.lookup f_st = some ⟨oc_st, od_st, .func (PySem.W.fnOf "straight_from" "straight_from" (defArgs sStraight) (defBody sStraight) (defScope sStraight) .none kV_st dc_st pm_st an_st cd_st ct_st), sl_st⟩)
    (c_st : PySem.W.codeIn K cd_st "straight_from" = true)
    (k_st : PySem.W.keepIn K (.ref f_st) = true)
    (a_re : PySem.W.nsIn K mainGlobals "reached" = some (some (.ref f_re)))
    (l_re : K.lookup f_re = some ⟨oc_re, od_re, .func (PySem.W.fnOf "reached" "reached" (defArgs sReached) (defBody sReached) (defScope sReached) .none kV_re dc_re pm_re an_re cd_re ct_re), sl_re⟩)
    (c_re : PySem.W.codeIn K cd_re "reached" = true)
    (k_re : PySem.W.keepIn K (.ref f_re) = true)
    (a_af : PySem.W.nsIn K mainGlobals "all_forced" = some (some (.ref f_af)))
    (l_af : K.lookup f_af = some ⟨oc_af, od_af, .func (PySem.W.fnOf "all_forced" "all_forced" (defArgs sAllF) (defBody sAllF) (defScope sAllF) .none kV_af dc_af pm_af an_af cd_af ct_af), sl_af⟩)
    (c_af : PySem.W.codeIn K cd_af "all_forced" = true)
    (k_af : PySem.W.keepIn K (.ref f_af) = true)
    (a_cf : PySem.W.nsIn K mainGlobals "check_fixed" = some (some (.ref f_cf)))
    (l_cf : K.lookup f_cf = some ⟨oc_cf, od_cf, .func (PySem.W.fnOf "check_fixed" "check_fixed" (defArgs sChkFix) (defBody sChkFix) (defScope sChkFix) .none kV_cf dc_cf pm_cf an_cf cd_cf ct_cf), sl_cf⟩)
    (c_cf : PySem.W.codeIn K cd_cf "check_fixed" = true)
    (k_cf : PySem.W.keepIn K (.ref f_cf) = true)
    (a_ca : PySem.W.nsIn K mainGlobals "check_alike" = some (some (.ref f_ca)))
    (l_ca : K.lookup f_ca = some ⟨oc_ca, od_ca, .func (PySem.W.fnOf "check_alike" "check_alike" (defArgs sChkAl) (defBody sChkAl) (defScope sChkAl) .none kV_ca dc_ca pm_ca an_ca cd_ca ct_ca), sl_ca⟩)
    (c_ca : PySem.W.codeIn K cd_ca "check_alike" = true)
    (k_ca : PySem.W.keepIn K (.ref f_ca) = true)
    (a_start : PySem.W.nsIn K mainGlobals "_law_start" = some (some (.ref f_start)))
    (l_start : K.lookup f_start = some ⟨oc_start, od_start, .func (PySem.W.fnOf "_law_start" "_law_start" (defArgs sStart) (defBody sStart) (defScope sStart) .none kV_start dc_start pm_start an_start cd_start ct_start), sl_start⟩)
    (c_start : PySem.W.codeIn K cd_start "_law_start" = true)
    (k_start : PySem.W.keepIn K (.ref f_start) = true)
    (a_draw : PySem.W.nsIn K mainGlobals "_law_draw" = some (some (.ref f_draw)))
    (l_draw : K.lookup f_draw = some ⟨oc_draw, od_draw, .func (PySem.W.fnOf "_law_draw" "_law_draw" (defArgs sDraw) (defBody sDraw) (defScope sDraw) .none kV_draw dc_draw pm_draw an_draw cd_draw ct_draw), sl_draw⟩)
    (c_draw : PySem.W.codeIn K cd_draw "_law_draw" = true)
    (k_draw : PySem.W.keepIn K (.ref f_draw) = true)
    (a_of : PySem.W.nsIn K mainGlobals "_law_of" = some (some (.ref f_of)))
    (l_of : K.lookup f_of = some ⟨oc_of, od_of, .func (PySem.W.fnOf "_law_of" "_law_of" (defArgs sOf) (defBody sOf) (defScope sOf) .none kV_of dc_of pm_of an_of cd_of ct_of), sl_of⟩)
    (c_of : PySem.W.codeIn K cd_of "_law_of" = true)
    (k_of : PySem.W.keepIn K (.ref f_of) = true)
    (a_letters : PySem.W.nsIn K mainGlobals "_law_letters" = some (some (.ref f_letters)))
    (l_letters : K.lookup f_letters = some ⟨oc_letters, od_letters, .func (PySem.W.fnOf "_law_letters" "_law_letters" (defArgs sLetters) (defBody sLetters) (defScope sLetters) .none kV_letters dc_letters pm_letters an_letters cd_letters ct_letters), sl_letters⟩)
    (c_letters : PySem.W.codeIn K cd_letters "_law_letters" = true)
    (k_letters : PySem.W.keepIn K (.ref f_letters) = true)
    (a_shuts : PySem.W.nsIn K mainGlobals "_law_shuts" = some (some (.ref f_shuts)))
    (l_shuts : K.lookup f_shuts = some ⟨oc_shuts, od_shuts, .func (PySem.W.fnOf "_law_shuts" "_law_shuts" (defArgs sShuts) (defBody sShuts) (defScope sShuts) .none kV_shuts dc_shuts pm_shuts an_shuts cd_shuts ct_shuts), sl_shuts⟩)
    (c_shuts : PySem.W.codeIn K cd_shuts "_law_shuts" = true)
    (k_shuts : PySem.W.keepIn K (.ref f_shuts) = true)
    (a_same : PySem.W.nsIn K mainGlobals "_law_same" = some (some (.ref f_same)))
    (l_same : K.lookup f_same = some ⟨oc_same, od_same, .func (PySem.W.fnOf "_law_same" "_law_same" (defArgs sSame) (defBody sSame) (defScope sSame) .none kV_same dc_same pm_same an_same cd_same ct_same), sl_same⟩)
    (c_same : PySem.W.codeIn K cd_same "_law_same" = true)
    (k_same : PySem.W.keepIn K (.ref f_same) = true)
    (a_word : PySem.W.nsIn K mainGlobals "_law_word" = some (some (.ref f_word)))
    (l_word : K.lookup f_word = some ⟨oc_word, od_word, .func (PySem.W.fnOf "_law_word" "_law_word" (defArgs sWord) (defBody sWord) (defScope sWord) .none kV_word dc_word pm_word an_word cd_word ct_word), sl_word⟩)
    (c_word : PySem.W.codeIn K cd_word "_law_word" = true)
    (k_word : PySem.W.keepIn K (.ref f_word) = true)
    (a_ref : PySem.W.nsIn K mainGlobals "_law_refused" = some (some (.ref f_ref)))
    (l_ref : K.lookup f_ref = some ⟨oc_ref, od_ref, .func (PySem.W.fnOf "_law_refused" "_law_refused" (defArgs sRef) (defBody sRef) (defScope sRef) .none kV_ref dc_ref pm_ref an_ref cd_ref ct_ref), sl_ref⟩)
    (c_ref : PySem.W.codeIn K cd_ref "_law_refused" = true)
    (k_ref : PySem.W.keepIn K (.ref f_ref) = true)
    (a_text : PySem.W.nsIn K mainGlobals "_law_text" = some (some (.ref f_text)))
    (l_text : K.lookup f_text = some ⟨oc_text, od_text, .func (PySem.W.fnOf "_law_text" "_law_text" (defArgs sText) (defBody sText) (defScope sText) .none kV_text dc_text pm_text an_text cd_text ct_text), sl_text⟩)
    (c_text : PySem.W.codeIn K cd_text "_law_text" = true)
    (k_text : PySem.W.keepIn K (.ref f_text) = true)
    (a_good : PySem.W.nsIn K mainGlobals "_law_good" = some (some (.ref f_good)))
    (l_good : K.lookup f_good = some ⟨oc_good, od_good, .func (PySem.W.fnOf "_law_good" "_law_good" (defArgs sGood) (defBody sGood) (defScope sGood) .none kV_good dc_good pm_good an_good cd_good ct_good), sl_good⟩)
    (c_good : PySem.W.codeIn K cd_good "_law_good" = true)
    (k_good : PySem.W.keepIn K (.ref f_good) = true)
    (a_CH : PySem.W.nsIn K mainGlobals "HallError" = some (some (.ref CH)))
    (a_CB : PySem.W.nsIn K mainGlobals "BadBar" = some (some (.ref CB)))
    (a_CF : PySem.W.nsIn K mainGlobals "Fixed" = some (some (.ref CF)))
    (a_CA : PySem.W.nsIn K mainGlobals "Alike" = some (some (.ref CA)))
    (a_CW : PySem.W.nsIn K mainGlobals "BadWalls" = some (some (.ref CW)))
    (a_CM : PySem.W.nsIn K mainGlobals "Missing" = some (some (.ref CM)))
    (a_CN : PySem.W.nsIn K mainGlobals "NothingLeft" = some (some (.ref CN)))
    (i_H : PySem.W.findCls K (.ref CH) (.type "type") "__init__" = some (.val (.ref f_iH)))
    (r_H : PySem.W.readsIn K CH (.type "type") = true)
    (g_H : PySem.W.specialIn K (.ref CH) "__getattribute__" = some (some (.builtin "type.__getattribute__")))
    (v_V : PySem.W.findCls K (.type "ValueError") (.type "type") "__init__" = some (.val (.builtin "ValueError.__init__")))
    (x_CB : K.lookup CB = some (excClassObj nm_CB q_CB CB N_CB bs_CB bm_CB true sn_CB sub_CB ab_CB col_CB dd_CB m0_CB m1_CB m2_CB m3_CB m5_CB "ValueError.__new__"))
    (rv_CB : PySem.HandSPX.refsVE bm_CB = true)
    (sa_CB : PySem.W.findIn K (.ref CB) "__setattr__" = some (some (.builtin "object.__setattr__")))
    (ex_CB : PySem.W.subIn K (.ref CB) (.type "BaseException") = some true)
    (ty_CB : PySem.W.typeIn K (.ref CB) = some (.type "type"))
    (kc_CB : PySem.W.keepIn K (.ref CB) = true)
    (i_CB : PySem.W.findIn K (.ref CB) "__init__" = some (some (.ref f_iB)))
    (t_CB : PySem.W.typeIn K (.ref f_iB) = some (.type "function"))
    (n_CB_word : PySem.W.findIn K (.ref CB) "word" = some none)
    (n_CB_at : PySem.W.findIn K (.ref CB) "at" = some none)
    (x_CF : K.lookup CF = some (excClassObj nm_CF q_CF CF N_CF bs_CF bm_CF true sn_CF sub_CF ab_CF col_CF dd_CF m0_CF m1_CF m2_CF m3_CF m5_CF "ValueError.__new__"))
    (rv_CF : PySem.HandSPX.refsVE bm_CF = true)
    (sa_CF : PySem.W.findIn K (.ref CF) "__setattr__" = some (some (.builtin "object.__setattr__")))
    (ex_CF : PySem.W.subIn K (.ref CF) (.type "BaseException") = some true)
    (ty_CF : PySem.W.typeIn K (.ref CF) = some (.type "type"))
    (kc_CF : PySem.W.keepIn K (.ref CF) = true)
    (i_CF : PySem.W.findIn K (.ref CF) "__init__" = some (some (.ref f_iF)))
    (t_CF : PySem.W.typeIn K (.ref f_iF) = some (.type "function"))
    (n_CF_word : PySem.W.findIn K (.ref CF) "word" = some none)
    (n_CF_side : PySem.W.findIn K (.ref CF) "side" = some none)
    (x_CA : K.lookup CA = some (excClassObj nm_CA q_CA CA N_CA bs_CA bm_CA true sn_CA sub_CA ab_CA col_CA dd_CA m0_CA m1_CA m2_CA m3_CA m5_CA "ValueError.__new__"))
    (rv_CA : PySem.HandSPX.refsVE bm_CA = true)
    (sa_CA : PySem.W.findIn K (.ref CA) "__setattr__" = some (some (.builtin "object.__setattr__")))
    (ex_CA : PySem.W.subIn K (.ref CA) (.type "BaseException") = some true)
    (ty_CA : PySem.W.typeIn K (.ref CA) = some (.type "type"))
    (kc_CA : PySem.W.keepIn K (.ref CA) = true)
    (i_CA : PySem.W.findIn K (.ref CA) "__init__" = some (some (.ref f_iA)))
    (t_CA : PySem.W.typeIn K (.ref f_iA) = some (.type "function"))
    (n_CA_word : PySem.W.findIn K (.ref CA) "word" = some none)
    (n_CA_one : PySem.W.findIn K (.ref CA) "one" = some none)
    (n_CA_other : PySem.W.findIn K (.ref CA) "other" = some none)
    (x_CW : K.lookup CW = some (excClassObj nm_CW q_CW CW N_CW bs_CW bm_CW true sn_CW sub_CW ab_CW col_CW dd_CW m0_CW m1_CW m2_CW m3_CW m5_CW "ValueError.__new__"))
    (rv_CW : PySem.HandSPX.refsVE bm_CW = true)
    (sa_CW : PySem.W.findIn K (.ref CW) "__setattr__" = some (some (.builtin "object.__setattr__")))
    (ga_CW : PySem.W.findIn K (.ref CW) "__getattribute__" = some (some (.builtin "BaseException.__getattribute__")))
    (gg_CW : PySem.W.findIn K (.ref CW) "__getattr__" = some none)
    (hd_CW : PySem.W.hasDictIn K CW = true)
    (ex_CW : PySem.W.subIn K (.ref CW) (.type "BaseException") = some true)
    (ty_CW : PySem.W.typeIn K (.ref CW) = some (.type "type"))
    (kc_CW : PySem.W.keepIn K (.ref CW) = true)
    (i_CW : PySem.W.findIn K (.ref CW) "__init__" = some (some (.ref f_iW)))
    (t_CW : PySem.W.typeIn K (.ref f_iW) = some (.type "function"))
    (n_CW_word : PySem.W.findIn K (.ref CW) "word" = some none)
    (l_iH : K.lookup f_iH = some ⟨oc_iH, od_iH, .func (PySem.W.fnOf "__init__" "HallError.__init__" (defArgs sHEinit) (defBody sHEinit) (defScope sHEinit) .none kV_iH dc_iH pm_iH an_iH cd_iH ct_iH), sl_iH⟩)
    (c_iH : PySem.W.codeIn K cd_iH "HallError.__init__" = true)
    (k_iH : PySem.W.keepIn K (.ref f_iH) = true)
    (l_iB : K.lookup f_iB = some ⟨oc_iB, od_iB, .func (PySem.W.fnOf "__init__" "BadBar.__init__" (defArgs sBBinit) (defBody sBBinit) (defScope sBBinit) .none kV_iB dc_iB pm_iB an_iB cd_iB ct_iB), sl_iB⟩)
    (c_iB : PySem.W.codeIn K cd_iB "BadBar.__init__" = true)
    (k_iB : PySem.W.keepIn K (.ref f_iB) = true)
    (l_iF : K.lookup f_iF = some ⟨oc_iF, od_iF, .func (PySem.W.fnOf "__init__" "Fixed.__init__" (defArgs sFXinit) (defBody sFXinit) (defScope sFXinit) .none kV_iF dc_iF pm_iF an_iF cd_iF ct_iF), sl_iF⟩)
    (c_iF : PySem.W.codeIn K cd_iF "Fixed.__init__" = true)
    (k_iF : PySem.W.keepIn K (.ref f_iF) = true)
    (l_iA : K.lookup f_iA = some ⟨oc_iA, od_iA, .func (PySem.W.fnOf "__init__" "Alike.__init__" (defArgs sALinit) (defBody sALinit) (defScope sALinit) .none kV_iA dc_iA pm_iA an_iA cd_iA ct_iA), sl_iA⟩)
    (c_iA : PySem.W.codeIn K cd_iA "Alike.__init__" = true)
    (k_iA : PySem.W.keepIn K (.ref f_iA) = true)
    (l_iW : K.lookup f_iW = some ⟨oc_iW, od_iW, .func (PySem.W.fnOf "__init__" "BadWalls.__init__" (defArgs sBWinit) (defBody sBWinit) (defScope sBWinit) .none kV_iW dc_iW pm_iW an_iW cd_iW ct_iW), sl_iW⟩)
    (c_iW : PySem.W.codeIn K cd_iW "BadWalls.__init__" = true)
    (k_iW : PySem.W.keepIn K (.ref f_iW) = true)
    (e_CW_CH : PySem.W.subIn K (.ref CW) (.ref CH) = some true)
    (e_CW_CM : PySem.W.subIn K (.ref CW) (.ref CM) = some false)
    (e_CW_CN : PySem.W.subIn K (.ref CW) (.ref CN) = some false)
    (ex_CH : PySem.W.subIn K (.ref CH) (.type "BaseException") = some true)
    (ty_CH : PySem.W.typeIn K (.ref CH) = some (.type "type"))
    (ic_CH : PySem.W.isClsIn K CH = true)
    (ex_CM : PySem.W.subIn K (.ref CM) (.type "BaseException") = some true)
    (ty_CM : PySem.W.typeIn K (.ref CM) = some (.type "type"))
    (ic_CM : PySem.W.isClsIn K CM = true)
    (ex_CN : PySem.W.subIn K (.ref CN) (.type "BaseException") = some true)
    (ty_CN : PySem.W.typeIn K (.ref CN) = some (.type "type"))
    (ic_CN : PySem.W.isClsIn K CN = true)
    (a_C : PySem.W.nsIn K mainGlobals "Hall" = some (some (.ref C)))
    (i_C : PySem.W.findIn K (.ref C) "__init__" = some (some (.ref f_hi)))
    (j_C : PySem.W.isFn K (.ref f_hi) = true)
    (pg_C : PySem.W.plainGet K C Str.empty = true)
    (hd_C : PySem.W.hasDictIn K C = true)
    (po_C : PySem.W.plainOver K C = true)
    (sa_C : PySem.W.findIn K (.ref C) "__setattr__" = some (some (.builtin "object.__setattr__")))
    (mk_C : PySem.W.makesIn K C = true)
    (kp_C : PySem.W.keepIn K (.ref C) = true)
    (n1_C : PySem.W.findIn K (.ref C) "wall_text" = some none)
    (n2_C : PySem.W.findIn K (.ref C) "bar_list" = some none)
    (n3_C : PySem.W.findIn K (.ref C) "forced_by" = some none)
    (b_hb : PySem.W.findIn K (.ref C) "bars" = some (some (.ref f_hb)))
    (m_hb : PySem.W.isFn K (.ref f_hb) = true)
    (l_hb : K.lookup f_hb = some ⟨oc_hb, od_hb, .func (PySem.W.fnOf "bars" "Hall.bars" (defArgs sHbars) (defBody sHbars) (defScope sHbars) .none kV_hb dc_hb pm_hb an_hb cd_hb ct_hb), sl_hb⟩)
    (c_hb : PySem.W.codeIn K cd_hb "Hall.bars" = true)
    (k_hb : PySem.W.keepIn K (.ref f_hb) = true)
    (b_hwl : PySem.W.findIn K (.ref C) "walls" = some (some (.ref f_hwl)))
    (m_hwl : PySem.W.isFn K (.ref f_hwl) = true)
    (l_hwl : K.lookup f_hwl = some ⟨oc_hwl, od_hwl, .func (PySem.W.fnOf "walls" "Hall.walls" (defArgs sHwalls) (defBody sHwalls) (defScope sHwalls) .none kV_hwl dc_hwl pm_hwl an_hwl cd_hwl ct_hwl), sl_hwl⟩)
    (c_hwl : PySem.W.codeIn K cd_hwl "Hall.walls" = true)
    (k_hwl : PySem.W.keepIn K (.ref f_hwl) = true)
    (b_hln : PySem.W.findIn K (.ref C) "__len__" = some (some (.ref f_hln)))
    (m_hln : PySem.W.isFn K (.ref f_hln) = true)
    (l_hln : K.lookup f_hln = some ⟨oc_hln, od_hln, .func (PySem.W.fnOf "__len__" "Hall.__len__" (defArgs sHlen) (defBody sHlen) (defScope sHlen) .none kV_hln dc_hln pm_hln an_hln cd_hln ct_hln), sl_hln⟩)
    (c_hln : PySem.W.codeIn K cd_hln "Hall.__len__" = true)
    (k_hln : PySem.W.keepIn K (.ref f_hln) = true)
    (l_hi : K.lookup f_hi = some ⟨oc_hi, od_hi, .func (PySem.W.fnOf "__init__" "Hall.__init__" (defArgs sHinit) (defBody sHinit) (defScope sHinit) (.ref T_hi) kV_hi dc_hi pm_hi an_hi cd_hi ct_hi), sl_hi⟩)
    (c_hi : PySem.W.codeIn K cd_hi "Hall.__init__" = true)
    (k_hi : PySem.W.keepIn K (.ref f_hi) = true)
    (d_hi : K.lookup T_hi = some ⟨oc_T, od_T, .seq [Value.ref e_hi].toArray n_T, sl_T⟩)
    (d_e : K.lookup e_hi = some ⟨.type "tuple", od_e, .seq #[] n_e, sl_e⟩)
    (z_list : PySem.W.nsIn K mainGlobals "list" = some none)
    (z_sorted : PySem.W.nsIn K mainGlobals "sorted" = some none)
    (z_set : PySem.W.nsIn K mainGlobals "set" = some none)
    (z_all : PySem.W.nsIn K mainGlobals "all" = some none)
    (z_len : PySem.W.nsIn K mainGlobals "len" = some none)
    (z_enumerate : PySem.W.nsIn K mainGlobals "enumerate" = some none)
    (z_range : PySem.W.nsIn K mainGlobals "range" = some none)
    (z_isinstance : PySem.W.nsIn K mainGlobals "isinstance" = some none)
    (z_tuple : PySem.W.nsIn K mainGlobals "tuple" = some none)
    (z_ValueError : PySem.W.nsIn K mainGlobals "ValueError" = some none)
    (z_bool : PySem.W.nsIn K mainGlobals "bool" = some none)
    (z_str : PySem.W.nsIn K mainGlobals "str" = some none)
    (w_W : PySem.W.nsIn K mainGlobals "WIDEST" = some (some (.int 12 tw)))
    (a_L : PySem.W.nsIn K mainGlobals "law" = some (some (.ref fL)))
    (l_L : K.lookup fL = some ⟨ocL, odL, .func (PySem.W.fnOf "law" "law" (defArgs sLaw) (defBody sLaw) (defScope sLaw) .none kVL dcL pmL anL (.ref c) ctL), slL⟩)
    (c_L : PySem.W.codeIn K (.ref c) "law" = true)
    (h_L : PySem.W.codeHdIn K c PT = true)
    : LamX.LawAtS l w K CX0 10 63 "_law_script" mg fa h := by
  have F_O := fun_mk (st := sOther) l_O c_O k_O
  have D_O : DF K mg "other" sOther ["side"] f_O _ := ⟨F_O, PySem.W.mg_of X G a_O, F_O.binds (ps := ["side"]) fun _ _ _ _ _ _ us hl => match us, hl with | [_], _ => rfl⟩
  have F_S := fun_mk (st := sSides) l_S c_S k_S
  have D_S : DF K mg "sides_of" sSides ["walls"] f_S _ := ⟨F_S, PySem.W.mg_of X G a_S, F_S.binds (ps := ["walls"]) fun _ _ _ _ _ _ us hl => match us, hl with | [_], _ => rfl⟩
  have F_Y := fun_mk (st := sByWalls) l_Y c_Y k_Y
  have D_Y : DF K mg "by_walls" sByWalls ["walls", "sides"] f_Y _ := ⟨F_Y, PySem.W.mg_of X G a_Y, F_Y.binds (ps := ["walls", "sides"]) fun _ _ _ _ _ _ us hl => match us, hl with | [_, _], _ => rfl⟩
  have F_W := fun_mk (st := sIsWalls) l_W c_W k_W
  have D_W : DF K mg "is_walls" sIsWalls ["walls"] f_W _ := ⟨F_W, PySem.W.mg_of X G a_W, F_W.binds (ps := ["walls"]) fun _ _ _ _ _ _ us hl => match us, hl with | [_], _ => rfl⟩
  have F_I := fun_mk (st := sIsBar) l_I c_I k_I
  have D_I : DF K mg "is_bar" sIsBar ["walls", "bar"] f_I _ := ⟨F_I, PySem.W.mg_of X G a_I, F_I.binds (ps := ["walls", "bar"]) fun _ _ _ _ _ _ us hl => match us, hl with | [_, _], _ => rfl⟩
  have F_cw := fun_mk (st := sChkWalls) l_cw c_cw k_cw
  have D_cw : DF K mg "check_walls" sChkWalls ["walls"] f_cw _ := ⟨F_cw, PySem.W.mg_of X G a_cw, F_cw.binds (ps := ["walls"]) fun _ _ _ _ _ _ us hl => match us, hl with | [_], _ => rfl⟩
  have F_cb := fun_mk (st := sChkBars) l_cb c_cb k_cb
  have D_cb : DF K mg "check_bars" sChkBars ["walls", "bars"] f_cb _ := ⟨F_cb, PySem.W.mg_of X G a_cb, F_cb.binds (ps := ["walls", "bars"]) fun _ _ _ _ _ _ us hl => match us, hl with | [_, _], _ => rfl⟩
  have F_cs := fun_mk (st := sChkSide) l_cs c_cs k_cs
  have D_cs : DF K mg "check_side" sChkSide ["walls", "side"] f_cs _ := ⟨F_cs, PySem.W.mg_of X G a_cs, F_cs.binds (ps := ["walls", "side"]) fun _ _ _ _ _ _ us hl => match us, hl with | [_, _], _ => rfl⟩
  have F_st := fun_mk (st := sStraight) l_st c_st k_st
  have D_st : DF K mg "straight_from" sStraight ["walls", "bars"] f_st _ := ⟨F_st, PySem.W.mg_of X G a_st, F_st.binds (ps := ["walls", "bars"]) fun _ _ _ _ _ _ us hl => match us, hl with | [_, _], _ => rfl⟩
  have F_re := fun_mk (st := sReached) l_re c_re k_re
  have D_re : DF K mg "reached" sReached ["straight", "one"] f_re _ := ⟨F_re, PySem.W.mg_of X G a_re, F_re.binds (ps := ["straight", "one"]) fun _ _ _ _ _ _ us hl => match us, hl with | [_, _], _ => rfl⟩
  have F_af := fun_mk (st := sAllF) l_af c_af k_af
  have D_af : DF K mg "all_forced" sAllF ["walls", "bars"] f_af _ := ⟨F_af, PySem.W.mg_of X G a_af, F_af.binds (ps := ["walls", "bars"]) fun _ _ _ _ _ _ us hl => match us, hl with | [_, _], _ => rfl⟩
  have F_cf := fun_mk (st := sChkFix) l_cf c_cf k_cf
  have D_cf : DF K mg "check_fixed" sChkFix ["forced_by"] f_cf _ := ⟨F_cf, PySem.W.mg_of X G a_cf, F_cf.binds (ps := ["forced_by"]) fun _ _ _ _ _ _ us hl => match us, hl with | [_], _ => rfl⟩
  have F_ca := fun_mk (st := sChkAl) l_ca c_ca k_ca
  have D_ca : DF K mg "check_alike" sChkAl ["forced_by"] f_ca _ := ⟨F_ca, PySem.W.mg_of X G a_ca, F_ca.binds (ps := ["forced_by"]) fun _ _ _ _ _ _ us hl => match us, hl with | [_], _ => rfl⟩
  have F_start := fun_mk (st := sStart) l_start c_start k_start
  have D_start : DF K mg "_law_start" sStart ["_law_script"] f_start _ := ⟨F_start, PySem.W.mg_of X G a_start, F_start.binds (ps := ["_law_script"]) fun _ _ _ _ _ _ us hl => match us, hl with | [_], _ => rfl⟩
  have F_draw := fun_mk (st := sDraw) l_draw c_draw k_draw
  have D_draw : DF K mg "_law_draw" sDraw ["_law_d", "_law_many"] f_draw _ := ⟨F_draw, PySem.W.mg_of X G a_draw, F_draw.binds (ps := ["_law_d", "_law_many"]) fun _ _ _ _ _ _ us hl => match us, hl with | [_, _], _ => rfl⟩
  have F_of := fun_mk (st := sOf) l_of c_of k_of
  have D_of : DF K mg "_law_of" sOf ["_law_d", "_law_some"] f_of _ := ⟨F_of, PySem.W.mg_of X G a_of, F_of.binds (ps := ["_law_d", "_law_some"]) fun _ _ _ _ _ _ us hl => match us, hl with | [_, _], _ => rfl⟩
  have F_letters := fun_mk (st := sLetters) l_letters c_letters k_letters
  have D_letters : DF K mg "_law_letters" sLetters [] f_letters _ := ⟨F_letters, PySem.W.mg_of X G a_letters, F_letters.binds (ps := []) fun _ _ _ _ _ _ us hl => match us, hl with | [], _ => rfl⟩
  have F_shuts := fun_mk (st := sShuts) l_shuts c_shuts k_shuts
  have D_shuts : DF K mg "_law_shuts" sShuts ["_law_d", "_law_most"] f_shuts _ := ⟨F_shuts, PySem.W.mg_of X G a_shuts, F_shuts.binds (ps := ["_law_d", "_law_most"]) fun _ _ _ _ _ _ us hl => match us, hl with | [_, _], _ => rfl⟩
  have F_same := fun_mk (st := sSame) l_same c_same k_same
  have D_same : DF K mg "_law_same" sSame ["_law_x", "_law_due"] f_same _ := ⟨F_same, PySem.W.mg_of X G a_same, F_same.binds (ps := ["_law_x", "_law_due"]) fun _ _ _ _ _ _ us hl => match us, hl with | [_, _], _ => rfl⟩
  have F_word := fun_mk (st := sWord) l_word c_word k_word
  have D_word : DF K mg "_law_word" sWord ["_law_ask"] f_word _ := ⟨F_word, PySem.W.mg_of X G a_word, F_word.binds (ps := ["_law_ask"]) fun _ _ _ _ _ _ us hl => match us, hl with | [_], _ => rfl⟩
  have F_ref := fun_mk (st := sRef) l_ref c_ref k_ref
  have D_ref : DF K mg "_law_refused" sRef ["_law_ask", "_law_due"] f_ref _ := ⟨F_ref, PySem.W.mg_of X G a_ref, F_ref.binds (ps := ["_law_ask", "_law_due"]) fun _ _ _ _ _ _ us hl => match us, hl with | [_, _], _ => rfl⟩
  have F_text := fun_mk (st := sText) l_text c_text k_text
  have D_text : DF K mg "_law_text" sText ["_law_d"] f_text _ := ⟨F_text, PySem.W.mg_of X G a_text, F_text.binds (ps := ["_law_d"]) fun _ _ _ _ _ _ us hl => match us, hl with | [_], _ => rfl⟩
  have F_good := fun_mk (st := sGood) l_good c_good k_good
  have D_good : DF K mg "_law_good" sGood ["_law_text_here"] f_good _ := ⟨F_good, PySem.W.mg_of X G a_good, F_good.binds (ps := ["_law_text_here"]) fun _ _ _ _ _ _ us hl => match us, hl with | [_], _ => rfl⟩
  have F_iH := fun_mk (st := sHEinit) l_iH c_iH k_iH
  have b_iH := F_iH.binds (ps := ["self", "word"]) fun _ _ _ _ _ _ us hl => match us, hl with | [_, _], _ => rfl
  have F_iB := fun_mk (st := sBBinit) l_iB c_iB k_iB
  have b_iB := F_iB.binds (ps := ["self", "at"]) fun _ _ _ _ _ _ us hl => match us, hl with | [_, _], _ => rfl
  have F_iF := fun_mk (st := sFXinit) l_iF c_iF k_iF
  have b_iF := F_iF.binds (ps := ["self", "side"]) fun _ _ _ _ _ _ us hl => match us, hl with | [_, _], _ => rfl
  have F_iA := fun_mk (st := sALinit) l_iA c_iA k_iA
  have b_iA := F_iA.binds (ps := ["self", "one", "other"]) fun _ _ _ _ _ _ us hl => match us, hl with | [_, _, _], _ => rfl
  have F_iW := fun_mk (st := sBWinit) l_iW c_iW k_iW
  have b_iW := F_iW.binds (ps := ["self"]) fun _ _ _ _ _ _ us hl => match us, hl with | [_], _ => rfl
  have e := hfa.symm.trans (PySem.W.mg_of X G a_L)
  cases e
  have B : BM mg := ⟨PySem.W.mg_none_of X G z_list, PySem.W.mg_none_of X G z_sorted, PySem.W.mg_none_of X G z_set, PySem.W.mg_none_of X G z_all, PySem.W.mg_none_of X G z_len, PySem.W.mg_none_of X G z_enumerate, PySem.W.mg_none_of X G z_range, PySem.W.mg_none_of X G z_isinstance, PySem.W.mg_none_of X G z_tuple⟩
  have he : HE K mg CH f_iH _ := ⟨PySem.W.mg_of X G a_CH, ⟨_, ⟨r_H, g_H⟩, i_H⟩, F_iH, b_iH, PySem.W.mg_none_of X G z_ValueError, v_V⟩
  have xCB : XC K mg "BadBar" "BadBar.__init__" sBBinit "at" CB f_iB _ := ⟨PySem.W.mg_of X G a_CB, ⟨⟨_, _, _, _, _, _, _, _, _, _, _, _, _, _, _, x_CB, rv_CB⟩, sa_CB, ex_CB, ty_CB, kc_CB⟩, n_CB_word, n_CB_at, i_CB, t_CB, F_iB, b_iB⟩
  have xCF : XC K mg "Fixed" "Fixed.__init__" sFXinit "side" CF f_iF _ := ⟨PySem.W.mg_of X G a_CF, ⟨⟨_, _, _, _, _, _, _, _, _, _, _, _, _, _, _, x_CF, rv_CF⟩, sa_CF, ex_CF, ty_CF, kc_CF⟩, n_CF_word, n_CF_side, i_CF, t_CF, F_iF, b_iF⟩
  have xCA : XC2 K mg CA f_iA _ := ⟨PySem.W.mg_of X G a_CA, ⟨⟨_, _, _, _, _, _, _, _, _, _, _, _, _, _, _, x_CA, rv_CA⟩, sa_CA, ex_CA, ty_CA, kc_CA⟩, n_CA_word, n_CA_one, n_CA_other, i_CA, t_CA, F_iA, b_iA⟩
  have xCW : XC0 K mg "BadWalls" "BadWalls.__init__" sBWinit CW f_iW _ := ⟨PySem.W.mg_of X G a_CW, ⟨⟨_, _, _, _, _, _, _, _, _, _, _, _, _, _, _, x_CW, rv_CW⟩, sa_CW, ex_CW, ty_CW, kc_CW⟩, n_CW_word, i_CW, t_CW, F_iW, b_iW⟩
  have T8 := Txt8.mk B (PySem.W.mg_of X G w_W) D_O D_S D_Y D_W D_I D_cw D_cb D_cs D_st D_re D_af D_cf D_ca he xCB xCF xCA
  have F_hwl := fun_mk (st := sHwalls) l_hwl c_hwl k_hwl
  have b1_hwl := F_hwl.binds (ps := ["self"]) fun _ _ _ _ _ _ us hl => match us, hl with | [_], _ => rfl
  have F_hln := fun_mk (st := sHlen) l_hln c_hln k_hln
  have b1_hln := F_hln.binds (ps := ["self"]) fun _ _ _ _ _ _ us hl => match us, hl with | [_], _ => rfl
  have Fb := fun_mk (st := sHbars) l_hb c_hb k_hb
  have FD : FunD K "__init__" "Hall.__init__" (defArgs sHinit) (defBody sHinit) (defScope sHinit) [.ref e_hi] [] f_hi _ := ⟨⟨_, _, _, _, _, _, _, _, _, _, rfl, l_hi, c_hi, .inr ⟨by simp, T_hi, _, [.ref e_hi], n_T, rfl, d_hi, rfl, .cons rfl .nil⟩, .inl rfl⟩, k_hi⟩
  obtain ⟨ds, hds, hbi⟩ := FD.binds1 (ps := ["self", "walls", "bars"]) 3 1 (by simp) rfl (fun _ _ _ _ _ _ _ us its h1 h2 => match us, its, h1, h2 with | [_, _, _], [_], _, _ => ⟨_, rfl, rfl⟩)
  have hds2 : ds = [] := by
    have z : Vals ([] : List V) ds := hds
    cases z
    rfl
  subst hds2
  have zz : HC K mg C f_hi f_hb _ _ := ⟨PySem.W.mg_of X G a_C, ⟨pg_C, hd_C, po_C, sa_C⟩, ⟨mk_C, i_C, j_C, kp_C⟩, ⟨_, FD⟩, hbi, n1_C, n2_C, n3_C, ⟨b_hb, m_hb, k_hb⟩, Fb, Fb.binds (ps := ["self"]) fun _ _ _ _ _ _ us hl => match us, hl with | [_], _ => rfl⟩
  have hw : HW K C f_hwl f_hln _ _ := ⟨⟨b_hwl, m_hwl, k_hwl⟩, F_hwl, b1_hwl, b_hln, m_hln, F_hln, b1_hln⟩
  obtain ⟨ds2, hds2, hbi2⟩ := FD.binds1 (ps := ["self", "walls", "bars"]) 2 0 (by simp) rfl (fun _ _ _ _ _ _ _ us its h1 h2 => match us, its, h1, h2 with | [_, _], [_], _, _ => ⟨_, rfl, rfl⟩)
  have hds3 : ds2 = [.ref e_hi] := by
    have z : Vals [V.ref e_hi] ds2 := hds2
    cases z with
    | cons r t =>
      cases t
      cases r
      rfl
  subst hds3
  have ee : EX K mg CH CM CN CW := ⟨PySem.W.mg_of X G a_CM, PySem.W.mg_of X G a_CN, ⟨ga_CW, gg_CW, ex_CW, hd_CW⟩, exmAny_of (exm_of ex_CH ic_CH ty_CH e_CW_CH) (exmAny_of (exm_of ex_CM ic_CM ty_CM e_CW_CM) (exmAny_of (exm_of ex_CN ic_CN ty_CN e_CW_CN) rfl))⟩
  have hh := Hlp.mk D_start D_draw D_of D_letters D_shuts D_same D_word D_ref D_text D_good (PySem.W.mg_none_of X G z_str) (PySem.W.mg_none_of X G z_bool)
  refine ⟨_, [(c, PT)], spLawT K [(PT, lamN (.ref c))], fun p hp => ?_, fun p hp => ?_, fun p hp => ?_, fun s u => .of_eq rfl, fun H a ns hl hb hH hS => ⟨a, ns, rfl, hS, fun p hp => ?_, fun _ => rfl⟩, fun base KB GB TB => ok_law (k := 0) l_L c_L (TB _ (List.mem_cons_self ..)) ee zz hw hbi2 ⟨_, _, d_e, rfl, rfl⟩ xCW T8 hh⟩
  · rw [List.mem_singleton.mp hp]
    exact hPT
  · rw [List.mem_singleton.mp hp]
    exact nPT
  · rw [List.mem_singleton.mp hp]
    exact PySem.W.codeHd_of_K X h_L
  · rw [List.mem_singleton.mp hp]
    exact LamX.TabS.nil (hH _ (List.mem_cons_self ..))
end NC
open PySem PySem.W PyProof.Rows
set_option maxHeartbeats 0 in
theorem PySem.Challenge.cw_nearcall_k01_letters_of_halls_holds : PySem.Challenge.rw_nearcall_k01_letters_of_halls.Holds := by
  w_on; o_law; k_head; (case hw => w_witness2)
  k_fill
  refine LamX.walk_ofTs (l := PySem.Challenge.rw_nearcall_k01_letters_of_halls) (n := 63) (k := 10) (x := "_law_script") (CX := fun w => L2.CX0) rfl (by decide) rfl ⟨rfl, by decide, by decide⟩ (fun w h Y => PySem.W.km_in_of Y) ?F (fun _ _ _ _ _ h => h)
  case F =>
    intro w mg fa h Y KX G hmg
    refine' NC.all_mk (PT := 457) KX G hmg (PySem.W.km_tabs_of Y 457 (by k_mem)) ?nPT ?a_O ?l_O ?c_O ?k_O ?a_S ?l_S ?c_S ?k_S ?a_Y ?l_Y ?c_Y ?k_Y ?a_W ?l_W ?c_W ?k_W ?a_I ?l_I ?c_I ?k_I ?a_cw ?l_cw ?c_cw ?k_cw ?a_cb ?l_cb ?c_cb ?k_cb ?a_cs ?l_cs ?c_cs ?k_cs ?a_st ?l_st ?c_st ?k_st ?a_re ?l_re ?c_re ?k_re ?a_af ?l_af ?c_af ?k_af ?a_cf ?l_cf ?c_cf ?k_cf ?a_ca ?l_ca ?c_ca ?k_ca ?a_start ?l_start ?c_start ?k_start ?a_draw ?l_draw ?c_draw ?k_draw ?a_of ?l_of ?c_of ?k_of ?a_letters ?l_letters ?c_letters ?k_letters ?a_shuts ?l_shuts ?c_shuts ?k_shuts ?a_same ?l_same ?c_same ?k_same ?a_word ?l_word ?c_word ?k_word ?a_ref ?l_ref ?c_ref ?k_ref ?a_text ?l_text ?c_text ?k_text ?a_good ?l_good ?c_good ?k_good ?a_CH ?a_CB ?a_CF ?a_CA ?a_CW ?a_CM ?a_CN ?i_H ?r_H ?g_H ?v_V ?x_CB ?rv_CB ?sa_CB ?ex_CB ?ty_CB ?kc_CB ?i_CB ?t_CB ?n_CB_word ?n_CB_at ?x_CF ?rv_CF ?sa_CF ?ex_CF ?ty_CF ?kc_CF ?i_CF ?t_CF ?n_CF_word ?n_CF_side ?x_CA ?rv_CA ?sa_CA ?ex_CA ?ty_CA ?kc_CA ?i_CA ?t_CA ?n_CA_word ?n_CA_one ?n_CA_other ?x_CW ?rv_CW ?sa_CW ?ga_CW ?gg_CW ?hd_CW ?ex_CW ?ty_CW ?kc_CW ?i_CW ?t_CW ?n_CW_word ?l_iH ?c_iH ?k_iH ?l_iB ?c_iB ?k_iB ?l_iF ?c_iF ?k_iF ?l_iA ?c_iA ?k_iA ?l_iW ?c_iW ?k_iW ?e_CW_CH ?e_CW_CM ?e_CW_CN ?ex_CH ?ty_CH ?ic_CH ?ex_CM ?ty_CM ?ic_CM ?ex_CN ?ty_CN ?ic_CN ?a_C ?i_C ?j_C ?pg_C ?hd_C ?po_C ?sa_C ?mk_C ?kp_C ?n1_C ?n2_C ?n3_C ?b_hb ?m_hb ?l_hb ?c_hb ?k_hb ?b_hwl ?m_hwl ?l_hwl ?c_hwl ?k_hwl ?b_hln ?m_hln ?l_hln ?c_hln ?k_hln ?l_hi ?c_hi ?k_hi ?d_hi ?d_e ?z_list ?z_sorted ?z_set ?z_all ?z_len ?z_enumerate ?z_range ?z_isinstance ?z_tuple ?z_ValueError ?z_bool ?z_str ?w_W ?a_L ?l_L ?c_L ?h_L
    (case nPT => kernel_rfl)
    (case a_O => k_is)
    (case l_O => k_is)
    (case c_O => k_is)
    (case k_O => k_is)
    (case a_S => k_is)
    (case l_S => k_is)
    (case c_S => k_is)
    (case k_S => k_is)
    (case a_Y => k_is)
    (case l_Y => k_is)
    (case c_Y => k_is)
    (case k_Y => k_is)
    (case a_W => k_is)
    (case l_W => k_is)
    (case c_W => k_is)
    (case k_W => k_is)
    (case a_I => k_is)
    (case l_I => k_is)
    (case c_I => k_is)
    (case k_I => k_is)
    (case a_cw => k_is)
    (case l_cw => k_is)
    (case c_cw => k_is)
    (case k_cw => k_is)
    (case a_cb => k_is)
    (case l_cb => k_is)
    (case c_cb => k_is)
    (case k_cb => k_is)
    (case a_cs => k_is)
    (case l_cs => k_is)
    (case c_cs => k_is)
    (case k_cs => k_is)
    (case a_st => k_is)
    (case l_st => k_is)
    (case c_st => k_is)
    (case k_st => k_is)
    (case a_re => k_is)
    (case l_re => k_is)
    (case c_re => k_is)
    (case k_re => k_is)
    (case a_af => k_is)
    (case l_af => k_is)
    (case c_af => k_is)
    (case k_af => k_is)
    (case a_cf => k_is)
    (case l_cf => k_is)
    (case c_cf => k_is)
    (case k_cf => k_is)
    (case a_ca => k_is)
    (case l_ca => k_is)
    (case c_ca => k_is)
    (case k_ca => k_is)
    (case a_start => k_is)
    (case l_start => k_is)
    (case c_start => k_is)
    (case k_start => k_is)
    (case a_draw => k_is)
    (case l_draw => k_is)
    (case c_draw => k_is)
    (case k_draw => k_is)
    (case a_of => k_is)
    (case l_of => k_is)
    (case c_of => k_is)
    (case k_of => k_is)
    (case a_letters => k_is)
    (case l_letters => k_is)
    (case c_letters => k_is)
    (case k_letters => k_is)
    (case a_shuts => k_is)
    (case l_shuts => k_is)
    (case c_shuts => k_is)
    (case k_shuts => k_is)
    (case a_same => k_is)
    (case l_same => k_is)
    (case c_same => k_is)
    (case k_same => k_is)
    (case a_word => k_is)
    (case l_word => k_is)
    (case c_word => k_is)
    (case k_word => k_is)
    (case a_ref => k_is)
    (case l_ref => k_is)
    (case c_ref => k_is)
    (case k_ref => k_is)
    (case a_text => k_is)
    (case l_text => k_is)
    (case c_text => k_is)
    (case k_text => k_is)
    (case a_good => k_is)
    (case l_good => k_is)
    (case c_good => k_is)
    (case k_good => k_is)
    (case a_CH => k_is)
    (case a_CB => k_is)
    (case a_CF => k_is)
    (case a_CA => k_is)
    (case a_CW => k_is)
    (case a_CM => k_is)
    (case a_CN => k_is)
    (case i_H => k_is)
    (case r_H => k_is)
    (case g_H => k_is)
    (case v_V => k_is)
    (case x_CB => k_is)
    (case rv_CB => decide +kernel)
    (case sa_CB => k_is)
    (case ex_CB => k_is)
    (case ty_CB => k_is)
    (case kc_CB => k_is)
    (case i_CB => k_is)
    (case t_CB => k_is)
    (case n_CB_word => k_is)
    (case n_CB_at => k_is)
    (case x_CF => k_is)
    (case rv_CF => decide +kernel)
    (case sa_CF => k_is)
    (case ex_CF => k_is)
    (case ty_CF => k_is)
    (case kc_CF => k_is)
    (case i_CF => k_is)
    (case t_CF => k_is)
    (case n_CF_word => k_is)
    (case n_CF_side => k_is)
    (case x_CA => k_is)
    (case rv_CA => decide +kernel)
    (case sa_CA => k_is)
    (case ex_CA => k_is)
    (case ty_CA => k_is)
    (case kc_CA => k_is)
    (case i_CA => k_is)
    (case t_CA => k_is)
    (case n_CA_word => k_is)
    (case n_CA_one => k_is)
    (case n_CA_other => k_is)
    (case x_CW => k_is)
    (case rv_CW => decide +kernel)
    (case sa_CW => k_is)
    (case ga_CW => k_is)
    (case gg_CW => k_is)
    (case hd_CW => k_is)
    (case ex_CW => k_is)
    (case ty_CW => k_is)
    (case kc_CW => k_is)
    (case i_CW => k_is)
    (case t_CW => k_is)
    (case n_CW_word => k_is)
    (case l_iH => k_is)
    (case c_iH => k_is)
    (case k_iH => k_is)
    (case l_iB => k_is)
    (case c_iB => k_is)
    (case k_iB => k_is)
    (case l_iF => k_is)
    (case c_iF => k_is)
    (case k_iF => k_is)
    (case l_iA => k_is)
    (case c_iA => k_is)
    (case k_iA => k_is)
    (case l_iW => k_is)
    (case c_iW => k_is)
    (case k_iW => k_is)
    (case e_CW_CH => first | k_is | kernel_rfl)
    (case e_CW_CM => first | k_is | kernel_rfl)
    (case e_CW_CN => first | k_is | kernel_rfl)
    (case ex_CH => k_is)
    (case ty_CH => k_is)
    (case ic_CH => k_is)
    (case ex_CM => k_is)
    (case ty_CM => k_is)
    (case ic_CM => k_is)
    (case ex_CN => k_is)
    (case ty_CN => k_is)
    (case ic_CN => k_is)
    (case a_C => k_is)
    (case i_C => k_is)
    (case j_C => k_is)
    (case pg_C => k_is)
    (case hd_C => k_is)
    (case po_C => k_is)
    (case sa_C => k_is)
    (case mk_C => k_is)
    (case kp_C => k_is)
    (case n1_C => k_is)
    (case n2_C => k_is)
    (case n3_C => k_is)
    (case b_hb => k_is)
    (case m_hb => k_is)
    (case l_hb => k_is)
    (case c_hb => k_is)
    (case k_hb => k_is)
    (case b_hwl => k_is)
    (case m_hwl => k_is)
    (case l_hwl => k_is)
    (case c_hwl => k_is)
    (case k_hwl => k_is)
    (case b_hln => k_is)
    (case m_hln => k_is)
    (case l_hln => k_is)
    (case c_hln => k_is)
    (case k_hln => k_is)
    (case l_hi => k_is)
    (case c_hi => k_is)
    (case k_hi => k_is)
    (case d_hi => k_is)
    (case d_e => k_is)
    (case z_list => k_is)
    (case z_sorted => k_is)
    (case z_set => k_is)
    (case z_all => k_is)
    (case z_len => k_is)
    (case z_enumerate => k_is)
    (case z_range => k_is)
    (case z_isinstance => k_is)
    (case z_tuple => k_is)
    (case z_ValueError => k_is)
    (case z_bool => k_is)
    (case z_str => k_is)
    (case w_W => k_is)
    (case a_L => k_is)
    (case l_L => k_is)
    (case c_L => k_is)
    (case h_L => kernel_rfl)
