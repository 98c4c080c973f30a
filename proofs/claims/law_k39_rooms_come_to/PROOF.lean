import PyProof.Rows.All
import Wide.All
import OpenK.AllK
import Wide.FinOn
import HandS.ForMost
import HandS.More
import HandS.Set
import HandS.ClsMeth
import HandS.ExcInit
import HandS.Lambda
import HandS.TryMany
import HandS.ExcField
import HandS.SetTxt0
import HandS.SetFor
import KE.GoesMore
import HandS.Walk
import HandS.DictComp
import HandS.WordsExc
import HandS.Defaults
import PySem.Challenge.RW_nearcall_k39_rooms_come_to
import HandS.StrMore
import HandS.IsInst
import KE.GoesZip
import KE.GoesEnum
import HandS.Flow
import HandS.Style
import PyProof.TupleOfStr
import PyProof.Rows.SortShellAny
import HandS.Conv
import PyProof.TupleOfSeq
import HandS.Deep
import HandS.DeepEq
import HandS.List
import HandS.EndTab
import KE.HD2
import HandS.Words
set_option Elab.async false
set_option linter.all false
set_option maxRecDepth 100000
namespace NC
open PySem PySem.Spec PyProof.Rows L2
def sg (c : Nat) : Str := ⟨#[c]⟩
def sgs (x : Str) : List Str := x.cps.toList.map sg
section
variable {X : Cx}
theorem mt_swap : MtR X "str.swapcase" (fun x xs H Q => ∃ a, x = .str a ∧ xs = [] ∧ a.length ≤ 1000 ∧ Q (.str (Txt.swapcase a)) H) :=
  mt0 (C := fun a => a.length ≤ 1000) (g := fun a => .str (Txt.swapcase a)) fun a _ s _ hc h =>
    PySem.SC.swapcase (short24 (by have h1 : a.length ≤ 1000 := hc; have := len_swapcase a; omega)) (h _ (s.toks + 1) ⟨_, rfl⟩)
theorem items_strs {x : Str} {acc : Array Value} (h : ItemsOf (SignAt x) acc x.cps.size) : StrsAre acc.toList (sgs x) := by
  refine strs_at (by simp [sgs, h.1]) fun j v e => ?_
  obtain ⟨c, u, hc, hv⟩ := h.2 j v (by simpa using e)
  exact ⟨sg c, u, by simp [sgs, hc], hv⟩
/-- list(text) -/
theorem cr_listS (hc : X.calm = true) : CallR X (.type "list") (fun xs H Q => ∃ z, xs = [.str z] ∧ z.length ≤ sizeLine ∧ ∀ l, H l = none → Q (.ref l) (upd H l (.lst ((sgs z).map V.str)))) := by
  intro pins s σ H xs us Q I r h
  obtain ⟨z, rfl, hz, q⟩ := h
  obtain ⟨u, rfl, t, rfl⟩ := vals1 r
  refine call_list_str (I.ok.hd hc) z t (hn := hz) fun h' tk acc' c' hk hS' hacc => ?_
  have hl : ((sgs z).map V.str).length ≤ sizeLine := by
    rw [List.length_map]; unfold sgs; rw [List.length_map, Array.length_toList]; exact hz
  refine ⟨.ref s.heap.objs.size, upd H s.heap.objs.size (.lst ((sgs z).map V.str)), I.laid hk (Nat.le_refl _) ⟨hl, acc'.toList, c', vals_of_strs (items_strs hacc), by simpa using hS'⟩, rfl, q _ (I.hok.fresh (Nat.le_refl _))⟩
/-- sorted(v), where what is gathered of v are fewer than 64 texts -/
theorem srt_str {pins : List (Addr × Obj)} {s : Shared} {σ : L2.St} {H : Hp} {Q : VK} (I : Inv X pins σ H s) (v : Value) (ks : List Str) (h64 : ks.length < 64)
    (hcol : ∀ (E : Value → Shared → Prop) (Q' : List Value → Shared → Prop), (∀ s' out ks', s'.os = s.os → s'.gens = s.gens → (∀ b o, s.heap.get? b = some o → s'.heap.get? b = some o) → StrsAre out ks' → ks'.Perm ks → Q' out s') →
      wpAny (model X.prog X.w) X.A.in1 (collect v) Q' E s)
    (q : ∀ ys p, ys.Perm ks → sortedS ys = true → H p = none → Q (.ref p) (upd H p (.lst (ys.map V.str)))) :
    wpAny (model X.prog X.w) X.A (call (.builtin "sorted") [v]) (EP X pins σ Q) X.xe s := by
  have go : wpAny (model X.prog X.w) X.A.in1 (collect v) (fun out s1 => ∃ ks', s1.os = s.os ∧ s1.gens = s.gens ∧ (∀ b o, s.heap.get? b = some o → s1.heap.get? b = some o) ∧ StrsAre out ks' ∧ ks'.Perm ks) X.xe s := hcol _ _ fun s1 out ks' e1 e2 e3 e4 e5 => ⟨ks', e1, e2, e3, e4, e5⟩
  refine Calls.call_function_entry PyProof.Rows.kind_sorted PyProof.Rows.plain_sorted PyProof.Rows.entry_sorted (PyProof.Rows.args_sorted1 _) (show wpAny _ X.A.in1 (Builtin.«sorted» _) _ _ _ from ?_)
  unfold Builtin.«sorted»
  refine wpAny_bind (wpAny_pure (wpAny_bind (thn go fun out t g => ?_)))
  obtain ⟨ks', io, gn, stay, sts, perm⟩ := g
  have J : Inv X pins σ H t := I.call' (ch := []) io (Un.kept stay) (I.hok.kept stay) (gn.symm ▸ I.bare) nofun
  have few : out.length < 64 := by
    have l1 := StrsAre.len_eq sts
    have l2 := perm.length_eq
    omega
  obtain ⟨hp, gs, dr, tk, os⟩ := t
  have lst : (hp.push (seqObj "list" out.toArray 0)).get? hp.objs.size = some (seqObj "list" out.toArray 0) := Heap.get?_push_size _ rfl
  refine wpAny_bind (wpAny_newList (wpAny_bind (wpAny_holding (wpAny_call_entry PyProof.Rows.slot_list_sort ⟨_, lst, rfl⟩ PyProof.Rows.entry_list_sort (list_sort_treeK strKind_oneLt lst sts.keysOf (fun _ _ _ e => keyKind_strs (e ▸ sts)) few fun st p1 p2 => ⟨_, rfl, ?_⟩)
    (PyProof.Rows.args_list_sort _)))) (by rw [sizeLine_eq]; omega))
  obtain ⟨ys, is, py, so⟩ := sorted_out_str sts p1 p2
  obtain ⟨ep, at_⟩ := PyProof.Rows.sortedHeap_at (vs := out) (out := (arrOf st).map (·.2)) lst
  have pk : ys.Perm ks := py.trans perm
  have sz : (ys.map V.str).length ≤ sizeLine := by
    have l3 := pk.length_eq
    rw [sizeLine_eq, List.length_map]
    omega
  have old : ∀ (b : Addr) (o : Obj), hp.get? b = some o → (sortedHeap (hp.push (seqObj "list" out.toArray 0)) hp.objs.size out ((arrOf st).map (·.2))).get? b = some o := fun b o e => by
    have lo := Heap.lt_size e
    rw [PyProof.Rows.sortedHeap_old (Nat.ne_of_lt lo) (by rw [size_push']; exact Nat.lt_succ_of_lt lo), Heap.get?_push_of_some _ e]
  exact wpAny_pure ⟨_, rfl, .ref hp.objs.size, upd H hp.objs.size (.lst (ys.map V.str)), J.laid (t' := tk) old (Nat.le_refl _) (show ObjOk X.prog X.w _ _ _ (.lst (ys.map V.str)) from ⟨sz, ((arrOf st).map (·.2)).toList, ep, vals_of_strs is, Array.toArray_toList.symm ▸ at_⟩), rfl, q ys _ pk so (J.hok.fresh (Nat.le_refl _))⟩
/-- sorted(text) -/
theorem cr_sortedT (hc : X.calm = true) : CallR X (.builtin "sorted") (fun xs H Q => ∃ z, xs = [.str z] ∧ z.length < 64 ∧ ∀ ys p, ys.Perm (sgs z) → sortedS ys = true → H p = none → Q (.ref p) (upd H p (.lst (ys.map V.str)))) := by
  intro pins s σ H xs us Q I r h
  obtain ⟨z, rfl, hz, q⟩ := h
  obtain ⟨u, rfl, t, rfl⟩ := vals1 r
  have hl : (sgs z).length < 64 := by unfold sgs; rw [List.length_map, Array.length_toList]; exact hz
  refine srt_str I (.str z t) (sgs z) hl (fun E Q' hQ => ?_) q
  refine wpAny_collect_str (A := X.A.in1) (I.ok.hd hc) z t (hn := by show z.length ≤ sizeLine; rw [sizeLine_eq]; omega) fun s' acc hk hg hd ho hacc => ?_
  exact hQ s' _ _ ho hg hk (items_strs hacc) (List.Perm.refl _)
end
end NC
namespace NC
open PySem PySem.Spec PyProof.Rows L2
section
variable {X : Cx} {CX : CXT} {k : Nat} {C f : Addr} {mc : Value} {sp : Sp} {E : XK} {e : Expr} {es : List Expr} {x m : Str} {pos p1 p2 : Pos} {t : TA} {pl : Sem Bool}
  {fd : FuncData} {ps : List Str} {dvs : List V} {ds : List Value}
/-- C.m(e, ..), C an own class by its name, m a plain def of it -/
theorem pe_clsfn (hg : Gl X x) (hm : X.mg x = some (.ref C)) (rd : ClX.CRead X.K C mc) (kv : PySem.W.findCls X.K (.ref C) mc m = some (.val (.ref f)))
    (F : FnOk X.prog X.w X.K X.mg X.base CX k f fd ps sp) (hr : Room k X.A) (hk : PySem.W.keepIn X.K (.ref f) = true) (hb : Binds X.K fd ps ds) (hd : Vals dvs ds) (hx : Passes CX X E) (ha : PA X (e :: es) t)
    (hdb : (x == ("__debug__" : Str)) = false := by decide)
    (hst : starEach (e :: es) X.env = (false, eval e X.env) :: starEach es X.env := by rfl) (hpl : (backTo pos (starEach es X.env)).any (·.1) = false := by rfl)
    (ht : eval (.Call (.Attribute (.Name x p1) m p2) (e :: es) [] pos) X.env = (do
      let ov ← eval (.Name x p1) X.env
      standAt p2.atName
      let (g, first) ← holding [ov] (getMethod ov m pl)
      callWith pos g first (backTo pos (starEach (e :: es) X.env)) (backToKw pos (keywordEach [] X.env))) := by rfl) :
    PE X (.Call (.Attribute (.Name x p1) m p2) (e :: es) [] pos) (tCall sp dvs E t) := by
  refine ⟨fun pins s0 σ H Q I0 h0 => ?_⟩
  refine PySem.W.methodCall_KW (pl := pl) (ld_glob I0 hg hm ?_ hdb) ht
  refine PySem.W.method_cls I0.kIn rd.ga (ClX.getcval_ok (v := .ref f) I0 rd ⟨kv, rfl⟩ fun s1 I1 => ?_)
  refine PySem.W.callWith_K (first := []) (h₀ := X.base) I1.ok.mod.kin hk (thn (ha.run pos pins s1 σ H _ I1 h0) fun us s2 ⟨vs, H2, I2, r2, q2⟩ => ⟨I2.kIn, ?_⟩) hst hpl
  exact run_fn (us := us) (vs := vs) F hr hb hd hx I2 r2 q2
end
end NC
namespace NC
open PySem PySem.Spec PyProof.Rows L2
open PySem.Froz (SD sObj runD addTx tailTx TxOk sing itObj finU two)
/-- the table rises and may be walked -/
def TxG (b : Bool) (D : SD) : Prop := Ris D.2.2.place.toList ∧ D.2.2.led = b
theorem txg_tail {b : Bool} {ep : Nat} {es : Array (Int × Value)} {t : SetTable} {d : Bool} (h : Ris t.place.toList ∧ t.led = b) : TxG b (tailTx ep es t d) := by
  unfold tailTx
  by_cases c : (!d && t.tooFull) = true
  · rw [if_pos c]; exact ⟨relayAll_ris _ _ _, (relayAll_led _ _ _).trans h.2⟩
  · rw [if_neg c]; exact h
theorem txg_add {b : Bool} {D : SD} {hv : Int} {v : Value} (h : TxG b D) : TxG b (addTx hv v D) := by
  unfold addTx
  have h1 := layNew_ris D.2.2 D.1 hv v h.1
  have h2 := (layNew_led D.2.2 D.1 hv v).trans h.2
  refine txg_tail ?_
  split
  · exact ⟨h1, h2⟩
  · exact ⟨h1, h2⟩
theorem run_good {P : Program} {w : World} {b : Bool} : ∀ (cs : List Nat) (tk : Tok) (D : SD) (l : List Str), TxG b D → TxOk P w D l → ∃ l', TxG b (runD w cs tk D) ∧ TxOk P w (runD w cs tk D) l' ∧ l'.Perm (l ++ cs.map sg)
  | [], tk, D, l, g, o => ⟨l, g, o, by simp⟩
  | c :: r, tk, D, l, g, o => by
    obtain ⟨l', g', o', p⟩ := run_good r (tk + 2) _ (sing c :: l) (txg_add g) (Froz.add_ok (k := sing c) tk o)
    refine ⟨l', g', o', p.trans ?_⟩
    show (sg c :: (l ++ r.map sg)).Perm (l ++ (sg c :: r.map sg))
    exact List.perm_middle.symm
theorem loop_txt {P : Program} {w : World} {A : Around} {R : Result → Shared → Prop} {s : Shared} {a it : Addr} {x : Str} {u : Tok} {led : Bool} (hh : A.handled = none) (hne : a ≠ it)
    (ha : s.heap.get? a = some (sObj "set" (#[], 0, .fresh 0 0 led))) (hit : s.heap.get? it = some (itObj x u 0)) (hnd : x.cps.toList.Nodup) (hb : x.cps.toList.length < 64)
    (h : ∀ (h' : Heap) (tk : Nat) (D : SD) (l : List Str), h'.get? a = some (sObj "set" D) → TxG led D → TxOk P w D l → l.Perm (sgs x) →
      (∀ b o, b ≠ a → b ≠ it → s.heap.get? b = some o → h'.get? b = some o) → R (.ok (.ret .none)) { s with heap := h', toks := tk }) :
    codeAny (model P w) A (.builtin "set.update.loop" ⟨[.ref a, .ref it], []⟩) R s := by
  have g0 : TxG led ((#[], 0, .fresh 0 0 led) : SD) := ⟨List.Pairwise.nil, rfl⟩
  have o0 : TxOk P w ((#[], 0, .fresh 0 0 led) : SD) [] := Froz.TxOk.nil rfl
  obtain ⟨l', g1, o1, p1⟩ := run_good (P := P) (w := w) x.cps.toList s.toks _ [] g0 o0
  refine Froz.code_update (T := "set") (u := u) hne hh x.cps.toList 0 _ [] s rfl ha hit o0 (fun c _ z => nomatch z) hnd (by show 0 + x.cps.toList.length < scanBound; unfold scanBound; omega) ?_
  unfold finU two
  have e1 := Froz.get_upd (sObj "set" (runD w x.cps.toList s.toks (#[], 0, .fresh 0 0 led))) ha rfl
  refine h _ _ _ l' (Heap.get?_push_of_some _ (Heap.get?_push_of_some _ (Heap.get?_update_of_ne _ (Ne.symm hne) e1))) g1 o1 (p1.trans (by simp [sgs])) fun b o h1 h2 e => ?_
  exact Heap.get?_push_of_some _ (Heap.get?_push_of_some _ (Heap.get?_update_of_ne _ (Ne.symm h2) (Heap.get?_update_of_ne _ (Ne.symm h1) e)))
set_option maxHeartbeats 3200000 in
/-- set(text), its signs unlike -/
theorem call_set_txt {P : Program} {w : World} {A : Around} {E : Value → Shared → Prop} {s : Shared} {x : Str} {t : Tok} {Q : Value → Shared → Prop} (hh : A.handled = none) (hA : x.cps.all (· < 128) = true)
    (hnd : x.cps.toList.Nodup) (hb : x.cps.toList.length < 64)
    (h : ∀ (h' : Heap) (tk : Nat) (D : SD) (l : List Str), h'.get? s.heap.objs.size = some (sObj "set" D) → TxG (!w.params.followText "set-order") D → TxOk P w D l → l.Perm (sgs x) →
      (∀ b o, s.heap.get? b = some o → h'.get? b = some o) → Q (.ref s.heap.objs.size) { s with heap := h', toks := tk }) :
    wpAny (model P w) A (call (.type "set") [.str x t]) Q E s := by
  obtain ⟨c, tl, hmro⟩ := PySem.F.called_set.mro
  have hmade := PySem.F.called_set.made
  have hsub := PySem.F.called_set.sub
  generalize hled : (!w.params.followText "set-order") = led at h
  refine wpAny_call (codeAny_of_tree ?_)
  show wpAny _ _ (callAny (.type "set") _) _ _ _
  refine wpAny_pure ⟨Code.quiet_builtin _ (by decide +kernel), codeAny_builtin PySem.F.entry_type_call ?_⟩
  rw [Around.under_plain (weight_type_call_type "set" [.str x t] []) rfl]
  have n1 := PySem.F.called_set.notType
  have n2 := PySem.F.called_set.canCreate
  have hct := PySem.F.typeCall_set_1 (.str x t)
  repeat (any_goals (first | assumption | wp_step))
  refine codeAny_mono (code_set_led1 (.str x t) (E := E) (Q₁ := fun ob s1 => ob = .ref s.heap.objs.size ∧ s1 = { s with heap := s.heap.push (sObj "set" (#[], 0, .fresh 0 0 led)) }) ⟨rfl, by rw [hled]; rfl⟩) fun r s1 hr => ?_
  cases r with
  | error e => exact hr
  | ok fl =>
    cases fl with
    | ret ob =>
      obtain ⟨rfl, rfl⟩ := hr
      have hS : (s.heap.push (sObj "set" (#[], 0, .fresh 0 0 led))).get? s.heap.objs.size = some (sObj "set" (#[], 0, .fresh 0 0 led)) := Heap.get?_push_size _ rfl
      have hT : Shared.TypeIs { s with heap := s.heap.push (sObj "set" (#[], 0, .fresh 0 0 led)) } (.ref s.heap.objs.size) "set" := ⟨_, hS, rfl⟩
      have hli := PySem.F.called_set.init.lookup
      have hbi := PySem.F.called_set.init.bind (.ref s.heap.objs.size)
      repeat (any_goals (first | assumption | wp_step))
      refine codeAny_mono (codeAny_call_builtin (R := wants (fun r s2 => r = .none ∧ Q (.ref s.heap.objs.size) s2) E) PySem.F.called_set.init.plain PySem.F.entry_set_init (check_set_init_1 hT ?_)) fun r2 s2 hr2 => ?_
      · unfold Builtin.«set.__init__» noKeywords Builtin.Frozenset.updateFrom
        have b1 : isSubtype (.type "str") (.type "set") = pure false := by rw [isSubtype_type]; kernel_rfl
        have b2 : isSubtype (.type "str") (.type "frozenset") = pure false := by rw [isSubtype_type]; kernel_rfl
        have b3 : (Value.type "str" == Value.type "dict") = false := by decide
        generalize hPI : pyIter = PI
        wp_walk
        subst hPI
        refine wpAny_pyIter_ascii hA ?_
        refine wpAny_bind (wpAny_runValue ?_)
        have hz : (s.heap.push (sObj "set" (#[], 0, .fresh 0 0 led))).objs.size = s.heap.objs.size + 1 := Heap.size_push ..
        refine loop_txt (A := A.in1.in1) (u := t) (by simp [hh]) (by show s.heap.objs.size ≠ (s.heap.push _).objs.size; rw [hz]; omega) (Heap.get?_push_of_some _ hS) (Heap.get?_push_size _ rfl) hnd hb fun h' tk D l e1 e2 e3 e4 e5 => ?_
        refine wpAny_pure ?_
        show wpAny _ _ (ret Value.none) _ _ _
        refine wpAny_pure ⟨rfl, h h' tk D l e1 e2 e3 e4 fun b o e => e5 b o ?_ ?_ (Heap.get?_push_of_some _ (Heap.get?_push_of_some _ e))⟩
        · exact Nat.ne_of_lt (Heap.lt_size e)
        · show b ≠ (s.heap.push _).objs.size
          rw [hz]
          exact Nat.ne_of_lt (Nat.lt_succ_of_lt (Heap.lt_size e))
      · cases r2 with
        | error e => exact hr2
        | ok f2 =>
          cases f2 with
          | ret r =>
            obtain ⟨rfl, hq⟩ := hr2
            repeat (any_goals (first | assumption | wp_step))
          | _ => exact hr2.elim
    | _ => exact hr.elim
/-- a set of the texts l -/
def SetTx (P : Program) (w : World) (a : Addr) (l : List Str) : HO := .ext fun h => ∃ D : SD, h.get? a = some (sObj "set" D) ∧ TxG (!w.params.followText "set-order") D ∧ TxOk P w D l
section
variable {X : Cx}
theorem setTx_ok {H : Hp} {h : Heap} {a : Addr} {l : List Str} {D : SD} (e : h.get? a = some (sObj "set" D)) (g : TxG (!X.w.params.followText "set-order") D) (o : TxOk X.prog X.w D l) : ObjOk X.prog X.w H h a (SetTx X.prog X.w a l) :=
  ⟨⟨D, e, g, o⟩, ⟨_, e⟩, fun h1 h2 ⟨D', e', r'⟩ k => ⟨D', k _ e', r'⟩⟩
theorem cr_setT (hc : X.calm = true) : CallR X (.type "set") (fun xs H Q => ∃ z, xs = [.str z] ∧ z.cps.all (· < 128) = true ∧ z.cps.toList.Nodup ∧ z.cps.toList.length < 64 ∧
    ∀ p l, H p = none → l.Perm (sgs z) → Q (.ref p) (upd H p (SetTx X.prog X.w p l))) := by
  intro pins s σ H xs us Q I r h
  obtain ⟨z, rfl, hA, hn, hl, q⟩ := h
  obtain ⟨u, rfl, t, rfl⟩ := vals1 r
  refine call_set_txt (P := X.prog) (w := X.w) (I.ok.hd hc) hA hn hl fun h' tk D l e1 e2 e3 e4 e5 => ?_
  exact ⟨.ref s.heap.objs.size, _, I.laid e5 (Nat.le_refl _) (setTx_ok e1 e2 e3), rfl, q _ l (I.hok.fresh (Nat.le_refl _)) e4⟩
theorem strs_map : ∀ vs : List Value, (∀ v ∈ vs, ∃ y u, v = Value.str y u) → StrsAre vs (vs.map strOf)
  | [], _ => .nil
  | v :: r, h => by
    obtain ⟨y, u, rfl⟩ := h v (List.mem_cons_self ..)
    exact .cons y u (strs_map r fun z hz => h z (List.mem_cons_of_mem _ hz))
theorem strs_perm {vs out : List Value} {ks : List Str} (h : StrsAre vs ks) (p : out.Perm vs) : ∃ ks', StrsAre out ks' ∧ ks'.Perm ks := by
  refine ⟨_, strs_map out fun v hv => h.all v (p.mem_iff.mp hv), ?_⟩
  rw [← h.strs]
  exact p.map _
theorem nd_perm : ∀ (l ks : List Str), l.Nodup → (∀ y ∈ l, y ∈ ks) → ks.length ≤ l.length → ks.Perm l
  | [], ks, _, _, h => by
    have e : ks = [] := List.length_eq_zero_iff.mp (by simpa using h)
    rw [e]
  | y :: r, ks, hn, hs, h => by
    obtain ⟨n1, n2⟩ := List.nodup_cons.mp hn
    have m : y ∈ ks := hs y (List.mem_cons_self ..)
    have hl := List.length_erase_of_mem m
    have q := nd_perm r (ks.erase y) n2 (fun z hz => (List.mem_erase_of_ne (fun e : z = y => n1 (by rw [← e]; exact hz))).mpr (hs z (List.mem_cons_of_mem _ hz))) (by
      rw [List.length_cons] at h
      omega)
    exact (List.perm_cons_erase m).trans (q.cons y)
theorem tx_strs {P : Program} {w : World} {D : SD} {l : List Str} (o : TxOk P w D l) (hn : l.Nodup) : ∃ ks, StrsAre (D.1.toList.map (·.2)) ks ∧ ks.Perm l := by
  have sh : ∀ e ∈ D.1.toList, ∃ k u, e.2 = Value.str k u ∧ (strKind P w).is k e.2 = true := fun e he => by
    obtain ⟨⟨k, hk, _⟩, _⟩ := o.el e he
    obtain ⟨u, eu⟩ := Value.isStrOf_shape (x := k) (v := e.2) hk
    exact ⟨k, u, eu, hk⟩
  refine ⟨_, strs_map _ fun v hv => ?_, nd_perm l _ hn (fun k hk => ?_) ?_⟩
  · obtain ⟨e, he, rfl⟩ := List.mem_map.mp hv
    obtain ⟨k, u, eu, _⟩ := sh e he
    exact ⟨k, u, eu⟩
  · obtain ⟨e, he, z⟩ := (o.mem k).mp hk
    obtain ⟨u, eu⟩ := Value.isStrOf_shape (x := k) (v := e.2) z
    refine List.mem_map.mpr ⟨e.2, List.mem_map.mpr ⟨e, he, rfl⟩, ?_⟩
    rw [eu]
    rfl
  · rw [List.length_map, List.length_map, Array.length_toList, o.sz]
    exact Nat.le_refl _
theorem cr_sortedSetT (hc : X.calm = true) : CallR X (.builtin "sorted") (fun xs H Q => ∃ a l, xs = [.ref a] ∧ H a = some (SetTx X.prog X.w a l) ∧ l.Nodup ∧ l.length < 64 ∧
    ∀ ys p, ys.Perm l → sortedS ys = true → H p = none → Q (.ref p) (upd H p (.lst (ys.map V.str)))) := by
  intro pins s σ H xs us Q I r h
  obtain ⟨a, l, rfl, ha, hn, hl, q⟩ := h
  rw [Vals.ref1 r]
  obtain ⟨⟨D, e, g, o⟩, _, _⟩ := I.hok a _ ha
  obtain ⟨ks, hS, hp⟩ := tx_strs o hn
  have hsz : D.1.size < scanBound := by rw [o.sz]; unfold scanBound; omega
  refine srt_str I (.ref a) l hl (fun E Q' hQ => ?_) q
  refine collect_set (A := X.A.in1) (P := X.prog) (w := X.w) (es := D.1) (ep := D.2.1) (t := D.2.2) (I.ok.hd hc) ⟨_, e, rfl, rfl⟩ o.fit hsz g.1 ?_ fun s' out k1 k2 k3 k4 k5 => ?_
  · rw [g.2]
    cases X.w.params.followText "set-order"
    · exact .inr rfl
    · exact .inl rfl
  · obtain ⟨ks', hS', hp'⟩ := strs_perm hS k5
    exact hQ s' out ks' k4 k3 k1 hS' (hp'.trans hp)
end
end NC
namespace NC
open PySem PySem.Spec PyProof.Rows L2
/-- the two objects that enumerate(t) lays, t at l -/
abbrev titO (l : Addr) : Obj := { cls := .type "tuple_iterator", data := .fields #[.ref l, .int 0 0] }
abbrev enuO (it : Addr) : Obj := { cls := .type "enumerate", data := .fields #[.none, .bool false, .ref it, rawInt 0, .none, .none] }
theorem meets_enumT (l : Addr) (ob : Obj) (items : Array Value) (n : Nat) (hc : ob.cls = .type "tuple") (hd : ob.data = .seq items n) :
    Meets (Builtin.«enumerate.__new__» ⟨[.type "enumerate", .ref l], []⟩) (fun _ R s => s.heap.get? l = some ob ∧ R (.ok (.ret (.ref (s.heap.push (titO l)).objs.size))) { s with heap := (s.heap.push (titO l)).push (enuO s.heap.objs.size) }) :=
  .of_wp fun P w A R t h => by
    obtain ⟨oc, od, dt, sl⟩ := ob
    cases (show oc = _ from hc)
    cases (show dt = _ from hd)
    have tup : t.heap.IsTuple l items := ⟨_, h.1, rfl, n, rfl⟩
    have sb := sub_enumerate
    obtain ⟨hp, g, d, tk, os⟩ := t
    have ld := h.1
    wp_walk using AutoSeq1.wpAny_loadPart' ld
    refine wpAny_stack_any fun _ => wpAny_pure ?_
    split
    · rename_i k _ _ _ _ _
      cases (k == Value.type "enumerate") <;> (wp_walk using AutoSeq1.wpAny_loadPart' ld, wpAny_pyIter_tuple tup; exact ⟨_, rfl, h.2⟩)
    · wp_walk using AutoSeq1.wpAny_loadPart' ld, wpAny_pyIter_tuple tup
      exact ⟨_, rfl, h.2⟩
theorem call_enumT {P : Program} {w : World} {A : Around} {E Q : Value → Shared → Prop} {t : Shared} {l : Addr} {items : Array Value} (tup : t.heap.IsTuple l items)
    (h : ∀ g, IsEnum g (t.heap.objs.size + 1) t.heap.objs.size 0 .none → g.IsTupleIter t.heap.objs.size l 0 → (∀ b o, t.heap.get? b = some o → g.get? b = some o) → Q (.ref (t.heap.objs.size + 1)) { t with heap := g }) :
    wpAny (model P w) A (call (.type "enumerate") [.ref l]) Q E t := by
  obtain ⟨ob, ho, oc, n, od⟩ := tup
  have sz : (t.heap.push (titO l)).objs.size = t.heap.objs.size + 1 := Heap.size_push ..
  have laid : IsEnum ((t.heap.push (titO l)).push (enuO t.heap.objs.size)) (t.heap.objs.size + 1) t.heap.objs.size 0 .none := by
    have z := Heap.get?_push_size (t.heap.push (titO l)) (o := enuO t.heap.objs.size) rfl
    exact sz ▸ z
  refine callType_new F.called_enumerate (by decide) (F.typeCall_enumerate_1 _) (F.newCall_enumerate_1 _) (fun z => F.args_object_init_2 z _) F.entry_enumerate_new (meets_enumT l ob items n oc od) ⟨ho, ?_⟩
  show _ ∧ _
  rw [sz]
  exact ⟨⟨_, laid, rfl⟩, h _ laid ⟨_, Heap.get?_push_of_some _ (Heap.get?_push_size _ rfl), rfl, rfl⟩ fun _ _ z => Heap.get?_push_of_some _ (Heap.get?_push_of_some _ z)⟩
/-- the walk: at turn i a new pair of i and the item -/
def ItET (K : PySem.W.Frag) (a : Addr) : It :=
  ⟨fun i H => ∃ (xs : List V) (x : V), SqT K H a xs ∧ xs[i]? = some x, fun i H v H' => ∃ T x, v = .ref T ∧ H T = none ∧ H' = upd H T (.tup [.int (i : Nat), x]) ∧ ∀ xs, SqT K H a xs → xs[i]? = some x,
    fun i H => ∃ xs : List V, SqT K H a xs ∧ xs.length ≤ i⟩
/-- the state ahead of turn i: the enumerate object at e, its iterator at it -/
def AtE (a e it : Addr) (i : Nat) (h : Heap) : Prop := (∃ last, IsEnum h e it ((i : Nat) : Int) last) ∧ h.IsTupleIter it a i ∧ e ≠ it
theorem AtE.apart {a e it : Addr} {i : Nat} {h : Heap} {vs : Array Value} (st : AtE a e it i h) (t : h.IsTuple a vs) : a ≠ it ∧ e ≠ a := by
  obtain ⟨⟨_, g1⟩, ⟨o2, g2, c2, _⟩, _⟩ := st
  obtain ⟨o3, g3, c3, _⟩ := t
  have g1 : h.get? e = _ := g1
  refine ⟨fun z => ?_, fun z => ?_⟩
  · rw [z, g2] at g3
    exact absurd (c2.symm.trans ((Option.some.inj g3) ▸ c3)) (by decide)
  · rw [z, g3] at g1
    have c4 : o3.cls = .type "enumerate" := (Option.some.inj g1) ▸ rfl
    exact absurd (c3.symm.trans c4) (by decide)
theorem AtE.olds {a e it : Addr} {i : Nat} {h : Heap} (st : AtE a e it i h) {b : Addr} (m : b ∈ [e, it]) : b < h.objs.size := by
  obtain ⟨⟨_, g1⟩, ⟨o2, g2, _⟩, _⟩ := st
  rcases List.mem_cons.mp m with rfl | m
  · exact Heap.lt_size g1
  · exact (List.mem_singleton.mp m) ▸ Heap.lt_size g2
theorem turn_enumT {P : Program} {w : World} {K : PySem.W.Frag} {elts : List Expr} {kk : Nat} {tpos : Pos} (a e it : Addr) : Turn P w K (.Tuple elts kk tpos) (ItET K a) [e, it] e (AtE a e it) where
  mem := .head _
  obj := fun i h st b m => by
    rcases List.mem_cons.mp m with rfl | m
    · exact st.1.elim fun _ g => ⟨_, g, nofun⟩
    · obtain ⟨o, g, _, k⟩ := st.2.1
      exact ⟨o, (List.mem_singleton.mp m) ▸ g, fun v z => nomatch k.symm.trans z⟩
  keep := fun i h h' st k => ⟨st.1.imp fun _ g => k e (.head _) _ g, st.2.1.at fun o g => k it (.tail _ (.head _)) o g, st.2.2⟩
  item := by
    rintro X rfl rfl rfl calm i ps t σ H E I fre st ⟨xs, x, sq, ax⟩
    obtain ⟨its, vl, tp, _⟩ := I.tuple sq
    have tup : t.heap.IsTuple a its.toArray := tp
    obtain ⟨u, au, rel⟩ := vl.get ax
    have lt : i < its.toArray.size := by simpa using (List.getElem?_eq_some_iff.mp au).1
    obtain ⟨n1, n2⟩ := st.apart tup
    obtain ⟨_, enu⟩ := st.1
    have old : e < t.heap.objs.size := st.olds (.head _)
    refine wpAny_pyNext_enum_itemD (Draws.tuple (prog := X.prog) (w := X.w) (A := X.A.in1) (I.ok.hd calm) it a n1 its.toArray) enu ⟨st.2.1, tup⟩ lt st.2.2 (by simp [st.2.2, n2]) fun y g tk ay own on pair _ stay => ?_
    obtain rfl : y = u := Option.some.inj ((show its[i]? = some y by simpa using ay).symm.trans au)
    refine ⟨_, rfl, wpAny_letOwnedTupleGo_enum (s := { t with heap := g, toks := tk + 1 }) own fun g2 enu2 but => ?_⟩
    have pair2 : g2.get? t.heap.objs.size = some { cls := .type "tuple", data := .seq #[.int i tk, y] } := (but.2 _ (Nat.ne_of_gt old)).trans pair
    refine ⟨.ref t.heap.objs.size, upd H t.heap.objs.size (.tup [.int (i : Nat), x]), I.turnedNew (ch := [e, it]) (fun b o nb z => (but.2 b fun q => nb (by simp [q])).trans (stay b o (fun q => nb (by simp [q])) (fun q => nb (by simp [q])) z)) fre (Nat.le_refl _)
        ⟨by show 2 ≤ sizeLine; decide, [.int i tk, y], .cons ⟨_, rfl⟩ (.cons rel .nil), ⟨_, pair2, rfl, _, rfl⟩⟩, rfl, ⟨_, x, rfl, I.hok.fresh (Nat.le_refl _), rfl, fun ys sy => I.tuple_inj sy sq ▸ ax⟩, ⟨⟨y, ?_⟩, on.1.at fun o z => (but.2 it (Ne.symm st.2.2)).trans z, st.2.2⟩, fun b m => ?_⟩
    · exact (show ((i + 1 : Nat) : Int) = (i : Int) + 1 by omega) ▸ enu2
    · exact (upd_ne (Nat.ne_of_lt (st.olds m))).trans (fre b m).1
  done := by
    rintro X rfl rfl rfl calm i ps t σ H E I fre st ⟨xs, sq, le⟩
    obtain ⟨its, vl, tp, _⟩ := I.tuple sq
    have tup : t.heap.IsTuple a its.toArray := tp
    obtain ⟨_, enu⟩ := st.1
    have ty : t.TypeIs (.ref e) "enumerate" := ⟨_, enu, rfl⟩
    have end_ : its.toArray[i]? = none := by
      have := vl.length
      simp
      omega
    have fr := fre it (.tail _ (.head _))
    unfold pyNext
    refine wpAny_bind (wpAny_attempt (wpAny_callSpecial?_slot (name := Str.ofString "__next__") ty F.slot_enumerate_next (wpAny_call_entry F.slot_enumerate_next ty F.entry_enumerate_next ?_ (F.args_enumerate_next_1 _))))
    show wpAny _ _ (field (.ref e) 2 >>= fun _ => _) _ _ _
    refine wpAny_bind (wpAny_field enu rfl (x := .ref it) rfl (wpAny_bind (wpAny_nextOf_tuple_end (I.ok.hd calm) st.2.1 tup end_ fun g z but hz => ?_)))
    exact wpAny_bind (wpAny_isInstance (T := "StopIteration") (b := true) hz isSubtype_stop (wpAny_pure ⟨rfl, I.turned (t' := t.toks) (fun b o nb q => but b o nb q) fr.1 fr.2.1 fr.2.2.2.1 fr.2.2.2.2.1 fr.2.2.2.2.2⟩))
  self := fun _ _ _ _ _ st h => st.1.elim fun _ g => wpAny_pyIter_enum g h
def iEnumT (K : PySem.W.Frag) (ta : TA) : TI := fun σ H R => ta σ H fun vs H1 => ∃ a, vs = [.ref a] ∧ ((∃ xs, SqL K H1 a xs) ∧ R (Ite K a) H1 ∨ (∃ xs, SqT K H1 a xs) ∧ R (ItET K a) H1)
/-- enumerate of a list or of a tuple -/
theorem pi_enumT {X : Cx} {e : Expr} {ta : TA} {p pos tpos : Pos} {elts : List Expr} {kk : Nat} (gl : Gl X "enumerate") (bi : X.mg "enumerate" = none) (arg : PA X [e] ta) (one : starEach [e] X.env = [(false, eval e X.env)] := by rfl) :
    PI X (.Tuple elts kk tpos) (.Call (.Name "enumerate" p) [e] [] pos) (iEnumT X.K ta) := by
  refine ⟨fun ps t σ H R I h => Call_ (ld_blt I gl bi boot_enumerate (PyProof.Rows.callWith_type1 (thn (arg.run pos ps t σ H _ I h) fun us v r => ?_) one rfl))⟩
  obtain ⟨vs, G, J, rv, a, rfl, r⟩ := r
  cases Vals.ref1 rv
  have new : ∀ b ∈ [v.heap.objs.size + 1, v.heap.objs.size], FpOk X ps G b := fun b m => by
    have up : v.heap.objs.size ≤ b := by
      simp at m
      omega
    exact J.fpOk up (J.hok.fresh up)
  rcases r with ⟨⟨xs, sq⟩, r⟩ | ⟨⟨xs, sq⟩, r⟩
  · obtain ⟨_, _, k, _⟩ := J.list sq
    exact call_enumerate_list k.isList fun g enu iter _ stay => wpAny_pyIter_enum enu ⟨v.heap.objs.size + 1, _, _, _, G, rfl, J.kept (t' := v.toks) stay, turn_enum a (v.heap.objs.size + 1) v.heap.objs.size, ⟨⟨.none, enu⟩, iter, Nat.succ_ne_self _⟩, new, r⟩
  · obtain ⟨its, _, k, _⟩ := J.tuple sq
    exact call_enumT (show v.heap.IsTuple a its.toArray from k) fun g enu iter stay => wpAny_pyIter_enum enu ⟨v.heap.objs.size + 1, _, _, _, G, rfl, J.kept (t' := v.toks) stay, turn_enumT a (v.heap.objs.size + 1) v.heap.objs.size, ⟨⟨.none, enu⟩, iter, Nat.succ_ne_self _⟩, new, r⟩
end NC
namespace NC
open PySem PySem.Spec PyProof.Rows L2
def tx (l : List Nat) : Str := ⟨l.toArray⟩
def upc (c : Nat) : Nat := if 97 ≤ c ∧ c ≤ 122 then c - 32 else c
def lwc (c : Nat) : Nat := if 65 ≤ c ∧ c ≤ 90 then c + 32 else c
def swp (c : Nat) : Nat := if 97 ≤ c ∧ c ≤ 122 then c - 32 else if 65 ≤ c ∧ c ≤ 90 then c + 32 else c
theorem sg_tx (c : Nat) : sg c = tx [c] := rfl
theorem tx_list (l : List Nat) : (tx l).cps.toList = l := by simp [tx]
theorem tx_len (l : List Nat) : (tx l).length = l.length := by show (tx l).cps.size = l.length; simp [tx]
theorem tx_inj {a b : List Nat} (h : tx a = tx b) : a = b := by rw [← tx_list a, h, tx_list]
theorem sg_inj {a b : Nat} (h : sg a = sg b) : a = b := by
  have := tx_inj (a := [a]) (b := [b]) h
  simpa using this
theorem tx_app (a b : List Nat) : tx a ++ tx b = tx (a ++ b) := by
  show Str.mk (a.toArray ++ b.toArray) = Str.mk (a ++ b).toArray
  simp
theorem sgs_tx (l : List Nat) : sgs (tx l) = l.map sg := by simp [sgs, tx_list]
theorem up1_eq : ∀ c : Nat, c < 128 → up1 c = upc c := by
  have h : ∀ c : Fin 128, up1 c.val = upc c.val := by decide +kernel
  exact fun c hc => h ⟨c, hc⟩
theorem lo1_eq : ∀ c : Nat, c < 128 → lo1 c = lwc c := by
  have h : ∀ c : Fin 128, lo1 c.val = lwc c.val := by decide +kernel
  exact fun c hc => h ⟨c, hc⟩
theorem upper_tx {l : List Nat} (h : ∀ c ∈ l, c < 128) : Txt.upper (tx l) = tx (l.map upc) := by
  rw [upper_ascii (by rw [tx_list]; exact h)]
  show Str.mk (l.toArray.map up1) = Str.mk (l.map upc).toArray
  rw [List.map_toArray, List.map_congr_left fun c hc => up1_eq c (h c hc)]
theorem lower_tx {l : List Nat} (h : ∀ c ∈ l, c < 128) : Txt.lower (tx l) = tx (l.map lwc) := by
  rw [lower_ascii (by rw [tx_list]; exact h)]
  show Str.mk (l.toArray.map lo1) = Str.mk (l.map lwc).toArray
  rw [List.map_toArray, List.map_congr_left fun c hc => lo1_eq c (h c hc)]
theorem swap_sg : ∀ c : Nat, c < 128 → Txt.swapcase (sg c) = sg (swp c) := by
  have h : ∀ c : Fin 128, Txt.swapcase (sg c.val) = sg (swp c.val) := by decide +kernel
  exact fun c hc => h ⟨c, hc⟩
structure GoodW (l : List Nat) : Prop where
  lo : 1 ≤ l.length
  hi : l.length ≤ 12
  sm : ∀ c ∈ l, 97 ≤ c ∧ c ≤ 122
  rise : l.Pairwise (· < ·)
def sds (l : List Nat) : List Nat := l.map upc ++ l
theorem GoodW.asc {l : List Nat} (g : GoodW l) : ∀ c ∈ l, c < 128 := fun c h => by have := g.sm c h; omega
theorem GoodW.nd {l : List Nat} (g : GoodW l) : l.Nodup := g.rise.imp fun h => Nat.ne_of_lt h
theorem upc_small {c : Nat} (h : 97 ≤ c ∧ c ≤ 122) : upc c = c - 32 := by unfold upc; rw [if_pos h]
theorem sds_shape {l : List Nat} (g : GoodW l) {s : Nat} (h : s ∈ sds l) : (97 ≤ s ∧ s ≤ 122 ∧ s ∈ l) ∨ (65 ≤ s ∧ s ≤ 90 ∧ s + 32 ∈ l) := by
  rcases List.mem_append.mp h with q | q
  · obtain ⟨c, hc, e⟩ := List.mem_map.mp q
    have := g.sm c hc
    rw [upc_small this] at e
    exact .inr ⟨by omega, by omega, by rw [← e, show c - 32 + 32 = c by omega]; exact hc⟩
  · have := g.sm s q
    exact .inl ⟨this.1, this.2, q⟩
theorem sds_of_small {l : List Nat} {s : Nat} (h : s ∈ l) : s ∈ sds l := List.mem_append_right _ h
theorem sds_of_great {l : List Nat} (g : GoodW l) {c : Nat} (h : c ∈ l) : c - 32 ∈ sds l := by
  refine List.mem_append_left _ (List.mem_map.mpr ⟨c, h, upc_small (g.sm c h)⟩)
theorem sds_swp {l : List Nat} (g : GoodW l) {s : Nat} (h : s ∈ sds l) : swp s ∈ sds l := by
  rcases sds_shape g h with ⟨a, b, q⟩ | ⟨a, b, q⟩
  · rw [show swp s = s - 32 by unfold swp; rw [if_pos ⟨a, b⟩]]
    exact sds_of_great g q
  · rw [show swp s = s + 32 by unfold swp; rw [if_neg (by omega), if_pos ⟨a, b⟩]]
    exact sds_of_small q
theorem sds_asc {l : List Nat} (g : GoodW l) {s : Nat} (h : s ∈ sds l) : s < 128 := by
  rcases sds_shape g h with q | q <;> omega
theorem sds_len {l : List Nat} (g : GoodW l) : (sds l).length ≤ 24 := by
  unfold sds
  rw [List.length_append, List.length_map]
  have := g.hi
  omega
theorem sds_nd {l : List Nat} (g : GoodW l) : (sds l).Nodup := by
  refine List.nodup_append.mpr ⟨?_, g.nd, fun a ha b hb e => ?_⟩
  · refine List.pairwise_map.mpr (g.rise.imp_of_mem fun {a b} ha hb h e => ?_)
    have := g.sm a ha
    have := g.sm b hb
    rw [upc_small (by omega), upc_small (by omega)] at e
    omega
  · obtain ⟨c, hc, e2⟩ := List.mem_map.mp ha
    have h1 := g.sm c hc
    have h2 := g.sm b hb
    rw [upc_small h1] at e2
    omega
/-- is_bar -/
def isBar (l b : List Nat) : Bool := match b with
  | [x, y] => decide (x ∈ sds l) && (decide (y ∈ sds l) && decide (lwc x < lwc y))
  | _ => false
theorem lt1 (a b : Nat) : ([a] : List Nat) < [b] ↔ a < b := by simp [List.cons_lt_cons_iff]
theorem same_upd {H : Hp} {p : Addr} {o : HO} (h : H p = none) : Same H (upd H p o) := fun b x e => by
  rw [upd_ne (ne_of_none e h)]
  exact e
theorem sm_t {K : PySem.W.Frag} {H H' : Hp} {a : Addr} {xs : List V} (e : Same H H') (h : SqT K H a xs) : SqT K H' a xs := by
  rcases h with (h | ⟨o, h⟩) | h
  · exact .inl (.inl (e _ _ h))
  · exact .inl (.inr ⟨o, e _ _ h⟩)
  · exact .inr h
theorem yes_i {σ : L2.St} {H : Hp} {A B : Hp → Prop} (h : A H) : tYes σ H (fun b H3 => if b = true then A H3 else B H3) := show (if true = true then A H else B H) from iteT h
theorem sm_trans {H H1 H2 : Hp} (a : Same H H1) (b : Same H1 H2) : Same H H2 := fun c o h => b c o (a c o h)
theorem sm_upd {H H1 : Hp} {p : Addr} {o : HO} (e : Same H H1) (h : H1 p = none) : Same H (upd H1 p o) := sm_trans e (same_upd h)
/-- a store at what was new -/
theorem sm_over {H H1 : Hp} {p : Addr} {o : HO} (e : Same H H1) (h : H p = none) : Same H (upd H1 p o) := fun b x hb => by
  rw [upd_ne (ne_of_none hb h)]
  exact e b x hb
theorem sm_l {K : PySem.W.Frag} {H H' : Hp} {a : Addr} {xs : List V} (e : Same H H') (h : SqL K H a xs) : SqL K H' a xs := L2.Same.seq e h
theorem inV_str (x : Str) (ys : List Str) : inV (.str x) (ys.map V.str) = decide (x ∈ ys) := by
  unfold inV
  rw [List.any_map]
  induction ys with
  | nil => rfl
  | cons y r ih =>
    rw [List.any_cons, ih]
    by_cases e : y = x
    · subst e
      simp [eqV]
    · have e2 : ¬ x = y := fun z => e z.symm
      have q : eqV (.str y) (.str x) = false := by
        show (y == x) = false
        simpa using e
      show (eqV (.str y) (.str x) || _) = _
      rw [q]
      simp [e2]
theorem flat_str (ys : List Str) : (ys.map V.str).all flatV = true := by
  rw [List.all_map]
  exact List.all_eq_true.mpr fun _ _ => rfl
theorem mem_sg {c : Nat} {l : List Nat} : sg c ∈ l.map sg ↔ c ∈ l := by
  constructor
  · intro h
    obtain ⟨d, hd, e⟩ := List.mem_map.mp h
    rw [← sg_inj e]
    exact hd
  · exact fun h => List.mem_map.mpr ⟨c, h, rfl⟩
end NC
namespace NC
open PySem PySem.Spec PyProof.Rows L2
def topS (i : Nat) : Stmt := PySem.Challenge.pw_nearcall_k39_rooms_come_to.main.body.getD i (.Pass ⟨0, 0, 0, 0⟩)
abbrev sOther : Stmt := topS 15
abbrev sSides : Stmt := topS 16
abbrev sByWalls : Stmt := topS 17
abbrev sIsWalls : Stmt := topS 18
abbrev sIsBar : Stmt := topS 19
abbrev sChkWalls : Stmt := topS 20
abbrev sChkBars : Stmt := topS 21
abbrev sChkSide : Stmt := topS 22
/-- the built-ins are the built-ins -/
structure BM (mg : Str → Option Value) : Prop where
  list : mg "list" = none
  sorted : mg "sorted" = none
  set : mg "set" = none
  all : mg "all" = none
  len : mg "len" = none
  enumerate : mg "enumerate" = none
  range : mg "range" = none
  isinstance : mg "isinstance" = none
  tuple : mg "tuple" = none
/-- a def of the top, by its name -/
structure DF (K : PySem.W.Frag) (mg : Str → Option Value) (x : Str) (st : Stmt) (ps : List Str) (f : Addr) (fd : FuncData) : Prop where
  F : Fun K x x st f fd
  g : mg x = some (.ref f)
  b : Binds K fd ps []
theorem scOther : FnScope ["side"] ["side"] (defScope sOther) := ⟨rfl, rfl, rfl, by decide +kernel, rfl, by decide +kernel, by decide +kernel⟩
theorem scSides : FnScope ["walls"] ["walls"] (defScope sSides) := ⟨rfl, rfl, rfl, by decide +kernel, rfl, by decide +kernel, by decide +kernel⟩
theorem scIsBar : FnScope ["walls", "bar", "sides"] ["walls", "bar"] (defScope sIsBar) := ⟨rfl, rfl, rfl, by decide +kernel, rfl, by decide +kernel, by decide +kernel⟩
theorem scChkSide : FnScope ["walls", "side"] ["walls", "side"] (defScope sChkSide) := ⟨rfl, rfl, rfl, by decide +kernel, rfl, by decide +kernel, by decide +kernel⟩
section
variable {P : Program} {w : World} {K : PySem.W.Frag} {mg : Str → Option Value} {base : Heap}
def spOther : Sp := fun vs H Q _ => ∃ c, vs = [.str (sg c)] ∧ c < 128 ∧ Q (.str (sg (swp c))) H
theorem ok_other {f : Addr} {fd : FuncData} {k : Nat} (F : Fun K "other" "other" sOther f fd) : FnOk P w K mg base CX0 (k + 1) f fd ["side"] spOther := by
  refine F.ok scOther (fun vs H Q E h => ?_) (fun cdv A outer s H vs Q E hr h => ?_)
  · obtain ⟨c, rfl, _⟩ := h
    rfl
  · obtain ⟨c, rfl, hc, q⟩ := h
    refine ⟨_, pss_one (ps_ret (pe_m0 PySem.F.slot_str_swapcase PySem.F.type_str_swapcase mt_swap (pv 0))), ?_⟩
    refine ⟨_, rfl, ⟨_, rfl⟩, _, rfl, rfl, by show 1 ≤ 1000; decide, ?_⟩
    rw [swap_sg c hc]
    exact q
def spSides : Sp := fun vs H Q _ => ∃ l, vs = [.str (tx l)] ∧ (∀ c ∈ l, c < 128) ∧ l.length ≤ 100 ∧ ∀ p, H p = none → Q (.ref p) (upd H p (.lst (((sds l).map sg).map V.str)))
theorem ok_sides {f : Addr} {fd : FuncData} {k : Nat} (B : BM mg) (F : Fun K "sides_of" "sides_of" sSides f fd) : FnOk P w K mg base CX0 (k + 1) f fd ["walls"] spSides := by
  refine F.ok scSides (fun vs H Q E h => ?_) (fun cdv A outer s H vs Q E hr h => ?_)
  · obtain ⟨c, rfl, _⟩ := h
    rfl
  · obtain ⟨l, rfl, hl, hz, q⟩ := h
    refine ⟨_, pss_one (ps_ret (pe_callTy (cr_listS rfl) (by rfl) B.list (by decide +kernel) (pa_cons (pe_op op_add_str (pe_upper (pv 0)) (pv 0)) pa_nil))), ?_⟩
    refine ⟨_, rfl, ⟨_, rfl⟩, _, rfl, rfl, by rw [tx_len]; omega, ?_⟩
    rw [upper_tx hl]
    refine ⟨_, rfl, _, _, rfl, rfl, by rw [tx_len, tx_len, List.length_map, sizeLine_eq]; omega, ?_⟩
    rw [tx_app]
    refine ⟨_, rfl, by rw [tx_len, List.length_append, List.length_map, sizeLine_eq]; omega, fun p hp => ?_⟩
    rw [sgs_tx]
    exact q p hp
def spIsBar : Sp := fun vs H Q _ => ∃ l b, vs = [.str (tx l), .str (tx b)] ∧ (∀ c ∈ l, c < 128) ∧ l.length ≤ 100 ∧ (∀ c ∈ b, c < 128) ∧ b.length ≤ 100 ∧ ∀ H', Same H H' → Q (.bl (isBar l b)) H'
theorem ok_isBar {f fS : Addr} {fd fdS : FuncData} {k : Nat} (B : BM mg) (F : Fun K "is_bar" "is_bar" sIsBar f fd) (S : DF K mg "sides_of" sSides ["walls"] fS fdS) : FnOk P w K mg base CX0 (k + 2) f fd ["walls", "bar"] spIsBar := by
  have GS : FnOk P w K mg base CX0 (k + 1) fS fdS ["walls"] spSides := ok_sides B S.F
  refine F.ok scIsBar (fun vs H Q E h => ?_) (fun cdv A outer s H vs Q E hr h => ?_)
  · obtain ⟨l, b, rfl, _⟩ := h
    rfl
  · obtain ⟨l, b, rfl, hl, hlz, hb, hbz, q⟩ := h
    have hbs : (tx b).length ≤ sizeLine := by rw [tx_len, sizeLine_eq]; omega
    refine ⟨_, pss_cons (ps_set (i := 2) scIsBar.nd rfl (.inl rfl) (pe_call GS hr rfl S.g S.F.kp S.b .nil pass0 (pa_cons (pv 0) pa_nil)))
      (pss_cons (ps_if (PW.pt (pw_or (pt_cmpR op_ne (pe_callB call_len_str (by rfl) B.len PySem.boot_len (pa_cons (pv 1) pa_nil)) pe_int (nomark _))
          (pw_or (pt_cmpR op_notIn_seq (pe_ix ix_str (pv 1) pe_int (fun _ _ => rfl)) (pv 2) (by rfl))
            (pw_or1 (pt_cmpR op_notIn_seq (pe_ix ix_str (pv 1) pe_int (fun _ _ => rfl)) (pv 2) (by rfl))))))
        (pss_one (ps_ret pe_bl)) pss_nil)
      (pss_one (ps_ret (pe_cmpR op_lt_str (pe_lower (pe_ix ix_str (pv 1) pe_int (fun _ _ => rfl))) (pe_lower (pe_ix ix_str (pv 1) pe_int (fun _ _ => rfl))) (nomark _))))), ?_⟩
    refine ⟨_, rfl, l, rfl, hl, hlz, fun p hp => ?_⟩
    have sm : Same H (upd H p (.lst (((sds l).map sg).map V.str))) := same_upd hp
    have hS : SqL K (upd H p (.lst (((sds l).map sg).map V.str))) p (((sds l).map sg).map V.str) := SqL.of upd_same
    have ix : ∀ c, inV (.str (sg c)) (((sds l).map sg).map V.str) = decide (c ∈ sds l) := fun c => by
      rw [inV_str]
      by_cases hm : c ∈ sds l
      · rw [decide_eq_true hm, decide_eq_true (mem_sg.mpr hm)]
      · rw [decide_eq_false hm, decide_eq_false fun z => hm (mem_sg.mp z)]
    refine ⟨_, rfl, _, rfl, hbs, rfl, _, rfl, ite2 (fun e => ?_) (fun e => ?_)⟩
    · have hn : b.length ≠ 2 := fun z => by
        rw [tx_len, z] at e
        exact absurd e (by decide)
      have e0 : isBar l b = false := by
        match b, hn with
        | [], _ => rfl
        | [_], _ => rfl
        | [_, _], hn => exact absurd rfl hn
        | _ :: _ :: _ :: _, _ => rfl
      refine iteT (show Q (.bl false) _ from ?_)
      rw [← e0]
      exact q _ sm
    · have hn : b.length = 2 := by
        have e1 : decide (V.int ↑(tx b).length = V.int 2) = true := by simpa using e
        have e2 : ((tx b).length : Int) = 2 := V.int.inj (of_decide_eq_true e1)
        rw [tx_len] at e2
        omega
      obtain ⟨x, y, rfl⟩ : ∃ x y, b = [x, y] := by
        match b, hn with
        | [x, y], _ => exact ⟨x, y, rfl⟩
      refine ⟨_, rfl, _, _, x, rfl, rfl, hbs, rfl, _, rfl, p, _, rfl, .inl hS, rfl, flat_str _, _, rfl, ite2 (fun e1 => ?_) (fun e1 => ?_)⟩
      · have e1 : (!inV (.str (sg x)) (((sds l).map sg).map V.str)) = true := e1
        rw [ix] at e1
        have e0 : isBar l [x, y] = false := by
          show (decide (x ∈ sds l) && _) = false
          simp only [Bool.not_eq_true'] at e1
          rw [e1]; rfl
        refine iteT (show Q (.bl false) _ from ?_)
        rw [← e0]
        exact q _ sm
      · have e1 : ¬ (!inV (.str (sg x)) (((sds l).map sg).map V.str)) = true := e1
        rw [ix] at e1
        have hx : decide (x ∈ sds l) = true := by simpa using e1
        refine ⟨_, rfl, _, _, y, rfl, rfl, hbs, rfl, _, rfl, p, _, rfl, .inl hS, rfl, flat_str _, _, rfl, ite2 (fun e2 => ?_) (fun e2 => ?_)⟩
        · have e2 : (!inV (.str (sg y)) (((sds l).map sg).map V.str)) = true := e2
          rw [ix] at e2
          have e0 : isBar l [x, y] = false := by
            show (decide (x ∈ sds l) && (decide (y ∈ sds l) && _)) = false
            simp only [Bool.not_eq_true'] at e2
            rw [e2]; simp
          show Q (.bl false) _
          rw [← e0]
          exact q _ sm
        · have e2 : ¬ (!inV (.str (sg y)) (((sds l).map sg).map V.str)) = true := e2
          rw [ix] at e2
          have hy : decide (y ∈ sds l) = true := by simpa using e2
          refine ⟨_, rfl, _, _, x, rfl, rfl, hbs, rfl, ⟨_, rfl⟩, _, rfl, rfl, by show 1 ≤ 5592405; decide, _, rfl, _, _, y, rfl, rfl, hbs, rfl, ⟨_, rfl⟩, _, rfl, rfl, by show 1 ≤ 5592405; decide, ?_⟩
          rw [show Txt.lower (⟨#[x]⟩ : Str) = tx [lwc x] from lower_tx (l := [x]) (fun c hc => hb c (by simp at hc; simp [hc])), show Txt.lower (⟨#[y]⟩ : Str) = tx [lwc y] from lower_tx (l := [y]) (fun c hc => hb c (by simp at hc; simp [hc]))]
          refine ⟨_, _, rfl, rfl, ?_⟩
          have e0 : decide ((tx [lwc x]).cps.toList < (tx [lwc y]).cps.toList) = isBar l [x, y] := by
            show _ = (decide (x ∈ sds l) && (decide (y ∈ sds l) && decide (lwc x < lwc y)))
            rw [hx, hy, tx_list, tx_list]
            simp [lt1]
          rw [e0]
          exact q _ sm
end
end NC
namespace NC
open PySem PySem.Spec PyProof.Rows L2
def leS (a b : Str) : Prop := a.cps.toList ≤ b.cps.toList
theorem ltc_iff (a b : List Nat) : ltCps a b = decide (a < b) := by
  induction a generalizing b with
  | nil => cases b <;> simp [ltCps]
  | cons x r ih =>
    cases b with
    | nil => simp [ltCps]
    | cons y s =>
      simp only [ltCps, ih, List.cons_lt_cons_iff]
      by_cases h1 : x < y
      · simp [h1]
      · by_cases h2 : x = y
        · subst h2; simp
        · simp [h1, h2]
theorem rise_pw : ∀ (l : List Str) (p : Str), risingS p l = true → (p :: l).Pairwise leS
  | [], p, _ => by simp
  | x :: r, p, h => by
    have h' : (!ltCps x.cps.toList p.cps.toList && risingS x r) = true := h
    rw [Bool.and_eq_true] at h'
    have q := rise_pw r x h'.2
    have hpx : leS p x := by
      have z := h'.1
      rw [ltc_iff] at z
      simpa [leS] using z
    refine List.pairwise_cons.mpr ⟨fun y hy => ?_, q⟩
    rcases List.mem_cons.mp hy with e | e
    · rw [e]; exact hpx
    · exact List.le_trans hpx ((List.pairwise_cons.mp q).1 y e)
theorem sortedS_pw : ∀ l : List Str, sortedS l = true → l.Pairwise leS
  | [], _ => List.Pairwise.nil
  | x :: r, h => rise_pw r x h
theorem str_ext {a b : Str} (h : a.cps.toList = b.cps.toList) : a = b := by
  cases a; cases b
  simp at h
  rw [h]
theorem sortedS_eq {ys zs : List Str} (h : sortedS ys = true) (p : ys.Perm zs) (hz : zs.Pairwise leS) : ys = zs :=
  p.eq_of_pairwise (fun a b _ _ h1 h2 => str_ext (List.le_antisymm h1 h2)) (sortedS_pw ys h) hz
theorem leS_sg {a b : Nat} (h : a ≤ b) : leS (sg a) (sg b) := by
  show ([a] : List Nat) ≤ [b]
  rw [List.cons_le_cons_iff]
  by_cases e : a = b
  · exact .inr ⟨e, List.le_refl _⟩
  · exact .inl (by omega)
theorem GoodW.pw {l : List Nat} (g : GoodW l) : (l.map sg).Pairwise leS := List.pairwise_map.mpr (g.rise.imp fun h => leS_sg (Nat.le_of_lt h))
theorem eqvAll_strs : ∀ xs ys : List Str, PyData.eqvAll (xs.map .str) (ys.map .str) = decide (xs = ys)
  | [], [] => rfl
  | [], _ :: _ => rfl
  | _ :: _, [] => rfl
  | x :: r, y :: s => by
    show ((x == y) && PyData.eqvAll (r.map .str) (s.map .str)) = _
    rw [eqvAll_strs r s]
    by_cases h1 : x = y
    · subst h1
      by_cases h2 : r = s
      · simp [h2]
      · simp [h2]
    · simp [h1]
def okS (x : Str) : Prop := ∀ c ∈ x.cps.toList, c < 128
theorem okS_tx {l : List Nat} (h : ∀ c ∈ l, c < 128) : okS (tx l) := by unfold okS; rw [tx_list]; exact h
theorem okS_sg {c : Nat} (h : c < 128) : okS (sg c) := okS_tx (l := [c]) fun d hd => by simp at hd; omega
theorem strOk_of {x : Str} (h : okS x) : PyData.strOk x = true := by
  unfold PyData.strOk
  rw [← Array.all_toList, List.all_eq_true]
  intro c hc
  have := h c hc
  simp
  omega
theorem canAll_strs : ∀ xs : List Str, (∀ x ∈ xs, okS x) → PyData.canLayAll0 (xs.map .str) = true
  | [], _ => rfl
  | x :: r, h => by
    show (PyData.strOk x && PyData.canLayAll0 (r.map .str)) = true
    rw [strOk_of (h x (List.mem_cons_self ..)), canAll_strs r fun y hy => h y (List.mem_cons_of_mem _ hy)]
    rfl
theorem depAll_strs : ∀ xs : List Str, PyData.depthAll (xs.map .str) = 0
  | [] => rfl
  | x :: r => by
    show max 0 (PyData.depthAll (r.map .str)) = 0
    rw [depAll_strs r]
    rfl
theorem shaped_strs {xs : List Str} (h : ∀ x ∈ xs, okS x) : SeqAt.shaped (.list (xs.map .str)) = true := by
  show (PyData.canLayAll0 (xs.map .str) && decide (PyData.depthAll (xs.map .str) + 1 ≤ 64)) = true
  rw [canAll_strs xs h, depAll_strs]
  rfl
theorem dpAll_strs {K : PySem.W.Frag} {H : Hp} : ∀ xs : List Str, DpAll K H (xs.map V.str) (xs.map .str)
  | [] => .nil
  | x :: r => .cons (.str x) (dpAll_strs r)
end NC
namespace NC
open PySem PySem.Spec PyProof.Rows L2
theorem scIsWalls : FnScope ["walls", "small", "letter"] ["walls"] (defScope sIsWalls) := ⟨rfl, rfl, rfl, by decide +kernel, rfl, by decide +kernel, by decide +kernel⟩
theorem scChkWalls : FnScope ["walls"] ["walls"] (defScope sChkWalls) := ⟨rfl, rfl, rfl, by decide +kernel, rfl, by decide +kernel, by decide +kernel⟩
theorem scByWalls : FnScope ["walls", "sides", "wall", "side"] ["walls", "sides"] (defScope sByWalls) := ⟨rfl, rfl, rfl, by decide +kernel, rfl, by decide +kernel, by decide +kernel⟩
theorem strA : (Str.ofString "a") = sg 97 := by decide +kernel
theorem strZ : (Str.ofString "z") = sg 122 := by decide +kernel
section
variable {P : Program} {w : World} {K : PySem.W.Frag} {mg : Str → Option Value} {base : Heap}
def spIsWalls : Sp := fun vs H Q _ => ∃ l, vs = [.str (tx l)] ∧ GoodW l ∧ ∀ H', Same H H' → Q (.bl true) H'
theorem ok_isWalls {f : Addr} {fd : FuncData} {k : Nat} {tw : Tok} (B : BM mg) (mW : mg "WIDEST" = some (.int 12 tw)) (F : Fun K "is_walls" "is_walls" sIsWalls f fd) : FnOk P w K mg base CX0 (k + 1) f fd ["walls"] spIsWalls := by
  refine F.ok scIsWalls (fun vs H Q E h => ?_) (fun cdv A outer s H vs Q E hr h => ?_)
  · obtain ⟨l, rfl, _⟩ := h
    rfl
  · obtain ⟨l, rfl, g, q⟩ := h
    have hlz : (tx l).length ≤ sizeLine := by rw [tx_len, sizeLine_eq]; have := g.hi; omega
    refine ⟨_, pss_cons (ps_set (i := 1) scIsWalls.nd rfl (.inl rfl) (pe_callB (cr_all rfl) (by rfl) B.all (by decide +kernel) (pa_cons
        (pe_lc (own := [("letter", 2)]) (g := gName 2) (tt := tYes) rfl scIsWalls.nd (pi_str (pv 0)) (blkOk_by (N := ["walls", "small", "letter"]) (sc := defScope sIsWalls) (by decide +kernel))
          (fun _ _ _ _ _ => pg_name (i := 2) scIsWalls.nd rfl (Or.inl rfl)) (fun _ _ _ _ _ => pts_nil) (fun _ _ _ _ _ => pe_chain op_le_str op_le_str pe_str (pv 2) pe_str)) pa_nil)))
      (pss_one (ps_ret (pe_and (pv 1) (pe_and (pe_chain op_le op_le pe_int (pe_callB call_len_str (by rfl) B.len PySem.boot_len (pa_cons (pv 0) pa_nil)) (pe_glob (v := .int 12) rfl mW ⟨_, rfl⟩))
        (pe_one (pe_cmpR (op_eqD hr.units) (pe_callB (cr_sortedSetT rfl) (by rfl) B.sorted (by decide +kernel) (pa_cons (pe_callTy (cr_setT rfl) (by rfl) B.set (by decide +kernel) (pa_cons (pv 0) pa_nil)) pa_nil))
          (pe_callTy (cr_listS rfl) (by rfl) B.list (by decide +kernel) (pa_cons (pv 0) pa_nil)) (nomark _))))))), ?_⟩
    refine ⟨_, rfl, tx l, rfl, fun D hD => lc_it walk_str (fun i H' => ∃ n : Nat, n = i ∧ Same H H' ∧ H' D = some (.lst ((List.replicate i true).map V.bl))) ⟨0, rfl, same_upd hD, upd_same⟩ (fun _ _ _ _ => trivial) ?_ ?_⟩
    · rintro i x H1 H2 hi ⟨n, rfl, sm, eD⟩ ⟨rfl, c, hc, rfl⟩
      have hcl : c ∈ l := by
        have e : l[n]? = some c := by
          rw [← Array.getElem?_toList, tx_list] at hc
          exact hc
        exact List.mem_of_getElem? e
      have hs := g.sm c hcl
      have hn : n < l.length := by
        have : (tx l).cps.size = l.length := tx_len l
        omega
      refine ⟨rfl, yes_i ⟨_, rfl, _, _, rfl, rfl, true, ?_, iteT ⟨_, _, rfl, rfl, ?_⟩⟩⟩
      · rw [strA]
        show V.bl (!decide (([c] : List Nat) < [97])) = .bl true
        rw [decide_eq_false (by rw [lt1]; omega)]
        rfl
      · have e2 : (!decide ((Str.ofString "z").cps.toList < (⟨#[c]⟩ : Str).cps.toList)) = true := by
          rw [strZ]
          show (!decide (([122] : List Nat) < [c])) = true
          rw [decide_eq_false (by rw [lt1]; omega)]
          rfl
        rw [e2]
        refine ⟨_, eD, ?_, _, rfl, ?_, ?_⟩
        · rw [List.length_map, List.length_replicate, sizeLine_eq]
          have := g.hi
          omega
        · exact sm_over sm hD
        · rw [upd_same, List.replicate_succ', List.map_append]
          rfl
    · rintro H1 ⟨n, rfl, sm, eD⟩
      refine ⟨_, _, rfl, SqL.of eD, ?_⟩
      have ea : (List.replicate (tx l).cps.size true).all id = true := by simp
      rw [ea]
      refine ⟨_, rfl, true, rfl, iteT ⟨_, rfl, _, rfl, hlz, _, _, rfl, rfl, true, ?_, iteT ⟨_, _, rfl, rfl, true, ?_, iteT ?_⟩⟩⟩
      · show V.bl (decide ((1 : Int) ≤ ((tx l).length : Int))) = .bl true
        rw [tx_len, decide_eq_true (by have := g.lo; omega)]
      · show V.bl (decide (((tx l).length : Int) ≤ 12)) = .bl true
        rw [tx_len, decide_eq_true (by have := g.hi; omega)]
      · refine ⟨_, rfl, tx l, rfl, ?_, by rw [tx_list]; exact g.nd, by rw [tx_list]; have := g.hi; omega, fun p z hp hz => ?_⟩
        · rw [← Array.all_toList, tx_list, List.all_eq_true]
          intro c hc
          have := g.asc c hc
          simpa using this
        · rw [sgs_tx] at hz
          have hnd : (l.map sg).Nodup := List.pairwise_map.mpr (g.nd.imp fun {a b} h e => h (sg_inj e))
          refine ⟨p, z, rfl, upd_same, hz.nodup_iff.mpr hnd, by rw [hz.length_eq, List.length_map]; have := g.hi; omega, fun ys r hy hs hr2 => ?_⟩
          have ey : ys = l.map sg := sortedS_eq hs (hy.trans hz) g.pw
          subst ey
          refine ⟨_, rfl, _, rfl, hlz, fun a ha => ?_⟩
          rw [sgs_tx]
          have hra : r ≠ a := ne_of_none upd_same ha
          have oks : ∀ x ∈ l.map sg, okS x := fun x hx => by
            obtain ⟨c, hc, rfl⟩ := List.mem_map.mp hx
            exact okS_sg (g.asc c hc)
          refine ⟨_, _, .lst (SqL.of (by rw [upd_ne hra, upd_same])) (dpAll_strs _), .lst (SqL.of upd_same) (dpAll_strs _), shaped_strs oks, shaped_strs oks, ?_⟩
          show Q (.bl (PyData.eqvAll _ _)) _
          rw [eqvAll_strs, decide_eq_true rfl]
          exact q _ (sm_upd (sm_upd (sm_upd sm hp) hr2) ha)
end
end NC
namespace NC
open PySem PySem.Spec PyProof.Rows L2
/-- a dict comprehension over a walk -/
theorem dc_it {J : It} {n : Nat} {G : Hp → Prop} {Y : Nat → Hp → V → Hp → Prop} (wk : Walk J n G Y) {g : TG} {tt : TT} {tk tv : TE} {vs : List Nat} {σ : L2.St} {H1 : Hp} {D : Addr} {Qd : Hp → Prop} (Pv : Nat → Hp → Prop)
    (h0 : Pv 0 (upd H1 D (.dK []))) (hG : ∀ i H, i ≤ n → Pv i H → G H)
    (hs : ∀ i x H H', i < n → Pv i H → Y i H x H' → g x (wipe σ vs) H' fun σ2 H2 => wipe σ2 vs = wipe σ vs ∧ tt σ2 H2 fun b H3 =>
      if b = true then tk σ2 H3 fun y H4 => tv σ2 H4 fun z H5 => ∃ kvs k, y = kV k ∧ H5 D = some (.dK kvs) ∧ kvs.length < sizeLine ∧ Pv (i + 1) (upd H5 D (.dK (putK kvs k z))) else Pv (i + 1) H3) (hd : ∀ H, Pv n H → Qd H) :
    ∃ W : Nat → Nat → Hp → Prop, (∃ m, W 0 m (upd H1 D (.dK []))) ∧ ∀ i m H, W i m H →
      (J.stop i H ∧ Qd H) ∨ (J.go i H ∧ ∃ Nx : Hp → Prop, (∀ H', Nx H' → ∃ m', m' < m ∧ W (i + 1) m' H') ∧ ∀ x H', J.yld i H x H' → g x (wipe σ vs) H' fun σ2 H2 => wipe σ2 vs = wipe σ vs ∧ tt σ2 H2 fun b H3 =>
        if b = true then tk σ2 H3 fun y H4 => tv σ2 H4 fun z H5 => ∃ kvs k, y = kV k ∧ H5 D = some (.dK kvs) ∧ kvs.length < sizeLine ∧ Nx (upd H5 D (.dK (putK kvs k z))) else Nx H3) := by
  refine ⟨fun i m H => m = n - i ∧ i ≤ n ∧ Pv i H, ⟨n, by simp, Nat.zero_le _, h0⟩, ?_⟩
  rintro i m H ⟨rfl, hi, p⟩
  have q := hG i H hi p
  rcases Nat.lt_or_ge i n with hlt | hge
  · exact .inr ⟨wk.goes i H hlt q, Pv (i + 1), fun H' p' => ⟨n - (i + 1), by omega, rfl, hlt, p'⟩, fun x H' y => hs i x H H' hlt p (wk.yields i H x H' hlt q y)⟩
  · obtain rfl : i = n := by omega
    exact .inl ⟨wk.stops H q, hd H p⟩
/-- the inner walk of a comprehension of two -/
theorem in_it {J : It} {n : Nat} {G : Hp → Prop} {Y : Nat → Hp → V → Hp → Prop} (wk : Walk J n G Y) {g1 : TG} {tt1 : TT} {te : TE} {vs1 : List Nat} {σ2 : L2.St} {H4 : Hp} {D : Addr} {Nx : Hp → Prop} (Pv : Nat → Hp → Prop)
    (h0 : Pv 0 H4) (hG : ∀ i H, i ≤ n → Pv i H → G H)
    (hs : ∀ i x H H', i < n → Pv i H → Y i H x H' → g1 x (wipe σ2 vs1) H' fun σ3 H5 => wipe σ3 vs1 = wipe σ2 vs1 ∧ tt1 σ3 H5 fun b H6 =>
      if b = true then te σ3 H6 fun y H7 => ∃ acc, H7 D = some (.lst acc) ∧ acc.length < sizeLine ∧ Pv (i + 1) (upd H7 D (.lst (acc ++ [y]))) else Pv (i + 1) H6) (hd : ∀ H, Pv n H → Nx H) :
    ∃ W1 : Nat → Nat → Hp → Prop, (∃ m, W1 0 m H4) ∧ ∀ j k H, W1 j k H →
      (J.stop j H ∧ Nx H) ∨ (J.go j H ∧ ∃ Nx1 : Hp → Prop, (∀ H', Nx1 H' → ∃ k', k' < k ∧ W1 (j + 1) k' H') ∧ ∀ x H', J.yld j H x H' → g1 x (wipe σ2 vs1) H' fun σ3 H5 => wipe σ3 vs1 = wipe σ2 vs1 ∧ tt1 σ3 H5 fun b H6 =>
        if b = true then te σ3 H6 fun y H7 => ∃ acc, H7 D = some (.lst acc) ∧ acc.length < sizeLine ∧ Nx1 (upd H7 D (.lst (acc ++ [y]))) else Nx1 H6) := by
  refine ⟨fun i m H => m = n - i ∧ i ≤ n ∧ Pv i H, ⟨n, by simp, Nat.zero_le _, h0⟩, ?_⟩
  rintro i m H ⟨rfl, hi, p⟩
  have q := hG i H hi p
  rcases Nat.lt_or_ge i n with hlt | hge
  · exact .inr ⟨wk.goes i H hlt q, Pv (i + 1), fun H' p' => ⟨n - (i + 1), by omega, rfl, hlt, p'⟩, fun x H' y => hs i x H H' hlt p (wk.yields i H x H' hlt q y)⟩
  · obtain rfl : i = n := by omega
    exact .inl ⟨wk.stops H q, hd H p⟩
/-- the outer walk of a comprehension of two (no test on the outer) -/
theorem out_it {J : It} {n : Nat} {G : Hp → Prop} {Y : Nat → Hp → V → Hp → Prop} (wk : Walk J n G Y) {H1 : Hp} {D : Addr} {Qd : Hp → Prop} {B : V → Hp → (Hp → Prop) → Prop} (Pv : Nat → Hp → Prop)
    (h0 : Pv 0 (upd H1 D (.lst []))) (hG : ∀ i H, i ≤ n → Pv i H → G H) (hs : ∀ i x H H', i < n → Pv i H → Y i H x H' → B x H' (Pv (i + 1))) (hd : ∀ H, Pv n H → Qd H) :
    ∃ W : Nat → Nat → Hp → Prop, (∃ m, W 0 m (upd H1 D (.lst []))) ∧ ∀ i m H, W i m H →
      (J.stop i H ∧ Qd H) ∨ (J.go i H ∧ ∃ Nx : Hp → Prop, (∀ H', Nx H' → ∃ m', m' < m ∧ W (i + 1) m' H') ∧ ∀ x H', J.yld i H x H' → B x H' Nx) := by
  refine ⟨fun i m H => m = n - i ∧ i ≤ n ∧ Pv i H, ⟨n, by simp, Nat.zero_le _, h0⟩, ?_⟩
  rintro i m H ⟨rfl, hi, p⟩
  have q := hG i H hi p
  rcases Nat.lt_or_ge i n with hlt | hge
  · exact .inr ⟨wk.goes i H hlt q, Pv (i + 1), fun H' p' => ⟨n - (i + 1), by omega, rfl, hlt, p'⟩, fun x H' y => hs i x H H' hlt p (wk.yields i H x H' hlt q y)⟩
  · obtain rfl : i = n := by omega
    exact .inl ⟨wk.stops H q, hd H p⟩
theorem fold_glue (e : Array Nat) (he : e = #[]) : ∀ (r : List (List Nat)) (acc : Array Nat), (r.map tx).foldl (fun acc p => acc ++ e ++ p.cps) acc = acc ++ r.flatten.toArray
  | [], acc => by simp
  | x :: r, acc => by
    rw [List.map_cons, List.foldl_cons, fold_glue e he r, he]
    simp [tx]
theorem join_tx (xs : List (List Nat)) : Txt.join (Str.ofString "") (xs.map tx) = tx xs.flatten := by
  have e0 : (Str.ofString "").cps = #[] := by decide +kernel
  show (⟨((xs.map tx).drop 1).foldl (fun acc p => acc ++ (Str.ofString "").cps ++ p.cps) ((xs.map tx).headD Str.empty).cps⟩ : Str) = _
  cases xs with
  | nil => rfl
  | cons x r =>
    show (⟨(r.map tx).foldl (fun acc p => acc ++ (Str.ofString "").cps ++ p.cps) x.toArray⟩ : Str) = _
    rw [fold_glue _ e0]
    show Str.mk _ = Str.mk _
    simp
/-- ''.join of signs -/
theorem join_sg (l : List Nat) : Txt.join (Str.ofString "") (l.map sg) = tx l := by
  have e2 : ∀ l : List Nat, (l.map fun c => [c]).flatten = l := fun l => by
    induction l with
    | nil => rfl
    | cons x r ih => simp [ih]
  have e := join_tx (l.map fun c => [c])
  rw [List.map_map, e2] at e
  exact e
end NC
namespace NC
open PySem PySem.Spec PyProof.Rows L2
/-- by_walls, the other part a dict -/
def inK (kvs : List (Key × V)) (c : Nat) : Bool := (valV kvs (Sum.inr (sg c))).isSome
def byW (l : List Nat) (kvs : List (Key × V)) : List Nat := l.flatMap fun c => [swp c, c].filter (inK kvs)
theorem byW_len (l : List Nat) (kvs : List (Key × V)) : (byW l kvs).length ≤ 2 * l.length := by
  induction l with
  | nil => simp [byW]
  | cons x r ih =>
    have h1 : (byW (x :: r) kvs) = [swp x, x].filter (inK kvs) ++ byW r kvs := by simp [byW]
    rw [h1, List.length_append, List.length_cons]
    have h2 : ([swp x, x].filter (inK kvs)).length ≤ 2 := List.length_filter_le _ _
    omega
theorem byW_mem {l : List Nat} (g : GoodW l) {kvs : List (Key × V)} {s : Nat} (h : s ∈ byW l kvs) : s ∈ sds l ∧ inK kvs s = true := by
  obtain ⟨c, hc, hs⟩ := List.mem_flatMap.mp h
  obtain ⟨h1, h2⟩ := List.mem_filter.mp hs
  refine ⟨?_, h2⟩
  rcases List.mem_cons.mp h1 with e | e
  · rw [e]; exact sds_swp g (sds_of_small hc)
  · rw [List.mem_singleton.mp e]; exact sds_of_small hc
theorem byW_snoc (l : List Nat) (n : Nat) (c : Nat) (kvs : List (Key × V)) (h : l[n]? = some c) : byW (l.take (n + 1)) kvs = byW (l.take n) kvs ++ [swp c, c].filter (inK kvs) := by
  rw [List.take_add_one, h]
  unfold byW
  rw [List.flatMap_append]
  simp
section
variable {P : Program} {w : World} {K : PySem.W.Frag} {mg : Str → Option Value} {base : Heap}
def spByWalls : Sp := fun vs H Q _ => ∃ l d kvs, vs = [.str (tx l), .ref d] ∧ GoodW l ∧ H d = some (.dK kvs) ∧ ∀ H', Same H H' → Q (.str (tx (byW l kvs))) H'
set_option maxHeartbeats 1000000 in
theorem ok_byWalls {f fO : Addr} {fd fdO : FuncData} {k : Nat} (B : BM mg) (F : Fun K "by_walls" "by_walls" sByWalls f fd) (O : DF K mg "other" sOther ["side"] fO fdO) : FnOk P w K mg base CX0 (k + 2) f fd ["walls", "sides"] spByWalls := by
  have GO : FnOk P w K mg base CX0 (k + 1) fO fdO ["side"] spOther := ok_other O.F
  refine F.ok scByWalls (fun vs H Q E h => ?_) (fun cdv A outer s H vs Q E hr h => ?_)
  · obtain ⟨l, d, kvs, rfl, _⟩ := h
    rfl
  · obtain ⟨l, d, kvs, rfl, g, hd, q⟩ := h
    refine ⟨_, pss_one (ps_ret (pe_join pe_str (pe_lc2 (wi1 := iTup K (tTup (tCons (tCall spOther [] E0 (tCons (tVar 2) tNil)) (tCons (tVar 2) tNil)))) (own := [("wall", 2), ("side", 3)]) (vs1 := [3]) (g := gName 2) (g1 := gName 3) (tt := tYes) rfl scByWalls.nd (pi_str (pv 0))
      (blkOk_by (N := ["walls", "sides", "wall", "side"]) (sc := defScope sByWalls) (by decide +kernel)) (by decide)
      (fun _ _ _ _ _ => pg_name (i := 2) scByWalls.nd rfl (Or.inl rfl)) (fun _ _ _ _ _ => pts_nil)
      (fun _ _ _ _ _ => pi_tup (pe_tup (pa_cons (pe_call GO hr rfl O.g O.F.kp O.b .nil pass0 (pa_cons (pv 2) pa_nil)) (pa_cons (pv 2) pa_nil))))
      (fun _ _ _ _ _ => pg_name (i := 3) scByWalls.nd rfl (Or.inl rfl))
      (fun _ _ _ _ _ => pts_one (pt_cmp (pc_din (hu_of hr) (pv 3) (pv 1)))) (fun _ _ _ _ _ => pv 3)))), ?_⟩
    refine ⟨⟨_, rfl⟩, _, rfl, tx l, rfl, fun D hD => ?_⟩
    have nDd : d ≠ D := ne_of_none hd hD
    refine out_it walk_str (fun i H' => Same H H' ∧ H' D = some (.lst (((byW (l.take i) kvs).map sg).map V.str))) ⟨same_upd hD, upd_same⟩ (fun _ _ _ _ => trivial) ?_ ?_
    · rintro i x H1 H2 hi ⟨sm, eD⟩ ⟨rfl, c, hc, rfl⟩
      have hcl : l[i]? = some c := by
        rw [← Array.getElem?_toList, tx_list] at hc
        exact hc
      have hca : c < 128 := g.asc c (List.mem_of_getElem? hcl)
      refine ⟨rfl, yes_i ⟨_, rfl, c, rfl, hca, _, rfl, by show 2 ≤ sizeLine; decide, fun T hT => ⟨T, rfl, ⟨_, SqT.of upd_same⟩, ?_⟩⟩⟩
      have nDT : D ≠ T := ne_of_none eD hT
      refine in_it (walk_tup (K := K) (a := T) (xs := [swp c, c].map fun e => V.str (sg e))) (fun j H' => Same H H' ∧ SqT K H' T ([swp c, c].map fun e => V.str (sg e)) ∧ H' D = some (.lst (((byW (l.take i) kvs ++ ([swp c, c].take j).filter (inK kvs)).map sg).map V.str)))
        ⟨sm_upd sm hT, SqT.of upd_same, by rw [upd_ne nDT, eD]; simp⟩ (fun j H' _ h => h.2.1) ?_ ?_
      · rintro j x H3 H4 hj ⟨sm2, hT2, eD2⟩ ⟨rfl, hx⟩
        rw [List.getElem?_map] at hx
        obtain ⟨e, he, rfl⟩ := Option.map_eq_some_iff.mp hx
        have hd4 : H4 d = some (.dK kvs) := sm2 _ _ hd
        have hlen : (byW (l.take i) kvs ++ ([swp c, c].take j).filter (inK kvs)).length ≤ 2 * 12 + 2 := by
          rw [List.length_append]
          have h1 := byW_len (l.take i) kvs
          have h2 : (([swp c, c].take j).filter (inK kvs)).length ≤ 2 := Nat.le_trans (List.length_filter_le _ _) (by rw [List.length_take]; exact Nat.min_le_right _ _)
          have h3 : (l.take i).length ≤ 12 := Nat.le_trans (by rw [List.length_take]; exact Nat.min_le_right _ _) g.hi
          omega
        refine ⟨rfl, _, rfl, _, rfl, d, _, rfl, DGet.k (k := Sum.inr (sg e)) hd4, _, rfl, ite2 (fun ht => ⟨_, rfl, _, eD2, ?_, sm_over sm2 hD, ?_, ?_⟩) (fun ht => ⟨sm2, hT2, ?_⟩)⟩
        · rw [List.length_map, List.length_map, sizeLine_eq]
          omega
        · rcases hT2 with (z | ⟨o, z⟩) | z
          · exact .inl (.inl (by rw [upd_ne (Ne.symm nDT)]; exact z))
          · exact .inl (.inr ⟨o, by rw [upd_ne (Ne.symm nDT)]; exact z⟩)
          · exact .inr z
        · have e1 : inK kvs e = true := ht
          rw [upd_same, List.take_add_one, he, List.filter_append]
          simp [e1, sg_tx]
        · have e1 : inK kvs e = false := by
            unfold inK
            simpa using ht
          rw [eD2, List.take_add_one, he, List.filter_append]
          simp [e1]
      · rintro H3 ⟨sm2, _, eD2⟩
        refine ⟨sm2, ?_⟩
        rw [eD2, byW_snoc l i c kvs hcl]
        rfl
    · rintro H3 ⟨sm2, eD2⟩
      have e1 : (l.take (tx l).cps.size) = l := by
        rw [show (tx l).cps.size = l.length from tx_len l]
        exact List.take_length
      rw [e1] at eD2
      refine ⟨_, _, (byW l kvs).map sg, rfl, rfl, .inl (SqL.of eD2), ?_, ?_⟩
      · have h1 := byW_len l kvs
        have h2 := g.hi
        have h3 : ∀ xs : List Nat, ((xs.map sg).map (·.length)).sum = xs.length := fun xs => by
          induction xs with
          | nil => rfl
          | cons x r ih =>
            rw [List.map_cons, List.map_cons, List.sum_cons, ih, List.length_cons]
            show 1 + r.length = _
            omega
        rw [h3, show (Str.ofString "").length = 0 by decide +kernel]
        omega
      · rw [join_sg]
        exact q _ sm2
end
end NC
namespace NC
open PySem PySem.Spec PyProof.Rows L2
abbrev sHEinit : Stmt := inClass (topS 2) 0
abbrev sBBinit : Stmt := inClass (topS 4) 0
abbrev sFXinit : Stmt := inClass (topS 6) 0
abbrev sALinit : Stmt := inClass (topS 7) 0
theorem scHE : FnScope ["self", "word"] ["self", "word"] (defScope sHEinit) := ⟨rfl, rfl, rfl, by decide +kernel, rfl, by decide +kernel, by decide +kernel⟩
theorem scBB : FnScope ["self", "at"] ["self", "at"] (defScope sBBinit) := ⟨rfl, rfl, rfl, by decide +kernel, rfl, by decide +kernel, by decide +kernel⟩
theorem scFX : FnScope ["self", "side"] ["self", "side"] (defScope sFXinit) := ⟨rfl, rfl, rfl, by decide +kernel, rfl, by decide +kernel, by decide +kernel⟩
theorem scAL : FnScope ["self", "one", "other"] ["self", "one", "other"] (defScope sALinit) := ⟨rfl, rfl, rfl, by decide +kernel, rfl, by decide +kernel, by decide +kernel⟩
/-- HallError, at C, and its __init__ -/
structure HE (K : PySem.W.Frag) (mg : Str → Option Value) (C f : Addr) (fd : FuncData) : Prop where
  gC : mg "HallError" = some (.ref C)
  rd : ∃ mc, ClX.CRead K C mc ∧ PySem.W.findCls K (.ref C) mc "__init__" = some (.val (.ref f))
  F : Fun K "__init__" "HallError.__init__" sHEinit f fd
  b : Binds K fd ["self", "word"] []
  mV : mg "ValueError" = none
  vV : PySem.W.findCls K (.type "ValueError") (.type "type") "__init__" = some (.val (.builtin "ValueError.__init__"))
section
variable {P : Program} {w : World} {K : PySem.W.Frag} {mg : Str → Option Value} {base : Heap}
theorem ok_chkWalls {f fW : Addr} {fd fdW : FuncData} {k : Nat} {tw : Tok} (B : BM mg) (mW : mg "WIDEST" = some (.int 12 tw)) (F : Fun K "check_walls" "check_walls" sChkWalls f fd) (W : DF K mg "is_walls" sIsWalls ["walls"] fW fdW) :
    FnOk P w K mg base CX0 (k + 2) f fd ["walls"] (fun vs H Q _ => ∃ l, vs = [.str (tx l)] ∧ GoodW l ∧ ∀ H', Same H H' → Q .non H') := by
  have GW : FnOk P w K mg base CX0 (k + 1) fW fdW ["walls"] spIsWalls := ok_isWalls B mW W.F
  refine F.ok scChkWalls (fun vs H Q E h => ?_) (fun cdv A outer s H vs Q E hr h => ?_)
  · obtain ⟨l, rfl, _⟩ := h
    rfl
  · obtain ⟨l, rfl, g, q⟩ := h
    refine ⟨_, pss_one (ps_if (pt_not (pt_val (pe_call GW hr rfl W.g W.F.kp W.b .nil pass0 (pa_cons (pv 0) pa_nil)))) (pss_one ps_never) pss_nil), ?_⟩
    exact ⟨_, rfl, l, rfl, g, fun H1 sm => ⟨true, rfl, iteF (q H1 sm)⟩⟩
theorem ok_chkSide {f fS : Addr} {fd fdS : FuncData} {k : Nat} (B : BM mg) (F : Fun K "check_side" "check_side" sChkSide f fd) (S : DF K mg "sides_of" sSides ["walls"] fS fdS) :
    FnOk P w K mg base CX0 (k + 2) f fd ["walls", "side"] (fun vs H Q _ => ∃ l c, vs = [.str (tx l), .str (sg c)] ∧ GoodW l ∧ c ∈ sds l ∧ ∀ H', Same H H' → Q .non H') := by
  have GS : FnOk P w K mg base CX0 (k + 1) fS fdS ["walls"] spSides := ok_sides B S.F
  refine F.ok scChkSide (fun vs H Q E h => ?_) (fun cdv A outer s H vs Q E hr h => ?_)
  · obtain ⟨l, c, rfl, _⟩ := h
    rfl
  · obtain ⟨l, c, rfl, g, hc, q⟩ := h
    refine ⟨_, pss_one (ps_if (pt_cmpR op_notIn_seq (pv 1) (pe_call GS hr rfl S.g S.F.kp S.b .nil pass0 (pa_cons (pv 0) pa_nil)) (by rfl)) (pss_one ps_never) pss_nil), ?_⟩
    refine ⟨_, rfl, _, rfl, l, rfl, g.asc, by have := g.hi; omega, fun p hp => ⟨p, _, rfl, .inl (SqL.of upd_same), rfl, flat_str _, _, rfl, ?_⟩⟩
    have e : (!inV (.str (sg c)) (((sds l).map sg).map V.str)) = false := by
      rw [inV_str, decide_eq_true (mem_sg.mpr hc)]
      rfl
    show if (!inV (.str (sg c)) (((sds l).map sg).map V.str)) = true then _ else _
    rw [e]
    exact iteF (q _ (same_upd hp))
def spHE (K : PySem.W.Frag) : Sp := fun vs H Q _ => ∃ a C v, vs = [.ref a, v] ∧ OexC K C ∧ PySem.W.findIn K (.ref C) "word" = some none ∧ H a = some (exo a C none) ∧
  ∀ dx, H dx = none → dx ≠ a → Q .non (upd (upd H dx (exd dx [("word", v)])) a (exo a C (some dx)))
theorem ok_HE {C f : Addr} {fd : FuncData} {k : Nat} (T : HE K mg C f fd) : FnOk P w K mg base CX0 (k + 1) f fd ["self", "word"] (spHE K) := by
  refine T.F.ok scHE (fun vs H Q E h => ?_) (fun cdv A outer s H vs Q E hr h => ?_)
  · obtain ⟨a, C, v, rfl, _⟩ := h
    rfl
  · obtain ⟨a, C, v, rfl, hO, hw, ha, q⟩ := h
    refine ⟨_, pss_cons (ps_expr (pe_veinit (by rfl) T.mV T.vV (pa_cons (pv 0) (pa_cons (pv 1) pa_nil)))) (pss_one (ps_ost (pv 0) (pv 1))), ?_⟩
    refine ⟨_, rfl, _, rfl, a, C, [v], rfl, by show 1 ≤ 1000; decide, hO, ha, ?_⟩
    exact ⟨_, rfl, _, rfl, a, C, rfl, hO, hw, .inl ⟨ha, fun dx n ne => q dx n ne⟩⟩
/-- a refusal of one field beside its word -/
def sp1 (K : PySem.W.Frag) (fld : Str) (word : Str) : Sp := fun vs H Q _ => ∃ a C v, vs = [.ref a, v] ∧ OexC K C ∧ PySem.W.findIn K (.ref C) "word" = some none ∧ PySem.W.findIn K (.ref C) fld = some none ∧ H a = some (exo a C none) ∧
  ∀ dx H', H dx = none → dx ≠ a → (∀ b, b ≠ dx → b ≠ a → H' b = H b) → H' a = some (exo a C (some dx)) → H' dx = some (exd dx [(fld, v), ("word", .str word)]) → Q .non H'
theorem ok_BB {CH fH f : Addr} {fd fdH : FuncData} {k : Nat} (T : HE K mg CH fH fdH) (F : Fun K "__init__" "BadBar.__init__" sBBinit f fd) : FnOk P w K mg base CX0 (k + 2) f fd ["self", "at"] (sp1 K "at" "badbar") := by
  have GH : FnOk P w K mg base CX0 (k + 1) fH fdH ["self", "word"] (spHE K) := ok_HE T
  obtain ⟨mc, rd, fc⟩ := T.rd
  refine F.ok scBB (fun vs H Q E h => ?_) (fun cdv A outer s H vs Q E hr h => ?_)
  · obtain ⟨a, C, v, rfl, _⟩ := h
    rfl
  · obtain ⟨a, C, v, rfl, hO, hw, hf, ha, q⟩ := h
    refine ⟨_, pss_cons (ps_expr (pe_clsfn (by rfl) T.gC rd fc GH hr T.F.kp T.b .nil pass0 (pa_cons (pv 0) (pa_cons pe_str pa_nil)))) (pss_one (ps_ost (pv 0) (pv 1))), ?_⟩
    refine ⟨_, rfl, a, C, _, rfl, hO, hw, ha, fun dx n ne => ?_⟩
    refine ⟨_, rfl, _, rfl, a, C, rfl, hO, hf, .inr ⟨dx, _, upd_same, by rw [upd_ne ne, upd_same], by show 1 ≤ 900; decide, q dx _ n ne (fun b h1 h2 => ?_) ?_ ?_⟩⟩
    · rw [upd_ne h1, upd_ne h2, upd_ne h1]
    · rw [upd_ne (Ne.symm ne), upd_same]
    · rw [upd_same]
theorem ok_FX {CH fH f : Addr} {fd fdH : FuncData} {k : Nat} (T : HE K mg CH fH fdH) (F : Fun K "__init__" "Fixed.__init__" sFXinit f fd) : FnOk P w K mg base CX0 (k + 2) f fd ["self", "side"] (sp1 K "side" "fixed") := by
  have GH : FnOk P w K mg base CX0 (k + 1) fH fdH ["self", "word"] (spHE K) := ok_HE T
  obtain ⟨mc, rd, fc⟩ := T.rd
  refine F.ok scFX (fun vs H Q E h => ?_) (fun cdv A outer s H vs Q E hr h => ?_)
  · obtain ⟨a, C, v, rfl, _⟩ := h
    rfl
  · obtain ⟨a, C, v, rfl, hO, hw, hf, ha, q⟩ := h
    refine ⟨_, pss_cons (ps_expr (pe_clsfn (by rfl) T.gC rd fc GH hr T.F.kp T.b .nil pass0 (pa_cons (pv 0) (pa_cons pe_str pa_nil)))) (pss_one (ps_ost (pv 0) (pv 1))), ?_⟩
    refine ⟨_, rfl, a, C, _, rfl, hO, hw, ha, fun dx n ne => ?_⟩
    refine ⟨_, rfl, _, rfl, a, C, rfl, hO, hf, .inr ⟨dx, _, upd_same, by rw [upd_ne ne, upd_same], by show 1 ≤ 900; decide, q dx _ n ne (fun b h1 h2 => ?_) ?_ ?_⟩⟩
    · rw [upd_ne h1, upd_ne h2, upd_ne h1]
    · rw [upd_ne (Ne.symm ne), upd_same]
    · rw [upd_same]
def sp2 (K : PySem.W.Frag) : Sp := fun vs H Q _ => ∃ a C v u, vs = [.ref a, v, u] ∧ OexC K C ∧ PySem.W.findIn K (.ref C) "word" = some none ∧ PySem.W.findIn K (.ref C) "one" = some none ∧ PySem.W.findIn K (.ref C) "other" = some none ∧ H a = some (exo a C none) ∧
  ∀ dx H', H dx = none → dx ≠ a → (∀ b, b ≠ dx → b ≠ a → H' b = H b) → H' a = some (exo a C (some dx)) → H' dx = some (exd dx [("other", u), ("one", v), ("word", .str "alike")]) → Q .non H'
theorem ok_AL {CH fH f : Addr} {fd fdH : FuncData} {k : Nat} (T : HE K mg CH fH fdH) (F : Fun K "__init__" "Alike.__init__" sALinit f fd) : FnOk P w K mg base CX0 (k + 2) f fd ["self", "one", "other"] (sp2 K) := by
  have GH : FnOk P w K mg base CX0 (k + 1) fH fdH ["self", "word"] (spHE K) := ok_HE T
  obtain ⟨mc, rd, fc⟩ := T.rd
  refine F.ok scAL (fun vs H Q E h => ?_) (fun cdv A outer s H vs Q E hr h => ?_)
  · obtain ⟨a, C, v, u, rfl, _⟩ := h
    rfl
  · obtain ⟨a, C, v, u, rfl, hO, hw, h1, h2, ha, q⟩ := h
    refine ⟨_, pss_cons (ps_expr (pe_clsfn (by rfl) T.gC rd fc GH hr T.F.kp T.b .nil pass0 (pa_cons (pv 0) (pa_cons pe_str pa_nil)))) (pss_cons (ps_ost (pv 0) (pv 1)) (pss_one (ps_ost (pv 0) (pv 2)))), ?_⟩
    refine ⟨_, rfl, a, C, _, rfl, hO, hw, ha, fun dx n ne => ?_⟩
    refine ⟨_, rfl, _, rfl, a, C, rfl, hO, h1, .inr ⟨dx, _, upd_same, by rw [upd_ne ne, upd_same], by show 1 ≤ 900; decide, ?_⟩⟩
    refine ⟨_, rfl, _, rfl, a, C, rfl, hO, h2, .inr ⟨dx, _, by rw [upd_ne (Ne.symm ne), upd_same], upd_same, by show 2 ≤ 900; decide, q dx _ n ne (fun b g1 g2 => ?_) ?_ ?_⟩⟩
    · rw [upd_ne g1, upd_ne g1, upd_ne g2, upd_ne g1]
    · rw [upd_ne (Ne.symm ne), upd_ne (Ne.symm ne), upd_same]
    · rw [upd_same]
end
end NC
namespace NC
open PySem PySem.Spec PyProof.Rows L2
def badAt (l : List Nat) (bs : List (List Nat)) (i : Nat) : Bool := !isBar l (bs.getD i []) || decide (bs.getD i [] ∈ bs.take i)
def firstBad (l : List Nat) (bs : List (List Nat)) : Option Nat := (List.range bs.length).find? (badAt l bs)
theorem first_at {l : List Nat} {bs : List (List Nat)} {i : Nat} {b : List Nat} (h : bs[i]? = some b) (ok : ∀ j, j < i → badAt l bs j = false) (hb : badAt l bs i = true) : firstBad l bs = some i := by
  have hi : i < bs.length := (List.getElem?_eq_some_iff.mp h).1
  unfold firstBad
  refine List.find?_eq_some_iff_getElem.mpr ⟨hb, i, by simpa using hi, by simp, fun j hj => ?_⟩
  rw [List.getElem_range, ok j hj]
  rfl
theorem walk_enumT {K : PySem.W.Frag} {a : Addr} {xs : List V} : Walk (ItET K a) xs.length (fun H => SqT K H a xs) (YPair (fun i => some (.int (i : Nat))) (fun i => xs[i]?)) where
  goes := fun i _ lt sq => ⟨xs, xs[i], sq, List.getElem?_eq_getElem lt⟩
  stops := fun _ sq => ⟨xs, sq, Nat.le_refl _⟩
  yields := fun i _ _ _ _ sq ⟨T, x, e1, e2, e3, e4⟩ => ⟨T, .int (i : Nat), x, e1, e2, e3, rfl, e4 xs sq⟩
theorem cut_to (bs : List (List Nat)) (i : Nat) (h : i ≤ bs.length) : cutV ((bs.map tx).map V.str) none (some ((i : Nat) : Int)) = ((bs.take i).map tx).map V.str := by
  unfold cutV
  rw [HT.sIx_none, HT.sIx_nat, List.drop_zero, Nat.sub_zero, List.length_map, List.length_map, Nat.min_eq_left h, List.map_take, List.map_take]
/-- an own refusal's class, at C, its __init__ at fI -/
structure XC (K : PySem.W.Frag) (mg : Str → Option Value) (x q : Str) (st : Stmt) (fld : Str) (C fI : Addr) (fd : FuncData) : Prop where
  gC : mg x = some (.ref C)
  O : OexC K C
  hw : PySem.W.findIn K (.ref C) "word" = some none
  hf : PySem.W.findIn K (.ref C) fld = some none
  iC : PySem.W.findIn K (.ref C) "__init__" = some (some (.ref fI))
  tI : PySem.W.typeIn K (.ref fI) = some (.type "function")
  F : Fun K "__init__" q st fI fd
  b : Binds K fd ["self", fld] []
theorem mk1 {K : PySem.W.Frag} {C : Addr} {fld word : Str} (hO : OexC K C) (hw : PySem.W.findIn K (.ref C) "word" = some none) (hf : PySem.W.findIn K (.ref C) fld = some none) {H1 : Hp} {v : V} {Q : XK}
    (q : ∀ d H', Same H1 H' → H1 d = none → H' d = some (.xd [(fld, v), ("word", .str word)]) → Q (.ref C) (some d) H') :
    ∀ a, H1 a = none → sp1 K fld word (.ref a :: ([v] ++ [])) (upd H1 a (exo a C none))
      (fun u H2 => u = .non ∧ ∃ (d : Addr) (fs : List (Str × V)), H2 a = some (exo a C (some d)) ∧ H2 d = some (exd d fs) ∧ H1 d = none ∧ Q (.ref C) (some d) (upd (del H2 a) d (.xd fs))) (fun _ _ _ => False) := by
  intro a na
  refine ⟨a, C, v, rfl, hO, hw, hf, upd_same, fun dx H' n1 n2 k e1 e2 => ⟨rfl, dx, _, e1, e2, ?_, q dx _ (fun b o hb => ?_) ?_ upd_same⟩⟩
  · rw [upd_ne n2] at n1
    exact n1
  · have hd : H1 dx = none := by
      rw [upd_ne n2] at n1
      exact n1
    have b1 : b ≠ dx := ne_of_none hb hd
    have b2 : b ≠ a := ne_of_none hb na
    rw [upd_ne b1, del_ne b2, k b b1 b2, upd_ne b2]
    exact hb
  · rw [upd_ne n2] at n1
    exact n1
theorem scChkBars : FnScope ["walls", "bars", "at", "bar"] ["walls", "bars"] (defScope sChkBars) := ⟨rfl, rfl, rfl, by decide +kernel, rfl, by decide +kernel, by decide +kernel⟩
section
variable {P : Program} {w : World} {K : PySem.W.Frag} {mg : Str → Option Value} {base : Heap}
def BarsOk (bs : List (List Nat)) : Prop := ∀ b ∈ bs, (∀ c ∈ b, c < 128) ∧ b.length ≤ 100
def spChkBars (K : PySem.W.Frag) (CB : Addr) : Sp := fun vs H Q E => ∃ l a bs, vs = [.str (tx l), .ref a] ∧ GoodW l ∧ BarsOk bs ∧ bs.length ≤ 100 ∧ (SqL K H a ((bs.map tx).map V.str) ∨ SqT K H a ((bs.map tx).map V.str)) ∧
  match firstBad l bs with
  | none => ∀ H', Same H H' → Q .non H'
  | some i => ∀ H' d, Same H H' → H d = none → H' d = some (.xd [("at", .int (i : Nat)), ("word", .str "badbar")]) → E (.ref CB) (some d) H'
set_option maxHeartbeats 1000000 in
theorem ok_chkBars {f fI CB fB CH fH fS : Addr} {fd fdI fdB fdH fdS : FuncData} {k : Nat} (B : BM mg) (F : Fun K "check_bars" "check_bars" sChkBars f fd) (I : DF K mg "is_bar" sIsBar ["walls", "bar"] fI fdI) (S : DF K mg "sides_of" sSides ["walls"] fS fdS)
    (T : HE K mg CH fH fdH) (X : XC K mg "BadBar" "BadBar.__init__" sBBinit "at" CB fB fdB) : FnOk P w K mg base (L2.CX P w) (k + 4) f fd ["walls", "bars"] (spChkBars K CB) := by
  have GI : FnOk P w K mg base CX0 (k + 2) fI fdI ["walls", "bar"] spIsBar := ok_isBar B I.F S
  have GB : FnOk P w K mg base CX0 (k + 2) fB fdB ["self", "at"] (sp1 K "at" "badbar") := ok_BB T X.F
  refine F.okX scChkBars (fun vs H Q E h => ?_) (fun cdv A outer s H vs Q E hr h => ?_)
  · obtain ⟨l, a, bs, rfl, _⟩ := h
    rfl
  · obtain ⟨l, a, bs, rfl, g, hbs, hbl, hS, q⟩ := h
    refine ⟨_, pss_one (ps_for (passes_of rfl) rfl (pi_enumT (by rfl) B.enumerate (pa_cons (pv 1) pa_nil))
        (pg_tup rfl (pgs_cons (pg_name (i := 2) scChkBars.nd rfl (.inl rfl)) (pgs_cons (pg_name (i := 3) scChkBars.nd rfl (.inl rfl)) pgs_nil)))
      (pss_one (ps_if (PW.pt (pw_or (pt_not (pt_val (pe_call GI (hr.mono (by omega)) rfl I.g I.F.kp I.b .nil pass0 (pa_cons (pv 0) (pa_cons (pv 3) pa_nil)))))
          (pw_or1 (pt_cmpR op_in_seq (pv 3) (pe_slice (SlR.or sl_list sl_tup) (pv 1) po_none (po_some (pv 2))) (by rfl)))))
        (pss_one (ps_raise rfl (takes_of rfl rfl rfl rfl) (pmk_oex X.O X.iC X.tI GB hr X.b .nil pass0 (by rfl) X.gC (pa_cons (pv 2) pa_nil)))) pss_nil))), ?_⟩
    refine ⟨_, rfl, a, rfl, ?_⟩
    have len : ((bs.map tx).map V.str).length = bs.length := by rw [List.length_map, List.length_map]
    rcases hS with hS | hS
    · have wk := walk_enum (K := K) (a := a) (xs := (bs.map tx).map V.str)
      rw [len] at wk
      refine .inl ⟨⟨_, hS⟩, for_it wk (fun i σ H' => ∃ y2 y3, σ = [some (.str (tx l)), some (.ref a), y2, y3] ∧ (∀ j, j < i → badAt l bs j = false) ∧ Same H H')
        ⟨_, _, rfl, fun _ h => absurd h (Nat.not_lt_zero _), L2.Same.refl _⟩ (fun i σ H' _ p => by obtain ⟨_, _, _, _, sm⟩ := p; exact sm_l sm hS) ?_ ?_⟩
      · rintro i x σ H1 H2 hi ⟨y2, y3, rfl, hok, sm⟩ ⟨T, x1, x2, rfl, nT, rfl, e1, e2⟩
        obtain rfl : V.int (i : Nat) = x1 := Option.some.inj e1
        have e2 : ((bs.map tx).map V.str)[i]? = some x2 := e2
        rw [List.getElem?_map, List.getElem?_map] at e2
        obtain ⟨z, hz, e3⟩ := Option.map_eq_some_iff.mp e2
        obtain ⟨b, hbi, rfl⟩ := Option.map_eq_some_iff.mp hz
        subst e3
        have hb : b ∈ bs := List.mem_of_getElem? hbi
        have sT : Same H (upd H1 T (.tup [.int (i : Nat), .str (tx b)])) := sm_upd sm nT
        refine ⟨T, _, rfl, SqT.of upd_same, rfl, _, _, rfl, _, _, rfl, rfl, ?_⟩
        refine ⟨_, rfl, _, rfl, l, b, rfl, g.asc, by have := g.hi; omega, (hbs b hb).1, (hbs b hb).2, fun H3 s3 => ⟨_, rfl, ite2 (fun t1 => ?_) (fun t1 => ?_)⟩⟩
        · -- no bar
          have hn : isBar l b = false := by simpa using t1
          have fb : firstBad l bs = some i := first_at hbi hok (by unfold badAt; rw [List.getD_eq_getElem?_getD, hbi]; simp [hn])
          rw [fb] at q
          refine iteT ⟨_, rfl, by show 1 ≤ 1000; decide, mk1 X.O X.hw X.hf fun d H4 s4 n4 e4 => ?_⟩
          exact q H4 d (sm_trans (sm_trans sT s3) s4) (L2.Same.free (sm_trans sT s3) n4) e4
        · have hy : isBar l b = true := by simpa using t1
          have hS3 := sm_l (sm_trans sT s3) hS
          refine ⟨_, rfl, _, rfl, _, rfl, _, rfl, .inl ⟨a, _, rfl, hS3, fun p np => ?_⟩⟩
          rw [cut_to bs i (Nat.le_of_lt hi)]
          refine ⟨p, _, rfl, .inl (SqL.of upd_same), rfl, flat_str _, _, rfl, ite2 (fun t2 => ?_) (fun t2 => ?_)⟩
          · have hm : b ∈ bs.take i := by
              have t3 : inV (.str (tx b)) (((bs.take i).map tx).map V.str) = true := t2
              rw [inV_str] at t3
              obtain ⟨c, hc, e⟩ := List.mem_map.mp (of_decide_eq_true t3)
              rw [← tx_inj e]
              exact hc
            have fb : firstBad l bs = some i := first_at hbi hok (by unfold badAt; rw [List.getD_eq_getElem?_getD, hbi]; simp [hm])
            rw [fb] at q
            refine ⟨_, rfl, by show 1 ≤ 1000; decide, mk1 X.O X.hw X.hf fun d H4 s4 n4 e4 => ?_⟩
            have s5 := sm_upd (o := .lst (((bs.take i).map tx).map V.str)) (sm_trans sT s3) np
            exact q H4 d (sm_trans s5 s4) (L2.Same.free s5 n4) e4
          · refine ⟨_, _, rfl, fun j hj => ?_, sm_upd (sm_trans sT s3) np⟩
            rcases Nat.lt_or_ge j i with h | h
            · exact hok j h
            · obtain rfl : j = i := by omega
              have hm : b ∉ bs.take j := fun z => by
                have t3 : ¬ inV (.str (tx b)) (((bs.take j).map tx).map V.str) = true := t2
                rw [inV_str] at t3
                exact t3 (decide_eq_true (List.mem_map.mpr ⟨b, z, rfl⟩))
              unfold badAt
              rw [List.getD_eq_getElem?_getD, hbi]
              simp [hy, hm]
      · rintro σ H1 ⟨y2, y3, rfl, hok, sm⟩
        have fb : firstBad l bs = none := List.find?_eq_none.mpr fun j hj => by
          rw [hok j (by simpa using hj)]
          decide
        rw [fb] at q
        exact q H1 sm
    · have wk := walk_enumT (K := K) (a := a) (xs := (bs.map tx).map V.str)
      rw [len] at wk
      refine .inr ⟨⟨_, hS⟩, for_it wk (fun i σ H' => ∃ y2 y3, σ = [some (.str (tx l)), some (.ref a), y2, y3] ∧ (∀ j, j < i → badAt l bs j = false) ∧ Same H H')
        ⟨_, _, rfl, fun _ h => absurd h (Nat.not_lt_zero _), L2.Same.refl _⟩ (fun i σ H' _ p => by obtain ⟨_, _, _, _, sm⟩ := p; exact sm_t sm hS) ?_ ?_⟩
      · rintro i x σ H1 H2 hi ⟨y2, y3, rfl, hok, sm⟩ ⟨T, x1, x2, rfl, nT, rfl, e1, e2⟩
        obtain rfl : V.int (i : Nat) = x1 := Option.some.inj e1
        have e2 : ((bs.map tx).map V.str)[i]? = some x2 := e2
        rw [List.getElem?_map, List.getElem?_map] at e2
        obtain ⟨z, hz, e3⟩ := Option.map_eq_some_iff.mp e2
        obtain ⟨b, hbi, rfl⟩ := Option.map_eq_some_iff.mp hz
        subst e3
        have hb : b ∈ bs := List.mem_of_getElem? hbi
        have sT : Same H (upd H1 T (.tup [.int (i : Nat), .str (tx b)])) := sm_upd sm nT
        refine ⟨T, _, rfl, SqT.of upd_same, rfl, _, _, rfl, _, _, rfl, rfl, ?_⟩
        refine ⟨_, rfl, _, rfl, l, b, rfl, g.asc, by have := g.hi; omega, (hbs b hb).1, (hbs b hb).2, fun H3 s3 => ⟨_, rfl, ite2 (fun t1 => ?_) (fun t1 => ?_)⟩⟩
        · -- no bar
          have hn : isBar l b = false := by simpa using t1
          have fb : firstBad l bs = some i := first_at hbi hok (by unfold badAt; rw [List.getD_eq_getElem?_getD, hbi]; simp [hn])
          rw [fb] at q
          refine iteT ⟨_, rfl, by show 1 ≤ 1000; decide, mk1 X.O X.hw X.hf fun d H4 s4 n4 e4 => ?_⟩
          exact q H4 d (sm_trans (sm_trans sT s3) s4) (L2.Same.free (sm_trans sT s3) n4) e4
        · have hy : isBar l b = true := by simpa using t1
          have hS3 := sm_t (sm_trans sT s3) hS
          refine ⟨_, rfl, _, rfl, _, rfl, _, rfl, .inr ⟨a, _, rfl, hS3, fun z => absurd z.2 (by rw [len, HT.sIx_nat]; omega), fun p np => ?_⟩⟩
          rw [cut_to bs i (Nat.le_of_lt hi)]
          refine ⟨p, _, rfl, .inr (SqT.of upd_same), rfl, flat_str _, _, rfl, ite2 (fun t2 => ?_) (fun t2 => ?_)⟩
          · have hm : b ∈ bs.take i := by
              have t3 : inV (.str (tx b)) (((bs.take i).map tx).map V.str) = true := t2
              rw [inV_str] at t3
              obtain ⟨c, hc, e⟩ := List.mem_map.mp (of_decide_eq_true t3)
              rw [← tx_inj e]
              exact hc
            have fb : firstBad l bs = some i := first_at hbi hok (by unfold badAt; rw [List.getD_eq_getElem?_getD, hbi]; simp [hm])
            rw [fb] at q
            refine ⟨_, rfl, by show 1 ≤ 1000; decide, mk1 X.O X.hw X.hf fun d H4 s4 n4 e4 => ?_⟩
            have s5 := sm_upd (o := .tup (((bs.take i).map tx).map V.str)) (sm_trans sT s3) np
            exact q H4 d (sm_trans s5 s4) (L2.Same.free s5 n4) e4
          · refine ⟨_, _, rfl, fun j hj => ?_, sm_upd (sm_trans sT s3) np⟩
            rcases Nat.lt_or_ge j i with h | h
            · exact hok j h
            · obtain rfl : j = i := by omega
              have hm : b ∉ bs.take j := fun z => by
                have t3 : ¬ inV (.str (tx b)) (((bs.take j).map tx).map V.str) = true := t2
                rw [inV_str] at t3
                exact t3 (decide_eq_true (List.mem_map.mpr ⟨b, z, rfl⟩))
              unfold badAt
              rw [List.getD_eq_getElem?_getD, hbi]
              simp [hy, hm]
      · rintro σ H1 ⟨y2, y3, rfl, hok, sm⟩
        have fb : firstBad l bs = none := List.find?_eq_none.mpr fun j hj => by
          rw [hok j (by simpa using hj)]
          decide
        rw [fb] at q
        exact q H1 sm
end
end NC
namespace NC
open PySem PySem.Spec PyProof.Rows L2
section
variable {X : Cx}
/-- y = {k: v for ..}, y a plain local: what the comprehension hands on is stored in y's slot -/
theorem ps_setDc {i : Nat} {y : Str} {py : Pos} {kx vx tg iter : Expr} {ifs : List Expr} {scope : Scope} {own : List (Str × Nat)} {pos spos : Pos} {wi : TI} {g : TG} {tt : TT} {tk tv : TE} (calm : X.calm = true) (nd : X.N.Nodup) (at_ : X.N[i]? = some y)
    (loc : X.env.scope.names.lookup y = some .local) (sw : swapsWith (.DictComp kx vx [⟨tg, iter, ifs, 0⟩] scope pos) (some (.Name y py)) spos.line X.env = pure true) (it : PI X tg iter wi) (blk : BlkOk X.N X.env.scope scope own)
    (pg : ∀ (s : Shared) (H : Hp) (C : Addr) (cl : List (Str × Addr)) (fp : List Addr), PG (X.blk s H scope (compEnvC scope cl C X.env) fp) tg g)
    (pt : ∀ (s : Shared) (H : Hp) (C : Addr) (cl : List (Str × Addr)) (fp : List Addr), PTs (X.blk s H scope (compEnvC scope cl C X.env) fp) ifs tt)
    (pk : ∀ (s : Shared) (H : Hp) (C : Addr) (cl : List (Str × Addr)) (fp : List Addr), PE (X.blk s H scope (compEnvC scope cl C X.env) fp) kx tk)
    (pw : ∀ (s : Shared) (H : Hp) (C : Addr) (cl : List (Str × Addr)) (fp : List Addr), PE (X.blk s H scope (compEnvC scope cl C X.env) fp) vx tv) (fo : ∀ x, foldedSetIterable iter X.env x = pure x := by intro _; rfl) :
    PS X (.Assign [.Name y py] (.DictComp kx vx [⟨tg, iter, ifs, 0⟩] scope pos) spos) (tAsg (tDc wi g tt tk tv (own.map (·.2))) (gName i)) := ⟨fun ps t σ H D I w => by
  have made : wpAny (model X.prog X.w) X.A (comprehension (.DictComp kx vx [⟨tg, iter, ifs, 0⟩] scope pos) scope X.env (firstIterPos [⟨tg, iter, ifs, 0⟩] pos) newDict false (eval iter X.env) (some (assign (.Name y py) X.env))) (fun _ v => SP X ps D .next v) X.xe t := by
    refine dc_core (Qf := fun _ v => SP X ps D .next v) calm nd I it blk pg pt pk pw fo (show tDc wi g tt tk tv (own.map (·.2)) σ H (fun x G => gName i x σ G D.nx) from w) fun L C v m G J q cells fr => ?_
    show wpAny (model X.prog X.w) X.A (assign (.Name y py) X.env (.ref L)) _ X.xe v
    refine wpAny_assign_Name (store_ok2 (v := V.ref L) J nd at_ (.inl loc) rfl (fun v2 J2 st => ?_) (.inr loc))
    obtain ⟨b, same, eb⟩ := st
    have apart : C ≠ b := eb.elim (fun z => z ▸ fr.2.1) (fun z z2 => fr.2.2.2.2.1 y b z z2.symm)
    exact ⟨m, cells.sameBut same apart, fun _ keep => ⟨_, G, J2.turned (t' := v2.toks) (fun c o hc e => (keep.2 c hc).trans e) fr.1 fr.2.1 fr.2.2.2.1 fr.2.2.2.2.1 fr.2.2.2.2.2, q⟩⟩
  rw [exec_Assign_Name_used _ _ _ _ sw]
  exact wpAny_bind (wpAny_standAt (wpAny_bind (wpAny_bind (thn made fun _ v r => wpAny_pure (wpAny_pure r)))))⟩
/-- such an assignment swaps where the name is a local of a function and none of the comprehension's own -/
theorem sw_dict {kx vx : Expr} {gs : List Comprehension} {scope : Scope} {pos py : Pos} {y : Str} {l : Nat} {env : Env} (fn : env.scope.kind = .function) (loc : env.scope.names.lookup y = some .local) (row : (py.line == pos.line) = true)
    (out : (scope.names.any fun (n, k) => n == y && (k == .local || k == .cell)) = false) : swapsWith (.DictComp kx vx gs scope pos) (some (.Name y py)) l env = pure true := by
  have k1 : env.blockKind = .function := by
    unfold Env.blockKind
    rw [fn]
    rfl
  unfold swapsWith
  simp only [k1, show env.kindOf y = some .local from loc, out, Expr.pos, row]
  rfl
/-- for x in a name that holds a list or a tuple -/
def iSeq (K : PySem.W.Frag) (tl : TE) : TI := fun σ H R => tl σ H fun x H1 => ∃ a, x = .ref a ∧ ((∃ xs, SqL K H1 a xs) ∧ R (Itl K a) H1 ∨ (∃ xs, SqT K H1 a xs) ∧ R (Itt K a) H1)
theorem pi_seq {tg l : Expr} {i : Nat} (at_ : PE X l (tVar i)) : PI X tg l (iSeq X.K (tVar i)) := ⟨fun ps s σ H R I ⟨v, sv, a, ev, k⟩ => k.elim
  (fun k => (pi_list (tg := tg) at_).run ps s σ H R I ⟨v, sv, a, ev, k⟩) (fun k => (pi_tup (tg := tg) at_).run ps s σ H R I ⟨v, sv, a, ev, k⟩)⟩
end
end NC
namespace NC
open PySem PySem.Spec PyProof.Rows L2
abbrev sStraight : Stmt := topS 24
theorem scStraight : FnScope ["walls", "bars", "straight", "bar", "side"] ["walls", "bars"] (defScope sStraight) := ⟨rfl, rfl, rfl, by decide +kernel, rfl, by decide +kernel, by decide +kernel⟩
def con (s : Nat) (b : List Nat) : List Nat := match b with
  | [x, y] => (if x = s then [swp y] else []) ++ (if y = s then [swp x] else [])
  | _ => []
def adjOf (bs : List (List Nat)) (s : Nat) : List Nat := bs.flatMap (con s)
theorem con_len (s : Nat) (b : List Nat) : (con s b).length ≤ 2 := by
  unfold con
  split
  · rw [List.length_append]
    split <;> split <;> simp
  · simp
theorem adj_len (bs : List (List Nat)) (s : Nat) : (adjOf bs s).length ≤ 2 * bs.length := by
  induction bs with
  | nil => simp [adjOf]
  | cons b r ih =>
    have e : adjOf (b :: r) s = con s b ++ adjOf r s := by simp [adjOf]
    rw [e, List.length_append, List.length_cons]
    have := con_len s b
    omega
theorem bar_two {l b : List Nat} (h : isBar l b = true) : ∃ x y, b = [x, y] ∧ x ∈ sds l ∧ y ∈ sds l ∧ lwc x < lwc y := by
  match b, h with
  | [x, y], h =>
    have h' : (decide (x ∈ sds l) && (decide (y ∈ sds l) && decide (lwc x < lwc y))) = true := h
    rw [Bool.and_eq_true, Bool.and_eq_true] at h'
    exact ⟨x, y, rfl, of_decide_eq_true h'.1, of_decide_eq_true h'.2.1, of_decide_eq_true h'.2.2⟩
theorem adj_mem {l : List Nat} (g : GoodW l) {bs : List (List Nat)} (hb : ∀ b ∈ bs, isBar l b = true) {s c : Nat} (h : c ∈ adjOf bs s) : c ∈ sds l := by
  obtain ⟨b, hb1, hc⟩ := List.mem_flatMap.mp h
  obtain ⟨x, y, rfl, hx, hy, _⟩ := bar_two (hb b hb1)
  have hc : c ∈ (if x = s then [swp y] else []) ++ (if y = s then [swp x] else []) := hc
  rcases List.mem_append.mp hc with q | q
  · split at q
    · rw [List.mem_singleton.mp q]; exact sds_swp g hy
    · cases q
  · split at q
    · rw [List.mem_singleton.mp q]; exact sds_swp g hx
    · cases q
theorem adj_snoc (bs : List (List Nat)) (i s : Nat) (b : List Nat) (h : bs[i]? = some b) : adjOf (bs.take (i + 1)) s = adjOf (bs.take i) s ++ con s b := by
  rw [List.take_add_one, h]
  unfold adjOf
  rw [List.flatMap_append]
  simp
def stK (L : List Nat) (ad : Nat → Addr) : List (Key × V) := L.map fun s => (Sum.inr (sg s), V.ref (ad s))
theorem stK_val {L : List Nat} {ad : Nat → Addr} {s : Nat} (h : s ∈ L) : valV (stK L ad) (Sum.inr (sg s)) = some (.ref (ad s)) := by
  induction L with
  | nil => cases h
  | cons t r ih =>
    by_cases e : t = s
    · subst e
      exact valV_pos (p := (Sum.inr (sg t), V.ref (ad t))) rfl
    · have h2 : s ∈ r := by
        rcases List.mem_cons.mp h with z | z
        · exact absurd z.symm e
        · exact z
      exact (valV_neg (p := (Sum.inr (sg t), V.ref (ad t))) (fun z => e (sg_inj (Sum.inr.inj z)))).trans (ih h2)
theorem stK_no {L : List Nat} {ad : Nat → Addr} {s : Nat} (h : s ∉ L) : valV (stK L ad) (Sum.inr (sg s)) = none := by
  induction L with
  | nil => rfl
  | cons t r ih =>
    have e : ¬ t = s := fun z => h (by rw [z]; exact List.mem_cons_self ..)
    exact (valV_neg (p := (Sum.inr (sg t), V.ref (ad t))) (fun z => e (sg_inj (Sum.inr.inj z)))).trans (ih fun z => h (List.mem_cons_of_mem _ z))
/-- the dict of lists of what is forced straight -/
structure SD8 (H : Hp) (L : List Nat) (d : Addr) (ad : Nat → Addr) (adj : Nat → List Nat) : Prop where
  dk : H d = some (.dK (stK L ad))
  at_ : ∀ s ∈ L, H (ad s) = some (.lst (((adj s).map sg).map V.str))
  inj : ∀ s ∈ L, ∀ t ∈ L, ad s = ad t → s = t
theorem SD8.nd {H : Hp} {L : List Nat} {d : Addr} {ad : Nat → Addr} {adj : Nat → List Nat} (S : SD8 H L d ad adj) {s : Nat} (h : s ∈ L) : ad s ≠ d := ne_of (S.at_ s h) S.dk fun z => by cases z
theorem SD8.get {H : Hp} {L : List Nat} {d : Addr} {ad : Nat → Addr} {adj : Nat → List Nat} (S : SD8 H L d ad adj) {s : Nat} (h : s ∈ L) : DGet H d (.str (sg s)) (some (.ref (ad s))) := by
  rw [← stK_val (ad := ad) h]
  exact DGet.k (k := Sum.inr (sg s)) S.dk
theorem SD8.app {H : Hp} {L : List Nat} {d : Addr} {ad : Nat → Addr} {adj : Nat → List Nat} (S : SD8 H L d ad adj) {s c : Nat} (h : s ∈ L) :
    SD8 (upd H (ad s) (.lst (((adj s).map sg).map V.str ++ [.str (sg c)]))) L d ad (fun t => if t = s then adj t ++ [c] else adj t) := by
  refine ⟨by rw [upd_ne (Ne.symm (S.nd h))]; exact S.dk, fun t ht => ?_, S.inj⟩
  by_cases e : t = s
  · subst e
    rw [upd_same, if_pos rfl, List.map_append, List.map_append]
    rfl
  · rw [upd_ne (fun z => e (S.inj t ht s h z)), if_neg e]
    exact S.at_ t ht
section
variable {P : Program} {w : World} {K : PySem.W.Frag} {mg : Str → Option Value} {base : Heap}
def spStraight (K : PySem.W.Frag) : Sp := fun vs H Q _ => ∃ l a bs, vs = [.str (tx l), .ref a] ∧ GoodW l ∧ (∀ b ∈ bs, isBar l b = true) ∧ bs.length ≤ 100 ∧ (SqL K H a ((bs.map tx).map V.str) ∨ SqT K H a ((bs.map tx).map V.str)) ∧
  ∀ H' d ad, Same H H' → H d = none → SD8 H' (sds l) d ad (adjOf bs) → Q (.ref d) H'
set_option maxHeartbeats 1000000 in
theorem ok_straight {f fS fO : Addr} {fd fdS fdO : FuncData} {k : Nat} (B : BM mg) (F : Fun K "straight_from" "straight_from" sStraight f fd) (S : DF K mg "sides_of" sSides ["walls"] fS fdS) (O : DF K mg "other" sOther ["side"] fO fdO) :
    FnOk P w K mg base CX0 (k + 2) f fd ["walls", "bars"] (spStraight K) := by
  have GS : FnOk P w K mg base CX0 (k + 1) fS fdS ["walls"] spSides := ok_sides B S.F
  have GO : FnOk P w K mg base CX0 (k + 1) fO fdO ["side"] spOther := ok_other O.F
  refine F.ok scStraight (fun vs H Q E h => ?_) (fun cdv A outer s H vs Q E hr h => ?_)
  · obtain ⟨l, a, bs, rfl, _⟩ := h
    rfl
  · obtain ⟨l, a, bs, rfl, g, hbar, hbl, hS, q⟩ := h
    refine ⟨_, pss_cons (ps_setDc (i := 2) (own := [("side", 4)]) (g := gName 4) (tt := tYes) rfl scStraight.nd rfl rfl (sw_dict rfl rfl rfl (by decide +kernel)) (pi_list (pe_call GS hr rfl S.g S.F.kp S.b .nil pass0 (pa_cons (pv 0) pa_nil)))
        (blkOk_by (N := ["walls", "bars", "straight", "bar", "side"]) (sc := defScope sStraight) (by decide +kernel)) (fun _ _ _ _ _ => pg_name (i := 4) scStraight.nd rfl (Or.inl rfl)) (fun _ _ _ _ _ => pts_nil) (fun _ _ _ _ _ => pv 4) (fun _ _ _ _ _ => pe_lst pa_nil))
      (pss_cons (ps_for PassesOwn.never rfl (pi_seq (pv 1)) (pg_name (i := 3) scStraight.nd rfl (Or.inl rfl))
        (pss_cons (ps_expr (pe_bm PySem.F.plainAttrs_list PySem.F.slot_list_append PySem.F.type_list_append mt_append (pe_dget (hu_of hr) (pv 2) (pe_ix ix_str (pv 3) pe_int (fun _ _ => rfl)) (fun _ _ => rfl))
            (pa_cons (pe_call GO hr rfl O.g O.F.kp O.b .nil pass0 (pa_cons (pe_ix ix_str (pv 3) pe_int (fun _ _ => rfl)) pa_nil)) pa_nil)))
          (pss_one (ps_expr (pe_bm PySem.F.plainAttrs_list PySem.F.slot_list_append PySem.F.type_list_append mt_append (pe_dget (hu_of hr) (pv 2) (pe_ix ix_str (pv 3) pe_int (fun _ _ => rfl)) (fun _ _ => rfl))
            (pa_cons (pe_call GO hr rfl O.g O.F.kp O.b .nil pass0 (pa_cons (pe_ix ix_str (pv 3) pe_int (fun _ _ => rfl)) pa_nil)) pa_nil))))))
      (pss_one (ps_ret (pv 2)))), ?_⟩
    refine ⟨_, rfl, l, rfl, g.asc, by have := g.hi; omega, fun p np => ⟨p, rfl, ⟨_, SqL.of upd_same⟩, fun D nD => ?_⟩⟩
    have s1 : Same H (upd H p (.lst (((sds l).map sg).map V.str))) := same_upd np
    have hp1 : (upd H p (.lst (((sds l).map sg).map V.str))) p = some (.lst (((sds l).map sg).map V.str)) := upd_same
    generalize (upd H p (.lst (((sds l).map sg).map V.str))) = H1 at s1 nD hp1 ⊢
    have wk := walk_list (K := K) (a := p) (xs := ((sds l).map sg).map V.str)
    rw [List.length_map, List.length_map] at wk
    refine dc_it wk (fun i H' => ∃ ad, Same H1 H' ∧ SD8 H' ((sds l).take i) D ad (fun _ => []) ∧ ∀ s ∈ (sds l).take i, H1 (ad s) = none)
      ⟨fun _ => p, same_upd nD, ⟨upd_same, fun s hs => by simp at hs, fun s hs => by simp at hs⟩, fun s hs => by simp at hs⟩ (fun i H' _ h => by obtain ⟨ad, sm, _⟩ := h; exact SqL.of (sm _ _ hp1)) ?_ ?_
    · rintro i x H2 H3 hi ⟨ad, sm, S8, fr0⟩ ⟨rfl, hx⟩
      rw [List.getElem?_map, List.getElem?_map] at hx
      obtain ⟨z, hz, rfl⟩ := Option.map_eq_some_iff.mp hx
      obtain ⟨c, hc, rfl⟩ := Option.map_eq_some_iff.mp hz
      have hnc : c ∉ (sds l).take i := fun hm => by
        obtain ⟨j, hj⟩ := List.getElem?_of_mem hm
        have hji : j < i := by
          have := (List.getElem?_eq_some_iff.mp hj).1
          rw [List.length_take] at this
          omega
        rw [List.getElem?_take_of_lt hji] at hj
        exact absurd ((List.getElem?_inj (List.getElem?_eq_some_iff.mp hj).1 (sds_nd g)).mp (hj.trans hc.symm)) (Nat.ne_of_lt hji)
      refine ⟨rfl, yes_i ⟨_, rfl, Nat.zero_le _, fun r nr => ⟨stK ((sds l).take i) ad, Sum.inr (sg c), rfl, ?_, ?_, fun t => if t = c then r else ad t, ?_, ?_, ?_⟩⟩⟩
      · rw [upd_ne (ne_of_none S8.dk nr)]
        exact S8.dk
      · unfold stK
        rw [List.length_map, List.length_take, sizeLine_eq]
        have := sds_len g
        omega
      · exact sm_over (sm_upd sm nr) nD
      · have nrD : D ≠ r := ne_of_none S8.dk nr
        have e1 : ∀ t ∈ (sds l).take i, (if t = c then r else ad t) = ad t := fun t ht => if_neg fun e => hnc (by rw [← e]; exact ht)
        have tk : (sds l).take (i + 1) = (sds l).take i ++ [c] := by rw [List.take_add_one, hc]; rfl
        refine ⟨?_, fun t ht => ?_, fun t ht u hu e => ?_⟩
        · rw [upd_same, putK_new _ (stK_no hnc), tk]
          unfold stK
          rw [List.map_append]
          rw [List.map_congr_left (g := fun s => (Sum.inr (sg s), V.ref (if s = c then r else ad s))) fun t ht => by rw [e1 t ht]]
          simp
        · rw [tk] at ht
          rcases List.mem_append.mp ht with h | h
          · rw [e1 t h, upd_ne (S8.nd h), upd_ne (ne_of_none (S8.at_ t h) nr)]
            exact S8.at_ t h
          · obtain rfl := List.mem_singleton.mp h
            rw [if_pos rfl, upd_ne (Ne.symm nrD), upd_same]
            rfl
        · rw [tk] at ht hu
          rcases List.mem_append.mp ht with h | h <;> rcases List.mem_append.mp hu with h2 | h2
          · rw [e1 t h, e1 u h2] at e
            exact S8.inj t h u h2 e
          · obtain rfl := List.mem_singleton.mp h2
            rw [e1 t h, if_pos rfl] at e
            exact absurd e (ne_of_none (S8.at_ t h) nr)
          · obtain rfl := List.mem_singleton.mp h
            rw [e1 u h2, if_pos rfl] at e
            exact absurd e.symm (ne_of_none (S8.at_ u h2) nr)
          · rw [List.mem_singleton.mp h, List.mem_singleton.mp h2]
      · intro t ht
        show H1 (if t = c then r else ad t) = none
        by_cases e : t = c
        · rw [if_pos e]
          exact L2.Same.free sm nr
        · rw [if_neg e]
          refine fr0 t ?_
          rw [List.take_add_one, hc] at ht
          rcases List.mem_append.mp ht with h | h
          · exact h
          · exact absurd (List.mem_singleton.mp h) e
    · rintro H2 ⟨ad, sm, S8, fr0⟩
      rw [List.take_of_length_le (Nat.le_refl _)] at S8
      have nd0 : H D = none := L2.Same.free s1 nD
      have fr : ∀ s ∈ sds l, H (ad s) = none := fun s hs => L2.Same.free s1 (fr0 s (by rw [List.take_of_length_le (Nat.le_refl _)]; exact hs))
      have sm0 : Same H H2 := sm_trans s1 sm
      refine ⟨_, rfl, a, rfl, ?_⟩
      have len : ((bs.map tx).map V.str).length = bs.length := by rw [List.length_map, List.length_map]
      rcases hS with hS | hS
      · have wk2 := walk_list (K := K) (a := a) (xs := (bs.map tx).map V.str)
        rw [len] at wk2
        refine .inl ⟨⟨_, sm_l sm0 hS⟩, for_it wk2 (fun i σ H' => ∃ y3, σ = [some (.str (tx l)), some (.ref a), some (.ref D), y3, none] ∧ Same H H' ∧ SD8 H' (sds l) D ad (adjOf (bs.take i)))
          ⟨_, rfl, sm0, S8⟩ (fun i σ H' _ p => by obtain ⟨_, _, sm, _⟩ := p; exact sm_l sm hS) ?_ ?_⟩
        · rintro i x σ H5 H6 hi ⟨y3, rfl, sm5, S5⟩ ⟨rfl, hx⟩
          rw [List.getElem?_map, List.getElem?_map] at hx
          obtain ⟨z, hz, rfl⟩ := Option.map_eq_some_iff.mp hx
          obtain ⟨b, hbi, rfl⟩ := Option.map_eq_some_iff.mp hz
          obtain ⟨u, v, rfl, hu, hv, huv⟩ := bar_two (hbar b (List.mem_of_getElem? hbi))
          have hbz : (tx [u, v]).length ≤ sizeLine := by rw [tx_len, sizeLine_eq]; show 2 ≤ 16777216; decide
          have nuv : u ≠ v := fun e => by rw [e] at huv; exact Nat.lt_irrefl _ huv
          have hz1 : ∀ s, (adjOf (bs.take i) s).length ≤ 200 := fun s => by
            have h1 := adj_len (bs.take i) s
            have h2 : (bs.take i).length ≤ 100 := Nat.le_trans (by rw [List.length_take]; exact Nat.min_le_right _ _) hbl
            omega
          have S6 := S5.app (c := swp v) hu
          have S7 := S6.app (c := swp u) hv
          have nH : ∀ s ∈ sds l, ∀ o, Same H H6 → Same H (upd H6 (ad s) o) := fun s hs o z => sm_over z (fr s hs)
          refine ⟨_, rfl, _, rfl, _, _, u, rfl, rfl, hbz, rfl, D, _, rfl, S5.get hu, .inl ⟨rfl, _, SqL.of (S5.at_ u hu)⟩, _, rfl, _, _, v, rfl, rfl, hbz, rfl, v, rfl, sds_asc g hv, ad u, _, _, rfl, rfl, S5.at_ u hu, ?_, ?_⟩
          · rw [List.length_map, List.length_map, sizeLine_eq]
            have := hz1 u
            omega
          · refine ⟨_, rfl, _, rfl, _, _, v, rfl, rfl, hbz, rfl, D, _, rfl, S6.get hv, .inl ⟨rfl, _, SqL.of (S6.at_ v hv)⟩, _, rfl, _, _, u, rfl, rfl, hbz, rfl, u, rfl, sds_asc g hu, ad v, _, _, rfl, rfl, S6.at_ v hv, ?_, ?_⟩
            · rw [if_neg (Ne.symm nuv), List.length_map, List.length_map, sizeLine_eq]
              have := hz1 v
              omega
            · refine ⟨_, rfl, sm_over (sm_over sm5 (fr u hu)) (fr v hv), ?_⟩
              have ea : (fun t => if t = v then (if t = u then adjOf (bs.take i) t ++ [swp v] else adjOf (bs.take i) t) ++ [swp u] else if t = u then adjOf (bs.take i) t ++ [swp v] else adjOf (bs.take i) t) = adjOf (bs.take (i + 1)) := by
                funext t
                rw [adj_snoc bs i t [u, v] hbi]
                show _ = adjOf (bs.take i) t ++ ((if u = t then [swp v] else []) ++ (if v = t then [swp u] else []))
                by_cases e1 : t = u
                · subst e1
                  rw [if_neg nuv, if_pos rfl, if_pos rfl, if_neg (Ne.symm nuv)]
                  simp
                · rw [if_neg e1, if_neg (Ne.symm e1)]
                  by_cases e2 : t = v
                  · subst e2
                    rw [if_pos rfl, if_pos rfl]
                    simp
                  · rw [if_neg e2, if_neg (Ne.symm e2)]
                    simp [e1]
              rw [← ea]
              exact S7
        · rintro σ H5 ⟨y3, rfl, sm5, S5⟩
          rw [List.take_of_length_le (Nat.le_refl _)] at S5
          exact ⟨_, rfl, q H5 D ad sm5 nd0 S5⟩
      · have wk2 := walk_tup (K := K) (a := a) (xs := (bs.map tx).map V.str)
        rw [len] at wk2
        refine .inr ⟨⟨_, sm_t sm0 hS⟩, for_it wk2 (fun i σ H' => ∃ y3, σ = [some (.str (tx l)), some (.ref a), some (.ref D), y3, none] ∧ Same H H' ∧ SD8 H' (sds l) D ad (adjOf (bs.take i)))
          ⟨_, rfl, sm0, S8⟩ (fun i σ H' _ p => by obtain ⟨_, _, sm, _⟩ := p; exact sm_t sm hS) ?_ ?_⟩
        · rintro i x σ H5 H6 hi ⟨y3, rfl, sm5, S5⟩ ⟨rfl, hx⟩
          rw [List.getElem?_map, List.getElem?_map] at hx
          obtain ⟨z, hz, rfl⟩ := Option.map_eq_some_iff.mp hx
          obtain ⟨b, hbi, rfl⟩ := Option.map_eq_some_iff.mp hz
          obtain ⟨u, v, rfl, hu, hv, huv⟩ := bar_two (hbar b (List.mem_of_getElem? hbi))
          have hbz : (tx [u, v]).length ≤ sizeLine := by rw [tx_len, sizeLine_eq]; show 2 ≤ 16777216; decide
          have nuv : u ≠ v := fun e => by rw [e] at huv; exact Nat.lt_irrefl _ huv
          have hz1 : ∀ s, (adjOf (bs.take i) s).length ≤ 200 := fun s => by
            have h1 := adj_len (bs.take i) s
            have h2 : (bs.take i).length ≤ 100 := Nat.le_trans (by rw [List.length_take]; exact Nat.min_le_right _ _) hbl
            omega
          have S6 := S5.app (c := swp v) hu
          have S7 := S6.app (c := swp u) hv
          have nH : ∀ s ∈ sds l, ∀ o, Same H H6 → Same H (upd H6 (ad s) o) := fun s hs o z => sm_over z (fr s hs)
          refine ⟨_, rfl, _, rfl, _, _, u, rfl, rfl, hbz, rfl, D, _, rfl, S5.get hu, .inl ⟨rfl, _, SqL.of (S5.at_ u hu)⟩, _, rfl, _, _, v, rfl, rfl, hbz, rfl, v, rfl, sds_asc g hv, ad u, _, _, rfl, rfl, S5.at_ u hu, ?_, ?_⟩
          · rw [List.length_map, List.length_map, sizeLine_eq]
            have := hz1 u
            omega
          · refine ⟨_, rfl, _, rfl, _, _, v, rfl, rfl, hbz, rfl, D, _, rfl, S6.get hv, .inl ⟨rfl, _, SqL.of (S6.at_ v hv)⟩, _, rfl, _, _, u, rfl, rfl, hbz, rfl, u, rfl, sds_asc g hu, ad v, _, _, rfl, rfl, S6.at_ v hv, ?_, ?_⟩
            · rw [if_neg (Ne.symm nuv), List.length_map, List.length_map, sizeLine_eq]
              have := hz1 v
              omega
            · refine ⟨_, rfl, sm_over (sm_over sm5 (fr u hu)) (fr v hv), ?_⟩
              have ea : (fun t => if t = v then (if t = u then adjOf (bs.take i) t ++ [swp v] else adjOf (bs.take i) t) ++ [swp u] else if t = u then adjOf (bs.take i) t ++ [swp v] else adjOf (bs.take i) t) = adjOf (bs.take (i + 1)) := by
                funext t
                rw [adj_snoc bs i t [u, v] hbi]
                show _ = adjOf (bs.take i) t ++ ((if u = t then [swp v] else []) ++ (if v = t then [swp u] else []))
                by_cases e1 : t = u
                · subst e1
                  rw [if_neg nuv, if_pos rfl, if_pos rfl, if_neg (Ne.symm nuv)]
                  simp
                · rw [if_neg e1, if_neg (Ne.symm e1)]
                  by_cases e2 : t = v
                  · subst e2
                    rw [if_pos rfl, if_pos rfl]
                    simp
                  · rw [if_neg e2, if_neg (Ne.symm e2)]
                    simp [e1]
              rw [← ea]
              exact S7
        · rintro σ H5 ⟨y3, rfl, sm5, S5⟩
          rw [List.take_of_length_le (Nat.le_refl _)] at S5
          exact ⟨_, rfl, q H5 D ad sm5 nd0 S5⟩
end
end NC
namespace NC
open PySem PySem.Spec PyProof.Rows L2
abbrev sReached : Stmt := topS 25
theorem scReached : FnScope ["straight", "one", "ahead", "wave", "later", "side", "met"] ["straight", "one"] (defScope sReached) := ⟨rfl, rfl, rfl, by decide +kernel, rfl, by decide +kernel, by decide +kernel⟩
def pV : Option Nat → V
  | none => .non
  | some c => .str (sg c)
def ahK (rs : List (Nat × Option Nat)) : List (Key × V) := rs.map fun r => (Sum.inr (sg r.1), pV r.2)
def kys (rs : List (Nat × Option Nat)) : List Nat := rs.map (·.1)
theorem ahK_no {rs : List (Nat × Option Nat)} {s : Nat} (h : s ∉ kys rs) : valV (ahK rs) (Sum.inr (sg s)) = none := by
  induction rs with
  | nil => rfl
  | cons r t ih =>
    have e : ¬ r.1 = s := fun z => h (by show s ∈ r.1 :: kys t; rw [z]; exact List.mem_cons_self ..)
    exact (valV_neg (p := (Sum.inr (sg r.1), pV r.2)) (fun z => e (sg_inj (Sum.inr.inj z)))).trans (ih fun z => h (List.mem_cons_of_mem _ z))
theorem ahK_some {rs : List (Nat × Option Nat)} {s : Nat} (h : s ∈ kys rs) : ∃ (i : Nat) (p : Option Nat), rs[i]? = some (s, p) ∧ valV (ahK rs) (Sum.inr (sg s)) = some (pV p) := by
  induction rs with
  | nil => cases h
  | cons r t ih =>
    by_cases e : r.1 = s
    · exact ⟨0, r.2, by rw [← e]; rfl, by rw [← e]; exact valV_pos (p := (Sum.inr (sg r.1), pV r.2)) rfl⟩
    · have h2 : s ∈ kys t := by
        rcases List.mem_cons.mp (show s ∈ r.1 :: kys t from h) with z | z
        · exact absurd z.symm e
        · exact z
      obtain ⟨i, p, h3, h4⟩ := ih h2
      exact ⟨i + 1, p, h3, (valV_neg (p := (Sum.inr (sg r.1), pV r.2)) (fun z => e (sg_inj (Sum.inr.inj z)))).trans h4⟩
theorem nd_len : ∀ (a L : List Nat), a.Nodup → (∀ x ∈ a, x ∈ L) → a.length ≤ L.length
  | [], L, _, _ => Nat.zero_le _
  | x :: r, L, hn, hs => by
    obtain ⟨n1, n2⟩ := List.nodup_cons.mp hn
    have m : x ∈ L := hs x (List.mem_cons_self ..)
    have hl := List.length_erase_of_mem m
    have q := nd_len r (L.erase x) n2 fun z hz => (List.mem_erase_of_ne (fun e : z = x => n1 (by rw [← e]; exact hz))).mpr (hs z (List.mem_cons_of_mem _ hz))
    have hp : 0 < L.length := List.length_pos_of_mem m
    rw [List.length_cons]
    omega
/-- the same, to be read alone (the dict may be walked) -/
structure SR8 (H : Hp) (L : List Nat) (d : Addr) (ad : Nat → Addr) (adj : Nat → List Nat) : Prop where
  dk : Rd H d (.dK (stK L ad))
  at_ : ∀ s ∈ L, H (ad s) = some (.lst (((adj s).map sg).map V.str))
theorem SD8.rd {H : Hp} {L : List Nat} {d : Addr} {ad : Nat → Addr} {adj : Nat → List Nat} (S : SD8 H L d ad adj) : SR8 H L d ad adj := ⟨.inl S.dk, S.at_⟩
theorem SR8.same {H H' : Hp} {L : List Nat} {d : Addr} {ad : Nat → Addr} {adj : Nat → List Nat} (S : SR8 H L d ad adj) (e : Same H H') : SR8 H' L d ad adj :=
  ⟨S.dk.elim (fun z => .inl (e _ _ z)) fun ⟨o, z⟩ => .inr ⟨o, e _ _ z⟩, fun s hs => e _ _ (S.at_ s hs)⟩
theorem SR8.get {H : Hp} {L : List Nat} {d : Addr} {ad : Nat → Addr} {adj : Nat → List Nat} (S : SR8 H L d ad adj) {s : Nat} (h : s ∈ L) : DGet H d (.str (sg s)) (some (.ref (ad s))) := by
  rw [← stK_val (ad := ad) h]
  exact .inl ⟨_, Sum.inr (sg s), S.dk, rfl, rfl⟩
structure RsOk (L : List Nat) (adj : Nat → List Nat) (one : Nat) (rs : List (Nat × Option Nat)) : Prop where
  hd : ∃ r, rs = (one, none) :: r
  nd : (kys rs).Nodup
  sub : ∀ s ∈ kys rs, s ∈ L
  par : ∀ (i s : Nat) (p : Option Nat), rs[i]? = some (s, p) → (i = 0 ∧ p = none) ∨ ∃ c j q, p = some c ∧ j < i ∧ rs[j]? = some (c, q) ∧ s ∈ adj c
theorem RsOk.len {L : List Nat} {adj : Nat → List Nat} {one : Nat} {rs : List (Nat × Option Nat)} (h : RsOk L adj one rs) : rs.length ≤ L.length := by
  have := nd_len (kys rs) L h.nd h.sub
  rw [kys, List.length_map] at this
  exact this
theorem RsOk.snoc {L : List Nat} {adj : Nat → List Nat} {one s m : Nat} {rs : List (Nat × Option Nat)} (h : RsOk L adj one rs) (hs : s ∈ kys rs) (hm : m ∈ adj s) (hL : m ∈ L) (hn : m ∉ kys rs) : RsOk L adj one (rs ++ [(m, some s)]) := by
  obtain ⟨r, e⟩ := h.hd
  have ek : kys (rs ++ [(m, some s)]) = kys rs ++ [m] := by simp [kys]
  refine ⟨⟨r ++ [(m, some s)], by rw [e]; rfl⟩, ?_, fun t ht => ?_, fun i t p hi => ?_⟩
  · rw [ek]
    exact nd_snoc h.nd hn
  · rw [ek] at ht
    rcases List.mem_append.mp ht with z | z
    · exact h.sub t z
    · rw [List.mem_singleton.mp z]; exact hL
  · rcases Nat.lt_or_ge i rs.length with hl | hl
    · rw [List.getElem?_append_left hl] at hi
      rcases h.par i t p hi with z | ⟨c, j, q, h1, h2, h3, h4⟩
      · exact .inl z
      · exact .inr ⟨c, j, q, h1, h2, by rw [List.getElem?_append_left (by omega)]; exact h3, h4⟩
    · rw [List.getElem?_append_right hl] at hi
      have hi0 : i - rs.length = 0 := by
        have := (List.getElem?_eq_some_iff.mp hi).1
        simp at this
        omega
      rw [hi0] at hi
      have e2 : (m, some s) = (t, p) := Option.some.inj hi
      cases e2
      obtain ⟨j, q, hj⟩ : ∃ (j : Nat) (q : Option Nat), rs[j]? = some (s, q) := by
        obtain ⟨x, hx, ex⟩ := List.mem_map.mp hs
        obtain ⟨j, hj⟩ := List.getElem?_of_mem hx
        exact ⟨j, x.2, by rw [hj, ← ex]⟩
      have hjl := (List.getElem?_eq_some_iff.mp hj).1
      exact .inr ⟨s, j, q, rfl, by omega, by rw [List.getElem?_append_left hjl]; exact hj, hm⟩
theorem ahK_snoc (rs : List (Nat × Option Nat)) (m s : Nat) (h : m ∉ kys rs) : putK (ahK rs) (Sum.inr (sg m)) (.str (sg s)) = ahK (rs ++ [(m, some s)]) := by
  rw [putK_new _ (ahK_no h)]
  unfold ahK
  rw [List.map_append]
  rfl
inductive Wk (adj : Nat → List Nat) (one : Nat) : Nat → Nat → Prop
  | zero : Wk adj one 0 one
  | step {n s c : Nat} : Wk adj one n s → c ∈ adj s → Wk adj one (n + 1) c
def Dst (adj : Nat → List Nat) (one n s : Nat) : Prop := Wk adj one n s ∧ ∀ m, m < n → ¬ Wk adj one m s
def Lvl (adj : Nat → List Nat) (one : Nat) (rs : List (Nat × Option Nat)) : Prop := ∀ (i s c : Nat), rs[i]? = some (s, some c) → ∃ m, Dst adj one m c ∧ Dst adj one (m + 1) s
def Fil (adj : Nat → List Nat) (one n : Nat) (rs : List (Nat × Option Nat)) : Prop := ∀ m t, m ≤ n → Wk adj one m t → t ∈ kys rs
def Frn (adj : Nat → List Nat) (one n : Nat) (wv : List Nat) : Prop := ∀ t ∈ wv, Dst adj one n t
theorem Dst.zero {adj : Nat → List Nat} {one : Nat} : Dst adj one 0 one := ⟨.zero, fun m h => absurd h (Nat.not_lt_zero _)⟩
theorem Lvl.one {adj : Nat → List Nat} {one : Nat} : Lvl adj one [(one, none)] := fun i s c h => by
  have hi := (List.getElem?_eq_some_iff.mp h).1
  have h0 : i = 0 := by simp at hi; omega
  subst h0
  cases h
theorem Fil.one {adj : Nat → List Nat} {one : Nat} : Fil adj one 0 [(one, none)] := fun m t h w => by
  obtain rfl : m = 0 := by omega
  cases w
  simp [kys]
theorem Frn.one {adj : Nat → List Nat} {one : Nat} : Frn adj one 0 [one] := fun t h => by rw [List.mem_singleton.mp h]; exact .zero
theorem Lvl.snoc {adj : Nat → List Nat} {one n s m : Nat} {rs : List (Nat × Option Nat)} (h : Lvl adj one rs) (a : Dst adj one n s) (b : Dst adj one (n + 1) m) : Lvl adj one (rs ++ [(m, some s)]) := fun i t c hi => by
  rcases Nat.lt_or_ge i rs.length with hl | hl
  · rw [List.getElem?_append_left hl] at hi
    exact h i t c hi
  · rw [List.getElem?_append_right hl] at hi
    have h0 : i - rs.length = 0 := by
      have := (List.getElem?_eq_some_iff.mp hi).1
      simp at this
      omega
    rw [h0] at hi
    cases hi
    exact ⟨n, a, b⟩
theorem Frn.snoc {adj : Nat → List Nat} {one n m : Nat} {wv : List Nat} (h : Frn adj one n wv) (b : Dst adj one n m) : Frn adj one n (wv ++ [m]) := fun t ht => by
  rcases List.mem_append.mp ht with z | z
  · exact h t z
  · rw [List.mem_singleton.mp z]; exact b
theorem Fil.next {adj : Nat → List Nat} {one n : Nat} {rs rs2 : List (Nat × Option Nat)} {lt : List Nat} (f : Fil adj one n rs) (k : ∀ t ∈ kys rs, t ∈ kys rs2) (fr : Frn adj one (n + 1) lt) (cl : ∀ u ∈ kys rs2, u ∉ lt → ∀ c ∈ adj u, c ∈ kys rs2) : Fil adj one (n + 1) rs2 := fun m t hm w => by
  rcases Nat.lt_or_ge n m with h | h
  · obtain rfl : m = n + 1 := by omega
    cases w with
    | step ws ht => exact cl _ (k _ (f n _ (Nat.le_refl _) ws)) (fun z => (fr _ z).2 n (Nat.lt_succ_self _) ws) t ht
  · exact k t (f m t h w)
theorem reach_in {adj : Nat → List Nat} {one : Nat} {rs : List (Nat × Option Nat)} (h0 : one ∈ kys rs) (cl : ∀ s ∈ kys rs, ∀ c ∈ adj s, c ∈ kys rs) {n s : Nat} (w : Wk adj one n s) : s ∈ kys rs := by
  induction w with
  | zero => exact h0
  | step _ hc ih => exact cl _ ih _ hc
section
variable {P : Program} {w : World} {K : PySem.W.Frag} {mg : Str → Option Value} {base : Heap}
def spReached : Sp := fun vs H Q _ => ∃ L d ad adj one, vs = [.ref d, .str (sg one)] ∧ SR8 H L d ad adj ∧ one ∈ L ∧ (∀ s ∈ L, ∀ c ∈ adj s, c ∈ L) ∧ L.length ≤ 24 ∧
  ∀ H' a rs, Same H H' → H a = none → RsOk L adj one rs → (∀ s ∈ kys rs, ∀ c ∈ adj s, c ∈ kys rs) → Lvl adj one rs → H' a = some (.dK (ahK rs)) → Q (.ref a) H'
set_option maxHeartbeats 1000000 in
theorem ok_reached {f : Addr} {fd : FuncData} {k : Nat} (F : Fun K "reached" "reached" sReached f fd) : FnOk P w K mg base CX0 (k + 1) f fd ["straight", "one"] spReached := by
  refine F.ok scReached (fun vs H Q E h => ?_) (fun cdv A outer s H vs Q E hr h => ?_)
  · obtain ⟨L, d, ad, adj, one, rfl, _⟩ := h
    rfl
  · obtain ⟨L, d, ad, adj, one, rfl, S8, hone, hadj, hL, q⟩ := h
    refine ⟨_, pss_cons (ps_set (i := 2) scReached.nd rfl (.inl rfl) (pe_disp (pps_cons (pv 1) pe_non pps_nil) (by rfl) (by rfl) (fun z => by cases z) (by decide)))
      (pss_cons (ps_set (i := 3) scReached.nd rfl (.inl rfl) (pe_lst (pa_cons (pv 1) pa_nil)))
      (pss_cons (ps_while PassesOwn.never (pt_truth (pv 3) (by intro _; rfl))
        (pss_cons (ps_set (i := 4) scReached.nd rfl (.inl rfl) (pe_lst pa_nil))
        (pss_cons (ps_for PassesOwn.never rfl (pi_list (pv 3)) (pg_name (i := 5) scReached.nd rfl (Or.inl rfl))
          (pss_one (ps_for PassesOwn.never rfl (pi_list (pe_dget (hu_of hr) (pv 0) (pv 5) (fun _ _ => rfl))) (pg_name (i := 6) scReached.nd rfl (Or.inl rfl))
            (pss_one (ps_if (pt_cmp (pc_dnotin (hu_of hr) (pv 6) (pv 2)))
              (pss_cons (ps_dput (hu_of hr) (pv 2) (pv 6) (pv 5) rfl)
              (pss_one (ps_expr (pe_bm PySem.F.plainAttrs_list PySem.F.slot_list_append PySem.F.type_list_append mt_append (pv 4) (pa_cons (pv 6) pa_nil))))) pss_nil)))))
        (pss_one (ps_set (i := 3) scReached.nd rfl (.inl rfl) (pv 4))))))
      (pss_one (ps_ret (pv 2))))), ?_⟩
    refine fun A0 nA => ⟨_, rfl, upd_same, [(Sum.inr (sg one), .non)], rfl, by show 1 ≤ 15; decide, ?_⟩
    have eA : upd (upd H A0 (.dK [])) A0 (.dK (mergeK [] [(Sum.inr (sg one), .non)])) = upd H A0 (.dK (ahK [(one, none)])) := by
      rw [L2.upd_upd]
      rfl
    rw [eA]
    refine ⟨_, rfl, by show 1 ≤ sizeLine; decide, fun W0 nW => ?_⟩
    have nAW : A0 ≠ W0 := ne_of_none upd_same nW
    have nW0 : H W0 = none := by
      rw [upd_ne (Ne.symm nAW)] at nW
      exact nW
    -- the while
    refine ⟨fun m σ H' => ∃ rs wv Wd y4 y5 y6, σ = [some (.ref d), some (.str (sg one)), some (.ref A0), some (.ref Wd), y4, y5, y6] ∧ Same H H' ∧ H Wd = none ∧ H' A0 = some (.dK (ahK rs)) ∧ H' Wd = some (.lst ((wv.map sg).map V.str)) ∧
      RsOk L adj one rs ∧ (∀ t ∈ wv, t ∈ kys rs) ∧ wv.length ≤ 24 ∧ (∀ t ∈ kys rs, t ∉ wv → ∀ c ∈ adj t, c ∈ kys rs) ∧ (∃ n, Lvl adj one rs ∧ Fil adj one n rs ∧ Frn adj one n wv) ∧ m = 2 * (24 - rs.length) + (if wv = [] then 0 else 1), ?_, ?_⟩
    · refine ⟨_, [(one, none)], [one], W0, _, _, _, rfl, sm_upd (same_upd nA) nW, nW0, ?_, upd_same, ⟨⟨[], rfl⟩, by simp [kys], fun t ht => ?_, fun i t p hi => ?_⟩, fun t ht => by simpa [kys] using ht, by show 1 ≤ 24; decide, fun t ht hn => ?_, ⟨0, Lvl.one, Fil.one, Frn.one⟩, rfl⟩
      · rw [upd_ne nAW, upd_same]
      · have e : t = one := by simpa [kys] using ht
        rw [e]; exact hone
      · have hi0 : i = 0 := by
          have := (List.getElem?_eq_some_iff.mp hi).1
          simp at this
          omega
        subst hi0
        cases hi
        exact .inl ⟨rfl, rfl⟩
      · have e : t = one := by simpa [kys] using ht
        exact absurd (by simp [e]) hn
    · rintro m σ H1 ⟨rs, wv, Wd, y4, y5, y6, rfl, sm, nWd, eA1, eW, R, hwv, hwl, hdone, ⟨n, LV, FL, FR⟩, rfl⟩
      refine ⟨_, rfl, _, .inl ⟨_, SqL.of eW, rfl⟩, ite2 (fun hne => ?_) (fun he => ?_)⟩
      · -- a turn of the while
        have hw0 : wv ≠ [] := fun z => by
          rw [z] at hne
          exact absurd hne (by decide)
        refine ⟨fun σ' H' => ∃ (rs2 : List (Nat × Option Nat)) (lt : List Nat) (Wd2 : Addr) (y4 y5 y6 : Option V), σ' = [some (.ref d), some (.str (sg one)), some (.ref A0), some (.ref Wd2), y4, y5, y6] ∧ Same H H' ∧ H Wd2 = none ∧ H' A0 = some (.dK (ahK rs2)) ∧ H' Wd2 = some (.lst ((lt.map sg).map V.str)) ∧
          RsOk L adj one rs2 ∧ (∀ t ∈ lt, t ∈ kys rs2) ∧ lt.length ≤ 24 ∧ (∀ t ∈ kys rs2, t ∉ lt → ∀ c ∈ adj t, c ∈ kys rs2) ∧ (∃ n, Lvl adj one rs2 ∧ Fil adj one n rs2 ∧ Frn adj one n lt) ∧ rs2.length = rs.length + lt.length, ?_, ?_⟩
        · rintro σ' H' ⟨rs2, lt, Wd2, y4, y5, y6, h1, h2, h3, h4, h5, h6, h7, h8, h9, hL, h10⟩
          refine ⟨_, ?_, rs2, lt, Wd2, y4, y5, y6, h1, h2, h3, h4, h5, h6, h7, h8, h9, hL, rfl⟩
          have l2 := h6.len
          rw [if_neg hw0]
          by_cases e : lt = []
          · rw [if_pos e, h10, e]
            simp
          · rw [if_neg e, h10]
            have : 0 < lt.length := List.length_pos_iff.mpr e
            omega
        · refine ⟨Nat.zero_le _, fun T nT => ?_⟩
          have nTA : A0 ≠ T := ne_of_none eA1 nT
          have nTW : Wd ≠ T := ne_of_none eW nT
          have nTH : H T = none := L2.Same.free sm nT
          have wk := walk_list (K := K) (a := Wd) (xs := (wv.map sg).map V.str)
          rw [List.length_map, List.length_map] at wk
          refine ⟨_, rfl, Wd, rfl, ⟨_, SqL.of (by rw [upd_ne nTW]; exact eW)⟩, for_it wk (fun i σ H' => ∃ (rs2 : List (Nat × Option Nat)) (lt : List Nat) (y5 y6 : Option V), σ = [some (.ref d), some (.str (sg one)), some (.ref A0), some (.ref Wd), some (.ref T), y5, y6] ∧ Same H H' ∧ H' A0 = some (.dK (ahK rs2)) ∧
            H' Wd = some (.lst ((wv.map sg).map V.str)) ∧ H' T = some (.lst ((lt.map sg).map V.str)) ∧ RsOk L adj one rs2 ∧ rs2.length = rs.length + lt.length ∧ (∀ t ∈ kys rs, t ∈ kys rs2) ∧ (∀ t ∈ lt, t ∈ kys rs2) ∧
            (∀ t ∈ kys rs2, t ∉ lt → t ∉ wv.drop i → ∀ c ∈ adj t, c ∈ kys rs2) ∧ Lvl adj one rs2 ∧ Frn adj one (n + 1) lt)
            ⟨rs, [], _, _, rfl, sm_upd sm nT, by rw [upd_ne nTA]; exact eA1, by rw [upd_ne nTW]; exact eW, upd_same, R, rfl, fun _ h => h, (fun t h => absurd h (by simp)), (fun t h1 _ h2 => hdone t h1 h2), LV, (fun t h => absurd h (by simp))⟩
            (fun i σ H' _ p => by obtain ⟨_, _, _, _, _, _, _, h, _⟩ := p; exact SqL.of h) ?_ ?_⟩
          · rintro i x σ H2 H3 hi ⟨rs2, lt, y5, y6, rfl, s2, a2, w2, t2, R2, len2, k2, lk2, dn2, LV2, FR2⟩ ⟨rfl, hx⟩
            rw [List.getElem?_map, List.getElem?_map] at hx
            obtain ⟨z, hz, rfl⟩ := Option.map_eq_some_iff.mp hx
            obtain ⟨t, ht, rfl⟩ := Option.map_eq_some_iff.mp hz
            have htk : t ∈ kys rs2 := k2 t (hwv t (List.mem_of_getElem? ht))
            have htL : t ∈ L := R2.sub t htk
            have S2 : SR8 H3 L d ad adj := S8.same s2
            have wk3 := walk_list (K := K) (a := ad t) (xs := ((adj t).map sg).map V.str)
            rw [List.length_map, List.length_map] at wk3
            refine ⟨_, rfl, _, rfl, d, _, rfl, S2.get htL, ad t, rfl, ⟨_, SqL.of (S2.at_ t htL)⟩, for_it wk3 (fun j σ H' => ∃ (rs3 : List (Nat × Option Nat)) (lt3 : List Nat) (y6 : Option V), σ = [some (.ref d), some (.str (sg one)), some (.ref A0), some (.ref Wd), some (.ref T), some (.str (sg t)), y6] ∧ Same H H' ∧
              H' A0 = some (.dK (ahK rs3)) ∧ H' Wd = some (.lst ((wv.map sg).map V.str)) ∧ H' T = some (.lst ((lt3.map sg).map V.str)) ∧ RsOk L adj one rs3 ∧ rs3.length = rs.length + lt3.length ∧ (∀ u ∈ kys rs2, u ∈ kys rs3) ∧ (∀ u ∈ lt3, u ∈ kys rs3) ∧
              (∀ u ∈ kys rs3, u ∉ lt3 → u ∉ wv.drop i → ∀ c ∈ adj u, c ∈ kys rs3) ∧ (∀ c ∈ (adj t).take j, c ∈ kys rs3) ∧ Lvl adj one rs3 ∧ Frn adj one (n + 1) lt3)
              ⟨rs2, lt, _, rfl, s2, a2, w2, t2, R2, len2, fun _ h => h, lk2, dn2, (fun _ h => by simp at h), LV2, FR2⟩
              (fun j σ H' _ p => by obtain ⟨_, _, _, _, s3, _⟩ := p; exact SqL.of ((S8.same s3).at_ t htL)) ?_ ?_⟩
            · rintro j x σ H4 H5 hj ⟨rs3, lt3, y6, rfl, s3, a3, w3, t3, R3, len3, k3, lk3, dn3, tk3, LV3, FR3⟩ ⟨rfl, hx⟩
              rw [List.getElem?_map, List.getElem?_map] at hx
              obtain ⟨z, hz, rfl⟩ := Option.map_eq_some_iff.mp hx
              obtain ⟨m, hm, rfl⟩ := Option.map_eq_some_iff.mp hz
              have hma : m ∈ adj t := List.mem_of_getElem? hm
              have hmL : m ∈ L := hadj t htL m hma
              have l3 := R3.len
              have tkS : (adj t).take (j + 1) = (adj t).take j ++ [m] := by rw [List.take_add_one, hm]; rfl
              refine ⟨_, rfl, _, rfl, A0, _, rfl, DGet.k (k := Sum.inr (sg m)) a3, _, rfl, ite2 (fun hn => ?_) (fun hn => ?_)⟩
              · have hmn : m ∉ kys rs3 := fun z => by
                  obtain ⟨_, p, _, e⟩ := ahK_some z
                  rw [e] at hn
                  exact absurd hn Bool.false_ne_true
                have R4 := R3.snoc (k3 t htk) hma hmL hmn
                have dT : Dst adj one n t := FR t (List.mem_of_getElem? ht)
                have dM : Dst adj one (n + 1) m := ⟨.step dT.1 hma, fun j hj w => hmn (k3 m (k2 m (FL j m (by omega) w)))⟩
                have l4 := R4.len
                rw [List.length_append] at l4
                have l4 : rs3.length + 1 ≤ L.length := l4
                have ek : kys (rs3 ++ [(m, some t)]) = kys rs3 ++ [m] := by simp [kys]
                refine ⟨_, rfl, _, rfl, _, rfl, A0, _, rfl, DPut.k (k := Sum.inr (sg m)) a3 (by unfold ahK; rw [List.length_map, sizeLine_eq]; omega), ?_⟩
                rw [ahK_snoc rs3 m t hmn]
                have eT : (upd H5 A0 (.dK (ahK (rs3 ++ [(m, some t)])))) T = some (.lst ((lt3.map sg).map V.str)) := by rw [upd_ne (Ne.symm nTA)]; exact t3
                refine ⟨_, rfl, .inl ⟨rfl, _, SqL.of eT⟩, _, rfl, T, _, _, rfl, rfl, eT, by rw [List.length_map, List.length_map, sizeLine_eq]; omega, ?_⟩
                refine ⟨rs3 ++ [(m, some t)], lt3 ++ [m], _, rfl, sm_over (sm_over s3 nA) nTH, ?_, ?_, ?_, R4, ?_, fun u hu => ?_, fun u hu => ?_, fun u h1 h2 h3 c hc => ?_, fun c hc => ?_, LV3.snoc dT dM, FR3.snoc dM⟩
                · rw [upd_ne nTA, upd_same]
                · rw [upd_ne nTW, upd_ne (ne_of w3 a3 fun z => by cases z)]
                  exact w3
                · rw [upd_same, List.map_append, List.map_append]
                  rfl
                · rw [List.length_append, List.length_append, len3]
                  rfl
                · rw [ek]; exact List.mem_append_left _ (k3 u hu)
                · rw [ek]
                  rcases List.mem_append.mp hu with z | z
                  · exact List.mem_append_left _ (lk3 u z)
                  · exact List.mem_append_right _ z
                · rw [ek] at h1 ⊢
                  have h4 : u ∉ lt3 := fun z => h2 (List.mem_append_left _ z)
                  have h5 : u ∈ kys rs3 := by
                    rcases List.mem_append.mp h1 with z | z
                    · exact z
                    · exact absurd (List.mem_append_right _ z) h2
                  exact List.mem_append_left _ (dn3 u h5 h4 h3 c hc)
                · rw [ek]
                  rw [tkS] at hc
                  rcases List.mem_append.mp hc with z | z
                  · exact List.mem_append_left _ (tk3 c z)
                  · exact List.mem_append_right _ z
              · have hmi : m ∈ kys rs3 := by
                  refine Classical.byContradiction fun z => hn ?_
                  rw [ahK_no z]
                  rfl
                refine ⟨rs3, lt3, _, rfl, s3, a3, w3, t3, R3, len3, k3, lk3, dn3, fun c hc => ?_, LV3, FR3⟩
                rw [tkS] at hc
                rcases List.mem_append.mp hc with z | z
                · exact tk3 c z
                · rw [List.mem_singleton.mp z]; exact hmi
            · rintro σ H4 ⟨rs3, lt3, y6, rfl, s3, a3, w3, t3, R3, len3, k3, lk3, dn3, tk3, LV3, FR3⟩
              rw [List.take_of_length_le (Nat.le_refl _)] at tk3
              refine ⟨rs3, lt3, _, _, rfl, s3, a3, w3, t3, R3, len3, fun u hu => k3 u (k2 u hu), lk3, fun u h1 h2 h3 c hc => ?_, LV3, FR3⟩
              by_cases e : u = t
              · rw [e] at hc
                exact tk3 c hc
              · refine dn3 u h1 h2 (fun z => h3 ?_) c hc
                rw [List.drop_eq_getElem_cons hi] at z
                rcases List.mem_cons.mp z with z | z
                · have e2 : wv[i] = t := by
                    rw [List.getElem?_eq_getElem hi] at ht
                    exact Option.some.inj ht
                  exact absurd (z.trans e2) e
                · exact z
          · rintro σ H4 ⟨rs2, lt, y5, y6, rfl, s2, a2, w2, t2, R2, len2, k2, lk2, dn2, LV2, FR2⟩
            have l2 := R2.len
            exact ⟨_, rfl, rs2, lt, T, _, _, _, rfl, s2, nTH, a2, t2, R2, lk2, by omega, fun u h1 h2 => dn2 u h1 h2 (by simp), ⟨n + 1, LV2, FL.next k2 FR2 (fun u h1 h2 => dn2 u h1 h2 (by simp)), FR2⟩, len2⟩
      · have e : wv = [] := by
          cases wv with
          | nil => rfl
          | cons x r => exact absurd rfl he
        exact ⟨_, rfl, q H1 A0 rs sm nA R (fun t ht => hdone t ht (by rw [e]; simp)) LV eA1⟩
end
end NC
namespace NC
open PySem PySem.Spec PyProof.Rows L2
abbrev sAllF : Stmt := topS 26
theorem scAllF : FnScope ["walls", "bars", "straight", "side"] ["walls", "bars"] (defScope sAllF) := ⟨rfl, rfl, rfl, by decide +kernel, rfl, by decide +kernel, by decide +kernel⟩
def foK (L : List Nat) (fo : Nat → List Nat) : List (Key × V) := L.map fun s => (Sum.inr (sg s), V.str (tx (fo s)))
theorem foK_val {L : List Nat} {fo : Nat → List Nat} {s : Nat} (h : s ∈ L) : valV (foK L fo) (Sum.inr (sg s)) = some (.str (tx (fo s))) := by
  induction L with
  | nil => cases h
  | cons t r ih =>
    by_cases e : t = s
    · subst e
      exact valV_pos (p := (Sum.inr (sg t), V.str (tx (fo t)))) rfl
    · have h2 : s ∈ r := by
        rcases List.mem_cons.mp h with z | z
        · exact absurd z.symm e
        · exact z
      exact (valV_neg (p := (Sum.inr (sg t), V.str (tx (fo t)))) (fun z => e (sg_inj (Sum.inr.inj z)))).trans (ih h2)
theorem foK_no {L : List Nat} {fo : Nat → List Nat} {s : Nat} (h : s ∉ L) : valV (foK L fo) (Sum.inr (sg s)) = none := by
  induction L with
  | nil => rfl
  | cons t r ih =>
    have e : ¬ t = s := fun z => h (by rw [z]; exact List.mem_cons_self ..)
    exact (valV_neg (p := (Sum.inr (sg t), V.str (tx (fo t)))) (fun z => e (sg_inj (Sum.inr.inj z)))).trans (ih fun z => h (List.mem_cons_of_mem _ z))
/-- what a side forces, as all_forced tells it -/
def FoOk (l : List Nat) (adj : Nat → List Nat) (L : List Nat) (fo : Nat → List Nat) : Prop := ∀ s ∈ L, ∃ rs, RsOk (sds l) adj s rs ∧ (∀ t ∈ kys rs, ∀ c ∈ adj t, c ∈ kys rs) ∧ fo s = byW l (ahK rs)
theorem take_new {L : List Nat} (nd : L.Nodup) {i c : Nat} (hc : L[i]? = some c) : c ∉ L.take i := fun hm => by
  obtain ⟨j, hj⟩ := List.getElem?_of_mem hm
  have hji : j < i := by
    have := (List.getElem?_eq_some_iff.mp hj).1
    rw [List.length_take] at this
    omega
  rw [List.getElem?_take_of_lt hji] at hj
  exact absurd ((List.getElem?_inj (List.getElem?_eq_some_iff.mp hj).1 nd).mp (hj.trans hc.symm)) (Nat.ne_of_lt hji)
section
variable {P : Program} {w : World} {K : PySem.W.Frag} {mg : Str → Option Value} {base : Heap}
def spAllF (K : PySem.W.Frag) : Sp := fun vs H Q _ => ∃ l a bs, vs = [.str (tx l), .ref a] ∧ GoodW l ∧ (∀ b ∈ bs, isBar l b = true) ∧ bs.length ≤ 100 ∧ (SqL K H a ((bs.map tx).map V.str) ∨ SqT K H a ((bs.map tx).map V.str)) ∧
  ∀ H' D fo, Same H H' → H D = none → H' D = some (.dK (foK (sds l) fo)) → FoOk l (adjOf bs) (sds l) fo → Q (.ref D) H'
set_option maxHeartbeats 1000000 in
theorem ok_allF {f fT fR fB fS fO : Addr} {fd fdT fdR fdB fdS fdO : FuncData} {k : Nat} (B : BM mg) (F : Fun K "all_forced" "all_forced" sAllF f fd) (T : DF K mg "straight_from" sStraight ["walls", "bars"] fT fdT)
    (R : DF K mg "reached" sReached ["straight", "one"] fR fdR) (Y : DF K mg "by_walls" sByWalls ["walls", "sides"] fB fdB) (S : DF K mg "sides_of" sSides ["walls"] fS fdS) (O : DF K mg "other" sOther ["side"] fO fdO) :
    FnOk P w K mg base CX0 (k + 3) f fd ["walls", "bars"] (spAllF K) := by
  have GT : FnOk P w K mg base CX0 (k + 2) fT fdT ["walls", "bars"] (spStraight K) := ok_straight B T.F S O
  have GR : FnOk P w K mg base CX0 (k + 2) fR fdR ["straight", "one"] spReached := ok_reached R.F
  have GY : FnOk P w K mg base CX0 (k + 2) fB fdB ["walls", "sides"] spByWalls := ok_byWalls B Y.F O
  refine F.ok scAllF (fun vs H Q E h => ?_) (fun cdv A outer s H vs Q E hr h => ?_)
  · obtain ⟨l, a, bs, rfl, _⟩ := h
    rfl
  · obtain ⟨l, a, bs, rfl, g, hbar, hbl, hS, q⟩ := h
    refine ⟨_, pss_cons (ps_set (i := 2) scAllF.nd rfl (.inr rfl) (pe_call GT hr rfl T.g T.F.kp T.b .nil pass0 (pa_cons (pv 0) (pa_cons (pv 1) pa_nil))))
      (pss_one (ps_ret (pe_lock (pe_dc (own := [("side", 3)]) (g := gName 3) (tt := tYes) rfl scAllF.nd (pi_keys (pv 2)) (blkOk_by (N := ["walls", "bars", "straight", "side"]) (sc := defScope sAllF) (by decide +kernel))
        (fun _ _ _ _ _ => pg_name (i := 3) scAllF.nd rfl (Or.inl rfl)) (fun _ _ _ _ _ => pts_nil) (fun _ _ _ _ _ => pv 3)
        (fun _ _ _ _ _ => pe_call GY hr rfl Y.g Y.F.kp Y.b .nil pass0 (pa_cons (pv 0) (pa_cons (pe_call GR hr rfl R.g R.F.kp R.b .nil pass0 (pa_cons (pv 2) (pa_cons (pv 3) pa_nil))) pa_nil))))))), ?_⟩
    refine ⟨_, rfl, _, rfl, l, a, bs, rfl, g, hbar, hbl, hS, fun H1 d ad s1 nd1 S8 => ?_⟩
    refine ⟨d, _, S8.dk, trivial, fun od => ?_⟩
    refine ⟨_, rfl, d, od, rfl, .inl ⟨_, upd_same, fun D nD => ?_⟩⟩
    have ndD : D ≠ d := fun e => by
      rw [e, upd_same] at nD
      cases nD
    have SR : SR8 (upd H1 d (.frz od (.dK (stK (sds l) ad)))) (sds l) d ad (adjOf bs) := ⟨.inr ⟨od, upd_same⟩, fun s hs => by rw [upd_ne (S8.nd hs)]; exact S8.at_ s hs⟩
    have e0 : (upd H1 d (.frz od (.dK (stK (sds l) ad)))) d = some (.frz od (.dK (stK (sds l) ad))) := upd_same
    have s2 : Same H (upd H1 d (.frz od (.dK (stK (sds l) ad)))) := sm_over s1 nd1
    generalize (upd H1 d (.frz od (.dK (stK (sds l) ad)))) = H2 at nD SR e0 s2 ⊢
    have wk := walk_keys (d := d) (o := od) (kvs := stK (sds l) ad)
    have len : (stK (sds l) ad).length = (sds l).length := by unfold stK; rw [List.length_map]
    rw [len] at wk
    have hD0 : H D = none := L2.Same.free s2 nD
    refine dc_it wk (fun i H' => ∃ fo, Same H2 H' ∧ H' D = some (.dK (foK ((sds l).take i) fo)) ∧ FoOk l (adjOf bs) ((sds l).take i) fo)
      ⟨fun _ => [], same_upd nD, upd_same, fun s hs => by simp at hs⟩ (fun i H' _ h => by obtain ⟨_, sm, _⟩ := h; exact sm _ _ e0) ?_ ?_
    · rintro i x H3 H4 hi ⟨fo, sm, eD, ok⟩ ⟨rfl, kk, v, hk, rfl⟩
      unfold stK at hk
      rw [List.getElem?_map] at hk
      obtain ⟨c, hc, e⟩ := Option.map_eq_some_iff.mp hk
      obtain ⟨rfl, rfl⟩ := Prod.mk.inj e
      have hcL : c ∈ sds l := List.mem_of_getElem? hc
      have hnc := take_new (sds_nd g) hc
      have tk : (sds l).take (i + 1) = (sds l).take i ++ [c] := by rw [List.take_add_one, hc]; rfl
      refine ⟨rfl, yes_i ⟨_, rfl, _, rfl, _, rfl, _, rfl, sds l, d, ad, adjOf bs, c, rfl, SR.same sm, hcL, fun s hs c hc => adj_mem g hbar hc, sds_len g, fun H5 r rs s5 nr R5 cl _ er => ?_⟩⟩
      refine ⟨l, r, _, rfl, g, er, fun H6 s6 => ?_⟩
      have e1 : ∀ t ∈ (sds l).take i, (if t = c then byW l (ahK rs) else fo t) = fo t := fun t ht => if_neg fun e => hnc (by rw [← e]; exact ht)
      have eD6 : H6 D = some (.dK (foK ((sds l).take i) fo)) := s6 _ _ (s5 _ _ eD)
      refine ⟨foK ((sds l).take i) fo, Sum.inr (sg c), rfl, eD6, ?_, fun t => if t = c then byW l (ahK rs) else fo t, ?_, ?_, ?_⟩
      · unfold foK
        rw [List.length_map, List.length_take, sizeLine_eq]
        have := sds_len g
        omega
      · exact sm_over (sm_trans (sm_trans sm s5) s6) nD
      · rw [upd_same, putK_new _ (foK_no hnc), tk]
        unfold foK
        rw [List.map_append]
        rw [List.map_congr_left (g := fun s => (Sum.inr (sg s), V.str (tx (if s = c then byW l (ahK rs) else fo s)))) fun t ht => by rw [e1 t ht]]
        simp
      · intro t ht
        rw [tk] at ht
        rcases List.mem_append.mp ht with h | h
        · obtain ⟨rs', a1, a2, a3⟩ := ok t h
          exact ⟨rs', a1, a2, (e1 t h).trans a3⟩
        · obtain rfl := List.mem_singleton.mp h
          exact ⟨rs, R5, cl, if_pos rfl⟩
    · rintro H3 ⟨fo, sm, eD, ok⟩
      rw [List.take_of_length_le (Nat.le_refl _)] at eD ok
      refine ⟨sm _ _ e0, q _ D fo (sm_over (sm_trans s2 sm) nd1) hD0 ?_ ok⟩
      rw [upd_ne ndD]
      exact eD
end
end NC
namespace NC
open PySem PySem.Spec PyProof.Rows L2
def isLt (c : Nat) : Prop := (97 ≤ c ∧ c ≤ 122) ∨ (65 ≤ c ∧ c ≤ 90)
theorem sds_lt {l : List Nat} (g : GoodW l) {s : Nat} (h : s ∈ sds l) : isLt s := (sds_shape g h).imp (fun z => ⟨z.1, z.2.1⟩) (fun z => ⟨z.1, z.2.1⟩)
theorem swp_small {c : Nat} (h : 97 ≤ c ∧ c ≤ 122) : swp c = c - 32 := by unfold swp; rw [if_pos h]
theorem swp_great {c : Nat} (h : 65 ≤ c ∧ c ≤ 90) : swp c = c + 32 := by unfold swp; rw [if_neg (by omega), if_pos h]
theorem swp_swp {c : Nat} (h : isLt c) : swp (swp c) = c := by
  rcases h with h | h
  · rw [swp_small h, swp_great (by omega)]
    omega
  · rw [swp_great h, swp_small (by omega)]
    omega
theorem isLt.asc {c : Nat} (h : isLt c) : c < 128 := by rcases h with h | h <;> omega
/-- a side forces another -/
def Frc (adj : Nat → List Nat) (s t : Nat) : Prop := ∃ n, Wk adj s n t
theorem Frc.refl {adj : Nat → List Nat} {s : Nat} : Frc adj s s := ⟨0, .zero⟩
theorem Frc.step {adj : Nat → List Nat} {s t u : Nat} (h : Frc adj s t) (k : u ∈ adj t) : Frc adj s u := let ⟨n, w⟩ := h; ⟨n + 1, .step w k⟩
theorem Frc.ind {adj : Nat → List Nat} {s t : Nat} (h : Frc adj s t) {p : Nat → Prop} (h0 : p s) (hs : ∀ a b, p a → b ∈ adj a → p b) : p t := by
  obtain ⟨n, w⟩ := h
  induction w with
  | zero => exact h0
  | step _ k ih => exact hs _ _ ih k
theorem Frc.trans {adj : Nat → List Nat} {s t u : Nat} (a : Frc adj s t) (b : Frc adj t u) : Frc adj s u := b.ind (p := fun x => Frc adj s x) a fun _ _ h k => h.step k
theorem adj_iff {l : List Nat} (g : GoodW l) {bs : List (List Nat)} (hb : ∀ b ∈ bs, isBar l b = true) {a b : Nat} (h : isLt b) : b ∈ adjOf bs a ↔ [a, swp b] ∈ bs ∨ [swp b, a] ∈ bs := by
  constructor
  · intro z
    obtain ⟨c, hc, z⟩ := List.mem_flatMap.mp z
    obtain ⟨x, y, rfl, hx, hy, _⟩ := bar_two (hb c hc)
    have z : b ∈ (if x = a then [swp y] else []) ++ (if y = a then [swp x] else []) := z
    rcases List.mem_append.mp z with z | z
    · split at z
      · rename_i e
        rw [List.mem_singleton.mp z, swp_swp (sds_lt g hy), ← e]
        exact .inl hc
      · cases z
    · split at z
      · rename_i e
        rw [List.mem_singleton.mp z, swp_swp (sds_lt g hx), ← e]
        exact .inr hc
      · cases z
  · rintro (z | z)
    · refine List.mem_flatMap.mpr ⟨_, z, ?_⟩
      show b ∈ (if a = a then [swp (swp b)] else []) ++ _
      rw [if_pos rfl, swp_swp h]
      exact List.mem_append_left _ (List.mem_singleton.mpr rfl)
    · refine List.mem_flatMap.mpr ⟨_, z, ?_⟩
      show b ∈ _ ++ (if a = a then [swp (swp b)] else [])
      rw [if_pos rfl, swp_swp h]
      exact List.mem_append_right _ (List.mem_singleton.mpr rfl)
theorem adj_back {l : List Nat} (g : GoodW l) {bs : List (List Nat)} (hb : ∀ b ∈ bs, isBar l b = true) {a b : Nat} (ha : a ∈ sds l) (h : b ∈ adjOf bs a) : swp a ∈ adjOf bs (swp b) := by
  have hbL := adj_mem g hb h
  refine (adj_iff g hb (sds_lt g (sds_swp g ha))).mpr ?_
  rw [swp_swp (sds_lt g ha)]
  exact ((adj_iff g hb (sds_lt g hbL)).mp h).symm
section
variable {l : List Nat} (g : GoodW l) {bs : List (List Nat)} (hb : ∀ b ∈ bs, isBar l b = true)
include g hb
theorem Frc.mem {s t : Nat} (hs : s ∈ sds l) (h : Frc (adjOf bs) s t) : t ∈ sds l := h.ind (p := fun x => x ∈ sds l) hs fun _ _ _ k => adj_mem g hb k
theorem Frc.back {s t : Nat} (hs : s ∈ sds l) (h : Frc (adjOf bs) s t) : Frc (adjOf bs) (swp t) (swp s) := by
  have q := h.ind (p := fun x => x ∈ sds l ∧ Frc (adjOf bs) (swp x) (swp s)) ⟨hs, .refl⟩ fun a b hab k => ⟨adj_mem g hb k, (Frc.refl.step (adj_back g hb hab.1 k)).trans hab.2⟩
  exact q.2
/-- both sides of one wall: then the other side of what forces them -/
theorem Frc.torn {s t : Nat} (hs : s ∈ sds l) (a : Frc (adjOf bs) s t) (b : Frc (adjOf bs) s (swp t)) : Frc (adjOf bs) s (swp s) := by
  have q := Frc.back g hb hs b
  rw [swp_swp (sds_lt g (Frc.mem g hb hs a))] at q
  exact a.trans q
end
/-- where one stands who stands on the small sides of p: whether on a side -/
def val (p : Nat → Bool) (s : Nat) : Bool := if s ≤ 90 then !p (s + 32) else p s
theorem val_swp {p : Nat → Bool} {s : Nat} (h : isLt s) : val p (swp s) = !val p s := by
  rcases h with h | h
  · rw [swp_small h]
    unfold val
    rw [if_pos (by omega), if_neg (by omega), show s - 32 + 32 = s by omega]
  · rw [swp_great h]
    unfold val
    rw [if_neg (by omega), if_pos (by omega), Bool.not_not]
def Sat (bs : List (List Nat)) (p : Nat → Bool) : Prop := ∀ x y, [x, y] ∈ bs → ¬ (val p x = true ∧ val p y = true)
section
variable {l : List Nat} (g : GoodW l) {bs : List (List Nat)} (hb : ∀ b ∈ bs, isBar l b = true)
include g hb
theorem Sat.adj {p : Nat → Bool} (h : Sat bs p) {a b : Nat} (ha : val p a = true) (k : b ∈ adjOf bs a) : val p b = true := by
  have hl := sds_lt g (adj_mem g hb k)
  have e : val p (swp b) = false := by
    rcases (adj_iff g hb hl).mp k with z | z
    · have := h _ _ z
      simpa [ha] using this
    · have := h _ _ z
      simpa [ha] using this
  rw [val_swp hl] at e
  simpa using e
theorem Sat.frc {p : Nat → Bool} (h : Sat bs p) {s t : Nat} (ha : val p s = true) (k : Frc (adjOf bs) s t) : val p t = true := k.ind (p := fun x => val p x = true) ha fun _ _ q z => h.adj g hb q z
/-- what s forces, written over a room -/
theorem Sat.over {p : Nat → Bool} (h : Sat bs p) {s : Nat} (hs : s ∈ sds l) (nf : ¬ Frc (adjOf bs) s (swp s)) : ∃ p', Sat bs p' ∧ (∀ t ∈ sds l, Frc (adjOf bs) s t → val p' t = true) ∧ ∀ t ∈ sds l, ¬ Frc (adjOf bs) s (swp t) → val p t = true → val p' t = true := by
  classical
  let p' : Nat → Bool := fun c => if Frc (adjOf bs) s c then true else if Frc (adjOf bs) s (c - 32) then false else p c
  have cons : ∀ t, Frc (adjOf bs) s t → ¬ Frc (adjOf bs) s (swp t) := fun t a b => nf (Frc.torn g hb hs a b)
  have ev : ∀ t ∈ sds l, val p' t = if Frc (adjOf bs) s t then true else if Frc (adjOf bs) s (swp t) then false else val p t := fun t ht => by
    rcases sds_lt g ht with z | z
    · have e1 : val p' t = p' t := by unfold val; rw [if_neg (by omega)]
      have e2 : val p t = p t := by unfold val; rw [if_neg (by omega)]
      rw [e1, e2, swp_small z]
    · have e1 : val p' t = !p' (t + 32) := by unfold val; rw [if_pos (by omega)]
      have e2 : val p t = !p (t + 32) := by unfold val; rw [if_pos (by omega)]
      rw [e1, e2]
      have hsw : swp t = t + 32 := swp_great z
      show (!(if Frc (adjOf bs) s (t + 32) then true else if Frc (adjOf bs) s (t + 32 - 32) then false else p (t + 32))) = _
      rw [show t + 32 - 32 = t by omega, ← hsw]
      by_cases a : Frc (adjOf bs) s t
      · rw [if_neg (cons t a), if_pos a, if_pos a]
        rfl
      · rw [if_neg a, if_neg a]
        by_cases b : Frc (adjOf bs) s (swp t)
        · rw [if_pos b, if_pos b]
          rfl
        · rw [if_neg b, if_neg b]
  refine ⟨p', fun x y hxy => ?_, fun t ht a => by rw [ev t ht, if_pos a], fun t ht a b => ?_⟩
  · rintro ⟨vx, vy⟩
    obtain ⟨x', y', e, hx, hy, _⟩ := bar_two (hb _ hxy)
    obtain ⟨rfl, rfl⟩ : x = x' ∧ y = y' := by simpa using e
    have kx : swp y ∈ adjOf bs x := (adj_iff g hb (sds_lt g (sds_swp g hy))).mpr (by rw [swp_swp (sds_lt g hy)]; exact .inl hxy)
    have ky : swp x ∈ adjOf bs y := (adj_iff g hb (sds_lt g (sds_swp g hx))).mpr (by rw [swp_swp (sds_lt g hx)]; exact .inr hxy)
    rw [ev x hx] at vx
    rw [ev y hy] at vy
    by_cases a : Frc (adjOf bs) s x
    · have q := a.step kx
      by_cases b : Frc (adjOf bs) s y
      · exact cons y b q
      · rw [if_neg b, if_pos q] at vy
        cases vy
    · rw [if_neg a] at vx
      by_cases a2 : Frc (adjOf bs) s (swp x)
      · rw [if_pos a2] at vx
        cases vx
      · rw [if_neg a2] at vx
        by_cases b : Frc (adjOf bs) s y
        · exact a2 (b.step ky)
        · rw [if_neg b] at vy
          by_cases b2 : Frc (adjOf bs) s (swp y)
          · rw [if_pos b2] at vy
            cases vy
          · rw [if_neg b2] at vy
            exact h x y hxy ⟨vx, vy⟩
  · rw [ev t ht]
    by_cases c : Frc (adjOf bs) s t
    · rw [if_pos c]
    · rw [if_neg c, if_neg a]
      exact b
/-- a hall of which no side forces its other one has a room -/
theorem sat_of (nf : ∀ s ∈ sds l, ¬ Frc (adjOf bs) s (swp s)) : ∃ p, Sat bs p := by
  classical
  have go : ∀ w : List Nat, (∀ c ∈ w, c ∈ l) → ∃ A : Nat → Prop, (∀ x, A x → x ∈ sds l) ∧ (∀ x y, A x → y ∈ adjOf bs x → A y) ∧ (∀ x, A x → ¬ A (swp x)) ∧ ∀ c ∈ w, A c ∨ A (swp c) := by
    intro w
    induction w with
    | nil => exact fun _ => ⟨fun _ => False, fun _ h => h.elim, fun _ _ h => h.elim, fun _ h => h.elim, fun _ h => absurd h (by simp)⟩
    | cons c r ih =>
      intro hw
      obtain ⟨A, a1, a2, a3, a4⟩ := ih fun d hd => hw d (List.mem_cons_of_mem _ hd)
      have hc : c ∈ sds l := sds_of_small (hw c (List.mem_cons_self ..))
      by_cases hd : A c ∨ A (swp c)
      · refine ⟨A, a1, a2, a3, fun d hd2 => ?_⟩
        rcases List.mem_cons.mp hd2 with e | e
        · rw [e]; exact hd
        · exact a4 d e
      · have a2' : ∀ x y, A x → Frc (adjOf bs) x y → A y := fun x y hx k => k.ind (p := A) hx fun _ _ q z => a2 _ _ q z
        refine ⟨fun x => A x ∨ Frc (adjOf bs) c x, fun x h => h.elim (a1 x) fun k => Frc.mem g hb hc k, fun x y h k => h.imp (fun h => a2 x y h k) fun h => h.step k, fun x h h2 => ?_, fun d hd2 => ?_⟩
        · rcases h with h | h
          · rcases h2 with h2 | h2
            · exact a3 x h h2
            · have q := Frc.back g hb hc h2
              rw [swp_swp (sds_lt g (a1 x h))] at q
              exact hd (.inr (a2' x _ h q))
          · rcases h2 with h2 | h2
            · have q := Frc.back g hb hc h
              exact hd (.inr (a2' _ _ h2 q))
            · exact nf c hc (Frc.torn g hb hc h h2)
        · rcases List.mem_cons.mp hd2 with e | e
          · rw [e]; exact .inl (.inr .refl)
          · exact (a4 d e).imp .inl .inl
  obtain ⟨A, a1, a2, a3, a4⟩ := go l fun _ h => h
  have ev : ∀ s ∈ sds l, val (fun c => decide (A c)) s = true → A s := fun s hs v => by
    rcases sds_shape g hs with z | z
    · unfold val at v
      rw [if_neg (by omega)] at v
      exact of_decide_eq_true v
    · unfold val at v
      rw [if_pos (by omega)] at v
      have n : ¬ A (s + 32) := by simpa using v
      rcases a4 _ z.2.2 with q | q
      · exact absurd q n
      · rw [swp_small (by omega), show s + 32 - 32 = s by omega] at q
        exact q
  refine ⟨fun c => decide (A c), fun x y hxy => ?_⟩
  rintro ⟨vx, vy⟩
  obtain ⟨x', y', e, hx, hy, _⟩ := bar_two (hb _ hxy)
  obtain ⟨rfl, rfl⟩ : x = x' ∧ y = y' := by simpa using e
  have kx : swp y ∈ adjOf bs x := (adj_iff g hb (sds_lt g (sds_swp g hy))).mpr (by rw [swp_swp (sds_lt g hy)]; exact .inl hxy)
  exact a3 y (ev y hy vy) (a2 x _ (ev x hx vx) kx)
/-- a side is in some room just where it doesn't force its other one, if there is a room -/
theorem fix_iff {p0 : Nat → Bool} (h0 : Sat bs p0) {s : Nat} (hs : s ∈ sds l) : Frc (adjOf bs) s (swp s) ↔ ∀ p, Sat bs p → val p s = false := by
  constructor
  · intro k p hp
    cases hv : val p s with
    | false => rfl
    | true =>
      have q := hp.frc g hb hv k
      rw [val_swp (sds_lt g hs), hv] at q
      cases q
  · intro h
    refine Classical.byContradiction fun nf => ?_
    obtain ⟨p', hp, k, _⟩ := h0.over g hb hs nf
    have q := h p' hp
    rw [k s hs .refl] at q
    cases q
/-- two sides go together in all rooms just where they force one another, if no side forces its other one -/
theorem alike_iff (nf : ∀ s ∈ sds l, ¬ Frc (adjOf bs) s (swp s)) {s t : Nat} (hs : s ∈ sds l) (ht : t ∈ sds l) : (Frc (adjOf bs) s t ∧ Frc (adjOf bs) t s) ↔ ∀ p, Sat bs p → val p s = val p t := by
  have one : ∀ {a b : Nat}, a ∈ sds l → b ∈ sds l → (∀ p, Sat bs p → val p a = true → val p b = true) → Frc (adjOf bs) a b := fun {a b} ha hb2 h => by
    refine Classical.byContradiction fun n => ?_
    obtain ⟨p0, h0⟩ := sat_of g hb nf
    obtain ⟨p1, h1, k1, _⟩ := h0.over g hb ha (nf a ha)
    have hbs := sds_swp g hb2
    obtain ⟨p2, h2, k2, k3⟩ := h1.over g hb hbs (nf _ hbs)
    have va : val p2 a = true := k3 a ha (fun z => n (by
      have q := Frc.back g hb hbs z
      rw [swp_swp (sds_lt g ha), swp_swp (sds_lt g hb2)] at q
      exact q)) (k1 a ha .refl)
    have vb := h p2 h2 va
    have vb2 := k2 _ hbs .refl
    rw [val_swp (sds_lt g hb2), vb] at vb2
    cases vb2
  constructor
  · rintro ⟨a, b⟩ p hp
    cases hv : val p s with
    | true => exact (hp.frc g hb hv a).symm
    | false =>
      cases hw : val p t with
      | false => rfl
      | true =>
        have := hp.frc g hb hw b
        rw [hv] at this
        cases this
  · exact fun h => ⟨one hs ht fun p hp v => (h p hp).symm.trans v, one ht hs fun p hp v => (h p hp).trans v⟩
end
end NC
namespace NC
open PySem PySem.Spec PyProof.Rows L2
def rmOf (l : List Nat) (p : Nat → Bool) : List Nat := l.map fun c => if p c then c else upc c
def allT (l : List Nat) : Nat → List (List Nat)
  | 0 => [[]]
  | k + 1 => (allT l k).flatMap fun r => [r ++ [upc (l.getD k 0)], r ++ [l.getD k 0]]
def inR (b r : List Nat) : Bool := b.all fun s => decide (s ∈ r)
def rms (l : List Nat) (bs : List (List Nat)) : List (List Nat) := (allT l l.length).filter fun r => !bs.any fun b => inR b r
theorem allT_len (l : List Nat) : ∀ k, (allT l k).length = 2 ^ k
  | 0 => rfl
  | k + 1 => by
    have h : ∀ xs : List (List Nat), (xs.flatMap fun r => [r ++ [upc (l.getD k 0)], r ++ [l.getD k 0]]).length = 2 * xs.length := fun xs => by
      induction xs with
      | nil => rfl
      | cons x r ih =>
        have e : (x :: r).length = r.length + 1 := rfl
        rw [List.flatMap_cons, List.length_append, ih, e]
        show 2 + 2 * r.length = _
        omega
    show ((allT l k).flatMap _).length = _
    rw [h, allT_len l k, Nat.pow_succ, Nat.mul_comm]
theorem allT_mem {l : List Nat} (nd : l.Nodup) : ∀ {k : Nat}, k ≤ l.length → ∀ r, r ∈ allT l k ↔ ∃ p, r = rmOf (l.take k) p
  | 0, _, r => by
    show r ∈ [[]] ↔ _
    rw [List.mem_singleton]
    exact ⟨fun e => ⟨fun _ => true, by rw [e]; simp [rmOf]⟩, fun ⟨p, e⟩ => by rw [e]; simp [rmOf]⟩
  | k + 1, hk, r => by
    have hkl : k < l.length := hk
    have ec : l.getD k 0 = l[k] := by simp [List.getD, hkl]
    have et : l.take (k + 1) = l.take k ++ [l[k]] := by rw [List.take_add_one, List.getElem?_eq_getElem hkl]; rfl
    have hn : l[k] ∉ l.take k := take_new nd (List.getElem?_eq_getElem hkl)
    show r ∈ (allT l k).flatMap _ ↔ _
    rw [List.mem_flatMap, ec, et]
    constructor
    · rintro ⟨q, hq, hr⟩
      obtain ⟨p, rfl⟩ := (allT_mem nd (Nat.le_of_lt hkl) q).mp hq
      have same : ∀ b : Bool, rmOf (l.take k) (fun x => if x = l[k] then b else p x) = rmOf (l.take k) p := fun b => List.map_congr_left fun c hc => by
        have : c ≠ l[k] := fun e => hn (by rw [← e]; exact hc)
        show (if (if c = l[k] then b else p c) = true then c else upc c) = _
        rw [if_neg this]
      simp only [List.mem_cons, List.not_mem_nil, or_false] at hr
      rcases hr with rfl | rfl
      · refine ⟨fun x => if x = l[k] then false else p x, ?_⟩
        show _ = (l.take k ++ [l[k]]).map _
        rw [List.map_append]
        show _ = rmOf (l.take k) _ ++ _
        rw [same false]
        simp
      · refine ⟨fun x => if x = l[k] then true else p x, ?_⟩
        show _ = (l.take k ++ [l[k]]).map _
        rw [List.map_append]
        show _ = rmOf (l.take k) _ ++ _
        rw [same true]
        simp
    · rintro ⟨p, rfl⟩
      refine ⟨rmOf (l.take k) p, (allT_mem nd (Nat.le_of_lt hkl) _).mpr ⟨p, rfl⟩, ?_⟩
      have e : rmOf (l.take k ++ [l[k]]) p = rmOf (l.take k) p ++ [if p l[k] then l[k] else upc l[k]] := by
        unfold rmOf
        rw [List.map_append]
        rfl
      rw [e]
      by_cases h : p l[k] = true
      · rw [if_pos h]; simp
      · rw [if_neg h]; simp
theorem rm_mem {l : List Nat} (g : GoodW l) {p : Nat → Bool} {s : Nat} (hs : s ∈ sds l) : s ∈ rmOf l p ↔ val p s = true := by
  unfold rmOf
  rw [List.mem_map]
  rcases sds_shape g hs with z | z
  · have ev : val p s = p s := by unfold val; rw [if_neg (by omega)]
    rw [ev]
    constructor
    · rintro ⟨c, hc, e⟩
      have h1 := g.sm c hc
      by_cases h : p c = true
      · rw [if_pos h] at e
        rw [← e]; exact h
      · rw [if_neg h, upc_small h1] at e
        omega
    · intro h
      exact ⟨s, z.2.2, by rw [if_pos h]⟩
  · have ev : val p s = !p (s + 32) := by unfold val; rw [if_pos (by omega)]
    rw [ev]
    constructor
    · rintro ⟨c, hc, e⟩
      have h1 := g.sm c hc
      by_cases h : p c = true
      · rw [if_pos h] at e
        omega
      · rw [if_neg h, upc_small h1] at e
        rw [show s + 32 = c by omega]
        simpa using h
    · intro h
      refine ⟨s + 32, z.2.2, ?_⟩
      rw [if_neg (by simpa using h), upc_small (by omega)]
      omega
theorem rm_asc {l : List Nat} (g : GoodW l) {p : Nat → Bool} {s : Nat} (hs : s ∈ rmOf l p) : s ∈ sds l := by
  obtain ⟨c, hc, e⟩ := List.mem_map.mp hs
  by_cases h : p c = true
  · rw [if_pos h] at e
    rw [← e]; exact sds_of_small hc
  · rw [if_neg h, upc_small (g.sm c hc)] at e
    rw [← e]; exact sds_of_great g hc
theorem rms_mem {l : List Nat} (g : GoodW l) {bs : List (List Nat)} (hb : ∀ b ∈ bs, isBar l b = true) (r : List Nat) : r ∈ rms l bs ↔ ∃ p, r = rmOf l p ∧ Sat bs p := by
  have key : ∀ p, (!bs.any fun b => inR b (rmOf l p)) = true ↔ Sat bs p := fun p => by
    rw [Bool.not_eq_true', List.any_eq_false]
    constructor
    · intro h x y hxy
      rintro ⟨vx, vy⟩
      obtain ⟨x', y', e, hx, hy, _⟩ := bar_two (hb _ hxy)
      obtain ⟨rfl, rfl⟩ : x = x' ∧ y = y' := by simpa using e
      refine h _ hxy ?_
      simp [inR, (rm_mem g hx).mpr vx, (rm_mem g hy).mpr vy]
    · intro h b hbb hr
      obtain ⟨x, y, rfl, hx, hy, _⟩ := bar_two (hb _ hbb)
      simp [inR] at hr
      exact h x y hbb ⟨(rm_mem g hx).mp hr.1, (rm_mem g hy).mp hr.2⟩
  unfold rms
  rw [List.mem_filter, allT_mem g.nd (Nat.le_refl _), List.take_length]
  constructor
  · rintro ⟨⟨p, rfl⟩, h⟩
    exact ⟨p, rfl, (key p).mp h⟩
  · rintro ⟨p, rfl, h⟩
    exact ⟨⟨p, rfl⟩, (key p).mpr h⟩
inductive Vd
  | ok
  | fixed (s : Nat)
  | alike (s t : Nat)
def vdOf (L : List Nat) (fx : Nat → Bool) (al : Nat → Nat → Bool) : Vd := match L.find? fx with
  | some s => .fixed s
  | none => match L.findSome? fun s => (L.find? (al s)).map fun t => (s, t) with
    | some p => .alike p.1 p.2
    | none => .ok
theorem find_congr {α : Type} {L : List α} {p q : α → Bool} (h : ∀ x ∈ L, p x = q x) : L.find? p = L.find? q := by
  induction L with
  | nil => rfl
  | cons x r ih =>
    rw [List.find?_cons, List.find?_cons, h x (List.mem_cons_self ..), ih fun y hy => h y (List.mem_cons_of_mem _ hy)]
theorem findS_congr {α β : Type} {L : List α} {p q : α → Option β} (h : ∀ x ∈ L, p x = q x) : L.findSome? p = L.findSome? q := by
  induction L with
  | nil => rfl
  | cons x r ih =>
    rw [List.findSome?_cons, List.findSome?_cons, h x (List.mem_cons_self ..), ih fun y hy => h y (List.mem_cons_of_mem _ hy)]
theorem find_at {α : Type} : ∀ {L : List α} {p : α → Bool} {i : Nat} {s : α}, L[i]? = some s → (∀ j t, j < i → L[j]? = some t → p t = false) → p s = true → L.find? p = some s
  | [], p, i, s, h, _, _ => by simp at h
  | x :: r, p, 0, s, h, _, hs => by
    cases h
    rw [List.find?_cons, hs]
  | x :: r, p, i + 1, s, h, hn, hs => by
    rw [List.find?_cons, hn 0 x (Nat.succ_pos _) rfl]
    exact find_at (L := r) (i := i) h (fun j t hj ht => hn (j + 1) t (by omega) ht) hs
theorem findS_at {α β : Type} : ∀ {L : List α} {p : α → Option β} {i : Nat} {s : α} {v : β}, L[i]? = some s → (∀ j t, j < i → L[j]? = some t → p t = none) → p s = some v → L.findSome? p = some v
  | [], p, i, s, v, h, _, _ => by simp at h
  | x :: r, p, 0, s, v, h, _, hs => by
    cases h
    rw [List.findSome?_cons, hs]
  | x :: r, p, i + 1, s, v, h, hn, hs => by
    rw [List.findSome?_cons, hn 0 x (Nat.succ_pos _) rfl]
    exact findS_at (L := r) (i := i) h (fun j t hj ht => hn (j + 1) t (by omega) ht) hs
theorem find_no {α : Type} {L : List α} {p : α → Bool} (h : ∀ j t, j < L.length → L[j]? = some t → p t = false) : L.find? p = none := List.find?_eq_none.mpr fun x hx => by
  obtain ⟨j, hj, e⟩ := List.getElem_of_mem hx
  rw [h j x hj (by rw [List.getElem?_eq_getElem hj, e])]
  decide
theorem findS_no {α β : Type} {L : List α} {p : α → Option β} (h : ∀ j t, j < L.length → L[j]? = some t → p t = none) : L.findSome? p = none := List.findSome?_eq_none_iff.mpr fun x hx => by
  obtain ⟨j, hj, e⟩ := List.getElem_of_mem hx
  exact h j x hj (by rw [List.getElem?_eq_getElem hj, e])
/-- by what forces what: fo s are the sides that s forces -/
def fxP (fo : Nat → List Nat) (s : Nat) : Bool := decide (swp s ∈ fo s)
def alP (fo : Nat → List Nat) (s m : Nat) : Bool := decide (m ∈ fo s) && (decide (m ≠ s) && decide (s ∈ fo m))
/-- by the rooms; fo only where there is none -/
def fxL (l : List Nat) (bs : List (List Nat)) (fo : Nat → List Nat) (s : Nat) : Bool := if rms l bs = [] then decide (swp s ∈ fo s) else !(rms l bs).any fun r => decide (s ∈ r)
def alL (l : List Nat) (bs : List (List Nat)) (s t : Nat) : Bool := decide (lwc s ≠ lwc t) && (rms l bs).all fun r => decide (decide (s ∈ r) = decide (t ∈ r))
theorem same_wall {l : List Nat} (g : GoodW l) {s t : Nat} (hs : s ∈ sds l) (ht : t ∈ sds l) (e : lwc s = lwc t) : t = s ∨ t = swp s := by
  rcases sds_lt g hs with a | a <;> rcases sds_lt g ht with b | b <;> unfold lwc at e
  · rw [if_neg (by omega), if_neg (by omega)] at e
    exact .inl e.symm
  · rw [if_neg (by omega), if_pos b] at e
    rw [swp_small a]
    exact .inr (by omega)
  · rw [if_pos a, if_neg (by omega)] at e
    rw [swp_great a]
    exact .inr e.symm
  · rw [if_pos a, if_pos b] at e
    exact .inl (by omega)
theorem vd_same {l : List Nat} (g : GoodW l) {bs : List (List Nat)} (hb : ∀ b ∈ bs, isBar l b = true) {fo fo' : Nat → List Nat} (hf : ∀ s ∈ sds l, ∀ t, t ∈ fo s ↔ Frc (adjOf bs) s t) (hf' : ∀ s ∈ sds l, ∀ t, t ∈ fo' s ↔ Frc (adjOf bs) s t) :
    vdOf (sds l) (fxP fo) (alP fo) = vdOf (sds l) (fxL l bs fo') (alL l bs) := by
  have mr := rms_mem g hb
  have ne : ∀ {p0 : Nat → Bool}, Sat bs p0 → rms l bs ≠ [] := fun {p0} h0 z => by
    have := (mr _).mpr ⟨p0, rfl, h0⟩
    rw [z] at this
    cases this
  have fx : ∀ s ∈ sds l, fxP fo s = fxL l bs fo' s := fun s hs => by
    unfold fxP fxL
    rw [Bool.eq_iff_iff, decide_eq_true_eq, hf s hs]
    by_cases hr : rms l bs = []
    · rw [if_pos hr, decide_eq_true_eq, hf' s hs]
    · rw [if_neg hr, Bool.not_eq_true', List.any_eq_false]
      obtain ⟨r0, hr0⟩ := List.exists_mem_of_ne_nil _ hr
      obtain ⟨p0, _, h0⟩ := (mr r0).mp hr0
      rw [fix_iff g hb h0 hs]
      constructor
      · intro h r hrm hd
        obtain ⟨p, rfl, hp⟩ := (mr r).mp hrm
        have := (rm_mem g hs).mp (of_decide_eq_true hd)
        rw [h p hp] at this
        cases this
      · intro h p hp
        cases hv : val p s with
        | false => rfl
        | true => exact absurd (decide_eq_true ((rm_mem g hs).mpr hv)) (h _ ((mr _).mpr ⟨p, rfl, hp⟩))
  unfold vdOf
  rw [find_congr fx]
  cases h1 : (sds l).find? (fxL l bs fo') with
  | some s => rfl
  | none =>
    have nf : ∀ s ∈ sds l, ¬ Frc (adjOf bs) s (swp s) := fun s hs k => by
      have := List.find?_eq_none.mp h1 s hs
      rw [← fx s hs] at this
      exact this (decide_eq_true ((hf s hs _).mpr k))
    have al : ∀ s ∈ sds l, ∀ t ∈ sds l, alP fo s t = alL l bs s t := fun s hs t ht => by
      unfold alP alL
      rw [Bool.eq_iff_iff, Bool.and_eq_true, Bool.and_eq_true, Bool.and_eq_true, decide_eq_true_eq, decide_eq_true_eq, decide_eq_true_eq, decide_eq_true_eq, List.all_eq_true, hf s hs, hf t ht]
      constructor
      · rintro ⟨a, b, c⟩
        refine ⟨fun e => ?_, fun r hr => ?_⟩
        · rcases same_wall g hs ht e with z | z
          · exact b z
          · rw [z] at a
            exact nf s hs a
        · obtain ⟨p, rfl, hp⟩ := (mr r).mp hr
          have q := (alike_iff g hb nf hs ht).mp ⟨a, c⟩ p hp
          have e1 : decide (s ∈ rmOf l p) = val p s := by rw [Bool.eq_iff_iff, decide_eq_true_eq]; exact rm_mem g hs
          have e2 : decide (t ∈ rmOf l p) = val p t := by rw [Bool.eq_iff_iff, decide_eq_true_eq]; exact rm_mem g ht
          rw [e1, e2, q]
          simp
      · rintro ⟨a, b⟩
        have q := (alike_iff g hb nf hs ht).mpr fun p hp => by
          have z := of_decide_eq_true (b _ ((mr _).mpr ⟨p, rfl, hp⟩))
          have e1 : decide (s ∈ rmOf l p) = val p s := by rw [Bool.eq_iff_iff, decide_eq_true_eq]; exact rm_mem g hs
          have e2 : decide (t ∈ rmOf l p) = val p t := by rw [Bool.eq_iff_iff, decide_eq_true_eq]; exact rm_mem g ht
          rw [e1, e2] at z
          exact z
        exact ⟨q.1, fun e => a (by rw [e]), q.2⟩
    rw [findS_congr fun s hs => by rw [find_congr fun t ht => al s hs t ht]]
end NC
namespace NC
open PySem PySem.Spec PyProof.Rows L2
abbrev sChkFix : Stmt := topS 27
abbrev sChkAl : Stmt := topS 28
theorem scChkFix : FnScope ["forced_by", "side"] ["forced_by"] (defScope sChkFix) := ⟨rfl, rfl, rfl, by decide +kernel, rfl, by decide +kernel, by decide +kernel⟩
theorem scChkAl : FnScope ["forced_by", "side", "met"] ["forced_by"] (defScope sChkAl) := ⟨rfl, rfl, rfl, by decide +kernel, rfl, by decide +kernel, by decide +kernel⟩
structure XC2 (K : PySem.W.Frag) (mg : Str → Option Value) (C fI : Addr) (fd : FuncData) : Prop where
  gC : mg "Alike" = some (.ref C)
  O : OexC K C
  hw : PySem.W.findIn K (.ref C) "word" = some none
  h1 : PySem.W.findIn K (.ref C) "one" = some none
  h2 : PySem.W.findIn K (.ref C) "other" = some none
  iC : PySem.W.findIn K (.ref C) "__init__" = some (some (.ref fI))
  tI : PySem.W.typeIn K (.ref fI) = some (.type "function")
  F : Fun K "__init__" "Alike.__init__" sALinit fI fd
  b : Binds K fd ["self", "one", "other"] []
theorem mk2 {K : PySem.W.Frag} {C : Addr} (hO : OexC K C) (hw : PySem.W.findIn K (.ref C) "word" = some none) (h1 : PySem.W.findIn K (.ref C) "one" = some none) (h2 : PySem.W.findIn K (.ref C) "other" = some none) {H1 : Hp} {v u : V} {Q : XK}
    (q : ∀ d H', Same H1 H' → H1 d = none → H' d = some (.xd [("other", u), ("one", v), ("word", .str "alike")]) → Q (.ref C) (some d) H') :
    ∀ a, H1 a = none → sp2 K (.ref a :: ([v, u] ++ [])) (upd H1 a (exo a C none))
      (fun z H2 => z = .non ∧ ∃ (d : Addr) (fs : List (Str × V)), H2 a = some (exo a C (some d)) ∧ H2 d = some (exd d fs) ∧ H1 d = none ∧ Q (.ref C) (some d) (upd (del H2 a) d (.xd fs))) (fun _ _ _ => False) := by
  intro a na
  refine ⟨a, C, v, u, rfl, hO, hw, h1, h2, upd_same, fun dx H' n1 n2 k e1 e2 => ?_⟩
  have hd : H1 dx = none := by
    rw [upd_ne n2] at n1
    exact n1
  refine ⟨rfl, dx, _, e1, e2, hd, q dx _ (fun b o hb => ?_) hd upd_same⟩
  have b1 : b ≠ dx := ne_of_none hb hd
  have b2 : b ≠ a := ne_of_none hb na
  rw [upd_ne b1, del_ne b2, k b b1 b2, upd_ne b2]
  exact hb
theorem foK_keys (L : List Nat) (fo : Nat → List Nat) : (foK L fo).map (·.1) = (L.map sg).map Sum.inr := by
  unfold foK
  rw [List.map_map, List.map_map]
  rfl
theorem foK_get {H : Hp} {L : List Nat} {fo : Nat → List Nat} {d : Addr} {s : Nat} (e : H d = some (.dK (foK L fo))) (h : s ∈ L) : DGet H d (.str (sg s)) (some (.str (tx (fo s)))) := by
  rw [← foK_val (fo := fo) h]
  exact DGet.k (k := Sum.inr (sg s)) e
theorem FoOk.mem {l : List Nat} (g : GoodW l) {adj : Nat → List Nat} {L : List Nat} {fo : Nat → List Nat} (h : FoOk l adj L fo) {s c : Nat} (hs : s ∈ L) (hc : c ∈ fo s) : c ∈ sds l := by
  obtain ⟨rs, _, _, e⟩ := h s hs
  rw [e] at hc
  exact (byW_mem g hc).1
theorem FoOk.len {l : List Nat} (g : GoodW l) {adj : Nat → List Nat} {L : List Nat} {fo : Nat → List Nat} (h : FoOk l adj L fo) {s : Nat} (hs : s ∈ L) : (fo s).length ≤ 24 := by
  obtain ⟨rs, _, _, e⟩ := h s hs
  rw [e]
  have h1 := byW_len l (ahK rs)
  have h2 := g.hi
  omega
theorem kys_frc {L : List Nat} {adj : Nat → List Nat} {one : Nat} {rs : List (Nat × Option Nat)} (R : RsOk L adj one rs) : ∀ (i s : Nat) (p : Option Nat), rs[i]? = some (s, p) → Frc adj one s := fun i => by
  induction i using Nat.strongRecOn with
  | ind i ih =>
    intro s p hi
    rcases R.par i s p hi with ⟨rfl, rfl⟩ | ⟨c, j, q, rfl, hj, hrj, hadj⟩
    · obtain ⟨r, e⟩ := R.hd
      rw [e] at hi
      cases hi
      exact .refl
    · exact (ih j hj c q hrj).step hadj
theorem byW_of {l : List Nat} (g : GoodW l) {kvs : List (Key × V)} {t : Nat} (h : t ∈ sds l) (k : inK kvs t = true) : t ∈ byW l kvs := by
  rcases sds_shape g h with z | z
  · exact List.mem_flatMap.mpr ⟨t, z.2.2, List.mem_filter.mpr ⟨by simp, k⟩⟩
  · refine List.mem_flatMap.mpr ⟨t + 32, z.2.2, List.mem_filter.mpr ⟨?_, k⟩⟩
    rw [swp_small (by omega), show t + 32 - 32 = t by omega]
    simp
theorem FoOk.iff {l : List Nat} (g : GoodW l) {bs : List (List Nat)} (hb : ∀ b ∈ bs, isBar l b = true) {fo : Nat → List Nat} (h : FoOk l (adjOf bs) (sds l) fo) : ∀ s ∈ sds l, ∀ t, t ∈ fo s ↔ Frc (adjOf bs) s t := fun s hs t => by
  obtain ⟨rs, R, cl, e⟩ := h s hs
  rw [e]
  constructor
  · intro ht
    obtain ⟨_, hk⟩ := byW_mem g ht
    have hm : t ∈ kys rs := by
      refine Classical.byContradiction fun z => ?_
      unfold inK at hk
      rw [ahK_no z] at hk
      cases hk
    obtain ⟨i, p, hi, _⟩ := ahK_some hm
    exact kys_frc R i t p hi
  · rintro ⟨n, w⟩
    have h0 : s ∈ kys rs := by
      obtain ⟨r, e⟩ := R.hd
      rw [e]
      exact List.mem_cons_self ..
    have hm := reach_in h0 cl w
    obtain ⟨i, p, _, ev⟩ := ahK_some hm
    exact byW_of g (R.sub t hm) (by unfold inK; rw [ev]; rfl)
theorem two_nd : ∀ w : List Nat, (∀ c ∈ w, 97 ≤ c ∧ c ≤ 122) → w.Nodup → (w.flatMap fun c => [swp c, c]).Nodup
  | [], _, _ => by simp
  | c :: r, hs, hn => by
    obtain ⟨n1, n2⟩ := List.nodup_cons.mp hn
    have hc := hs c (List.mem_cons_self ..)
    have ih := two_nd r (fun d hd => hs d (List.mem_cons_of_mem _ hd)) n2
    rw [List.flatMap_cons]
    refine List.nodup_append.mpr ⟨?_, ih, fun a ha b hb e => ?_⟩
    · rw [swp_small hc]
      simp
      omega
    · obtain ⟨d, hd, hbd⟩ := List.mem_flatMap.mp hb
      have hd2 := hs d (List.mem_cons_of_mem _ hd)
      have ne : d ≠ c := fun z => n1 (by rw [← z]; exact hd)
      rw [swp_small hc] at ha
      rw [swp_small hd2] at hbd
      simp only [List.mem_cons, List.not_mem_nil, or_false] at ha hbd
      omega
theorem byW_nd {l : List Nat} (g : GoodW l) (kvs : List (Key × V)) : (byW l kvs).Nodup := by
  have e : byW l kvs = (l.flatMap fun c => [swp c, c]).filter (inK kvs) := by
    unfold byW
    rw [List.filter_flatMap]
  rw [e]
  exact (two_nd l g.sm g.nd).filter _
theorem sds_rise {l : List Nat} (g : GoodW l) : (sds l).Pairwise (· < ·) := by
  refine List.pairwise_append.mpr ⟨List.pairwise_map.mpr (g.rise.imp_of_mem fun {a b} ha hb h => ?_), g.rise, fun a ha b hb => ?_⟩
  · rw [upc_small (g.sm a ha), upc_small (g.sm b hb)]
    have := g.sm a ha
    omega
  · obtain ⟨c, hc, rfl⟩ := List.mem_map.mp ha
    have := g.sm c hc
    have := g.sm b hb
    rw [upc_small (by omega)]
    omega
theorem pw_sg {L : List Nat} (h : L.Pairwise (· < ·)) : (L.map sg).Pairwise leS := List.pairwise_map.mpr (h.imp fun h => leS_sg (Nat.le_of_lt h))
theorem sorted_sds {l : List Nat} (g : GoodW l) {ys : List Str} (hp : ys.Perm ((sds l).map sg)) (hs : sortedS ys = true) : ys = (sds l).map sg := sortedS_eq hs hp (pw_sg (sds_rise g))
theorem perm_nd : ∀ {a b : List Nat}, a.Nodup → b.Nodup → (∀ x, x ∈ a ↔ x ∈ b) → a.Perm b
  | [], b, _, _, h => by
    cases b with
    | nil => exact .nil
    | cons x r => exact absurd ((h x).mpr (List.mem_cons_self ..)) (by simp)
  | x :: r, b, ha, hb, h => by
    obtain ⟨n1, n2⟩ := List.nodup_cons.mp ha
    have hx : x ∈ b := (h x).mp (List.mem_cons_self ..)
    refine ((perm_nd n2 (hb.erase x) fun y => ?_).cons x).trans (List.perm_cons_erase hx).symm
    rw [hb.mem_erase_iff]
    constructor
    · exact fun hy => ⟨fun e => n1 (by rw [← e]; exact hy), (h y).mp (List.mem_cons_of_mem _ hy)⟩
    · rintro ⟨a, c⟩
      rcases List.mem_cons.mp ((h y).mpr c) with z | z
      · exact absurd z a
      · exact z
theorem sorted_fo {l : List Nat} (g : GoodW l) {adj : Nat → List Nat} {fo : Nat → List Nat} (h : FoOk l adj (sds l) fo) {s : Nat} (hs : s ∈ sds l) {ys : List Str} (hp : ys.Perm ((fo s).map sg)) (hso : sortedS ys = true) : ys = ((sds l).filter fun m => decide (m ∈ fo s)).map sg := by
  refine sortedS_eq hso (hp.trans (List.Perm.map _ (perm_nd ?_ ((sds_nd g).filter _) fun x => ?_))) (pw_sg ((sds_rise g).filter _))
  · obtain ⟨rs, _, _, e⟩ := h s hs
    rw [e]
    exact byW_nd g _
  · rw [List.mem_filter, decide_eq_true_eq]
    exact ⟨fun hx => ⟨h.mem g hs hx, hx⟩, fun hx => hx.2⟩
section
variable {P : Program} {w : World} {K : PySem.W.Frag} {mg : Str → Option Value} {base : Heap}
def spChkFix (CF : Addr) : Sp := fun vs H Q E => ∃ l d adj fo, vs = [.ref d] ∧ GoodW l ∧ H d = some (.dK (foK (sds l) fo)) ∧ FoOk l adj (sds l) fo ∧
  match (sds l).find? (fxP fo) with
  | none => ∀ H', Same H H' → Q .non H'
  | some s => ∀ H' x, Same H H' → H x = none → H' x = some (.xd [("side", .str (sg s)), ("word", .str "fixed")]) → E (.ref CF) (some x) H'
set_option maxHeartbeats 1000000 in
theorem ok_chkFix {f fO CF fF CH fH : Addr} {fd fdO fdF fdH : FuncData} {k : Nat} (B : BM mg) (F : Fun K "check_fixed" "check_fixed" sChkFix f fd) (O : DF K mg "other" sOther ["side"] fO fdO)
    (T : HE K mg CH fH fdH) (X : XC K mg "Fixed" "Fixed.__init__" sFXinit "side" CF fF fdF) : FnOk P w K mg base (L2.CX P w) (k + 4) f fd ["forced_by"] (spChkFix CF) := by
  have GO : FnOk P w K mg base CX0 (k + 1) fO fdO ["side"] spOther := ok_other O.F
  have GF : FnOk P w K mg base CX0 (k + 2) fF fdF ["self", "side"] (sp1 K "side" "fixed") := ok_FX T X.F
  refine F.okX scChkFix (fun vs H Q E h => ?_) (fun cdv A outer s H vs Q E hr h => ?_)
  · obtain ⟨l, d, adj, fo, rfl, _⟩ := h
    rfl
  · obtain ⟨l, d, adj, fo, rfl, g, hd, ok, q⟩ := h
    refine ⟨_, pss_one (ps_for (passes_of rfl) rfl (pi_list (pe_callB (call_sortedD rfl) (by rfl) B.sorted (by decide +kernel) (pa_cons (pv 0) pa_nil))) (pg_name (i := 1) scChkFix.nd rfl (.inl rfl))
      (pss_one (ps_if (pt_cmpR op_in_sign (pe_call GO (hr.mono (by omega)) rfl O.g O.F.kp O.b .nil pass0 (pa_cons (pv 1) pa_nil)) (pe_dget (hu_of hr) (pv 0) (pv 1) (fun _ _ => rfl)) (by rfl))
        (pss_one (ps_raise rfl (takes_of rfl rfl rfl rfl) (pmk_oex X.O X.iC X.tI GF hr X.b .nil pass0 (by rfl) X.gC (pa_cons (pv 1) pa_nil)))) pss_nil))), ?_⟩
    refine ⟨_, rfl, d, _, (sds l).map sg, rfl, .inl hd, foK_keys _ _, by rw [List.length_map]; have := sds_len g; omega, fun ys p hp hso np => ⟨p, rfl, ⟨_, SqL.of upd_same⟩, ?_⟩⟩
    obtain rfl := sorted_sds g hp hso
    have wk := walk_list (K := K) (a := p) (xs := ((sds l).map sg).map V.str)
    rw [List.length_map, List.length_map] at wk
    refine for_it wk (fun i σ H' => ∃ y1, σ = [some (.ref d), y1] ∧ Same H H' ∧ H' p = some (.lst (((sds l).map sg).map V.str)) ∧ ∀ j t, j < i → (sds l)[j]? = some t → fxP fo t = false) ⟨_, rfl, same_upd np, upd_same, fun j t h => absurd h (Nat.not_lt_zero _)⟩ (fun i σ H' _ h => by obtain ⟨_, _, _, h, _⟩ := h; exact SqL.of h) ?_ ?_
    · rintro i x σ H1 H2 hi ⟨y1, rfl, sm, ep, no⟩ ⟨rfl, hx⟩
      rw [List.getElem?_map, List.getElem?_map] at hx
      obtain ⟨y, hy, rfl⟩ := Option.map_eq_some_iff.mp hx
      obtain ⟨c, hci, rfl⟩ := Option.map_eq_some_iff.mp hy
      have hc : c ∈ sds l := List.mem_of_getElem? hci
      refine ⟨_, rfl, c, rfl, sds_asc g hc, _, rfl, _, rfl, d, _, rfl, foK_get (sm _ _ hd) hc, swp c, _, rfl, rfl, _, rfl, ite2 (fun t => ?_) (fun t => ?_)⟩
      · have t : decide (swp c ∈ (tx (fo c)).cps.toList) = true := t
        rw [tx_list] at t
        rw [find_at hci no t] at q
        exact ⟨_, rfl, by show 1 ≤ 1000; decide, mk1 X.O X.hw X.hf fun x H4 s4 n4 e4 => q H4 x (sm_trans sm s4) (L2.Same.free sm n4) e4⟩
      · have t : ¬ decide (swp c ∈ (tx (fo c)).cps.toList) = true := t
        rw [tx_list] at t
        refine ⟨_, rfl, sm, ep, fun j u hj hu => ?_⟩
        rcases Nat.lt_or_ge j i with h | h
        · exact no j u h hu
        · obtain rfl : j = i := by omega
          rw [hci] at hu
          cases hu
          exact Bool.eq_false_iff.mpr t
    · rintro σ H1 ⟨y1, rfl, sm, _, no⟩
      rw [find_no no] at q
      exact q H1 sm
def spChkAl (CA : Addr) : Sp := fun vs H Q E => ∃ l d adj fo, vs = [.ref d] ∧ GoodW l ∧ H d = some (.dK (foK (sds l) fo)) ∧ FoOk l adj (sds l) fo ∧
  match (sds l).findSome? fun s => ((sds l).find? (alP fo s)).map fun t => (s, t) with
  | none => ∀ H', Same H H' → Q .non H'
  | some v => ∀ H' x, Same H H' → H x = none → H' x = some (.xd [("other", .str (sg v.2)), ("one", .str (sg v.1)), ("word", .str "alike")]) → E (.ref CA) (some x) H'
set_option maxHeartbeats 1000000 in
theorem ok_chkAl {f CA fA CH fH : Addr} {fd fdA fdH : FuncData} {k : Nat} (B : BM mg) (F : Fun K "check_alike" "check_alike" sChkAl f fd)
    (T : HE K mg CH fH fdH) (X : XC2 K mg CA fA fdA) : FnOk P w K mg base (L2.CX P w) (k + 4) f fd ["forced_by"] (spChkAl CA) := by
  have GA : FnOk P w K mg base CX0 (k + 2) fA fdA ["self", "one", "other"] (sp2 K) := ok_AL T X.F
  refine F.okX scChkAl (fun vs H Q E h => ?_) (fun cdv A outer s H vs Q E hr h => ?_)
  · obtain ⟨l, d, adj, fo, rfl, _⟩ := h
    rfl
  · obtain ⟨l, d, adj, fo, rfl, g, hd, ok, q⟩ := h
    refine ⟨_, pss_one (ps_for (passes_of rfl) rfl (pi_list (pe_callB (call_sortedD rfl) (by rfl) B.sorted (by decide +kernel) (pa_cons (pv 0) pa_nil))) (pg_name (i := 1) scChkAl.nd rfl (.inl rfl))
      (pss_one (ps_for (passes_of rfl) rfl (pi_list (pe_callB (cr_sortedT rfl) (by rfl) B.sorted (by decide +kernel) (pa_cons (pe_dget (hu_of hr) (pv 0) (pv 1) (fun _ _ => rfl)) pa_nil))) (pg_name (i := 2) scChkAl.nd rfl (.inl rfl))
        (pss_one (ps_if (PW.pt (pw_and (pt_cmpR op_ne (pv 2) (pv 1) (nomark _)) (pw_and1 (pt_cmpR op_in_sign (pv 1) (pe_dget (hu_of hr) (pv 0) (pv 2) (fun _ _ => rfl)) (by rfl)))))
          (pss_one (ps_raise rfl (takes_of rfl rfl rfl rfl) (pmk_oex X.O X.iC X.tI GA hr X.b .nil pass0 (by rfl) X.gC (pa_cons (pv 1) (pa_cons (pv 2) pa_nil))))) pss_nil))))), ?_⟩
    refine ⟨_, rfl, d, _, (sds l).map sg, rfl, .inl hd, foK_keys _ _, by rw [List.length_map]; have := sds_len g; omega, fun ys p hp hso np => ⟨p, rfl, ⟨_, SqL.of upd_same⟩, ?_⟩⟩
    obtain rfl := sorted_sds g hp hso
    have wk := walk_list (K := K) (a := p) (xs := ((sds l).map sg).map V.str)
    rw [List.length_map, List.length_map] at wk
    refine for_it wk (fun i σ H' => ∃ y1 y2, σ = [some (.ref d), y1, y2] ∧ Same H H' ∧ H' p = some (.lst (((sds l).map sg).map V.str)) ∧ ∀ j t, j < i → (sds l)[j]? = some t → (sds l).find? (alP fo t) = none) ⟨_, _, rfl, same_upd np, upd_same, fun j t h => absurd h (Nat.not_lt_zero _)⟩ (fun i σ H' _ h => by obtain ⟨_, _, _, _, h, _⟩ := h; exact SqL.of h) ?_ ?_
    · rintro i x σ H1 H2 hi ⟨y1, y2, rfl, sm, ep, no⟩ ⟨rfl, hx⟩
      rw [List.getElem?_map, List.getElem?_map] at hx
      obtain ⟨y, hy, rfl⟩ := Option.map_eq_some_iff.mp hx
      obtain ⟨c, hci, rfl⟩ := Option.map_eq_some_iff.mp hy
      have hc : c ∈ sds l := List.mem_of_getElem? hci
      refine ⟨_, rfl, _, rfl, d, _, rfl, foK_get (sm _ _ hd) hc, tx (fo c), rfl, by rw [tx_len]; have := ok.len g hc; omega, fun zs r hz hzo nr => ⟨r, rfl, ⟨_, SqL.of upd_same⟩, ?_⟩⟩
      rw [sgs_tx] at hz
      obtain rfl := sorted_fo g ok hc hz hzo
      generalize hfl : ((sds l).filter fun m => decide (m ∈ fo c)) = fl at nr ⊢
      have ef : fl.find? (fun m => decide (m ≠ c) && decide (c ∈ fo m)) = (sds l).find? (alP fo c) := by
        rw [← hfl, List.find?_filter]
        congr 1
        funext m
        unfold alP
        by_cases h : m ∈ fo c
        · simp [h]
        · simp [h]
      have flm : ∀ m ∈ fl, m ∈ sds l := fun m hm => by rw [← hfl] at hm; exact (List.mem_filter.mp hm).1
      have wk2 := walk_list (K := K) (a := r) (xs := (fl.map sg).map V.str)
      rw [List.length_map, List.length_map] at wk2
      have npr : p ≠ r := ne_of_none ep nr
      refine for_it wk2 (fun j σ H' => ∃ y2, σ = [some (.ref d), some (.str (sg c)), y2] ∧ Same H H' ∧ H' p = some (.lst (((sds l).map sg).map V.str)) ∧ H' r = some (.lst ((fl.map sg).map V.str)) ∧ ∀ u t, u < j → fl[u]? = some t → (decide (t ≠ c) && decide (c ∈ fo t)) = false) ⟨_, rfl, sm_upd sm nr, by rw [upd_ne npr]; exact ep, upd_same, fun u t h => absurd h (Nat.not_lt_zero _)⟩
        (fun i σ H' _ h => by obtain ⟨_, _, _, _, h, _⟩ := h; exact SqL.of h) ?_ ?_
      · rintro j x σ H3 H4 hj ⟨y2, rfl, sm3, ep3, er3, no2⟩ ⟨rfl, hx⟩
        rw [List.getElem?_map, List.getElem?_map] at hx
        obtain ⟨z, hz2, rfl⟩ := Option.map_eq_some_iff.mp hx
        obtain ⟨m, hmj, rfl⟩ := Option.map_eq_some_iff.mp hz2
        have hmL : m ∈ sds l := flm m (List.mem_of_getElem? hmj)
        have next : (decide (m ≠ c) && decide (c ∈ fo m)) = false → ∀ u t, u < j + 1 → fl[u]? = some t → (decide (t ≠ c) && decide (c ∈ fo t)) = false := fun hmf u t hu ht => by
          rcases Nat.lt_or_ge u j with h | h
          · exact no2 u t h ht
          · obtain rfl : u = j := by omega
            rw [hmj] at ht
            cases ht
            exact hmf
        refine ⟨_, rfl, _, rfl, rfl, _, rfl, ite2 (fun t1 => ?_) (fun t1 => ?_)⟩
        · refine ⟨_, rfl, _, rfl, _, rfl, d, _, rfl, foK_get (sm3 _ _ hd) hmL, c, _, rfl, rfl, _, rfl, ite2 (fun t => ?_) (fun t => ?_)⟩
          · have t : decide (c ∈ (tx (fo m)).cps.toList) = true := t
            rw [tx_list] at t
            have t2 : ¬ sg m = sg c := by simpa using t1
            have t0 : decide (m ≠ c) = true := decide_eq_true fun e => t2 (by rw [e])
            have e1 : fl.find? (fun m => decide (m ≠ c) && decide (c ∈ fo m)) = some m := find_at hmj no2 (by rw [t0, t]; rfl)
            rw [ef] at e1
            rw [findS_at (v := (c, m)) hci (fun j t hj ht => by rw [no j t hj ht]; rfl) (by rw [e1]; rfl)] at q
            exact ⟨_, rfl, _, rfl, by show 2 ≤ 1000; decide, mk2 X.O X.hw X.h1 X.h2 fun x H5 s5 n5 e5 => q H5 x (sm_trans sm3 s5) (L2.Same.free sm3 n5) e5⟩
          · have t : ¬ decide (c ∈ (tx (fo m)).cps.toList) = true := t
            rw [tx_list] at t
            exact ⟨_, rfl, sm3, ep3, er3, next (by rw [Bool.eq_false_iff.mpr t]; simp)⟩
        · have t2 : sg m = sg c := by simpa using t1
          have t0 : decide (m ≠ c) = false := by simpa using sg_inj t2
          exact iteF ⟨_, rfl, sm3, ep3, er3, next (by rw [t0]; rfl)⟩
      · rintro σ H3 ⟨y2, rfl, sm3, ep3, er3, no2⟩
        refine ⟨_, _, rfl, sm3, ep3, fun j u hj hu => ?_⟩
        rcases Nat.lt_or_ge j i with h | h
        · exact no j u h hu
        · obtain rfl : j = i := by omega
          rw [hci] at hu
          cases hu
          rw [← ef]
          exact find_no no2
    · rintro σ H1 ⟨y1, y2, rfl, sm, _, no⟩
      rw [findS_no fun j t hj ht => by rw [no j t hj ht]; rfl] at q
      exact q H1 sm
end
end NC
namespace NC
open PySem PySem.Spec PyProof.Rows L2
theorem first_none {l : List Nat} {bs : List (List Nat)} (h : firstBad l bs = none) : ∀ b ∈ bs, isBar l b = true := fun b hb => by
  obtain ⟨i, hi⟩ := List.getElem?_of_mem hb
  have hl := (List.getElem?_eq_some_iff.mp hi).1
  have q := List.find?_eq_none.mp h i (by simpa using hl)
  unfold badAt at q
  rw [List.getD_eq_getElem?_getD, hi] at q
  simp at q
  exact q.1
/-- all that a hall's making asks for in the text -/
structure Txt8 (K : PySem.W.Frag) (mg : Str → Option Value) (tw : Tok) (fOther fSides fByW fIsW fIsB fCW fCB fCS fSt fRe fAF fCF fCA : Addr) (dOther dSides dByW dIsW dIsB dCW dCB dCS dSt dRe dAF dCF dCA : FuncData)
    (CH iH CB iB CF iF CA iA : Addr) (eH eB eF eA : FuncData) : Prop where
  B : BM mg
  mW : mg "WIDEST" = some (.int 12 tw)
  O : DF K mg "other" sOther ["side"] fOther dOther
  S : DF K mg "sides_of" sSides ["walls"] fSides dSides
  Y : DF K mg "by_walls" sByWalls ["walls", "sides"] fByW dByW
  W : DF K mg "is_walls" sIsWalls ["walls"] fIsW dIsW
  I : DF K mg "is_bar" sIsBar ["walls", "bar"] fIsB dIsB
  cw : DF K mg "check_walls" sChkWalls ["walls"] fCW dCW
  cb : DF K mg "check_bars" sChkBars ["walls", "bars"] fCB dCB
  cs : DF K mg "check_side" sChkSide ["walls", "side"] fCS dCS
  st : DF K mg "straight_from" sStraight ["walls", "bars"] fSt dSt
  re : DF K mg "reached" sReached ["straight", "one"] fRe dRe
  af : DF K mg "all_forced" sAllF ["walls", "bars"] fAF dAF
  cf : DF K mg "check_fixed" sChkFix ["forced_by"] fCF dCF
  ca : DF K mg "check_alike" sChkAl ["forced_by"] fCA dCA
  he : HE K mg CH iH eH
  xb : XC K mg "BadBar" "BadBar.__init__" sBBinit "at" CB iB eB
  xf : XC K mg "Fixed" "Fixed.__init__" sFXinit "side" CF iF eF
  xa : XC2 K mg CA iA eA
end NC
namespace NC
open PySem PySem.Spec PyProof.Rows L2
abbrev sHinit : Stmt := inClass (topS 29) 0
abbrev sHbars : Stmt := inClass (topS 29) 2
theorem scHinit : FnScope ["self", "walls", "bars", "forced_by"] ["self", "walls", "bars"] (defScope sHinit) := ⟨rfl, rfl, rfl, by decide +kernel, rfl, by decide +kernel, by decide +kernel⟩
theorem scHbars : FnScope ["self"] ["self"] (defScope sHbars) := ⟨rfl, rfl, rfl, by decide +kernel, rfl, by decide +kernel, by decide +kernel⟩
/-- the class Hall -/
structure HC (K : PySem.W.Frag) (mg : Str → Option Value) (C fi fb : Addr) (di db : FuncData) : Prop where
  gC : mg "Hall" = some (.ref C)
  cl : Cls K C
  mks : Mk K C fi
  F : ∃ dvs, FunD K "__init__" "Hall.__init__" (defArgs sHinit) (defBody sHinit) (defScope sHinit) dvs [] fi di
  b : Binds K di ["self", "walls", "bars"] []
  n1 : NoAttr K C "wall_text"
  n2 : NoAttr K C "bar_list"
  n3 : NoAttr K C "forced_by"
  mb : Meth K C "bars" fb
  Fb : Fun K "bars" "Hall.bars" sHbars fb db
  bb : Binds K db ["self"] []
/-- all but x stays -/
def SmX (x : Addr) (H H' : Hp) : Prop := ∀ b o, b ≠ x → H b = some o → H' b = some o
/-- a hall at x of the walls l, its bars' list at sb -/
structure HallAt (C : Addr) (H : Hp) (x dx sb D : Addr) (l : List Nat) (ys : List Str) (fo : Nat → List Nat) : Prop where
  x : H x = some (.ins C dx [("wall_text", .str (tx l)), ("bar_list", .ref sb), ("forced_by", .ref D)])
  sb : H sb = some (.lst (ys.map V.str))
  D : H D = some (.dK (foK (sds l) fo))
section
variable {P : Program} {w : World} {K : PySem.W.Frag} {mg : Str → Option Value} {base : Heap} {tw : Tok} {fOther fSides fByW fIsW fIsB fCW fCB fCS fSt fRe fAF fCF fCA : Addr} {dOther dSides dByW dIsW dIsB dCW dCB dCS dSt dRe dAF dCF dCA : FuncData}
    {CH iH CB iB CF iF CA iA : Addr} {eH eB eF eA : FuncData} {C fi fb : Addr} {di db : FuncData}
def spHinit (K : PySem.W.Frag) (C CB CF CA : Addr) : Sp := fun vs H Q E => ∃ x dx l a bs, vs = [.ref x, .str (tx l), .ref a] ∧ H x = some (.ins C dx []) ∧ GoodW l ∧ BarsOk bs ∧ bs.length < 64 ∧ SqL K H a ((bs.map tx).map V.str) ∧
  match firstBad l bs with
  | some i => ∀ H' d, Same H H' → H d = none → H' d = some (.xd [("at", .int (i : Nat)), ("word", .str "badbar")]) → E (.ref CB) (some d) H'
  | none => ∀ fo, FoOk l (adjOf bs) (sds l) fo → match vdOf (sds l) (fxP fo) (alP fo) with
    | .fixed s => ∀ H' d, Same H H' → H d = none → H' d = some (.xd [("side", .str (sg s)), ("word", .str "fixed")]) → E (.ref CF) (some d) H'
    | .alike s m => ∀ H' d, Same H H' → H d = none → H' d = some (.xd [("other", .str (sg m)), ("one", .str (sg s)), ("word", .str "alike")]) → E (.ref CA) (some d) H'
    | .ok => ∀ H' sb D ys, SmX x H H' → H sb = none → H D = none → HallAt C H' x dx sb D l ys fo → ys.Perm (bs.map tx) → sortedS ys = true → Q .non H'
set_option maxHeartbeats 1000000 in
theorem ok_Hinit {k : Nat} (Z : HC K mg C fi fb di db) (T : Txt8 K mg tw fOther fSides fByW fIsW fIsB fCW fCB fCS fSt fRe fAF fCF fCA dOther dSides dByW dIsW dIsB dCW dCB dCS dSt dRe dAF dCF dCA CH iH CB iB CF iF CA iA eH eB eF eA) :
    FnOk P w K mg base (L2.CX P w) (k + 5) fi di ["self", "walls", "bars"] (spHinit K C CB CF CA) := by
  have GW := ok_chkWalls (P := P) (w := w) (base := base) (k := k) T.B T.mW T.cw.F T.W
  have GB : FnOk P w K mg base (L2.CX P w) (k + 4) fCB dCB ["walls", "bars"] (spChkBars K CB) := ok_chkBars T.B T.cb.F T.I T.S T.he T.xb
  have GA : FnOk P w K mg base CX0 (k + 3) fAF dAF ["walls", "bars"] (spAllF K) := ok_allF T.B T.af.F T.st T.re T.Y T.S T.O
  have GF : FnOk P w K mg base (L2.CX P w) (k + 4) fCF dCF ["forced_by"] (spChkFix CF) := ok_chkFix T.B T.cf.F T.O T.he T.xf
  have GL : FnOk P w K mg base (L2.CX P w) (k + 4) fCA dCA ["forced_by"] (spChkAl CA) := ok_chkAl T.B T.ca.F T.he T.xa
  obtain ⟨dvs, ZF⟩ := Z.F
  refine ZF.ok scHinit (fun vs H Q E h => ?_) (fun cdv A outer s H vs Q E hr h => ?_)
  · obtain ⟨x, dx, l, a, bs, rfl, _⟩ := h
    rfl
  · obtain ⟨x, dx, l, a, bs, rfl, hx, g, hbs, hbl, hS, q⟩ := h
    have r2 : Room (k + 2) _ := hr.mono (by omega)
    have r3 : Room (k + 3) _ := hr.mono (by omega)
    refine ⟨_, pss_cons (ps_expr (pe_call GW r2 rfl T.cw.g T.cw.F.kp T.cw.b .nil pass0 (pa_cons (pv 1) pa_nil)))
      (pss_cons (ps_expr (pe_call (E := E) GB hr rfl T.cb.g T.cb.F.kp T.cb.b .nil (passes_call (takes_of rfl rfl rfl rfl) (fun _ _ _ _ h => h)) (pa_cons (pv 1) (pa_cons (pv 2) pa_nil))))
      (pss_cons (ps_set (i := 3) scHinit.nd rfl (.inl rfl) (pe_call GA r3 rfl T.af.g T.af.F.kp T.af.b .nil pass0 (pa_cons (pv 1) (pa_cons (pv 2) pa_nil))))
      (pss_cons (ps_expr (pe_call (E := E) GF hr rfl T.cf.g T.cf.F.kp T.cf.b .nil (passes_call (takes_of rfl rfl rfl rfl) (fun _ _ _ _ h => h)) (pa_cons (pv 3) pa_nil)))
      (pss_cons (ps_expr (pe_call (E := E) GL hr rfl T.ca.g T.ca.F.kp T.ca.b .nil (passes_call (takes_of rfl rfl rfl rfl) (fun _ _ _ _ h => h)) (pa_cons (pv 3) pa_nil)))
      (pss_cons (ps_fld (pv 0) (pv 1) rfl)
      (pss_cons (ps_fld (pv 0) (pe_callB cr_sortedS (by rfl) T.B.sorted (by decide +kernel) (pa_cons (pv 2) pa_nil)) rfl)
      (pss_one (ps_fld (pv 0) (pv 3) rfl)))))))), ?_⟩
    refine ⟨_, rfl, l, rfl, g, fun H1 s1 => ⟨_, rfl, _, rfl, l, a, bs, rfl, g, hbs, by omega, .inl (sm_l s1 hS), ?_⟩⟩
    cases fbd : firstBad l bs with
    | some i =>
      rw [fbd] at q
      intro H' d sm nd e
      exact q H' d (sm_trans s1 sm) (L2.Same.free s1 nd) e
    | none =>
      rw [fbd] at q
      have hbar := first_none fbd
      intro H2 s2
      have s12 := sm_trans s1 s2
      refine ⟨_, rfl, _, rfl, l, a, bs, rfl, g, hbar, by omega, .inl (sm_l s12 hS), fun H3 D fo s3 nD eD ok => ?_⟩
      have s13 := sm_trans s12 s3
      have q := q fo ok
      unfold vdOf at q
      refine ⟨_, rfl, l, D, adjOf bs, fo, rfl, g, eD, ok, ?_⟩
      cases h1 : (sds l).find? (fxP fo) with
      | some s0 =>
        rw [h1] at q
        exact fun H' d sm nd e => q H' d (sm_trans s13 sm) (L2.Same.free s13 nd) e
      | none =>
      rw [h1] at q
      intro H4 s4
      have s14 := sm_trans s13 s4
      refine ⟨_, rfl, l, D, adjOf bs, fo, rfl, g, s4 _ _ eD, ok, ?_⟩
      cases h2 : (sds l).findSome? fun s => ((sds l).find? (alP fo s)).map fun t => (s, t) with
      | some v =>
        rw [h2] at q
        exact fun H' d sm nd e => q H' d (sm_trans s14 sm) (L2.Same.free s14 nd) e
      | none =>
      rw [h2] at q
      intro H5 s5
      have s15 := sm_trans s14 s5
      have nxa : ∀ o, Same H H5 → SqL K (upd H5 x o) a ((bs.map tx).map V.str) := fun o sm => by
        have hS5 := sm_l sm hS
        rcases hS5 with (z | ⟨ob, z⟩) | z
        · exact .inl (.inl (by rw [upd_ne (ne_of z (sm _ _ hx) fun e => by cases e)]; exact z))
        · exact .inl (.inr ⟨ob, by rw [upd_ne (ne_of z (sm _ _ hx) fun e => by cases e)]; exact z⟩)
        · exact .inr z
      refine ⟨_, rfl, _, rfl, x, C, dx, _, rfl, s15 _ _ hx, Z.cl, Z.n1, by decide, ?_⟩
      refine ⟨_, rfl, a, bs.map tx, rfl, nxa _ s15, by rw [List.length_map]; exact hbl, fun ys p hp hs np => ?_⟩
      have npx : x ≠ p := ne_of_none upd_same np
      refine ⟨_, rfl, x, C, dx, _, rfl, by rw [upd_ne npx, upd_same], Z.cl, Z.n2, by show 1 < 1000; decide, ?_⟩
      refine ⟨_, rfl, _, rfl, x, C, dx, _, rfl, upd_same, Z.cl, Z.n3, by show 2 < 1000; decide, ?_⟩
      have np5 : H5 p = none := by
        rw [upd_ne (Ne.symm npx)] at np
        exact np
      have eD5 : H5 D = some (.dK (foK (sds l) fo)) := s5 _ _ (s4 _ _ eD)
      have nDx : D ≠ x := ne_of eD5 (s15 _ _ hx) fun z => by cases z
      have nDp : D ≠ p := ne_of_none eD5 np5
      refine q _ p D ys (fun b o hb e => ?_) (L2.Same.free s15 np5) (L2.Same.free s12 nD) ⟨upd_same, ?_, by rw [upd_ne nDx, upd_ne nDx, upd_ne nDp, upd_ne nDx]; exact eD5⟩ hp hs
      · have e5 := s15 _ _ e
        rw [upd_ne hb, upd_ne hb, upd_ne (ne_of_none e5 np5), upd_ne hb]
        exact e5
      · rw [upd_ne (Ne.symm npx), upd_ne (Ne.symm npx), upd_same]
def spHbars (C : Addr) : Sp := fun vs H Q _ => ∃ x dx sb D l ys fo, vs = [.ref x] ∧ HallAt C H x dx sb D l ys fo ∧ ∀ p, H p = none → Q (.ref p) (upd H p (.lst (ys.map V.str)))
theorem ok_Hbars {k : Nat} (B : BM mg) (Z : HC K mg C fi fb di db) : FnOk P w K mg base CX0 (k + 1) fb db ["self"] (spHbars C) := by
  refine Z.Fb.ok scHbars (fun vs H Q E h => ?_) (fun cdv A outer s H vs Q E hr h => ?_)
  · obtain ⟨x, dx, sb, D, l, ys, fo, rfl, _⟩ := h
    rfl
  · obtain ⟨x, dx, sb, D, l, ys, fo, rfl, hA, q⟩ := h
    refine ⟨_, pss_one (ps_ret (pe_callTy call_list_of (by rfl) B.list (by decide +kernel) (pa_cons (pe_fld (pv 0) rfl) pa_nil))), ?_⟩
    exact ⟨_, rfl, x, C, dx, _, .ref sb, rfl, hA.x, Z.cl, Z.n2, rfl, sb, _, rfl, .inl (SqL.of hA.sb), q⟩
end
end NC
namespace NC
open PySem PySem.Spec PyProof.Rows L2
abbrev sStart : Stmt := topS 57
abbrev sDraw : Stmt := topS 58
abbrev sOf : Stmt := topS 59
abbrev sLetters : Stmt := topS 60
theorem scStart : FnScope ["_law_script", "_law_seed", "_law_cell"] ["_law_script"] (defScope sStart) := ⟨rfl, rfl, rfl, by decide +kernel, rfl, by decide +kernel, by decide +kernel⟩
theorem scDraw : FnScope ["_law_d", "_law_many", "_law_cell", "_law_digit", "_law_mix"] ["_law_d", "_law_many"] (defScope sDraw) := ⟨rfl, rfl, rfl, by decide +kernel, rfl, by decide +kernel, by decide +kernel⟩
theorem scOf : FnScope ["_law_d", "_law_some"] ["_law_d", "_law_some"] (defScope sOf) := ⟨rfl, rfl, rfl, by decide +kernel, rfl, by decide +kernel, by decide +kernel⟩
theorem scLetters : FnScope [] [] (defScope sLetters) := ⟨rfl, rfl, rfl, by decide +kernel, rfl, by decide +kernel, by decide +kernel⟩
def Dr (H : Hp) (d : Addr) : Prop := ∃ (c : Addr) (ns : List Int) (i a b e : Int), H d = some (.lst [.ref c, .int i, .int a, .int b, .int e]) ∧ H c = some (.lst (ns.map V.int)) ∧ 0 ≤ i
theorem SmX.refl (x : Addr) (H : Hp) : SmX x H H := fun _ _ _ h => h
theorem SmX.trans {x : Addr} {H H1 H2 : Hp} (a : SmX x H H1) (b : SmX x H1 H2) : SmX x H H2 := fun c o n h => b c o n (a c o n h)
theorem SmX.of {x : Addr} {H H1 : Hp} (a : Same H H1) : SmX x H H1 := fun c o _ h => a c o h
theorem SmX.upd {x : Addr} {H : Hp} {o : HO} : SmX x H (L2.upd H x o) := fun c z n h => by rw [upd_ne n]; exact h
/-- all but d's list stays, and the first of d's list too -/
def HeadC (H : Hp) (d c : Addr) : Prop := ∃ r, H d = some (.lst (.ref c :: r))
def SmD (d : Addr) (H H' : Hp) : Prop := SmX d H H' ∧ ∀ c, HeadC H d c → HeadC H' d c
theorem SmD.refl (x : Addr) (H : Hp) : SmD x H H := ⟨SmX.refl x H, fun _ h => h⟩
theorem SmD.trans {x : Addr} {H H1 H2 : Hp} (a : SmD x H H1) (b : SmD x H1 H2) : SmD x H H2 := ⟨a.1.trans b.1, fun c h => b.2 c (a.2 c h)⟩
theorem SmD.of {x : Addr} {H H1 : Hp} (a : Same H H1) : SmD x H H1 := ⟨SmX.of a, fun _ ⟨r, h⟩ => ⟨r, a _ _ h⟩⟩
theorem SmD.upd {x c : Addr} {H : Hp} {r r' : List V} (h : H x = some (.lst (.ref c :: r))) : SmD x H (L2.upd H x (.lst (.ref c :: r'))) := ⟨SmX.upd, fun c2 ⟨r2, h2⟩ => by
  rw [h] at h2
  have e : c = c2 := by
    injection h2 with h3
    injection h3 with h3
    injection h3 with h3 _
    injection h3
  exact ⟨r', by rw [← e]; exact upd_same⟩⟩
theorem dr_ne {H : Hp} {c d : Addr} {ns : List Int} {x : Addr} {i a b e : Int} (h1 : H d = some (.lst [.ref x, .int i, .int a, .int b, .int e])) (h2 : H c = some (.lst (ns.map V.int))) : c ≠ d := ne_of h2 h1 fun z => by
  have z2 : ns.map V.int = [.ref x, .int i, .int a, .int b, .int e] := by injection z
  cases ns with
  | nil => cases z2
  | cons n r =>
    rw [List.map_cons] at z2
    injection z2 with z3 _
    cases z3
theorem Dr.same {H H' : Hp} {d : Addr} (h : Dr H d) (e : Same H H') : Dr H' d := by
  obtain ⟨c, ns, i, a, b, f, h1, h2, h3⟩ := h
  exact ⟨c, ns, i, a, b, f, e _ _ h1, e _ _ h2, h3⟩
section
variable {P : Program} {w : World} {K : PySem.W.Frag} {mg : Str → Option Value} {base : Heap}
def spDraw : Sp := fun vs H Q _ => ∃ d n, vs = [.ref d, .int n] ∧ Dr H d ∧ 1 ≤ n ∧ n ≤ 1000000000 ∧ ∀ H' v, SmD d H H' → Dr H' d → 0 ≤ v → v < n → Q (.int v) H'
set_option maxHeartbeats 1000000 in
theorem ok_draw {f : Addr} {fd : FuncData} {k : Nat} (B : BM mg) (F : Fun K "_law_draw" "_law_draw" sDraw f fd) : FnOk P w K mg base CX0 (k + 1) f fd ["_law_d", "_law_many"] spDraw := by
  refine F.ok scDraw (fun vs H Q E h => ?_) (fun cdv A outer s H vs Q E hr h => ?_)
  · obtain ⟨d, n, rfl, _⟩ := h
    rfl
  · obtain ⟨d, n, rfl, D, hn1, hn2, q⟩ := h
    refine ⟨_, C8.pss_cut (ps_if (PW.pt (pw_and (pt_cmpR op_lt (pe_ix ix_list (pv 0) pe_int (fun _ _ => rfl)) (pv 1) (nomark _))
        (pw_and1 (pt_cmpR op_lt (pe_ix ix_list (pv 0) pe_int (fun _ _ => rfl)) (pe_callB call_len_seq (by rfl) B.len PySem.boot_len (pa_cons (pe_ix ix_list (pv 0) pe_int (fun _ _ => rfl)) pa_nil)) (nomark _)))))
      (pss_cons (ps_set (i := 2) scDraw.nd rfl (.inl rfl) (pe_ix ix_list (pe_ix ix_list (pv 0) pe_int (fun _ _ => rfl)) (pe_ix ix_list (pv 0) pe_int (fun _ _ => rfl)) (fun _ _ => rfl)))
      (pss_cons (ps_asg (pe_op op_add (pe_ix ix_list (pv 0) pe_int (fun _ _ => rfl)) pe_int) (pg_sub (pv 0) pe_int set_list))
      (pss_cons (ps_asg (pe_ifExp (pt_cmpR op_ge (pv 2) (pe_op op_pow pe_int pe_int) (nomark _)) (pv 2) pe_int) (pg_sub (pv 0) pe_int set_list))
      (pss_one (ps_asg (pe_op op_mod (pe_op op_add (pe_op op_add (pe_op op_mul (pe_ix ix_list (pv 0) pe_int (fun _ _ => rfl)) pe_int) (pe_op op_mod (pv 2) pe_int)) pe_int) pe_int) (pg_sub (pv 0) pe_int set_list)))))) pss_nil)
      (pss_cons (ps_if (pt_cmpR op_ge (pe_ix ix_list (pv 0) pe_int (fun _ _ => rfl)) (pv 1) (nomark _))
        (pss_cons (ps_set (i := 3) scDraw.nd rfl (.inl rfl) (pe_op op_mod (pe_ix ix_list (pv 0) pe_int (fun _ _ => rfl)) (pv 1)))
        (pss_cons (ps_asg (pe_op op_fdiv (pe_ix ix_list (pv 0) pe_int (fun _ _ => rfl)) (pv 1)) (pg_sub (pv 0) pe_int set_list))
        (pss_one (ps_ret (pv 3))))) pss_nil)
      (pss_cons (ps_asg (pe_op op_add (pe_ix ix_list (pv 0) pe_int (fun _ _ => rfl)) pe_int) (pg_sub (pv 0) pe_int set_list))
      (pss_cons (ps_set (i := 4) scDraw.nd rfl (.inl rfl) (pe_op op_add (pe_op op_add (pe_op op_mul (pe_ix ix_list (pv 0) pe_int (fun _ _ => rfl)) pe_int) (pe_op op_mul (pe_ix ix_list (pv 0) pe_int (fun _ _ => rfl)) pe_int)) pe_int))
      (pss_cons (ps_set (i := 4) scDraw.nd rfl (.inl rfl) (pe_op op_add (pe_op op_mul (pv 4) (pe_op op_add (pe_op op_mod (pv 4) pe_int) pe_int)) (pe_op op_mul (pe_ix ix_list (pv 0) pe_int (fun _ _ => rfl)) pe_int)))
      (pss_cons (ps_asg (pe_op op_mod (pv 4) pe_int) (pg_sub (pv 0) pe_int set_list))
      (pss_one (ps_ret (pe_op op_mod (pe_op op_add (pe_op op_fdiv (pe_ix ix_list (pv 0) pe_int (fun _ _ => rfl)) pe_int) (pe_op op_mul (pe_op op_mod (pe_ix ix_list (pv 0) pe_int (fun _ _ => rfl)) pe_int) pe_int)) (pv 1))))))))), ?_⟩
    obtain ⟨c, ns, i, a, b, e, hd, hc, hi⟩ := D
    have nc := dr_ne hd hc
    refine ⟨fun σ H' => ∃ y2 y3 y4, σ = [some (.ref d), some (.int n), y2, y3, y4] ∧ SmD d H H' ∧ Dr H' d, ?_, ?_⟩
    · refine ⟨_, rfl, d, _, 2, .int a, rfl, rfl, SqL.of hd, rfl, _, rfl, _, _, rfl, rfl, _, rfl, ite2 (fun t1 => ?_) (fun t1 => ?_)⟩
      · refine ⟨_, rfl, d, _, 1, .int i, rfl, rfl, SqL.of hd, rfl, _, rfl, d, _, 0, .ref c, rfl, rfl, SqL.of hd, rfl, c, _, rfl, .inl (SqL.of hc), _, _, rfl, rfl, _, rfl, ite2 (fun t2 => ?_) (fun t2 => ?_)⟩
        · have hil : i < (ns.length : Int) := by
            have := of_decide_eq_true t2
            rw [List.length_map] at this
            exact this
          obtain ⟨j, rfl⟩ := Int.eq_ofNat_of_zero_le hi
          have hjl : j < ns.length := by omega
          have hat : (ns.map V.int)[j]? = some (.int ns[j]) := by rw [List.getElem?_map, List.getElem?_eq_getElem hjl]; rfl
          refine ⟨_, rfl, d, _, 0, .ref c, rfl, rfl, SqL.of hd, rfl, _, rfl, d, _, 1, .int j, rfl, rfl, SqL.of hd, rfl, c, _, j, .int ns[j], rfl, rfl, SqL.of hc, atI_nat hat, ?_⟩
          generalize ns[j] = z
          refine ⟨_, rfl, d, _, 1, .int j, rfl, rfl, SqL.of hd, rfl, _, _, rfl, rfl, _, rfl, d, _, 1, 1, rfl, rfl, hd, rfl, ?_⟩
          have fin : ∀ (H2 : Hp) (z2 : Int), SmD d H H2 → H2 d = some (.lst [.ref c, .int ((j : Int) + 1), .int z2, .int b, .int e]) →
              ∃ H3, SmD d H H3 ∧ Dr H3 d ∧ H3 = upd H2 d (.lst ([.ref c, .int ((j : Int) + 1), .int z2, .int b, .int e].set 3 (.int ((b * 69621 + z % 998244353 + 1) % 2147483647)))) := fun H2 z2 s2 e2 =>
            ⟨_, s2.trans (SmD.upd e2), ⟨c, ns, _, _, _, _, upd_same, by rw [upd_ne nc]; exact s2.1 _ _ nc hc, by omega⟩, rfl⟩
          refine ⟨_, rfl, _, _, rfl, rfl, ⟨by decide, by decide, by decide⟩, _, _, rfl, rfl, _, rfl, ite2 (fun t3 => ?_) (fun t3 => ?_)⟩
          · refine ⟨_, rfl, _, rfl, d, _, 2, 2, rfl, rfl, upd_same, rfl, ?_⟩
            rw [L2.upd_upd]
            obtain ⟨H3, a1, a2, a3⟩ := fin (upd H d (.lst [.ref c, .int ((j : Int) + 1), .int z, .int b, .int e])) z (SmD.upd hd) upd_same
            refine ⟨_, rfl, d, _, 3, .int b, rfl, rfl, SqL.of upd_same, rfl, _, _, rfl, rfl, .inr ⟨by decide, by decide⟩, _, rfl, _, _, rfl, rfl, (by show (0 : Int) < 998244353; decide), _, _, rfl, rfl, _, _, rfl, rfl, _, _, rfl, rfl, (by show (0 : Int) < 2147483647; decide), _, rfl, d, _, 3, 3, rfl, rfl, upd_same, rfl, ?_⟩
            exact ⟨_, _, _, rfl, by rw [a3] at a1; exact a1, by rw [a3] at a2; exact a2⟩
          · refine ⟨_, rfl, d, _, 2, 2, rfl, rfl, upd_same, rfl, ?_⟩
            rw [L2.upd_upd]
            obtain ⟨H3, a1, a2, a3⟩ := fin (upd H d (.lst [.ref c, .int ((j : Int) + 1), .int 0, .int b, .int e])) 0 (SmD.upd hd) upd_same
            refine ⟨_, rfl, d, _, 3, .int b, rfl, rfl, SqL.of upd_same, rfl, _, _, rfl, rfl, .inr ⟨by decide, by decide⟩, _, rfl, _, _, rfl, rfl, (by show (0 : Int) < 998244353; decide), _, _, rfl, rfl, _, _, rfl, rfl, _, _, rfl, rfl, (by show (0 : Int) < 2147483647; decide), _, rfl, d, _, 3, 3, rfl, rfl, upd_same, rfl, ?_⟩
            exact ⟨_, _, _, rfl, by rw [a3] at a1; exact a1, by rw [a3] at a2; exact a2⟩
        · exact ⟨_, _, _, rfl, SmD.refl _ _, c, ns, i, a, b, e, hd, hc, hi⟩
      · exact iteF ⟨_, _, _, rfl, SmD.refl _ _, c, ns, i, a, b, e, hd, hc, hi⟩
    · rintro σ H1 ⟨y2, y3, y4, rfl, s1, c1, ns1, i1, a1, b1, e1, hd1, hc1, hi1⟩
      have nc1 := dr_ne hd1 hc1
      refine ⟨_, rfl, d, _, 2, .int a1, rfl, rfl, SqL.of hd1, rfl, _, rfl, _, _, rfl, rfl, _, rfl, ite2 (fun t1 => ?_) (fun t1 => ?_)⟩
      · refine ⟨_, rfl, d, _, 2, .int a1, rfl, rfl, SqL.of hd1, rfl, _, rfl, _, _, rfl, rfl, (by show 0 < n; omega), ?_⟩
        refine ⟨_, rfl, d, _, 2, .int a1, rfl, rfl, SqL.of hd1, rfl, _, rfl, _, _, rfl, rfl, ⟨by omega, by omega⟩, _, rfl, d, _, 2, 2, rfl, rfl, hd1, rfl, ?_⟩
        refine ⟨_, rfl, q _ _ (s1.trans (SmD.upd hd1)) ⟨c1, ns1, _, _, _, _, upd_same, by rw [upd_ne nc1]; exact hc1, hi1⟩ (Int.emod_nonneg _ (by omega)) (Int.emod_lt_of_pos _ (by omega))⟩
      · refine ⟨_, rfl, d, _, 4, .int e1, rfl, rfl, SqL.of hd1, rfl, _, _, rfl, rfl, _, rfl, d, _, 4, 4, rfl, rfl, hd1, rfl, ?_⟩
        have hd2 : (upd H1 d (.lst ([.ref c1, .int i1, .int a1, .int b1, .int e1].set 4 (.int (e1 + 1))))) d = some (.lst [.ref c1, .int i1, .int a1, .int b1, .int (e1 + 1)]) := upd_same
        refine ⟨_, rfl, d, _, 3, .int b1, rfl, rfl, SqL.of hd2, rfl, _, _, rfl, rfl, .inr ⟨by decide, by decide⟩, _, rfl, d, _, 4, .int (e1 + 1), rfl, rfl, SqL.of hd2, rfl, _, _, rfl, rfl, .inr ⟨by decide, by decide⟩, _, _, rfl, rfl, _, _, rfl, rfl, ?_⟩
        have m1 : 0 ≤ (b1 * 16807 + (e1 + 1) * 40692 + 7) % 65521 := Int.emod_nonneg _ (by decide)
        have m2 : (b1 * 16807 + (e1 + 1) * 40692 + 7) % 65521 < 65521 := Int.emod_lt_of_pos _ (by decide)
        refine ⟨_, rfl, _, rfl, _, _, rfl, rfl, (by show (0 : Int) < 65521; decide), _, _, rfl, rfl, _, _, rfl, rfl, .inr ⟨by show -(2 ^ 64) < (b1 * 16807 + (e1 + 1) * 40692 + 7) % 65521 + 3; omega, by show (b1 * 16807 + (e1 + 1) * 40692 + 7) % 65521 + 3 < 2 ^ 64; omega⟩, _, rfl, d, _, 4, .int (e1 + 1), rfl, rfl, SqL.of hd2, rfl, _, _, rfl, rfl, .inr ⟨by decide, by decide⟩, _, _, rfl, rfl, ?_⟩
        refine ⟨_, rfl, _, _, rfl, rfl, (by show (0 : Int) < 2147483629; decide), _, rfl, d, _, 3, 3, rfl, rfl, hd2, rfl, ?_⟩
        have hd3 : (upd (upd H1 d (.lst ([.ref c1, .int i1, .int a1, .int b1, .int e1].set 4 (.int (e1 + 1))))) d (.lst ([.ref c1, .int i1, .int a1, .int b1, .int (e1 + 1)].set 3 (.int (((b1 * 16807 + (e1 + 1) * 40692 + 7) * ((b1 * 16807 + (e1 + 1) * 40692 + 7) % 65521 + 3) + (e1 + 1) * 9176) % 2147483629))))) d = some (.lst [.ref c1, .int i1, .int a1, .int (((b1 * 16807 + (e1 + 1) * 40692 + 7) * ((b1 * 16807 + (e1 + 1) * 40692 + 7) % 65521 + 3) + (e1 + 1) * 9176) % 2147483629), .int (e1 + 1)]) := upd_same
        refine ⟨_, rfl, d, _, 3, .int (((b1 * 16807 + (e1 + 1) * 40692 + 7) * ((b1 * 16807 + (e1 + 1) * 40692 + 7) % 65521 + 3) + (e1 + 1) * 9176) % 2147483629), rfl, rfl, SqL.of hd3, rfl, _, _, rfl, rfl, ⟨by decide, by decide⟩, _, rfl, d, _, 3, .int (((b1 * 16807 + (e1 + 1) * 40692 + 7) * ((b1 * 16807 + (e1 + 1) * 40692 + 7) % 65521 + 3) + (e1 + 1) * 9176) % 2147483629), rfl, rfl, SqL.of hd3, rfl, _, _, rfl, rfl, (by show (0 : Int) < 8191; decide), _, _, rfl, rfl, .inr ⟨by decide, by decide⟩, _, _, rfl, rfl, _, rfl, _, _, rfl, rfl, (by show 0 < n; omega), ?_⟩
        refine q _ _ ((s1.trans (SmD.upd hd1)).trans (SmD.upd hd2)) ⟨c1, ns1, _, _, _, _, hd3, by rw [upd_ne nc1, upd_ne nc1]; exact hc1, hi1⟩ (Int.emod_nonneg _ (by omega)) (Int.emod_lt_of_pos _ (by omega))
end
end NC
namespace NC
open PySem PySem.Spec PyProof.Rows L2
def ltrs : List Nat := (List.range 26).map (· + 97)
theorem ltrs_eq : Str.ofString "abcdefghijklmnopqrstuvwxyz" = tx ltrs := by decide +kernel
theorem ltrs_at {i c : Nat} (h : ltrs[i]? = some c) : c = 97 + i ∧ i < 26 := by
  unfold ltrs at h
  rw [List.getElem?_map] at h
  obtain ⟨j, hj, e⟩ := Option.map_eq_some_iff.mp h
  obtain ⟨h1, h2⟩ := List.getElem?_eq_some_iff.mp hj
  rw [List.getElem_range] at h2
  rw [List.length_range] at h1
  omega
theorem smx_l {K : PySem.W.Frag} {d : Addr} {H H' : Hp} {a : Addr} {xs : List V} (e : SmX d H H') (n : a ≠ d) (h : SqL K H a xs) : SqL K H' a xs := by
  rcases h with (h | ⟨o, h⟩) | h
  · exact .inl (.inl (e _ _ n h))
  · exact .inl (.inr ⟨o, e _ _ n h⟩)
  · exact .inr h
section
variable {P : Program} {w : World} {K : PySem.W.Frag} {mg : Str → Option Value} {base : Heap}
def spStart (K : PySem.W.Frag) : Sp := fun vs H Q _ => ∃ (a : Addr) (ns : List Int), vs = [.ref a] ∧ SqL K H a (ns.map V.int) ∧ ∀ H' d, Same H H' → H d = none → Dr H' d → Q (.ref d) H'
theorem ok_start {f : Addr} {fd : FuncData} {k : Nat} (B : BM mg) (F : Fun K "_law_start" "_law_start" sStart f fd) : FnOk P w K mg base CX0 (k + 1) f fd ["_law_script"] (spStart K) := by
  refine F.ok scStart (fun vs H Q E h => ?_) (fun cdv A outer s H vs Q E hr h => ?_)
  · obtain ⟨a, ns, rfl, _⟩ := h
    rfl
  · obtain ⟨a, ns, rfl, hS, q⟩ := h
    refine ⟨_, pss_cons (ps_set (i := 1) scStart.nd rfl (.inl rfl) pe_int)
      (pss_cons (ps_for PassesOwn.never rfl (pi_list (pe_slice sl_list (pv 0) po_none (po_some pe_int))) (pg_name (i := 2) scStart.nd rfl (.inl rfl))
        (pss_one (ps_set (i := 1) scStart.nd rfl (.inl rfl) (pe_op op_mod (pe_op op_add (pe_op op_add (pe_op op_mul (pv 1) pe_int) (pe_op op_mod (pv 2) pe_int)) pe_int) pe_int))))
      (pss_one (ps_ret (pe_lst (pa_cons (pe_callTy call_list_of (by rfl) B.list (by decide +kernel) (pa_cons (pe_slice sl_list (pv 0) po_none (po_some pe_int)) pa_nil)) (pa_cons pe_int (pa_cons pe_int (pa_cons (pv 1) (pa_cons pe_int pa_nil))))))))), ?_⟩
    refine ⟨_, rfl, 63, rfl, a, _, rfl, hS, fun p np => ⟨p, rfl, ⟨_, SqL.of upd_same⟩, ?_⟩⟩
    have ec : cutV (ns.map V.int) none (some 63) = (ns.take 63).map V.int := by
      unfold cutV
      rw [HT.sIx_none, show HT.sIx (ns.map V.int).length (ns.map V.int).length (some 63) = min 63 (ns.map V.int).length from HT.sIx_nat _ _ 63, List.drop_zero, Nat.sub_zero, List.map_take, List.length_map]
      rcases Nat.le_total 63 ns.length with h | h
      · rw [Nat.min_eq_left h]
      · rw [Nat.min_eq_right h, List.take_of_length_le (by rw [List.length_map]; exact Nat.le_refl _), List.take_of_length_le (by rw [List.length_map]; exact h)]
    rw [ec]
    have wk := walk_list (K := K) (a := p) (xs := (ns.take 63).map V.int)
    refine for_it wk (fun i σ H' => ∃ (z : Int) (y2 : Option V), σ = [some (.ref a), some (.int z), y2] ∧ Same H H' ∧ H' p = some (.lst ((ns.take 63).map V.int))) ⟨_, _, rfl, same_upd np, upd_same⟩
      (fun i σ H' _ h => by obtain ⟨_, _, _, _, h⟩ := h; exact SqL.of h) ?_ ?_
    · rintro i x σ H1 H2 hi ⟨z, y2, rfl, sm, ep⟩ ⟨rfl, hx⟩
      rw [List.getElem?_map] at hx
      obtain ⟨c, hc, rfl⟩ := Option.map_eq_some_iff.mp hx
      exact ⟨_, rfl, _, _, rfl, rfl, .inr ⟨by decide, by decide⟩, _, rfl, _, _, rfl, rfl, (by show (0 : Int) < 1000003; decide), _, _, rfl, rfl, _, _, rfl, rfl, _, _, rfl, rfl, (by show (0 : Int) < 2147483647; decide), _, _, rfl, sm, ep⟩
    · rintro σ H1 ⟨z, y2, rfl, sm, ep⟩
      refine ⟨_, rfl, 63, rfl, a, _, rfl, sm_l sm hS, fun p2 np2 => ⟨p2, _, rfl, .inl (SqL.of upd_same), fun p3 np3 => ?_⟩⟩
      rw [ec] at np3 ⊢
      have s3 := sm_upd (o := .lst ((ns.take 63).map V.int)) (sm_upd (o := .lst ((ns.take 63).map V.int)) sm np2) np3
      refine ⟨_, rfl, by show 5 ≤ sizeLine; decide, fun d nd => ?_⟩
      have n3 : p3 ≠ d := ne_of_none upd_same nd
      exact q _ d (sm_upd s3 nd) (L2.Same.free s3 nd) ⟨p3, ns.take 63, 0, 0, _, 0, upd_same, by rw [upd_ne n3, upd_same], Int.le_refl _⟩
def spOf (K : PySem.W.Frag) : Sp := fun vs H Q _ => ∃ d x, vs = [.ref d, x] ∧ Dr H d ∧
  ((∃ a xs, x = .ref a ∧ a ≠ d ∧ SqL K H a xs ∧ 1 ≤ xs.length ∧ xs.length ≤ 1000 ∧ ∀ H' v (i : Nat), SmD d H H' → Dr H' d → xs[i]? = some v → Q v H') ∨
    ∃ l : List Nat, x = .str (tx l) ∧ 1 ≤ l.length ∧ l.length ≤ 1000 ∧ ∀ H' c, SmD d H H' → Dr H' d → c ∈ l → Q (.str (sg c)) H')
theorem ok_of {f fD : Addr} {fd fdD : FuncData} {k : Nat} (B : BM mg) (F : Fun K "_law_of" "_law_of" sOf f fd) (D : DF K mg "_law_draw" sDraw ["_law_d", "_law_many"] fD fdD) : FnOk P w K mg base CX0 (k + 2) f fd ["_law_d", "_law_some"] (spOf K) := by
  have GD : FnOk P w K mg base CX0 (k + 1) fD fdD ["_law_d", "_law_many"] spDraw := ok_draw B D.F
  refine F.ok scOf (fun vs H Q E h => ?_) (fun cdv A outer s H vs Q E hr h => ?_)
  · obtain ⟨d, x, rfl, _⟩ := h
    rfl
  · obtain ⟨d, x, rfl, hD, h⟩ := h
    refine ⟨_, pss_one (ps_ret (pe_ix (IxR.or ix_list ix_str) (pv 1) (pe_call GD hr rfl D.g D.F.kp D.b .nil pass0 (pa_cons (pv 0) (pa_cons (pe_callB (CallR.or call_len_seq call_len_str) (by rfl) B.len PySem.boot_len (pa_cons (pv 1) pa_nil)) pa_nil))) (fun _ _ => rfl))), ?_⟩
    rcases h with ⟨a, xs, rfl, nd, hS, h1, h2, q⟩ | ⟨l, rfl, h1, h2, q⟩
    · refine ⟨_, rfl, _, rfl, _, rfl, .inl ⟨a, xs, rfl, .inl hS, d, _, rfl, hD, by omega, by omega, fun H1 v s1 D1 v0 v1 => ?_⟩⟩
      obtain ⟨j, rfl⟩ := Int.eq_ofNat_of_zero_le v0
      have hj : j < xs.length := by omega
      exact .inl ⟨a, xs, j, xs[j], rfl, rfl, smx_l s1.1 nd hS, atI_nat (List.getElem?_eq_getElem hj), q H1 _ j s1 D1 (List.getElem?_eq_getElem hj)⟩
    · have hz : (tx l).length ≤ sizeLine := by rw [tx_len, sizeLine_eq]; omega
      refine ⟨_, rfl, _, rfl, _, rfl, .inr ⟨tx l, rfl, hz, d, _, rfl, hD, by rw [tx_len]; omega, by rw [tx_len]; omega, fun H1 v s1 D1 v0 v1 => ?_⟩⟩
      obtain ⟨j, rfl⟩ := Int.eq_ofNat_of_zero_le v0
      have hj : j < l.length := by rw [tx_len] at v1; omega
      exact .inr ⟨tx l, j, l[j], rfl, rfl, hz, by rw [tx_list]; exact atI_nat (List.getElem?_eq_getElem hj), q H1 _ s1 D1 (List.getElem_mem hj)⟩
theorem ok_letters {f : Addr} {fd : FuncData} {k : Nat} (F : Fun K "_law_letters" "_law_letters" sLetters f fd) : FnOk P w K mg base CX0 (k + 1) f fd [] (fun vs H Q _ => vs = [] ∧ Q (.str (tx ltrs)) H) := by
  refine F.ok scLetters (fun vs H Q E h => ?_) (fun cdv A outer s H vs Q E hr h => ?_)
  · obtain ⟨rfl, _⟩ := h
    rfl
  · obtain ⟨rfl, q⟩ := h
    refine ⟨_, pss_one (ps_ret pe_str), ?_⟩
    show Q (.str (Str.ofString "abcdefghijklmnopqrstuvwxyz")) H
    rw [ltrs_eq]
    exact q
end
end NC
namespace NC
open PySem PySem.Spec PyProof.Rows L2
abbrev sShuts : Stmt := topS 61
abbrev sPairs : Stmt := topS 64
theorem scShuts : FnScope ["_law_d", "_law_most_it", "_law_found", "_law_skip", "_law_sign"] ["_law_d", "_law_most_it"] (defScope sShuts) := ⟨rfl, rfl, rfl, by decide +kernel, rfl, by decide +kernel, by decide +kernel⟩
theorem cut_from (l : List Nat) (j : Nat) : cutS (tx l) (some ((j : Nat) : Int)) none = tx (l.drop j) := by
  unfold cutS
  rw [HT.sIx_none, HT.sIx_nat, tx_list, tx_len]
  show Str.mk _ = Str.mk _
  congr 1
  rcases Nat.le_total j l.length with h | h
  · rw [Nat.min_eq_left h, List.take_of_length_le (by rw [List.length_drop]; exact Nat.le_refl _)]
  · rw [Nat.min_eq_right h, List.drop_of_length_le (Nat.le_refl _), List.drop_of_length_le h]
    simp
theorem strK : (Str.ofString "k") = tx [107] := by decide +kernel
theorem str0 : (Str.ofString "") = tx [] := by decide +kernel
theorem good_k : GoodW [107] := ⟨by decide, by decide, fun c h => by simp at h; omega, by simp⟩
section
variable {P : Program} {w : World} {K : PySem.W.Frag} {mg : Str → Option Value} {base : Heap}
def spShuts : Sp := fun vs H Q _ => ∃ (d : Addr) (n : Int), vs = [.ref d, .int n] ∧ Dr H d ∧ 1 ≤ n ∧ n ≤ 12 ∧ ∀ H' l, SmD d H H' → Dr H' d → GoodW l → (l.length : Int) ≤ n → Q (.str (tx l)) H'
set_option maxHeartbeats 1000000 in
theorem ok_shuts {f fD fL : Addr} {fd fdD fdL : FuncData} {k : Nat} (B : BM mg) (F : Fun K "_law_shuts" "_law_shuts" sShuts f fd) (D : DF K mg "_law_draw" sDraw ["_law_d", "_law_many"] fD fdD) (Lt : DF K mg "_law_letters" sLetters [] fL fdL) :
    FnOk P w K mg base CX0 (k + 2) f fd ["_law_d", "_law_most_it"] spShuts := by
  have GD : FnOk P w K mg base CX0 (k + 1) fD fdD ["_law_d", "_law_many"] spDraw := ok_draw B D.F
  have GL := ok_letters (P := P) (w := w) (mg := mg) (base := base) (k := k) Lt.F
  refine F.ok scShuts (fun vs H Q E h => ?_) (fun cdv A outer s H vs Q E hr h => ?_)
  · obtain ⟨d, n, rfl, _⟩ := h
    rfl
  · obtain ⟨d, n, rfl, hD, hn1, hn2, q⟩ := h
    refine ⟨_, pss_cons (ps_set (i := 2) scShuts.nd rfl (.inl rfl) pe_str)
      (pss_cons (ps_set (i := 3) scShuts.nd rfl (.inl rfl) (pe_ix ix_list (pe_lst (pa_cons pe_int (pa_cons pe_int (pa_cons pe_int pa_nil)))) (pe_call GD hr rfl D.g D.F.kp D.b .nil pass0 (pa_cons (pv 0) (pa_cons pe_int pa_nil))) (fun _ _ => rfl)))
      (pss_cons (ps_for PassesOwn.never rfl (pi_str (pe_slice sl_str (pe_call0 GL hr rfl Lt.g Lt.F.kp Lt.b .nil pass0) (po_some (pe_call GD hr rfl D.g D.F.kp D.b .nil pass0 (pa_cons (pv 0) (pa_cons pe_int pa_nil)))) po_none)) (pg_name (i := 4) scShuts.nd rfl (.inl rfl))
        (pss_one (ps_if (PW.pt (pw_and (pt_cmpR op_lt (pe_callB call_len_str (by rfl) B.len PySem.boot_len (pa_cons (pv 2) pa_nil)) (pv 1) (nomark _))
            (pw_and1 (PW.pt (pw_or (pt_cmpR op_eq (pv 3) pe_int (nomark _)) (pw_or1 (pt_cmpR op_eq (pe_call GD hr rfl D.g D.F.kp D.b .nil pass0 (pa_cons (pv 0) (pa_cons (pv 3) pa_nil))) pe_int (nomark _))))))))
          (pss_one (ps_set (i := 2) scShuts.nd rfl (.inl rfl) (pe_op op_add_str (pv 2) (pv 4)))) pss_nil)))
      (pss_one (ps_ret (pe_ifExp (pt_cmpR op_ne (pv 2) pe_str (nomark _)) (pv 2) pe_str))))), ?_⟩
    refine ⟨by show 3 ≤ sizeLine; decide, fun p np => ?_⟩
    have ndp : d ≠ p := by
      obtain ⟨c, ns, i, a, b, e, hd, _⟩ := hD
      exact ne_of_none hd np
    have D1 : Dr (upd H p (.lst [.int 0, .int 2, .int 26])) d := hD.same (same_upd np)
    refine ⟨_, rfl, d, 3, rfl, D1, by decide, by decide, fun H1 v s1 D1' v0 v1 => ?_⟩
    have s01 : SmD d H H1 := (SmD.of (same_upd np)).trans s1
    have ep : H1 p = some (.lst [.int 0, .int 2, .int 26]) := s1.1 _ _ (Ne.symm ndp) upd_same
    obtain ⟨sk, hsk, hat⟩ : ∃ sk : Int, (sk = 0 ∨ sk = 2 ∨ sk = 26) ∧ atI [V.int 0, .int 2, .int 26] v = some (.int sk) := by
      have hv : v = 0 ∨ v = 1 ∨ v = 2 := by omega
      rcases hv with rfl | rfl | rfl
      · exact ⟨0, .inl rfl, rfl⟩
      · exact ⟨2, .inr (.inl rfl), rfl⟩
      · exact ⟨26, .inr (.inr rfl), rfl⟩
    refine ⟨p, _, v, .int sk, rfl, rfl, SqL.of ep, hat, ?_⟩
    refine ⟨rfl, _, rfl, d, 9, rfl, D1', by decide, by decide, fun H2 u s2 D2 u0 u1 => ?_⟩
    obtain ⟨j, rfl⟩ := Int.eq_ofNat_of_zero_le u0
    refine ⟨_, rfl, _, rfl, by rw [tx_len, sizeLine_eq]; decide, ?_⟩
    rw [cut_from]
    refine ⟨_, rfl, ?_⟩
    have lz : (tx (ltrs.drop j)).cps.size = (ltrs.drop j).length := tx_len _
    refine for_it walk_str (fun i σ H' => ∃ (l : List Nat) (y4 : Option V), σ = [some (.ref d), some (.int n), some (.str (tx l)), some (.int sk), y4] ∧ SmD d H H' ∧ Dr H' d ∧ l.Pairwise (· < ·) ∧ (∀ c ∈ l, 97 ≤ c ∧ c < 97 + (j + i) ∧ c ≤ 122) ∧ (l.length : Int) ≤ n)
      ⟨[], _, by rw [← str0]; rfl, s01.trans s2, D2, List.Pairwise.nil, (fun c h => absurd h (by simp)), by show (0 : Int) ≤ n; omega⟩ (fun _ _ _ _ _ => trivial) ?_ ?_
    · rintro i x σ H3 H4 hi ⟨l, y4, rfl, s3, D3, pw, hb, hln⟩ ⟨rfl, c, hc, rfl⟩
      have hcc : c = 97 + (j + i) ∧ j + i < 26 := by
        rw [← Array.getElem?_toList, tx_list, List.getElem?_drop] at hc
        exact ltrs_at hc
      have hlz : (tx l).length ≤ sizeLine := by rw [tx_len, sizeLine_eq]; omega
      have stay : ∀ (y : Option V) (H5 : Hp), SmD d H H5 → Dr H5 d → ∃ (l1 : List Nat) (y4 : Option V), [some (V.ref d), some (.int n), some (.str (tx l)), some (.int sk), y] = [some (.ref d), some (.int n), some (.str (tx l1)), some (.int sk), y4] ∧ SmD d H H5 ∧ Dr H5 d ∧ l1.Pairwise (· < ·) ∧
          (∀ c ∈ l1, 97 ≤ c ∧ c < 97 + (j + (i + 1)) ∧ c ≤ 122) ∧ (l1.length : Int) ≤ n := fun y H5 a1 a2 => ⟨l, y, rfl, a1, a2, pw, fun e he => by have := hb e he; omega, hln⟩
      have grow : ∀ (H5 : Hp), SmD d H H5 → Dr H5 d → (l.length : Int) < n → (tx l).length + (sg c).length ≤ sizeLine ∧ ∃ (l1 : List Nat) (y4 : Option V), [some (V.ref d), some (.int n), some (.str (tx l ++ sg c)), some (.int sk), some (.str (sg c))] = [some (.ref d), some (.int n), some (.str (tx l1)), some (.int sk), y4] ∧ SmD d H H5 ∧ Dr H5 d ∧ l1.Pairwise (· < ·) ∧
          (∀ c ∈ l1, 97 ≤ c ∧ c < 97 + (j + (i + 1)) ∧ c ≤ 122) ∧ (l1.length : Int) ≤ n := fun H5 a1 a2 hlt => by
        refine ⟨by rw [tx_len, sizeLine_eq]; show l.length + 1 ≤ _; omega, l ++ [c], _, by rw [sg_tx, tx_app], a1, a2, ?_, fun e he => ?_, by rw [List.length_append]; show ((l.length + 1 : Nat) : Int) ≤ n; omega⟩
        · refine List.pairwise_append.mpr ⟨pw, by simp, fun a ha b hb2 => ?_⟩
          have := hb a ha
          have := List.mem_singleton.mp hb2
          omega
        · rcases List.mem_append.mp he with z | z
          · have := hb e z
            omega
          · have := List.mem_singleton.mp z
            omega
      refine ⟨_, rfl, _, rfl, hlz, _, rfl, _, _, rfl, rfl, _, rfl, ite2 (fun t1 => ?_) (fun t1 => ?_)⟩
      · have hlt : (l.length : Int) < n := by
          have := of_decide_eq_true t1
          rw [tx_len] at this
          exact this
        refine ⟨_, rfl, rfl, _, rfl, ite2 (fun t2 => ?_) (fun t2 => ?_)⟩
        · obtain ⟨g1, g2⟩ := grow H4 s3 D3 hlt
          exact iteT ⟨_, rfl, _, rfl, _, _, rfl, rfl, g1, g2⟩
        · have hsk2 : 1 ≤ sk ∧ sk ≤ 1000 := by
            have : sk ≠ 0 := fun z => t2 (by rw [z]; exact decide_eq_true rfl)
            omega
          refine ⟨_, rfl, _, rfl, d, sk, rfl, D3, hsk2.1, Int.le_trans hsk2.2 (by decide), fun H5 v5 s5 D5 _ _ => ⟨rfl, _, rfl, ite2 (fun t3 => ?_) (fun t3 => ?_)⟩⟩
          · obtain ⟨g1, g2⟩ := grow H5 (s3.trans s5) D5 hlt
            exact ⟨_, rfl, _, rfl, _, _, rfl, rfl, g1, g2⟩
          · exact stay _ H5 (s3.trans s5) D5
      · exact iteF (stay _ H4 s3 D3)
    · rintro σ H3 ⟨l, y4, rfl, s3, D3, pw, hb, hln⟩
      refine ⟨_, rfl, rfl, _, rfl, ite2 (fun t1 => ?_) (fun t1 => ?_)⟩
      · have hl0 : l ≠ [] := fun z => by
          rw [z, ← str0] at t1
          exact absurd t1 (by decide +kernel)
        refine ⟨_, rfl, q H3 l s3 D3 ⟨List.length_pos_iff.mpr hl0, by omega, fun c hc => (by have := hb c hc; omega), pw⟩ hln⟩
      · show Q (.str (Str.ofString "k")) H3
        rw [strK]
        exact q H3 [107] s3 D3 good_k (by show (1 : Int) ≤ n; omega)
end
end NC
namespace NC
open PySem PySem.Spec PyProof.Rows L2
theorem scPairs : FnScope ["_law_shuts_here", "_law_found", "_law_one", "_law_two", "_law_first", "_law_second"] ["_law_shuts_here"] (defScope sPairs) := ⟨rfl, rfl, rfl, by decide +kernel, rfl, by decide +kernel, by decide +kernel⟩
def sec (f y : Nat) : List (List Nat) := [y, upc y].map fun s => [f, s]
def pr2 (x y : Nat) : List (List Nat) := [x, upc x].flatMap fun f => sec f y
def prI (l : List Nat) (i m : Nat) : List (List Nat) := (List.range m).flatMap fun j => pr2 (l.getD i 0) (l.getD (i + 1 + j) 0)
def prs (l : List Nat) (m : Nat) : List (List Nat) := (List.range m).flatMap fun i => prI l i (l.length - (i + 1))
theorem prI_len (l : List Nat) (i m : Nat) : (prI l i m).length = 4 * m := by
  induction m with
  | zero => rfl
  | succ m ih =>
    unfold prI at ih ⊢
    rw [List.range_succ, List.flatMap_append, List.length_append, ih]
    show _ + ([m].flatMap _).length = _
    simp [pr2, sec]
    omega
theorem prs_len (l : List Nat) : ∀ m, (prs l m).length ≤ 4 * l.length * m
  | 0 => by simp [prs]
  | m + 1 => by
    have ih := prs_len l m
    unfold prs at ih ⊢
    rw [List.range_succ, List.flatMap_append, List.length_append]
    have e : ([m].flatMap fun i => prI l i (l.length - (i + 1))).length = 4 * (l.length - (m + 1)) := by simp [prI_len]
    rw [e, Nat.mul_succ]
    have : 4 * (l.length - (m + 1)) ≤ 4 * l.length := Nat.mul_le_mul_left _ (Nat.sub_le _ _)
    omega
theorem lwc_of {x f : Nat} (h : 97 ≤ x ∧ x ≤ 122) (hf : f ∈ [x, upc x]) : lwc f = x := by
  rcases List.mem_cons.mp hf with e | e
  · rw [e]; unfold lwc; rw [if_neg (by omega)]
  · rw [List.mem_singleton.mp e, upc_small h]; unfold lwc; rw [if_pos (by omega)]; omega
theorem sds_of {l : List Nat} (g : GoodW l) {x f : Nat} (hx : x ∈ l) (hf : f ∈ [x, upc x]) : f ∈ sds l := by
  rcases List.mem_cons.mp hf with e | e
  · rw [e]; exact sds_of_small hx
  · rw [List.mem_singleton.mp e, upc_small (g.sm x hx)]; exact sds_of_great g hx
theorem of_sds {l : List Nat} (g : GoodW l) {f : Nat} (h : f ∈ sds l) : lwc f ∈ l ∧ f ∈ [lwc f, upc (lwc f)] := by
  rcases sds_shape g h with ⟨a, b, hm⟩ | ⟨a, b, hm⟩
  · have e : lwc f = f := by unfold lwc; rw [if_neg (by omega)]
    rw [e]
    exact ⟨hm, List.mem_cons_self ..⟩
  · have e : lwc f = f + 32 := by unfold lwc; rw [if_pos ⟨a, b⟩]
    rw [e, upc_small (by omega), show f + 32 - 32 = f by omega]
    exact ⟨hm, by simp⟩
theorem getD_of {l : List Nat} {i : Nat} (h : i < l.length) : l.getD i 0 = l[i] := by simp [List.getD, h]
theorem prs_mem {l : List Nat} (g : GoodW l) (b : List Nat) : b ∈ prs l l.length ↔ isBar l b = true := by
  constructor
  · intro h
    obtain ⟨i, hi, h⟩ := List.mem_flatMap.mp h
    obtain ⟨j, hj, h⟩ := List.mem_flatMap.mp h
    obtain ⟨f, hf, h⟩ := List.mem_flatMap.mp h
    obtain ⟨s, hs, rfl⟩ := List.mem_map.mp h
    have hi := List.mem_range.mp hi
    have hj := List.mem_range.mp hj
    have hk : i + 1 + j < l.length := by omega
    rw [getD_of hi] at hf
    rw [getD_of hk] at hs
    have m1 : l[i] ∈ l := List.getElem_mem hi
    have m2 : l[i + 1 + j] ∈ l := List.getElem_mem hk
    have lt : l[i] < l[i + 1 + j] := List.pairwise_iff_getElem.mp g.rise i (i + 1 + j) hi hk (by omega)
    show (decide (f ∈ sds l) && (decide (s ∈ sds l) && decide (lwc f < lwc s))) = true
    rw [decide_eq_true (sds_of g m1 hf), decide_eq_true (sds_of g m2 hs), lwc_of (g.sm _ m1) hf, lwc_of (g.sm _ m2) hs, decide_eq_true lt]
    rfl
  · intro h
    obtain ⟨f, s, rfl, hf, hs, lt⟩ := bar_two h
    obtain ⟨m1, f1⟩ := of_sds g hf
    obtain ⟨m2, s1⟩ := of_sds g hs
    obtain ⟨i, hi, ei⟩ := List.getElem_of_mem m1
    obtain ⟨k, hk, ek⟩ := List.getElem_of_mem m2
    have hik : i < k := by
      rcases Nat.lt_trichotomy i k with z | z | z
      · exact z
      · subst z
        rw [← ei, ← ek] at lt
        omega
      · have := List.pairwise_iff_getElem.mp g.rise k i hk hi z
        omega
    refine List.mem_flatMap.mpr ⟨i, List.mem_range.mpr hi, List.mem_flatMap.mpr ⟨k - (i + 1), List.mem_range.mpr (by omega), List.mem_flatMap.mpr ⟨f, ?_, List.mem_map.mpr ⟨s, ?_, rfl⟩⟩⟩⟩
    · rw [getD_of hi, ei]
      exact f1
    · rw [show i + 1 + (k - (i + 1)) = k by omega, getD_of hk, ek]
      exact s1
section
variable {P : Program} {w : World} {K : PySem.W.Frag} {mg : Str → Option Value} {base : Heap}
def spPairs : Sp := fun vs H Q _ => ∃ l, vs = [.str (tx l)] ∧ GoodW l ∧ ∀ H' p, Same H H' → H p = none → H' p = some (.lst (((prs l l.length).map tx).map V.str)) → Q (.ref p) H'
set_option maxHeartbeats 1000000 in
theorem ok_pairs {f : Addr} {fd : FuncData} {k : Nat} (B : BM mg) (F : Fun K "_law_pairs" "_law_pairs" sPairs f fd) : FnOk P w K mg base CX0 (k + 1) f fd ["_law_shuts_here"] spPairs := by
  refine F.ok scPairs (fun vs H Q E h => ?_) (fun cdv A outer s H vs Q E hr h => ?_)
  · obtain ⟨l, rfl, _⟩ := h
    rfl
  · obtain ⟨l, rfl, g, q⟩ := h
    have hz : (tx l).length ≤ sizeLine := by rw [tx_len, sizeLine_eq]; have := g.hi; omega
    refine ⟨_, pss_cons (ps_set (i := 1) scPairs.nd rfl (.inl rfl) (pe_lst pa_nil))
      (pss_cons (ps_for PassesOwn.never rfl (pi_range1 (by rfl) B.range (pa_cons (pe_callB call_len_str (by rfl) B.len PySem.boot_len (pa_cons (pv 0) pa_nil)) pa_nil)) (pg_name (i := 2) scPairs.nd rfl (.inl rfl))
        (pss_one (ps_for PassesOwn.never rfl (pi_range2 (by rfl) B.range (pa_cons (pe_op op_add (pv 2) pe_int) (pa_cons (pe_callB call_len_str (by rfl) B.len PySem.boot_len (pa_cons (pv 0) pa_nil)) pa_nil))) (pg_name (i := 3) scPairs.nd rfl (.inl rfl))
          (pss_one (ps_for PassesOwn.never rfl (pi_tup (pe_tup (pa_cons (pe_ix ix_str (pv 0) (pv 2) (fun _ _ => rfl)) (pa_cons (pe_upper (pe_ix ix_str (pv 0) (pv 2) (fun _ _ => rfl))) pa_nil)))) (pg_name (i := 4) scPairs.nd rfl (.inr rfl))
            (pss_one (ps_expr (pe_bm PySem.F.plainAttrs_list PySem.F.slot_list_extend PySem.F.type_list_extend mt_extend (pv 1) (pa_cons
              (pe_lc (own := [("_law_second", 5)]) (g := gName 5) (tt := tYes) rfl scPairs.nd (pi_tup (pe_tup (pa_cons (pe_ix ix_str (pv 0) (pv 3) (fun _ _ => rfl)) (pa_cons (pe_upper (pe_ix ix_str (pv 0) (pv 3) (fun _ _ => rfl))) pa_nil))))
                (blkOk_by (N := ["_law_shuts_here", "_law_found", "_law_one", "_law_two", "_law_first", "_law_second"]) (sc := defScope sPairs) (by decide +kernel)) (fun _ _ _ _ _ => pg_name (i := 5) scPairs.nd rfl (Or.inl rfl)) (fun _ _ _ _ _ => pts_nil) (fun _ _ _ _ _ => pe_op op_add_str (pv 4) (pv 5)))
              pa_nil)))))))))
      (pss_one (ps_ret (pv 1)))), ?_⟩
    refine ⟨Nat.zero_le _, fun p np => ?_⟩
    refine ⟨_, rfl, _, rfl, hz, _, rfl, by rw [tx_len]; omega, by rw [tx_len]; have := g.hi; omega, ?_⟩
    have hi12 := g.hi
    rw [show (((tx l).length : Nat) : Int).toNat = l.length by rw [tx_len]; exact Int.toNat_natCast _]
    refine for_it walk_range (fun i σ H' => ∃ y2 y3 y4 y5, σ = [some (.str (tx l)), some (.ref p), y2, y3, y4, y5] ∧ Same H H' ∧ H' p = some (.lst (((prs l i).map tx).map V.str))) ⟨_, _, _, _, rfl, same_upd np, upd_same⟩ (fun _ _ _ _ _ => trivial) ?_ ?_
    · rintro i v σ H1 H2 hi ⟨y2, y3, y4, y5, rfl, s1, e1⟩ ⟨rfl, rfl⟩
      refine ⟨_, rfl, _, _, rfl, rfl, _, rfl, _, rfl, hz, _, _, rfl, ⟨by omega, by omega, by rw [tx_len]; omega, by rw [tx_len]; omega⟩, ?_⟩
      rw [show ((((tx l).length : Nat) : Int) - (0 + (i : Int) + 1)).toNat = l.length - (i + 1) by rw [tx_len]; omega]
      have hpl := prs_len l i
      refine for_it walk_range (fun j σ H' => ∃ y3 y4 y5, σ = [some (.str (tx l)), some (.ref p), some (.int (0 + (i : Int))), y3, y4, y5] ∧ Same H H' ∧ H' p = some (.lst (((prs l i ++ prI l i j).map tx).map V.str))) ⟨_, _, _, rfl, s1, by rw [e1]; simp [prI]⟩ (fun _ _ _ _ _ => trivial) ?_ ?_
      · rintro j v σ H3 H4 hj ⟨y3, y4, y5, rfl, s3, e3⟩ ⟨rfl, rfl⟩
        have hk : i + 1 + j < l.length := by omega
        have mx : l[i] ∈ l := List.getElem_mem hi
        have my : l[i + 1 + j] ∈ l := List.getElem_mem hk
        have ax : atI (tx l).cps.toList (0 + (i : Int)) = some l[i] := by
          rw [tx_list, show (0 + (i : Int)) = ((i : Nat) : Int) by omega]
          exact atI_nat (List.getElem?_eq_getElem hi)
        have ay : atI (tx l).cps.toList (0 + (i : Int) + 1 + (j : Int)) = some l[i + 1 + j] := by
          rw [tx_list, show (0 + (i : Int) + 1 + (j : Int)) = ((i + 1 + j : Nat) : Int) by omega]
          exact atI_nat (List.getElem?_eq_getElem hk)
        generalize hX : l[i] = x at mx ax
        generalize hY : l[i + 1 + j] = y at my ay
        have ux : Txt.upper (⟨#[x]⟩ : Str) = sg (upc x) := upper_tx (l := [x]) (fun c hc => by simp at hc; rw [hc]; exact g.asc x mx)
        have uy : Txt.upper (⟨#[y]⟩ : Str) = sg (upc y) := upper_tx (l := [y]) (fun c hc => by simp at hc; rw [hc]; exact g.asc y my)
        refine ⟨_, rfl, _, rfl, _, _, x, rfl, rfl, hz, ax, _, rfl, _, rfl, _, _, x, rfl, rfl, hz, ax, ⟨_, rfl⟩, _, rfl, rfl, by show 1 ≤ 5592405; decide, by show 2 ≤ sizeLine; decide, fun T nT => ⟨T, rfl, ⟨_, SqT.of upd_same⟩, ?_⟩⟩
        rw [ux]
        have npT : p ≠ T := ne_of_none e3 nT
        refine for_it (walk_tup (K := K) (a := T) (xs := [x, upc x].map fun e => V.str (sg e))) (fun t σ H' => ∃ y4 y5, σ = [some (.str (tx l)), some (.ref p), some (.int (0 + (i : Int))), some (.int (0 + (i : Int) + 1 + (j : Int))), y4, y5] ∧ Same H H' ∧
          SqT K H' T ([x, upc x].map fun e => V.str (sg e)) ∧ H' p = some (.lst (((prs l i ++ prI l i j ++ ([x, upc x].take t).flatMap fun f => sec f y).map tx).map V.str)))
          ⟨_, _, rfl, sm_upd s3 nT, SqT.of upd_same, by rw [upd_ne npT, e3]; simp⟩ (fun t σ H' _ h => by obtain ⟨_, _, _, _, h, _⟩ := h; exact h) ?_ ?_
        · rintro t v σ H5 H6 ht ⟨y4, y5, rfl, s5, hT5, e5⟩ ⟨rfl, hv⟩
          rw [List.getElem?_map] at hv
          obtain ⟨f, hf, rfl⟩ := Option.map_eq_some_iff.mp hv
          refine ⟨_, rfl, .inl ⟨rfl, _, SqL.of e5⟩, _, rfl, _, rfl, _, _, y, rfl, rfl, hz, ay, _, rfl, _, rfl, _, _, y, rfl, rfl, hz, ay, ⟨_, rfl⟩, _, rfl, rfl, by show 1 ≤ 5592405; decide, by show 2 ≤ sizeLine; decide, fun T2 nT2 => ⟨T2, rfl, ⟨_, SqT.of upd_same⟩, fun D nD => ?_⟩⟩
          rw [uy] at nD ⊢
          have eT2 : (upd H6 T2 (.tup [.str ⟨#[y]⟩, .str (sg (upc y))])) T2 = some (.tup ([y, upc y].map fun e => V.str (sg e))) := upd_same
          have s6 : Same H6 (upd H6 T2 (.tup [.str ⟨#[y]⟩, .str (sg (upc y))])) := same_upd nT2
          generalize (upd H6 T2 (.tup [.str ⟨#[y]⟩, .str (sg (upc y))])) = H7 at nD eT2 s6 ⊢
          refine lc_it (walk_tup (K := K) (a := T2) (xs := [y, upc y].map fun e => V.str (sg e))) (fun u H' => Same H7 H' ∧ H' D = some (.lst (((([y, upc y].take u).map fun s => [f, s]).map tx).map V.str))) ⟨same_upd nD, upd_same⟩ (fun u H' _ h => SqT.of (h.1 _ _ eT2)) ?_ ?_
          · rintro u v H8 H9 hu ⟨s8, e8⟩ ⟨rfl, hv⟩
            rw [List.getElem?_map] at hv
            obtain ⟨c, hc, rfl⟩ := Option.map_eq_some_iff.mp hv
            refine ⟨rfl, yes_i ⟨_, rfl, _, rfl, _, _, rfl, rfl, by show 1 + 1 ≤ sizeLine; decide, _, e8, ?_, sm_over s8 nD, ?_⟩⟩
            · rw [List.length_map, List.length_map, List.length_map, List.length_take, sizeLine_eq]
              have hu2 : u < 2 := hu
              omega
            · rw [upd_same, List.take_add_one, hc, List.map_append, List.map_append, List.map_append, sg_tx, sg_tx, tx_app]
              rfl
          · rintro H8 ⟨s8, e8⟩
            have e58 : H8 p = _ := s8 _ _ (s6 _ _ e5)
            have hsum : (prs l i ++ prI l i j ++ ([x, upc x].take t).flatMap fun f => sec f y).length ≤ 700 := by
              rw [List.length_append, List.length_append, prI_len]
              have h2 : (([x, upc x].take t).flatMap fun f => sec f y).length ≤ 4 := by
                have ht2 : t < 2 := ht
                have : t = 0 ∨ t = 1 := by omega
                rcases this with rfl | rfl
                · simp
                · simp [sec]
              have h3 : 4 * l.length * i ≤ 4 * 12 * 12 := Nat.mul_le_mul (Nat.mul_le_mul_left _ hi12) (by omega)
              omega
            refine ⟨p, D, _, _, rfl, rfl, e58, e8, ?_, ?_⟩
            · rw [List.length_map, List.length_map, List.length_map, List.length_map, List.length_map, sizeLine_eq]
              show _ + 2 ≤ _
              omega
            · refine ⟨_, _, rfl, sm_over (sm_trans (sm_trans s5 s6) s8) np, ?_, ?_⟩
              · have hT8 := sm_t s8 (sm_t s6 hT5)
                have ntp : ∀ o, H8 T = some o → (∀ z, o ≠ .lst z) → T ≠ p := fun o ho hz2 => ne_of ho e58 (hz2 _)
                rcases hT8 with (z | ⟨o, z⟩) | z
                · exact .inl (.inl (by rw [upd_ne (ntp _ z fun q e => by cases e)]; exact z))
                · exact .inl (.inr ⟨o, by rw [upd_ne (ntp _ z fun q e => by cases e)]; exact z⟩)
                · exact .inr z
              · rw [upd_same, List.take_add_one, hf, List.flatMap_append, ← List.map_append, ← List.map_append, List.append_assoc (prs l i ++ prI l i j)]
                simp [sec]
        · rintro σ H5 ⟨y4, y5, rfl, s5, _, e5⟩
          refine ⟨_, _, _, rfl, s5, ?_⟩
          rw [e5]
          have ej : prI l i (j + 1) = prI l i j ++ pr2 x y := by
            unfold prI
            rw [List.range_succ, List.flatMap_append]
            simp only [List.flatMap_cons, List.flatMap_nil, List.append_nil]
            rw [getD_of hi, getD_of hk, hX, hY]
          rw [ej, List.append_assoc]
          rfl
      · rintro σ H3 ⟨y3, y4, y5, rfl, s3, e3⟩
        refine ⟨_, _, _, _, rfl, s3, ?_⟩
        rw [e3]
        have ei : prs l (i + 1) = prs l i ++ prI l i (l.length - (i + 1)) := by
          unfold prs
          rw [List.range_succ, List.flatMap_append]
          simp
        rw [ei]
    · rintro σ H1 ⟨y2, y3, y4, y5, rfl, s1, e1⟩
      exact ⟨_, rfl, q H1 p s1 np e1⟩
end
end NC
namespace NC
open PySem PySem.Spec PyProof.Rows L2
abbrev sOth : Stmt := topS 62
abbrev sWithin : Stmt := topS 63
abbrev sAll : Stmt := topS 65
abbrev sRooms : Stmt := topS 66
theorem scOth : FnScope ["_law_side"] ["_law_side"] (defScope sOth) := ⟨rfl, rfl, rfl, by decide +kernel, rfl, by decide +kernel, by decide +kernel⟩
theorem scWithin : FnScope ["_law_sides_here", "_law_room", "_law_side"] ["_law_sides_here", "_law_room"] (defScope sWithin) := ⟨rfl, rfl, rfl, by decide +kernel, rfl, by decide +kernel, by decide +kernel⟩
theorem scAll : FnScope ["_law_shuts_here", "_law_found", "_law_shut", "_law_longer", "_law_begun_it"] ["_law_shuts_here"] (defScope sAll) := ⟨rfl, rfl, rfl, by decide +kernel, rfl, by decide +kernel, by decide +kernel⟩
theorem scRooms : FnScope ["_law_shuts_here", "_law_bars", "_law_room", "_law_bar"] ["_law_shuts_here", "_law_bars"] (defScope sRooms) := ⟨rfl, rfl, rfl, by decide +kernel, rfl, by decide +kernel, by decide +kernel⟩
theorem isup_sg : ∀ c : Nat, c < 128 → Txt.isupper (sg c) = decide (65 ≤ c ∧ c ≤ 90) := by
  have h : ∀ c : Fin 128, Txt.isupper (sg c.val) = decide (65 ≤ c.val ∧ c.val ≤ 90) := by decide +kernel
  exact fun c hc => h ⟨c, hc⟩
section
variable {P : Program} {w : World} {K : PySem.W.Frag} {mg : Str → Option Value} {base : Heap}
def spOth : Sp := fun vs H Q _ => ∃ c, vs = [.str (sg c)] ∧ isLt c ∧ Q (.str (sg (swp c))) H
theorem ok_oth {f : Addr} {fd : FuncData} {k : Nat} (F : Fun K "_law_other" "_law_other" sOth f fd) : FnOk P w K mg base CX0 (k + 1) f fd ["_law_side"] spOth := by
  refine F.ok scOth (fun vs H Q E h => ?_) (fun cdv A outer s H vs Q E hr h => ?_)
  · obtain ⟨c, rfl, _⟩ := h
    rfl
  · obtain ⟨c, rfl, hc, q⟩ := h
    refine ⟨_, pss_one (ps_ret (pe_ifExp (pt_val (pe_m0 PySem.F.slot_str_isupper PySem.F.type_str_isupper mt_isupper (pv 0))) (pe_lower (pv 0)) (pe_upper (pv 0)))), ?_⟩
    refine ⟨_, rfl, ⟨_, rfl⟩, _, rfl, rfl, trivial, _, rfl, ?_⟩
    have a1 : ∀ e ∈ [c], e < 128 := fun e he => by rw [List.mem_singleton.mp he]; exact hc.asc
    rw [isup_sg c hc.asc]
    refine ite2 (fun t => ?_) (fun t => ?_)
    · have t := of_decide_eq_true t
      refine ⟨_, rfl, ⟨_, rfl⟩, _, rfl, rfl, by show 1 ≤ 5592405; decide, ?_⟩
      rw [show Txt.lower (sg c) = tx [lwc c] from lower_tx (l := [c]) a1, show lwc c = swp c by rw [swp_great t]; unfold lwc; rw [if_pos t]]
      exact q
    · have t : ¬ (65 ≤ c ∧ c ≤ 90) := fun z => t (decide_eq_true z)
      have h1 : 97 ≤ c ∧ c ≤ 122 := hc.elim id fun z => absurd z t
      refine ⟨_, rfl, ⟨_, rfl⟩, _, rfl, rfl, by show 1 ≤ 5592405; decide, ?_⟩
      rw [show Txt.upper (sg c) = tx [upc c] from upper_tx (l := [c]) a1, show upc c = swp c by rw [swp_small h1, upc_small h1]]
      exact q
def spWithin : Sp := fun vs H Q _ => ∃ b r, vs = [.str (tx b), .str (tx r)] ∧ b.length ≤ 100 ∧ ∀ H', Same H H' → Q (.bl (inR b r)) H'
theorem ok_within {f : Addr} {fd : FuncData} {k : Nat} (B : BM mg) (F : Fun K "_law_within" "_law_within" sWithin f fd) : FnOk P w K mg base CX0 (k + 1) f fd ["_law_sides_here", "_law_room"] spWithin := by
  refine F.ok scWithin (fun vs H Q E h => ?_) (fun cdv A outer s H vs Q E hr h => ?_)
  · obtain ⟨b, r, rfl, _⟩ := h
    rfl
  · obtain ⟨b, r, rfl, hbl, q⟩ := h
    refine ⟨_, pss_one (ps_ret (pe_callB (cr_all rfl) (by rfl) B.all (by decide +kernel) (pa_cons (pe_lc (own := [("_law_side", 2)]) (g := gName 2) (tt := tYes) rfl scWithin.nd (pi_str (pv 0))
      (blkOk_by (N := ["_law_sides_here", "_law_room", "_law_side"]) (sc := defScope sWithin) (by decide +kernel)) (fun _ _ _ _ _ => pg_name (i := 2) scWithin.nd rfl (Or.inl rfl)) (fun _ _ _ _ _ => pts_nil)
      (fun _ _ _ _ _ => pe_cmpR op_in_sign (pv 2) (pv 1) (by rfl))) pa_nil))), ?_⟩
    refine ⟨_, rfl, tx b, rfl, fun D nD => ?_⟩
    have lz : (tx b).cps.size = b.length := tx_len _
    refine lc_it walk_str (fun i H' => Same H H' ∧ H' D = some (.lst (((b.take i).map fun s => decide (s ∈ r)).map V.bl))) ⟨same_upd nD, upd_same⟩ (fun _ _ _ _ => trivial) ?_ ?_
    · rintro i x H1 H2 hi ⟨s1, e1⟩ ⟨rfl, c, hc, rfl⟩
      have hcl : b[i]? = some c := by
        rw [← Array.getElem?_toList, tx_list] at hc
        exact hc
      refine ⟨rfl, yes_i ⟨_, rfl, _, rfl, c, tx r, rfl, rfl, ?_⟩⟩
      rw [tx_list]
      refine ⟨_, e1, ?_, sm_over s1 nD, ?_⟩
      · rw [List.length_map, List.length_map, List.length_take, sizeLine_eq]
        omega
      · rw [upd_same, List.take_add_one, hcl, List.map_append, List.map_append]
        rfl
    · rintro H1 ⟨s1, e1⟩
      rw [lz, List.take_length] at e1
      refine ⟨_, _, rfl, SqL.of e1, ?_⟩
      rw [show (b.map fun s => decide (s ∈ r)).all id = inR b r by unfold inR; rw [List.all_map]; rfl]
      exact q _ s1
def spAll : Sp := fun vs H Q _ => ∃ l, vs = [.str (tx l)] ∧ GoodW l ∧ ∀ H' p, Same H H' → H p = none → H' p = some (.lst (((allT l l.length).map tx).map V.str)) → Q (.ref p) H'
theorem allT_lens (l : List Nat) : ∀ k r, r ∈ allT l k → r.length = k
  | 0, r, h => by rw [List.mem_singleton.mp h]; rfl
  | k + 1, r, h => by
    obtain ⟨q, hq, hr⟩ := List.mem_flatMap.mp h
    have := allT_lens l k q hq
    simp only [List.mem_cons, List.not_mem_nil, or_false] at hr
    rcases hr with rfl | rfl <;> simp [this]
theorem pow12 {k : Nat} (h : k ≤ 12) : 2 ^ k ≤ 4096 := Nat.le_trans (Nat.pow_le_pow_right (by decide) h) (by decide)
set_option maxHeartbeats 1000000 in
theorem ok_all {f : Addr} {fd : FuncData} {k : Nat} (F : Fun K "_law_all" "_law_all" sAll f fd) : FnOk P w K mg base CX0 (k + 1) f fd ["_law_shuts_here"] spAll := by
  refine F.ok scAll (fun vs H Q E h => ?_) (fun cdv A outer s H vs Q E hr h => ?_)
  · obtain ⟨l, rfl, _⟩ := h
    rfl
  · obtain ⟨l, rfl, g, q⟩ := h
    have nd := scAll.nd
    have hl12 := g.hi
    refine ⟨_, pss_cons (ps_set (i := 1) nd rfl (.inl rfl) (pe_lst (pa_cons pe_str pa_nil)))
      (pss_cons (ps_for PassesOwn.never rfl (pi_str (pv 0)) (pg_name (i := 2) nd rfl (.inl rfl))
        (pss_cons (ps_set (i := 3) nd rfl (.inl rfl) (pe_lst pa_nil))
        (pss_cons (ps_for PassesOwn.never rfl (pi_list (pv 1)) (pg_name (i := 4) nd rfl (.inl rfl))
          (pss_one (ps_expr (pe_bm PySem.F.plainAttrs_list PySem.F.slot_list_extend PySem.F.type_list_extend mt_extend (pv 3) (pa_cons (pe_lst (pa_cons (pe_op op_add_str (pv 4) (pe_upper (pv 2))) (pa_cons (pe_op op_add_str (pv 4) (pv 2)) pa_nil))) pa_nil)))))
        (pss_one (ps_set (i := 1) nd rfl (.inl rfl) (pv 3))))))
      (pss_one (ps_ret (pv 1)))), ?_⟩
    refine ⟨by show 1 ≤ sizeLine; decide, fun p0 np0 => ?_⟩
    have lz : (tx l).cps.size = l.length := tx_len _
    refine ⟨_, rfl, tx l, rfl, ?_⟩
    refine for_it walk_str (fun i σ H' => ∃ (p : Addr) (y2 y3 y4 : Option V), σ = [some (.str (tx l)), some (.ref p), y2, y3, y4] ∧ Same H H' ∧ H p = none ∧ H' p = some (.lst (((allT l i).map tx).map V.str)))
      ⟨p0, _, _, _, rfl, same_upd np0, np0, by rw [upd_same, str0]; rfl⟩ (fun _ _ _ _ _ => trivial) ?_ ?_
    · rintro i x σ H1 H2 hi ⟨p, y2, y3, y4, rfl, s1, np, e1⟩ ⟨rfl, c, hc, rfl⟩
      rw [lz] at hi
      have hcl : l[i]? = some c := by
        rw [← Array.getElem?_toList, tx_list] at hc
        exact hc
      have hca : c < 128 := g.asc c (List.mem_of_getElem? hcl)
      have ecg : l.getD i 0 = c := by rw [List.getD_eq_getElem?_getD, hcl]; rfl
      have uc : Txt.upper (⟨#[c]⟩ : Str) = sg (upc c) := upper_tx (l := [c]) (fun e he => by rw [List.mem_singleton.mp he]; exact hca)
      refine ⟨Nat.zero_le _, fun L nL => ?_⟩
      have npL : p ≠ L := ne_of_none e1 nL
      have nLH : H L = none := L2.Same.free s1 nL
      have wk := walk_list (K := K) (a := p) (xs := ((allT l i).map tx).map V.str)
      rw [List.length_map, List.length_map] at wk
      have tl := allT_len l i
      have tp := pow12 (Nat.le_trans (Nat.le_of_lt hi) hl12)
      refine ⟨_, rfl, p, rfl, ⟨_, SqL.of (by rw [upd_ne npL]; exact e1)⟩, ?_⟩
      refine for_it wk (fun j σ H' => ∃ (y4 : Option V), σ = [some (.str (tx l)), some (.ref p), some (.str ⟨#[c]⟩), some (.ref L), y4] ∧ Same H H' ∧ H' p = some (.lst (((allT l i).map tx).map V.str)) ∧
        H' L = some (.lst (((((allT l i).take j).flatMap fun r => [r ++ [upc c], r ++ [c]]).map tx).map V.str))) ⟨_, rfl, sm_upd s1 nL, by rw [upd_ne npL]; exact e1, upd_same⟩ (fun j σ H' _ h => by obtain ⟨_, _, _, h, _⟩ := h; exact SqL.of h) ?_ ?_
      · rintro j x σ H3 H4 hj ⟨y4, rfl, s3, e3, eL⟩ ⟨rfl, hx⟩
        rw [List.getElem?_map, List.getElem?_map] at hx
        obtain ⟨z, hz, rfl⟩ := Option.map_eq_some_iff.mp hx
        obtain ⟨r, hr2, rfl⟩ := Option.map_eq_some_iff.mp hz
        have rl := allT_lens l i r (List.mem_of_getElem? hr2)
        have bnd : (tx r).length + 1 ≤ sizeLine := by rw [tx_len, sizeLine_eq]; omega
        have fl : (((allT l i).take j).flatMap fun r => [r ++ [upc c], r ++ [c]]).length ≤ 2 * 4096 := by
          have h : ∀ xs : List (List Nat), (xs.flatMap fun r => [r ++ [upc c], r ++ [c]]).length = 2 * xs.length := fun xs => by
            induction xs with
            | nil => rfl
            | cons x r ih =>
              have e : (x :: r).length = r.length + 1 := rfl
              rw [List.flatMap_cons, List.length_append, ih, e]
              show 2 + 2 * r.length = _
              omega
          rw [h, List.length_take]
          omega
        refine ⟨_, rfl, .inl ⟨rfl, _, SqL.of eL⟩, _, rfl, _, rfl, ⟨_, rfl⟩, _, rfl, rfl, by show 1 ≤ 5592405; decide, ?_⟩
        rw [uc]
        refine ⟨_, _, rfl, rfl, bnd, _, rfl, _, rfl, _, _, rfl, rfl, bnd, by show 2 ≤ sizeLine; decide, fun T nT => ?_⟩
        have nLT : L ≠ T := ne_of_none eL nT
        refine ⟨L, T, _, _, rfl, rfl, by rw [upd_ne nLT]; exact eL, upd_same, by rw [List.length_map, List.length_map, sizeLine_eq]; show _ + 2 ≤ _; omega, ?_⟩
        have npT : p ≠ T := ne_of_none e3 nT
        refine ⟨_, rfl, sm_over (sm_upd s3 nT) nLH, by rw [upd_ne npL, upd_ne npT]; exact e3, ?_⟩
        rw [upd_same, List.take_add_one, hr2, List.flatMap_append, List.map_append, List.map_append]
        show some (HO.lst (_ ++ [V.str (tx r ++ sg (upc c)), V.str (tx r ++ sg c)])) = some (HO.lst (_ ++ _))
        rw [sg_tx, sg_tx, tx_app, tx_app]
        simp
      · rintro σ H3 ⟨y4, rfl, s3, e3, eL⟩
        rw [List.take_length] at eL
        refine ⟨_, rfl, L, _, _, _, rfl, s3, nLH, ?_⟩
        rw [eL]
        show _ = some (HO.lst ((((allT l i).flatMap fun r => [r ++ [upc (l.getD i 0)], r ++ [l.getD i 0]]).map tx).map V.str))
        rw [ecg]
    · rintro σ H1 ⟨p, y2, y3, y4, rfl, s1, np, e1⟩
      rw [lz] at e1
      exact ⟨_, rfl, q H1 p s1 np e1⟩
end
end NC
namespace NC
open PySem PySem.Spec PyProof.Rows L2
section
variable {P : Program} {w : World} {K : PySem.W.Frag} {mg : Str → Option Value} {base : Heap}
def scpR : Scope := { kind := .function, names := [(".0", .local), ("_law_room", .cell), ("any", .globalImplicit), ("_law_bars", .cell)], isGenerator := false, isCoroutine := false }
def tInR (K : PySem.W.Frag) : TE := tCB (rAny K) (tCons (tLc (iList K (tVar 1)) (gName 3) tYes (tCall spWithin [] E0 (tCons (tVar 3) (tCons (tVar 2) tNil))) [3]) tNil)
def spRooms (K : PySem.W.Frag) : Sp := fun vs H Q _ => ∃ l a bs, vs = [.str (tx l), .ref a] ∧ GoodW l ∧ SqL K H a ((bs.map tx).map V.str) ∧ (∀ b ∈ bs, b.length ≤ 100) ∧ bs.length ≤ 100 ∧ ∀ H' p, Same H H' → H p = none → H' p = some (.lst (((rms l bs).map tx).map V.str)) → Q (.ref p) H'
set_option maxHeartbeats 1000000 in
theorem ok_rooms {f fA fW : Addr} {fd fdA fdW : FuncData} {k : Nat} (B : BM mg) (hany : mg "any" = none) (F : Fun K "_law_rooms" "_law_rooms" sRooms f fd) (Al : DF K mg "_law_all" sAll ["_law_shuts_here"] fA fdA) (W : DF K mg "_law_within" sWithin ["_law_sides_here", "_law_room"] fW fdW) :
    FnOk P w K mg base CX0 (k + 2) f fd ["_law_shuts_here", "_law_bars"] (spRooms K) := by
  have GA : FnOk P w K mg base CX0 (k + 1) fA fdA ["_law_shuts_here"] spAll := ok_all Al.F
  have GW : FnOk P w K mg base CX0 (k + 1) fW fdW ["_law_sides_here", "_law_room"] spWithin := ok_within B W.F
  refine F.ok scRooms (fun vs H Q E h => ?_) (fun cdv A outer s H vs Q E hr h => ?_)
  · obtain ⟨l, a, bs, rfl, _⟩ := h
    rfl
  · obtain ⟨l, a, bs, rfl, g, hS, hbl, hbn, q⟩ := h
    have nd := scRooms.nd
    refine ⟨_, pss_one (ps_ret (pe_lc (own := [("_law_room", 2)]) (g := gName 2) (tt := tNot (tB (tInR K))) rfl nd (pi_list (pe_call GA hr rfl Al.g Al.F.kp Al.b .nil pass0 (pa_cons (pv 0) pa_nil)))
      (blkOk_by (N := ["_law_shuts_here", "_law_bars", "_law_room", "_law_bar"]) (sc := defScope sRooms) (by decide +kernel)) (fun _ _ _ _ _ => pg_name (i := 2) nd rfl (Or.inr rfl))
      (fun _ _ _ _ _ => pts_one (pt_not (pt_val (pe_callB (cr_any rfl) (by rfl) hany (by decide +kernel) (pa_cons (pe_lc (own := [("_law_bar", 3)]) (g := gName 3) (tt := tYes) (te := tCall spWithin [] E0 (tCons (tVar 3) (tCons (tVar 2) tNil))) rfl nd (pi_list (pv 1))
        (blkOk_by (N := ["_law_shuts_here", "_law_bars", "_law_room", "_law_bar"]) (sc := scpR) (by decide +kernel)) (fun _ _ _ _ _ => pg_name (i := 3) nd rfl (Or.inl rfl)) (fun _ _ _ _ _ => pts_nil)
        (fun _ _ _ _ _ => pe_call GW hr rfl W.g W.F.kp W.b .nil pass0 (pa_cons (pv 3) (pa_cons (pv 2) pa_nil)))) pa_nil))))) (fun _ _ _ _ _ => pv 2))), ?_⟩
    refine ⟨_, rfl, l, rfl, g, fun H1 pA s1 npA eA => ⟨pA, rfl, ⟨_, SqL.of eA⟩, fun D nD => ?_⟩⟩
    have nDH : H D = none := L2.Same.free s1 nD
    have wk := walk_list (K := K) (a := pA) (xs := ((allT l l.length).map tx).map V.str)
    rw [List.length_map, List.length_map] at wk
    have tl := allT_len l l.length
    have tp := pow12 g.hi
    refine lc_it wk (fun j H' => Same H1 H' ∧ H' D = some (.lst (((((allT l l.length).take j).filter fun r => !bs.any fun b => inR b r).map tx).map V.str))) ⟨same_upd nD, upd_same⟩ (fun j H' _ h => SqL.of (h.1 _ _ eA)) ?_ ?_
    · rintro j x G2 G3 hj ⟨u2, e2⟩ ⟨rfl, hx⟩
      rw [List.getElem?_map, List.getElem?_map] at hx
      obtain ⟨z, hz, rfl⟩ := Option.map_eq_some_iff.mp hx
      obtain ⟨r, hr2, rfl⟩ := Option.map_eq_some_iff.mp hz
      have tk : (allT l l.length).take (j + 1) = (allT l l.length).take j ++ [r] := by rw [List.take_add_one, hr2]; rfl
      have hS3 := sm_l (sm_trans s1 u2) hS
      have wkb := walk_list (K := K) (a := a) (xs := (bs.map tx).map V.str)
      rw [List.length_map, List.length_map] at wkb
      refine ⟨rfl, _, rfl, a, rfl, ⟨_, hS3⟩, fun Da na => ?_⟩
      refine lc_it wkb (fun u H' => Same G3 H' ∧ H' Da = some (.lst (((bs.take u).map fun b => inR b r).map V.bl))) ⟨same_upd na, upd_same⟩ (fun u H' _ h => sm_l h.1 hS3) ?_ ?_
      · rintro u x G5 G6 hu ⟨u5, ea⟩ ⟨rfl, hx⟩
        rw [List.getElem?_map, List.getElem?_map] at hx
        obtain ⟨z, hz, rfl⟩ := Option.map_eq_some_iff.mp hx
        obtain ⟨b, hb1, rfl⟩ := Option.map_eq_some_iff.mp hz
        refine ⟨rfl, yes_i ⟨_, rfl, _, rfl, b, r, rfl, hbl b (List.mem_of_getElem? hb1), fun G7 u7 => ⟨_, u7 _ _ ea, ?_, sm_over (sm_trans u5 u7) na, ?_⟩⟩⟩
        · rw [List.length_map, List.length_map, List.length_take, sizeLine_eq]
          omega
        · rw [upd_same, List.take_add_one, hb1, List.map_append, List.map_append]
          rfl
      · rintro G5 ⟨u5, ea⟩
        rw [List.take_length] at ea
        refine ⟨Da, _, rfl, SqL.of ea, _, rfl, ?_⟩
        rw [show (bs.map fun b => inR b r).any id = bs.any fun b => inR b r by rw [List.any_map]; rfl]
        refine ite2 (fun t => ⟨_, rfl, _, u5 _ _ e2, ?_, sm_over (sm_trans u2 u5) nD, ?_⟩) (fun t => ⟨sm_trans u2 u5, ?_⟩)
        · rw [List.length_map, List.length_map, sizeLine_eq]
          have h1 : (((allT l l.length).take j).filter fun r => !bs.any fun b => inR b r).length ≤ 4096 := Nat.le_trans (List.length_filter_le _ _) (by rw [List.length_take]; omega)
          omega
        · rw [upd_same, tk, List.filter_append, List.filter_cons, if_pos t]
          simp
        · rw [u5 _ _ e2, tk, List.filter_append, List.filter_cons, if_neg t]
          simp
    · rintro G2 ⟨u2, e2⟩
      rw [List.take_length] at e2
      exact q G2 D (sm_trans s1 u2) nDH e2
end
end NC
namespace NC
open PySem PySem.Spec PyProof.Rows L2
open Classical in
noncomputable def foC (l : List Nat) (bs : List (List Nat)) (s : Nat) : List Nat := (sds l).filter fun t => decide (Frc (adjOf bs) s t)
open Classical in
theorem foC_mem {l : List Nat} (g : GoodW l) {bs : List (List Nat)} (hb : ∀ b ∈ bs, isBar l b = true) : ∀ s ∈ sds l, ∀ t, t ∈ foC l bs s ↔ Frc (adjOf bs) s t := fun s hs t => by
  unfold foC
  rw [List.mem_filter]
  exact ⟨fun h => of_decide_eq_true h.2, fun h => ⟨Frc.mem g hb hs h, decide_eq_true h⟩⟩
/-- the hall is let by -/
def Okv (l : List Nat) (bs : List (List Nat)) : Prop := ∀ fo : Nat → List Nat, (∀ s ∈ sds l, ∀ t, t ∈ fo s ↔ Frc (adjOf bs) s t) → vdOf (sds l) (fxP fo) (alP fo) = .ok
theorem vd_ok {L : List Nat} {fx : Nat → Bool} {al : Nat → Nat → Bool} (h1 : ∀ s ∈ L, fx s = false) (h2 : ∀ s ∈ L, ∀ t ∈ L, al s t = false) : vdOf L fx al = .ok := by
  unfold vdOf
  rw [List.find?_eq_none.mpr fun s hs => by rw [h1 s hs]; decide]
  have e : (L.findSome? fun s => (L.find? (al s)).map fun t => (s, t)) = none := List.findSome?_eq_none_iff.mpr fun s hs => by
    rw [List.find?_eq_none.mpr fun t ht => by rw [h2 s hs t ht]; decide]
    rfl
  rw [e]
theorem okv_nil {l : List Nat} (g : GoodW l) : Okv l [] := fun fo hf => by
  have one : ∀ {s t : Nat}, Frc (adjOf []) s t → t = s := fun {s t} h => h.ind (p := fun x => x = s) rfl fun a b _ k => absurd k (by simp [adjOf])
  refine vd_ok (fun s hs => ?_) (fun s hs t ht => ?_)
  · refine decide_eq_false fun z => ?_
    have e := one ((hf s hs _).mp z)
    rcases sds_lt g hs with q | q
    · rw [swp_small q] at e
      omega
    · rw [swp_great q] at e
      omega
  · unfold alP
    by_cases h : t ∈ fo s
    · have e := one ((hf s hs t).mp h)
      simp [e]
    · simp [h]
structure Fine (l : List Nat) (rs : List (List Nat)) : Prop where
  has : ∀ c ∈ l, (∃ r ∈ rs, c ∈ r) ∧ ∃ r ∈ rs, c ∉ r
  apart : ∀ x y, isBar l [x, y] = true → ∃ r ∈ rs, inR [x, y] r = true ∨ inR [swp x, swp y] r = true
theorem Fine.ok {l : List Nat} (g : GoodW l) {bs : List (List Nat)} (hb : ∀ b ∈ bs, isBar l b = true) (F : Fine l (rms l bs)) : Okv l bs := fun fo hf => by
  have mr := rms_mem g hb
  rw [vd_same g hb hf (foC_mem g hb)]
  have ne : rms l bs ≠ [] := fun z => by
    obtain ⟨c, hc⟩ : ∃ c, c ∈ l := by
      have := g.lo
      cases l with
      | nil => exact absurd this (by decide)
      | cons c r => exact ⟨c, List.mem_cons_self ..⟩
    obtain ⟨⟨r, hr, _⟩, _⟩ := F.has c hc
    rw [z] at hr
    cases hr
  have other : ∀ {s : Nat} {r : List Nat}, s ∈ sds l → r ∈ rms l bs → (s ∉ r ↔ swp s ∈ r) := fun {s r} hs hr => by
    obtain ⟨p, rfl, _⟩ := (mr r).mp hr
    rw [rm_mem g hs, rm_mem g (sds_swp g hs), val_swp (sds_lt g hs)]
    cases val p s <;> simp
  refine vd_ok (fun s hs => ?_) (fun s hs t ht => ?_)
  · unfold fxL
    rw [if_neg ne]
    have : ∃ r ∈ rms l bs, s ∈ r := by
      rcases sds_shape g hs with z | z
      · exact (F.has s z.2.2).1
      · obtain ⟨_, r, hr, hn⟩ := F.has (s + 32) z.2.2
        refine ⟨r, hr, ?_⟩
        have := (other (sds_of_small z.2.2) hr).mp hn
        rw [swp_small (by omega), show s + 32 - 32 = s by omega] at this
        exact this
    obtain ⟨r, hr, hsr⟩ := this
    rw [show ((rms l bs).any fun r => decide (s ∈ r)) = true from List.any_eq_true.mpr ⟨r, hr, decide_eq_true hsr⟩]
    rfl
  · unfold alL
    by_cases e : lwc s = lwc t
    · rw [e]; simp
    · have main : ∃ r ∈ rms l bs, (s ∈ r ∧ t ∉ r) ∨ (s ∉ r ∧ t ∈ r) := by
        have hst := sds_swp g ht
        have lt2 : lwc (swp t) = lwc t := by
          rcases sds_lt g ht with q | q
          · rw [swp_small q]
            unfold lwc
            rw [if_pos (by omega), if_neg (by omega)]
            omega
          · rw [swp_great q]
            unfold lwc
            rw [if_neg (by omega), if_pos q]
        have fin : ∀ r ∈ rms l bs, (s ∈ r ∧ swp t ∈ r) ∨ (swp s ∈ r ∧ t ∈ r) → (s ∈ r ∧ t ∉ r) ∨ (s ∉ r ∧ t ∈ r) := fun r hr h => h.imp (fun z => ⟨z.1, (other ht hr).mpr z.2⟩) (fun z => ⟨(other hs hr).mpr z.1, z.2⟩)
        have bar : ∀ {x y : Nat}, x ∈ sds l → y ∈ sds l → lwc x < lwc y → isBar l [x, y] = true := fun {x y} hx hy h => by
          show (decide (x ∈ sds l) && (decide (y ∈ sds l) && decide (lwc x < lwc y))) = true
          rw [decide_eq_true hx, decide_eq_true hy, decide_eq_true h]
          rfl
        rcases Nat.lt_or_ge (lwc s) (lwc t) with h | h
        · obtain ⟨r, hr, z⟩ := F.apart s (swp t) (bar hs hst (by rw [lt2]; exact h))
          refine ⟨r, hr, fin r hr (z.imp (fun z => ?_) (fun z => ?_))⟩
          · simp [inR] at z
            exact z
          · rw [swp_swp (sds_lt g ht)] at z
            simp [inR] at z
            exact z
        · obtain ⟨r, hr, z⟩ := F.apart (swp t) s (bar hst hs (by rw [lt2]; omega))
          refine ⟨r, hr, fin r hr (z.imp (fun z => ?_) (fun z => ?_))⟩
          · simp [inR] at z
            exact ⟨z.2, z.1⟩
          · rw [swp_swp (sds_lt g ht)] at z
            simp [inR] at z
            exact ⟨z.2, z.1⟩
      obtain ⟨r, hr, z⟩ := main
      have : (rms l bs).all (fun r => decide (decide (s ∈ r) = decide (t ∈ r))) = false := by
        rw [List.all_eq_false]
        refine ⟨r, hr, ?_⟩
        rcases z with ⟨a, b⟩ | ⟨a, b⟩
        · simp [a, b]
        · simp [a, b]
      rw [this]
      simp
/-- may s stand behind what is begun -/
def goes (fo : Nat → List Nat) (s : Nat) (r : List Nat) : Bool := !r.any fun h => decide (swp h ∈ fo s)
def okP (fo : Nat → List Nat) : List Nat → List Nat → Bool
  | _, [] => true
  | a, s :: r => goes fo s a && okP fo (a ++ [s]) r
def prT (l : List Nat) (fo : Nat → List Nat) : Nat → List (List Nat)
  | 0 => [[]]
  | k + 1 => (prT l fo k).flatMap fun r => ([upc (l.getD k 0), l.getD k 0].filter fun s => goes fo s r).map fun s => r ++ [s]
def okR (fo : Nat → List Nat) (r : List Nat) : Bool := okP fo [] r
theorem okP_snoc (fo : Nat → List Nat) : ∀ (a r : List Nat) (s : Nat), okP fo a (r ++ [s]) = (okP fo a r && goes fo s (a ++ r))
  | a, [], s => by
    show (goes fo s a && true) = (true && goes fo s (a ++ []))
    rw [List.append_nil, Bool.and_true, Bool.true_and]
  | a, x :: r, s => by
    show (goes fo x a && okP fo (a ++ [x]) (r ++ [s])) = (goes fo x a && okP fo (a ++ [x]) r && goes fo s (a ++ x :: r))
    rw [okP_snoc fo (a ++ [x]) r s, Bool.and_assoc, List.append_assoc]
    rfl
theorem okR_snoc (fo : Nat → List Nat) (r : List Nat) (s : Nat) : okR fo (r ++ [s]) = (okR fo r && goes fo s r) := okP_snoc fo [] r s
theorem prT_eq (l : List Nat) (fo : Nat → List Nat) : ∀ k, prT l fo k = (allT l k).filter (okR fo)
  | 0 => rfl
  | k + 1 => by
    show (prT l fo k).flatMap _ = ((allT l k).flatMap _).filter _
    rw [prT_eq l fo k, List.filter_flatMap]
    generalize l.getD k 0 = c
    generalize allT l k = A
    induction A with
    | nil => rfl
    | cons r t ih =>
      rw [List.flatMap_cons, List.filter_cons]
      have e : [r ++ [upc c], r ++ [c]].filter (okR fo) = if okR fo r = true then (([upc c, c].filter fun s => goes fo s r).map fun s => r ++ [s]) else [] := by
        by_cases h : okR fo r = true
        · rw [if_pos h]
          simp only [List.filter_cons, List.filter_nil, okR_snoc, h, Bool.true_and]
          by_cases h1 : goes fo (upc c) r = true <;> by_cases h2 : goes fo c r = true <;> simp [h1, h2]
        · have h' : okR fo r = false := by simpa using h
          rw [if_neg h]
          simp only [List.filter_cons, List.filter_nil, okR_snoc, h', Bool.false_and]
          rfl
      rw [e]
      by_cases h : okR fo r = true
      · rw [if_pos h, if_pos h, List.flatMap_cons, ih]
      · rw [if_neg h, if_neg h, ih]
        rfl
theorem okP_iff (fo : Nat → List Nat) : ∀ (r a : List Nat), okP fo a r = true ↔ ∀ i s, r[i]? = some s → ∀ h, (h ∈ a ∨ h ∈ r.take i) → swp h ∉ fo s
  | [], a => by
    constructor
    · intro _ i s hi
      simp at hi
    · intro _
      rfl
  | x :: r, a => by
    show (goes fo x a && okP fo (a ++ [x]) r) = true ↔ _
    rw [Bool.and_eq_true, okP_iff fo r (a ++ [x])]
    have hg : goes fo x a = true ↔ ∀ h ∈ a, swp h ∉ fo x := by
      unfold goes
      rw [Bool.not_eq_true', List.any_eq_false]
      constructor
      · exact fun z h hh k => z h hh (decide_eq_true k)
      · exact fun z h hh k => z h hh (of_decide_eq_true k)
    rw [hg]
    constructor
    · rintro ⟨h1, h2⟩ i s hi h hh
      cases i with
      | zero =>
        cases hi
        rcases hh with q | q
        · exact h1 h q
        · simp at q
      | succ i =>
        refine h2 i s hi h ?_
        rcases hh with q | q
        · exact .inl (List.mem_append_left _ q)
        · rw [List.take_succ_cons] at q
          rcases List.mem_cons.mp q with e | e
          · exact .inl (by rw [e]; simp)
          · exact .inr e
    · intro H
      refine ⟨fun h hh => H 0 x rfl h (.inl hh), fun i s hi h hh => H (i + 1) s hi h ?_⟩
      rw [List.take_succ_cons]
      rcases hh with q | q
      · rcases List.mem_append.mp q with e | e
        · exact .inl e
        · exact .inr (by rw [List.mem_singleton.mp e]; simp)
      · exact .inr (List.mem_cons_of_mem _ q)
/-- the program's rooms are the law's -/
theorem prT_rms {l : List Nat} (g : GoodW l) {bs : List (List Nat)} (hb : ∀ b ∈ bs, isBar l b = true) {fo : Nat → List Nat} (hf : ∀ s ∈ sds l, ∀ t, t ∈ fo s ↔ Frc (adjOf bs) s t) : prT l fo l.length = rms l bs := by
  rw [prT_eq]
  unfold rms
  refine List.filter_congr fun r hr => ?_
  obtain ⟨p, rfl⟩ := (allT_mem g.nd (Nat.le_refl _) r).mp hr
  rw [List.take_length]
  have key : (!bs.any fun b => inR b (rmOf l p)) = true ↔ Sat bs p := by
    constructor
    · intro h
      obtain ⟨p', e, hs⟩ := (rms_mem g hb (rmOf l p)).mp (List.mem_filter.mpr ⟨(allT_mem g.nd (Nat.le_refl _) _).mpr ⟨p, by rw [List.take_length]⟩, h⟩)
      intro x y hxy
      rintro ⟨vx, vy⟩
      obtain ⟨x', y', e2, hx, hy, _⟩ := bar_two (hb _ hxy)
      obtain ⟨rfl, rfl⟩ : x = x' ∧ y = y' := by simpa using e2
      have a := (rm_mem g hx).mpr vx
      have b := (rm_mem g hy).mpr vy
      rw [e] at a b
      exact hs x y hxy ⟨(rm_mem g hx).mp a, (rm_mem g hy).mp b⟩
    · intro h
      exact (List.mem_filter.mp ((rms_mem g hb (rmOf l p)).mpr ⟨p, rfl, h⟩)).2
  rw [Bool.eq_iff_iff, key]
  unfold okR
  rw [okP_iff]
  have rl : (rmOf l p).length = l.length := by unfold rmOf; rw [List.length_map]
  have at_ : ∀ {i s : Nat}, (rmOf l p)[i]? = some s → ∃ hi : i < l.length, lwc s = l[i] ∧ s ∈ sds l := fun {i s} h => by
    have hm := List.mem_of_getElem? h
    have hs := rm_asc g hm
    obtain ⟨hi, _⟩ := List.getElem?_eq_some_iff.mp h
    rw [rl] at hi
    refine ⟨hi, ?_, hs⟩
    unfold rmOf at h
    rw [List.getElem?_map, List.getElem?_eq_getElem hi] at h
    have e : (if p l[i] then l[i] else upc l[i]) = s := Option.some.inj h
    have h1 := g.sm l[i] (List.getElem_mem hi)
    rw [← e]
    by_cases hp : p l[i] = true
    · rw [if_pos hp]
      unfold lwc
      rw [if_neg (by omega)]
    · rw [if_neg hp, upc_small h1]
      unfold lwc
      rw [if_pos (by omega)]
      omega
  constructor
  · intro H x y hxy
    rintro ⟨vx, vy⟩
    obtain ⟨x', y', e2, hx, hy, hlt⟩ := bar_two (hb _ hxy)
    obtain ⟨rfl, rfl⟩ : x = x' ∧ y = y' := by simpa using e2
    obtain ⟨i, hi, ei⟩ := List.getElem_of_mem ((rm_mem g hx).mpr vx)
    obtain ⟨j, hj, ej⟩ := List.getElem_of_mem ((rm_mem g hy).mpr vy)
    have gi : (rmOf l p)[i]? = some x := by rw [List.getElem?_eq_getElem hi, ei]
    have gj : (rmOf l p)[j]? = some y := by rw [List.getElem?_eq_getElem hj, ej]
    obtain ⟨hi2, wi, _⟩ := at_ gi
    obtain ⟨hj2, wj, _⟩ := at_ gj
    have hij : i < j := by
      rcases Nat.lt_trichotomy i j with z | z | z
      · exact z
      · subst z
        rw [wi, wj] at hlt
        omega
      · have := List.pairwise_iff_getElem.mp g.rise j i hj2 hi2 z
        rw [wi, wj] at hlt
        omega
    have hxt : x ∈ (rmOf l p).take j := List.mem_of_getElem? (i := i) (by rw [List.getElem?_take_of_lt hij]; exact gi)
    have ky : swp x ∈ adjOf bs y := (adj_iff g hb (sds_lt g (sds_swp g hx))).mpr (by rw [swp_swp (sds_lt g hx)]; exact .inr hxy)
    exact H j y gj x (.inr hxt) ((hf y hy _).mpr (Frc.refl.step ky))
  · intro hS i s hi h hh k
    rcases hh with q | q
    · cases q
    · obtain ⟨_, _, hs⟩ := at_ hi
      have hm : h ∈ rmOf l p := List.mem_of_mem_take q
      have hhs := rm_asc g hm
      have v1 := (rm_mem g hs).mp (List.mem_of_getElem? hi)
      have v2 := hS.frc g hb v1 ((hf s hs _).mp k)
      rw [val_swp (sds_lt g hhs), (rm_mem g hhs).mp hm] at v2
      cases v2
end NC
namespace NC
open PySem PySem.Spec PyProof.Rows L2
abbrev sFine : Stmt := topS 67
abbrev nFine : List Str := ["_law_shuts_here", "_law_rooms_here", "_law_shut", "_law_there", "_law_pair", "_law_back", "_law_room"]
theorem scFine : FnScope nFine ["_law_shuts_here", "_law_rooms_here"] (defScope sFine) := ⟨rfl, rfl, rfl, by decide +kernel, rfl, by decide +kernel, by decide +kernel⟩
theorem inV_bl (b : Bool) (xs : List Bool) : inV (.bl b) (xs.map V.bl) = decide (b ∈ xs) := by
  unfold inV
  rw [List.any_map, Bool.eq_iff_iff, List.any_eq_true, decide_eq_true_eq]
  constructor
  · rintro ⟨x, hx, e⟩
    have e : (x == b) = true := e
    rw [← eq_of_beq e]
    exact hx
  · intro h
    exact ⟨b, h, by show (b == b) = true; simp⟩
theorem flat_bl (xs : List Bool) : (xs.map V.bl).all flatV = true := by
  rw [List.all_map]
  exact List.all_eq_true.mpr fun _ _ => rfl
theorem rms_len {l : List Nat} (g : GoodW l) {bs : List (List Nat)} : (rms l bs).length ≤ 4096 := by
  unfold rms
  refine Nat.le_trans (List.length_filter_le _ _) ?_
  rw [allT_len]
  exact pow12 g.hi
section
variable {P : Program} {w : World} {K : PySem.W.Frag} {mg : Str → Option Value} {base : Heap}
def tWith (i j : Nat) : TE := tCall spWithin [] E0 (tCons (tVar i) (tCons (tVar j) tNil))
def spFine (K : PySem.W.Frag) : Sp := fun vs H Q _ => ∃ l a rs, vs = [.str (tx l), .ref a] ∧ GoodW l ∧ SqL K H a ((rs.map tx).map V.str) ∧ rs.length ≤ 4096 ∧ ∀ H' b, Same H H' → (b = true → Fine l rs) → Q (.bl b) H'
set_option maxHeartbeats 2000000 in
theorem ok_fine {f fP fO fW : Addr} {fd fdP fdO fdW : FuncData} {k : Nat} (B : BM mg) (hany : mg "any" = none) (F : Fun K "_law_fine" "_law_fine" sFine f fd) (Pr : DF K mg "_law_pairs" sPairs ["_law_shuts_here"] fP fdP) (O : DF K mg "_law_other" sOth ["_law_side"] fO fdO) (W : DF K mg "_law_within" sWithin ["_law_sides_here", "_law_room"] fW fdW) :
    FnOk P w K mg base CX0 (k + 2) f fd ["_law_shuts_here", "_law_rooms_here"] (spFine K) := by
  have GP : FnOk P w K mg base CX0 (k + 1) fP fdP ["_law_shuts_here"] spPairs := ok_pairs B Pr.F
  have GO : FnOk P w K mg base CX0 (k + 1) fO fdO ["_law_side"] spOth := ok_oth O.F
  have GW : FnOk P w K mg base CX0 (k + 1) fW fdW ["_law_sides_here", "_law_room"] spWithin := ok_within B W.F
  refine F.ok scFine (fun vs H Q E h => ?_) (fun cdv A outer st H vs Q E hr h => ?_)
  · obtain ⟨l, a, rs, rfl, _⟩ := h
    rfl
  · obtain ⟨l, a, rs, rfl, g, hS, hrn, q⟩ := h
    have nd := scFine.nd
    refine ⟨_, pss_cons (ps_for PassesOwn.never rfl (pi_str (pv 0)) (pg_name (i := 2) nd rfl (.inr rfl))
        (pss_cons (ps_setLc (i := 3) (own := [("_law_room", 6)]) (g := gName 6) (tt := tYes) rfl nd rfl rfl (sw_true rfl rfl rfl (by decide +kernel)) (pi_list (pv 1)) (blkOk_by (N := nFine) (sc := defScope sFine) (by decide +kernel)) (fun _ _ _ _ _ => pg_name (i := 6) nd rfl (Or.inl rfl)) (fun _ _ _ _ _ => pts_nil)
          (fun _ _ _ _ _ => pe_cmpR op_in_sign (pv 2) (pv 6) (by rfl)))
        (pss_one (ps_if (PW.pt (pw_or (pt_cmpR op_notIn_seq pe_bl (pv 3) (by rfl)) (pw_or1 (pt_cmpR op_notIn_seq pe_bl (pv 3) (by rfl))))) (pss_one (ps_ret pe_bl)) pss_nil))))
      (pss_cons (ps_for PassesOwn.never rfl (pi_list (pe_call GP hr rfl Pr.g Pr.F.kp Pr.b .nil pass0 (pa_cons (pv 0) pa_nil))) (pg_name (i := 4) nd rfl (.inr rfl))
        (pss_cons (ps_set (i := 5) nd rfl (.inr rfl) (pe_op op_add_str (pe_call GO hr rfl O.g O.F.kp O.b .nil pass0 (pa_cons (pe_ix ix_str (pv 4) pe_int (fun _ _ => rfl)) pa_nil)) (pe_call GO hr rfl O.g O.F.kp O.b .nil pass0 (pa_cons (pe_ix ix_str (pv 4) pe_int (fun _ _ => rfl)) pa_nil))))
        (pss_one (ps_if (pt_not (pt_val (pe_callB (cr_any rfl) (by rfl) hany (by decide +kernel) (pa_cons (pe_lc (own := [("_law_room", 6)]) (g := gName 6) (tt := tYes) (te := tOrV (tWith 4 6) (tWith 5 6)) rfl nd (pi_list (pv 1)) (blkOk_by (N := nFine) (sc := defScope sFine) (by decide +kernel)) (fun _ _ _ _ _ => pg_name (i := 6) nd rfl (Or.inl rfl)) (fun _ _ _ _ _ => pts_nil)
            (fun _ _ _ _ _ => pe_or (pe_call GW hr rfl W.g W.F.kp W.b .nil pass0 (pa_cons (pv 4) (pa_cons (pv 6) pa_nil))) (pe_one (pe_call GW hr rfl W.g W.F.kp W.b .nil pass0 (pa_cons (pv 5) (pa_cons (pv 6) pa_nil)))))) pa_nil))))
          (pss_one (ps_ret pe_bl)) pss_nil))))
      (pss_one (ps_ret pe_bl))), ?_⟩
    have lz : (tx l).cps.size = l.length := tx_len _
    have hl12 := g.hi
    have wkr := walk_list (K := K) (a := a) (xs := (rs.map tx).map V.str)
    rw [List.length_map, List.length_map] at wkr
    refine ⟨_, rfl, tx l, rfl, ?_⟩
    refine for_it walk_str (fun i σ H' => ∃ (y2 y3 y4 y5 y6 : Option V), σ = [some (.str (tx l)), some (.ref a), y2, y3, y4, y5, y6] ∧ Same H H' ∧ ∀ c ∈ l.take i, (∃ r ∈ rs, c ∈ r) ∧ ∃ r ∈ rs, c ∉ r) ⟨_, _, _, _, _, rfl, L2.Same.refl _, fun c h => absurd h (by simp)⟩ (fun _ _ _ _ _ => trivial) ?_ ?_
    · rintro i x σ H1 H2 hi ⟨y2, y3, y4, y5, y6, rfl, s1, hv⟩ ⟨rfl, c, hc, rfl⟩
      have hcl : l[i]? = some c := by
        rw [← Array.getElem?_toList, tx_list] at hc
        exact hc
      have hS2 := sm_l s1 hS
      refine ⟨_, rfl, a, rfl, ⟨_, hS2⟩, fun Da na => ?_⟩
      refine lc_it wkr (fun u H' => Same H2 H' ∧ H' Da = some (.lst (((rs.take u).map fun r => decide (c ∈ r)).map V.bl))) ⟨same_upd na, upd_same⟩ (fun u H' _ h => sm_l h.1 hS2) ?_ ?_
      · rintro u x G5 G6 hu ⟨u5, ea⟩ ⟨rfl, hx⟩
        rw [List.getElem?_map, List.getElem?_map] at hx
        obtain ⟨z, hz, rfl⟩ := Option.map_eq_some_iff.mp hx
        obtain ⟨r, hr1, rfl⟩ := Option.map_eq_some_iff.mp hz
        refine ⟨rfl, yes_i ⟨_, rfl, _, rfl, c, tx r, rfl, rfl, ?_⟩⟩
        rw [tx_list]
        refine ⟨_, ea, ?_, sm_over u5 na, ?_⟩
        · rw [List.length_map, List.length_map, List.length_take, sizeLine_eq]
          omega
        · rw [upd_same, List.take_add_one, hr1, List.map_append, List.map_append]
          rfl
      · rintro G5 ⟨u5, ea⟩
        rw [List.take_length] at ea
        have no : ∀ G, Same G5 G → Q (.bl false) G := fun G hG => q G false (sm_trans (sm_trans s1 u5) hG) (fun h => by cases h)
        refine ⟨_, rfl, Da, _, rfl, .inl (SqL.of ea), rfl, flat_bl _, _, rfl, ?_⟩
        show if (!inV (.bl true) _) = true then _ else _
        rw [inV_bl]
        refine ite2 (fun t => iteT (no G5 (L2.Same.refl _))) (fun t => ?_)
        refine ⟨_, rfl, Da, _, rfl, .inl (SqL.of ea), rfl, flat_bl _, _, rfl, ?_⟩
        show if (!inV (.bl false) _) = true then _ else _
        rw [inV_bl]
        refine ite2 (fun t2 => no G5 (L2.Same.refl _)) (fun t2 => ?_)
        refine ⟨_, _, _, _, _, rfl, sm_trans s1 u5, fun e he => ?_⟩
        rw [List.take_add_one, hcl] at he
        rcases List.mem_append.mp he with h | h
        · exact hv e h
        · have e1 : e = c := by simpa using h
          rw [e1]
          have m1 : true ∈ rs.map fun r => decide (c ∈ r) := by simpa using t
          have m2 : false ∈ rs.map fun r => decide (c ∈ r) := by simpa using t2
          obtain ⟨r1, h1, k1⟩ := List.mem_map.mp m1
          obtain ⟨r2, h2, k2⟩ := List.mem_map.mp m2
          exact ⟨⟨r1, h1, of_decide_eq_true k1⟩, ⟨r2, h2, of_decide_eq_false k2⟩⟩
    rintro σ H1 ⟨y2, y3, y4, y5, y6, rfl, s1, hv⟩
    rw [lz, List.take_length] at hv
    refine ⟨_, rfl, l, rfl, g, fun H2 p s2 np ep => ?_⟩
    have wkp := walk_list (K := K) (a := p) (xs := ((prs l l.length).map tx).map V.str)
    rw [List.length_map, List.length_map] at wkp
    have s02 := sm_trans s1 s2
    refine ⟨p, rfl, ⟨_, SqL.of ep⟩, ?_⟩
    refine for_it wkp (fun i σ H' => ∃ (y2 y3 y4 y5 y6 : Option V), σ = [some (.str (tx l)), some (.ref a), y2, y3, y4, y5, y6] ∧ Same H2 H' ∧ ∀ b ∈ (prs l l.length).take i, ∃ r ∈ rs, inR b r = true ∨ inR (b.map swp) r = true) ⟨_, _, _, _, _, rfl, L2.Same.refl _, fun c h => absurd h (by simp)⟩ (fun i σ H' _ h => by obtain ⟨_, _, _, _, _, _, h, _⟩ := h; exact SqL.of (h _ _ ep)) ?_ ?_
    · rintro i x σ H3 H4 hi ⟨y2, y3, y4, y5, y6, rfl, s3, hw⟩ ⟨rfl, hx⟩
      rw [List.getElem?_map, List.getElem?_map] at hx
      obtain ⟨z, hz, rfl⟩ := Option.map_eq_some_iff.mp hx
      obtain ⟨b, hb1, rfl⟩ := Option.map_eq_some_iff.mp hz
      have hb2 : isBar l b = true := (prs_mem g b).mp (List.mem_of_getElem? hb1)
      obtain ⟨s, t, rfl, hs, ht, _⟩ := bar_two hb2
      have tz : (tx [s, t]).length ≤ sizeLine := by rw [tx_len, sizeLine_eq]; show 2 ≤ _; omega
      refine ⟨_, rfl, _, _, s, rfl, rfl, tz, rfl, s, rfl, sds_lt g hs, ?_⟩
      refine ⟨_, rfl, _, _, t, rfl, rfl, tz, rfl, t, rfl, sds_lt g ht, ?_⟩
      refine ⟨_, _, rfl, rfl, by show 1 + 1 ≤ sizeLine; decide, ?_⟩
      rw [show sg (swp s) ++ sg (swp t) = tx [swp s, swp t] by rw [sg_tx, sg_tx, tx_app]; rfl]
      have hS4 := sm_l (sm_trans s02 s3) hS
      refine ⟨_, rfl, a, rfl, ⟨_, hS4⟩, fun Da na => ?_⟩
      refine lc_it wkr (fun u H' => Same H4 H' ∧ H' Da = some (.lst (((rs.take u).map fun r => inR [s, t] r || inR [swp s, swp t] r).map V.bl))) ⟨same_upd na, upd_same⟩ (fun u H' _ h => sm_l h.1 hS4) ?_ ?_
      · rintro u x G5 G6 hu ⟨u5, ea⟩ ⟨rfl, hx⟩
        rw [List.getElem?_map, List.getElem?_map] at hx
        obtain ⟨z, hz, rfl⟩ := Option.map_eq_some_iff.mp hx
        obtain ⟨r, hr1, rfl⟩ := Option.map_eq_some_iff.mp hz
        have fin : ∀ G7, Same G6 G7 → ∀ bb : Bool, bb = (inR [s, t] r || inR [swp s, swp t] r) → ∃ acc, G7 Da = some (.lst acc) ∧ acc.length + 1 ≤ sizeLine ∧ Same H4 (upd G7 Da (.lst (acc ++ [V.bl bb]))) ∧ upd G7 Da (.lst (acc ++ [V.bl bb])) Da = some (.lst (((rs.take (u + 1)).map fun r => inR [s, t] r || inR [swp s, swp t] r).map V.bl)) := fun G7 u7 bb ebb => by
          refine ⟨_, u7 _ _ ea, ?_, sm_over (sm_trans u5 u7) na, ?_⟩
          · rw [List.length_map, List.length_map, List.length_take, sizeLine_eq]
            omega
          · rw [upd_same, List.take_add_one, hr1, List.map_append, List.map_append, ebb]
            rfl
        refine ⟨rfl, yes_i ⟨_, rfl, _, rfl, [s, t], r, rfl, by show 2 ≤ 100; decide, fun G7 u7 => ⟨_, rfl, ?_⟩⟩⟩
        refine ite2 (fun k1 => fin G7 u7 true (by rw [k1]; rfl)) (fun k1 => ?_)
        refine ⟨_, rfl, _, rfl, [swp s, swp t], r, rfl, by show 2 ≤ 100; decide, fun G8 u8 => fin G8 (sm_trans u7 u8) _ (by rw [Bool.eq_false_iff.mpr k1]; rfl)⟩
      · rintro G5 ⟨u5, ea⟩
        rw [List.take_length] at ea
        refine ⟨Da, _, rfl, SqL.of ea, _, rfl, ?_⟩
        refine ite2 (fun t0 => ?_) (fun t0 => ?_)
        · exact q G5 false (sm_trans (sm_trans s02 s3) u5) (fun h => by cases h)
        · refine ⟨_, _, _, _, _, rfl, sm_trans s3 u5, fun e he => ?_⟩
          rw [List.take_add_one, hb1] at he
          rcases List.mem_append.mp he with h | h
          · exact hw e h
          · have e1 : e = [s, t] := by simpa using h
            rw [e1]
            have t1 : (rs.map fun r => inR [s, t] r || inR [swp s, swp t] r).any id = true := by
              cases hh : (rs.map fun r => inR [s, t] r || inR [swp s, swp t] r).any id with
              | true => rfl
              | false => rw [hh] at t0; exact absurd rfl t0
            rw [List.any_map] at t1
            obtain ⟨r, hr2, k2⟩ := List.any_eq_true.mp t1
            refine ⟨r, hr2, ?_⟩
            have k2 : (inR [s, t] r || inR [swp s, swp t] r) = true := k2
            rcases Bool.or_eq_true_iff.mp k2 with z | z
            · exact .inl z
            · exact .inr z
    · rintro σ H3 ⟨y2, y3, y4, y5, y6, rfl, s3, hw⟩
      rw [List.take_length] at hw
      refine q H3 true (sm_trans s02 s3) fun _ => ⟨hv, fun x y hxy => ?_⟩
      exact hw [x, y] ((prs_mem g _).mpr hxy)
end
end NC
namespace NC
open PySem PySem.Spec PyProof.Rows L2
abbrev sHall : Stmt := topS 68
abbrev nHall : List Str := ["_law_d", "_law_most_it", "_law_shuts_here", "_law_bars", "_law_many", "_law_k", "_law_bar"]
theorem scHall : FnScope nHall ["_law_d", "_law_most_it"] (defScope sHall) := ⟨rfl, rfl, rfl, by decide +kernel, rfl, by decide +kernel, by decide +kernel⟩
theorem Dr.cell {H : Hp} {d c : Addr} (h : Dr H d) (hc : HeadC H d c) : ∃ ns : List Int, H c = some (.lst (ns.map V.int)) := by
  obtain ⟨c0, ns, i, a, b, f, h1, h2, h3⟩ := h
  obtain ⟨r, e⟩ := hc
  rw [h1] at e
  have e2 : c0 = c := by
    injection e with e
    injection e with e
    injection e with e _
    injection e
  exact ⟨ns, by rw [← e2]; exact h2⟩
theorem Dr.upd {H : Hp} {d c b : Addr} {o : HO} (h : Dr H d) (hc : HeadC H d c) (n1 : b ≠ d) (n2 : b ≠ c) : Dr (L2.upd H b o) d := by
  obtain ⟨c0, ns, i, a, b2, f, h1, h2, h3⟩ := h
  obtain ⟨r, e⟩ := hc
  rw [h1] at e
  have e2 : c0 = c := by
    injection e with e
    injection e with e
    injection e with e _
    injection e
  exact ⟨c0, ns, i, a, b2, f, by rw [upd_ne (Ne.symm n1)]; exact h1, by rw [e2, upd_ne (Ne.symm n2), ← e2]; exact h2, h3⟩
theorem Dr.head {H : Hp} {d : Addr} (h : Dr H d) : ∃ c, HeadC H d c := by
  obtain ⟨c0, ns, i, a, b2, f, h1, h2, h3⟩ := h
  exact ⟨c0, _, h1⟩
theorem HeadC.upd {H : Hp} {d c b : Addr} {o : HO} (h : HeadC H d c) (n1 : b ≠ d) : HeadC (L2.upd H b o) d c := by
  obtain ⟨r, h⟩ := h
  exact ⟨r, by rw [upd_ne (Ne.symm n1)]; exact h⟩
theorem first_ok {l : List Nat} {bs : List (List Nat)} (h : ∀ b ∈ bs, isBar l b = true) (nd : bs.Nodup) : firstBad l bs = none := List.find?_eq_none.mpr fun i hi => by
  have hl : i < bs.length := by simpa using hi
  have e : bs.getD i [] = bs[i] := by simp [List.getD, hl]
  unfold badAt
  rw [e, h _ (List.getElem_mem hl)]
  have hn : bs[i] ∉ bs.take i := fun hm => by
    obtain ⟨j, hj, ej⟩ := List.getElem_of_mem hm
    have hji : j < i := by rw [List.length_take] at hj; omega
    rw [List.getElem_take] at ej
    have hjl : j < bs.length := by omega
    have ee : bs[j]? = bs[i]? := by rw [List.getElem?_eq_getElem hjl, List.getElem?_eq_getElem hl, ej]
    have := (List.getElem?_inj hjl nd).mp ee
    omega
  simp [hn]
theorem bars_ok {l : List Nat} (g : GoodW l) {bs : List (List Nat)} (h : ∀ b ∈ bs, isBar l b = true) : BarsOk bs := fun b hb => by
  obtain ⟨x, y, rfl, hx, hy, _⟩ := bar_two (h b hb)
  refine ⟨fun c hc => ?_, by show 2 ≤ 100; decide⟩
  rcases List.mem_cons.mp hc with e | e
  · rw [e]; exact sds_asc g hx
  · rw [List.mem_singleton.mp e]; exact sds_asc g hy
theorem prs_pos {l : List Nat} (g : GoodW l) (h : 1 < l.length) : 1 ≤ (prs l l.length).length := by
  have h0 : 0 < l.length := by omega
  have lt : l[0] < l[1] := List.pairwise_iff_getElem.mp g.rise 0 1 h0 h (by omega)
  have m0 : l[0] ∈ l := List.getElem_mem h0
  have m1 : l[1] ∈ l := List.getElem_mem h
  have hm : [l[0], l[1]] ∈ prs l l.length := (prs_mem g _).mpr (by
    show (decide (l[0] ∈ sds l) && (decide (l[1] ∈ sds l) && decide (lwc l[0] < lwc l[1]))) = true
    rw [decide_eq_true (sds_of_small m0), decide_eq_true (sds_of_small m1), lwc_of (g.sm _ m0) (List.mem_cons_self ..), lwc_of (g.sm _ m1) (List.mem_cons_self ..), decide_eq_true lt]
    rfl)
  exact List.length_pos_of_mem hm
theorem mem_tx {x : List Nat} {bs : List (List Nat)} : tx x ∈ bs.map tx ↔ x ∈ bs := by
  constructor
  · intro h
    obtain ⟨y, hy, e⟩ := List.mem_map.mp h
    rw [← tx_inj e]
    exact hy
  · exact fun h => List.mem_map.mpr ⟨x, h, rfl⟩
theorem inV_tx (x : List Nat) (bs : List (List Nat)) : inV (.str (tx x)) ((bs.map tx).map V.str) = decide (x ∈ bs) := by
  rw [inV_str]
  by_cases h : x ∈ bs
  · rw [decide_eq_true h, decide_eq_true (mem_tx.mpr h)]
  · rw [decide_eq_false h, decide_eq_false fun z => h (mem_tx.mp z)]
/-- a hall as the law draws it -/
structure HallOk (l : List Nat) (bs : List (List Nat)) : Prop where
  g : GoodW l
  bar : ∀ b ∈ bs, isBar l b = true
  nd : bs.Nodup
  len : bs.length ≤ 24
  ok : Okv l bs
  ne : rms l bs ≠ []
theorem rms_nil_ne {l : List Nat} : rms l [] ≠ [] := fun h => by
  have e : rms l [] = allT l l.length := List.filter_eq_self.mpr fun _ _ => rfl
  rw [e] at h
  have := allT_len l l.length
  rw [h] at this
  have h2 : 0 < 2 ^ l.length := Nat.pow_pos (by decide)
  rw [← this] at h2
  exact absurd h2 (by decide)
theorem Fine.ne {l : List Nat} (g : GoodW l) {rs : List (List Nat)} (F : Fine l rs) : rs ≠ [] := fun z => by
  obtain ⟨c, hc⟩ : ∃ c, c ∈ l := by
    have := g.lo
    cases l with
    | nil => exact absurd this (by decide)
    | cons c r => exact ⟨c, List.mem_cons_self ..⟩
  obtain ⟨⟨r, hr, _⟩, _⟩ := F.has c hc
  rw [z] at hr
  cases hr
section
variable {P : Program} {w : World} {K : PySem.W.Frag} {mg : Str → Option Value} {base : Heap}
def spHall : Sp := fun vs H Q _ => ∃ (d : Addr) (n : Int), vs = [.ref d, .int n] ∧ Dr H d ∧ 1 ≤ n ∧ n ≤ 12 ∧
  ∀ H' l bs T bA rA, SmD d H H' → Dr H' d → HallOk l bs → (l.length : Int) ≤ n → bA ≠ d → rA ≠ d → H' T = some (.lst [.str (tx l), .ref bA, .ref rA]) → H' bA = some (.lst ((bs.map tx).map V.str)) → H' rA = some (.lst (((rms l bs).map tx).map V.str)) → Q (.ref T) H'
set_option maxHeartbeats 2000000 in
theorem ok_hall {f fDraw fOf fLet fShuts fOth fWit fPairs fAll fRms fFine : Addr} {fd dDraw dOf dLet dShuts dOth dWit dPairs dAll dRms dFine : FuncData} {k : Nat} (B : BM mg) (hany : mg "any" = none) (F : Fun K "_law_hall" "_law_hall" sHall f fd)
    (Ld : DF K mg "_law_draw" sDraw ["_law_d", "_law_many"] fDraw dDraw) (Lo : DF K mg "_law_of" sOf ["_law_d", "_law_some"] fOf dOf) (Ll : DF K mg "_law_letters" sLetters [] fLet dLet) (Ls : DF K mg "_law_shuts" sShuts ["_law_d", "_law_most_it"] fShuts dShuts)
    (Lt : DF K mg "_law_other" sOth ["_law_side"] fOth dOth) (Lw : DF K mg "_law_within" sWithin ["_law_sides_here", "_law_room"] fWit dWit) (Lp : DF K mg "_law_pairs" sPairs ["_law_shuts_here"] fPairs dPairs) (La : DF K mg "_law_all" sAll ["_law_shuts_here"] fAll dAll)
    (Lr : DF K mg "_law_rooms" sRooms ["_law_shuts_here", "_law_bars"] fRms dRms) (Lf : DF K mg "_law_fine" sFine ["_law_shuts_here", "_law_rooms_here"] fFine dFine) :
    FnOk P w K mg base CX0 (k + 3) f fd ["_law_d", "_law_most_it"] spHall := by
  have GD : FnOk P w K mg base CX0 (k + 1) fDraw dDraw ["_law_d", "_law_many"] spDraw := ok_draw B Ld.F
  have GO : FnOk P w K mg base CX0 (k + 2) fOf dOf ["_law_d", "_law_some"] (spOf K) := ok_of B Lo.F Ld
  have GSh : FnOk P w K mg base CX0 (k + 2) fShuts dShuts ["_law_d", "_law_most_it"] spShuts := ok_shuts B Ls.F Ld Ll
  have GP : FnOk P w K mg base CX0 (k + 1) fPairs dPairs ["_law_shuts_here"] spPairs := ok_pairs B Lp.F
  have GR : FnOk P w K mg base CX0 (k + 2) fRms dRms ["_law_shuts_here", "_law_bars"] (spRooms K) := ok_rooms B hany Lr.F La Lw
  have GF : FnOk P w K mg base CX0 (k + 2) fFine dFine ["_law_shuts_here", "_law_rooms_here"] (spFine K) := ok_fine B hany Lf.F Lp Lt Lw
  refine F.ok scHall (fun vs H Q E h => ?_) (fun cdv A outer st H vs Q E hr h => ?_)
  · obtain ⟨d, n, rfl, _⟩ := h
    rfl
  · obtain ⟨d, n, rfl, hD, n1, n12, q⟩ := h
    have r1 : Room (k + 1) _ := hr.mono (by omega)
    have r2 : Room (k + 2) _ := hr.mono (by omega)
    have nd := scHall.nd
    refine ⟨_, pss_cons (ps_par (i := 2) (j := 3) rfl nd rfl rfl (by decide) rfl rfl (pa_cons (pe_call GSh r2 rfl Ls.g Ls.F.kp Ls.b .nil pass0 (pa_cons (pv 0) (pa_cons (pe_op op_add pe_int (pe_call GD r1 rfl Ld.g Ld.F.kp Ld.b .nil pass0 (pa_cons (pv 0) (pa_cons (pv 1) pa_nil)))) pa_nil))) (pa_cons (pe_lst pa_nil) pa_nil)) rfl)
      (C8.pss_cut (ps_set (i := 4) nd rfl (.inl rfl) (pe_ifExp (pt_cmpR op_gt (pe_callB call_len_str (by rfl) B.len PySem.boot_len (pa_cons (pv 2) pa_nil)) pe_int (nomark _))
          (pe_ix ix_list (pe_lst (pa_cons pe_int (pa_cons (pe_callB call_len_str (by rfl) B.len PySem.boot_len (pa_cons (pv 2) pa_nil)) (pa_cons (pe_op op_mul pe_int (pe_callB call_len_str (by rfl) B.len PySem.boot_len (pa_cons (pv 2) pa_nil))) (pa_cons pe_int pa_nil))))) (pe_call GD r1 rfl Ld.g Ld.F.kp Ld.b .nil pass0 (pa_cons (pv 0) (pa_cons pe_int pa_nil))) (fun _ _ => rfl)) pe_int))
      (pss_cons (ps_for PassesOwn.never rfl (pi_range1 (by rfl) B.range (pa_cons (pv 4) pa_nil)) (pg_name (i := 5) nd rfl (.inl rfl))
        (pss_cons (ps_set (i := 6) nd rfl (.inl rfl) (pe_call GO r2 rfl Lo.g Lo.F.kp Lo.b .nil pass0 (pa_cons (pv 0) (pa_cons (pe_call GP r1 rfl Lp.g Lp.F.kp Lp.b .nil pass0 (pa_cons (pv 2) pa_nil)) pa_nil))))
        (pss_one (ps_if (PW.pt (pw_and (pt_cmpR op_notIn_seq (pv 6) (pv 3) (by rfl)) (pw_and1 (pt_val (pe_call GF r2 rfl Lf.g Lf.F.kp Lf.b .nil pass0 (pa_cons (pv 2) (pa_cons (pe_call GR r2 rfl Lr.g Lr.F.kp Lr.b .nil pass0 (pa_cons (pv 2) (pa_cons (pe_op op_cat (pv 3) (pe_lst (pa_cons (pv 6) pa_nil))) pa_nil))) pa_nil)))))))
          (pss_one (ps_set (i := 3) nd rfl (.inl rfl) (pe_op op_cat (pv 3) (pe_lst (pa_cons (pv 6) pa_nil))))) pss_nil))))
      (pss_one (ps_ret (pe_lst (pa_cons (pv 2) (pa_cons (pv 3) (pa_cons (pe_call GR r2 rfl Lr.g Lr.F.kp Lr.b .nil pass0 (pa_cons (pv 2) (pa_cons (pv 3) pa_nil))) pa_nil)))))))), ?_⟩
    refine ⟨_, rfl, _, rfl, _, rfl, d, n, rfl, hD, by omega, by omega, fun H1 v s1 D1 v0 v1 => ⟨_, _, rfl, rfl, d, _, rfl, D1, by omega, by omega, fun H2 l s2 D2 g hln => ?_⟩⟩
    have hz : (tx l).length ≤ sizeLine := by rw [tx_len, sizeLine_eq]; have := g.hi; omega
    have hl12 := g.hi
    have s02 := s1.trans s2
    refine ⟨Nat.zero_le _, fun bA0 nb0 => ⟨_, _, rfl, ?_⟩⟩
    have nbd0 : bA0 ≠ d := by
      obtain ⟨c0, r0, hd2⟩ := D2.head
      exact Ne.symm (ne_of_none hd2 nb0)
    have s03 : SmD d H (upd H2 bA0 (.lst [])) := s02.trans (SmD.of (same_upd nb0))
    have D3 : Dr (upd H2 bA0 (.lst [])) d := D2.same (same_upd nb0)
    have e3 : (upd H2 bA0 (.lst [])) bA0 = some (.lst []) := upd_same
    generalize (upd H2 bA0 (.lst [])) = H3 at s03 D3 e3 ⊢
    refine ⟨fun σ H' => ∃ (m : Nat) (y5 y6 : Option V), σ = [some (.ref d), some (.int n), some (.str (tx l)), some (.ref bA0), some (.int m), y5, y6] ∧ m ≤ 24 ∧ (0 < m → 1 < l.length) ∧ SmD d H H' ∧ Dr H' d ∧ H' bA0 = some (.lst []), ?_, ?_⟩
    · refine ⟨_, rfl, _, rfl, hz, _, _, rfl, rfl, _, rfl, ite2 (fun t => ?_) (fun t => ?_)⟩
      · have hl1 : 1 < l.length := by
          have := of_decide_eq_true t
          rw [tx_len] at this
          omega
        refine ⟨_, rfl, _, rfl, hz, _, rfl, _, rfl, hz, _, _, rfl, rfl, .inl ⟨by decide, by decide⟩, by show 4 ≤ sizeLine; decide, fun p np => ?_⟩
        have npd : p ≠ d := by
          obtain ⟨c0, r0, hd3⟩ := D3.head
          exact Ne.symm (ne_of_none hd3 np)
        have npb : bA0 ≠ p := ne_of_none e3 np
        refine ⟨_, rfl, d, 4, rfl, D3.same (same_upd np), by decide, by decide, fun H4 v4 s4 D4 v40 v44 => ?_⟩
        have ep : H4 p = _ := s4.1 _ _ npd upd_same
        obtain ⟨m, hm, hat⟩ : ∃ m : Nat, m ≤ 24 ∧ atI [V.int 0, .int ((tx l).length : Nat), .int (2 * ((tx l).length : Nat)), .int 1] v4 = some (.int m) := by
          rw [tx_len]
          have hv : v4 = 0 ∨ v4 = 1 ∨ v4 = 2 ∨ v4 = 3 := by omega
          rcases hv with rfl | rfl | rfl | rfl
          · exact ⟨0, by omega, rfl⟩
          · exact ⟨l.length, by omega, rfl⟩
          · exact ⟨2 * l.length, by omega, by show some (V.int (2 * ((l.length : Nat) : Int))) = _; congr 2⟩
          · exact ⟨1, by omega, rfl⟩
        refine ⟨p, _, v4, .int m, rfl, rfl, SqL.of ep, hat, m, _, _, rfl, hm, fun _ => hl1, (s03.trans (SmD.of (same_upd np))).trans s4, D4, s4.1 _ _ nbd0 (by rw [upd_ne npb]; exact e3)⟩
      · exact ⟨0, _, _, rfl, by omega, fun h => absurd h (by decide), s03, D3, e3⟩
    rintro σ H4 ⟨m, y5, y6, rfl, hm, hm1, s4, D4, e4⟩
    refine ⟨_, rfl, m, rfl, by omega, by omega, ?_⟩
    rw [show ((m : Nat) : Int).toNat = m from Int.toNat_natCast _]
    refine for_it walk_range (fun j σ H' => ∃ (bA : Addr) (y5 y6 : Option V) (bs : List (List Nat)), σ = [some (.ref d), some (.int n), some (.str (tx l)), some (.ref bA), some (.int m), y5, y6] ∧ SmD d H H' ∧ Dr H' d ∧ bA ≠ d ∧ H' bA = some (.lst ((bs.map tx).map V.str)) ∧ HallOk l bs ∧ bs.length ≤ j)
      ⟨bA0, _, _, [], rfl, s4, D4, nbd0, e4, ⟨g, (fun b h => absurd h (by simp)), List.nodup_nil, Nat.zero_le _, okv_nil g, rms_nil_ne⟩, Nat.le_refl _⟩ (fun _ _ _ _ _ => trivial) ?_ ?_
    · rintro j v σ Ha Hb hj ⟨bA, y5, y6, bs, rfl, sa, Da, nbd, ea, ho, hbl⟩ ⟨rfl, rfl⟩
      have hl1 : 1 < l.length := hm1 (by omega)
      have pl := prs_len l l.length
      have pl2 : 4 * l.length * l.length ≤ 4 * 12 * 12 := Nat.mul_le_mul (Nat.mul_le_mul_left _ hl12) hl12
      refine ⟨_, rfl, _, rfl, l, rfl, g, fun H5 pA s5 npA epA => ?_⟩
      have npd : pA ≠ d := by
        obtain ⟨c0, r5, hd5⟩ := Da.head
        exact Ne.symm (ne_of_none hd5 npA)
      have D5 := Da.same s5
      refine ⟨d, _, rfl, D5, .inl ⟨pA, _, rfl, npd, SqL.of epA, by rw [List.length_map, List.length_map]; exact prs_pos g hl1, by rw [List.length_map, List.length_map]; omega, fun H6 v j s6 D6 hv => ?_⟩⟩
      rw [List.getElem?_map, List.getElem?_map] at hv
      obtain ⟨z, hz1, rfl⟩ := Option.map_eq_some_iff.mp hv
      obtain ⟨b, hb1, rfl⟩ := Option.map_eq_some_iff.mp hz1
      have hbar : isBar l b = true := (prs_mem g b).mp (List.mem_of_getElem? hb1)
      have e6 : H6 bA = _ := s6.1 _ _ nbd (s5 _ _ ea)
      have s06 := (sa.trans (SmD.of s5)).trans s6
      refine ⟨_, rfl, _, rfl, bA, _, rfl, .inl (SqL.of e6), rfl, flat_str _, _, rfl, ?_⟩
      show if (!inV (.str (tx b)) ((bs.map tx).map V.str)) = true then _ else _
      rw [inV_tx]
      refine ite2 (fun t => ?_) (fun t => ?_)
      · have hn : b ∉ bs := by simpa using t
        have ej : (bs.map tx).map V.str ++ [V.str (tx b)] = ((bs ++ [b]).map tx).map V.str := by simp
        have lz2 : ((bs.map tx).map V.str).length + [V.str (tx b)].length ≤ sizeLine := by
          rw [List.length_map, List.length_map, sizeLine_eq]
          show bs.length + 1 ≤ _
          omega
        have hb' : ∀ e ∈ bs ++ [b], isBar l e = true := fun e he => by
          rcases List.mem_append.mp he with z | z
          · exact ho.bar e z
          · rw [List.mem_singleton.mp z]; exact hbar
        have bok := bars_ok g hb'
        refine ⟨_, rfl, _, rfl, _, rfl, _, rfl, by show 1 ≤ sizeLine; decide, fun p1 np1 => ?_⟩
        have n1b : bA ≠ p1 := ne_of_none e6 np1
        refine ⟨bA, p1, _, _, rfl, rfl, by rw [upd_ne n1b]; exact e6, upd_same, lz2, fun p2 np2 => ?_⟩
        have n12' : p1 ≠ p2 := ne_of_none upd_same np2
        have s67 : Same H6 (upd (upd H6 p1 (.lst [V.str (tx b)])) p2 (.lst ((bs.map tx).map V.str ++ [V.str (tx b)]))) := sm_upd (same_upd np1) np2
        have e7 : (upd (upd H6 p1 (.lst [V.str (tx b)])) p2 (.lst ((bs.map tx).map V.str ++ [V.str (tx b)]))) p2 = some (.lst (((bs ++ [b]).map tx).map V.str)) := by rw [upd_same, ej]
        generalize (upd (upd H6 p1 (.lst [V.str (tx b)])) p2 (.lst ((bs.map tx).map V.str ++ [V.str (tx b)]))) = H7 at s67 e7 ⊢
        refine ⟨l, p2, bs ++ [b], rfl, g, SqL.of e7, fun x hx => (bok x hx).2, by rw [List.length_append]; show bs.length + 1 ≤ 100; omega, fun H8 rA s8 nrA erA => ?_⟩
        refine ⟨l, rA, rms l (bs ++ [b]), rfl, g, SqL.of erA, rms_len g, fun H9 c s9 hc => ?_⟩
        have s69 := sm_trans (sm_trans s67 s8) s9
        refine ⟨_, rfl, ite2 (fun t2 => ?_) (fun t2 => ?_)⟩
        · have fine := hc t2
          have ho' : HallOk l (bs ++ [b]) := ⟨g, hb', nd_snoc ho.nd hn, by rw [List.length_append]; show bs.length + 1 ≤ 24; omega, fine.ok g hb', fine.ne g⟩
          have e9 := s69 _ _ e6
          refine ⟨_, rfl, _, rfl, by show 1 ≤ sizeLine; decide, fun p3 np3 => ?_⟩
          have n3b : bA ≠ p3 := ne_of_none e9 np3
          refine ⟨bA, p3, _, _, rfl, rfl, by rw [upd_ne n3b]; exact e9, upd_same, lz2, fun p4 np4 => ?_⟩
          have sX := sm_upd (same_upd np3) np4 (o := .lst ((bs.map tx).map V.str ++ [V.str (tx b)]))
          have D9 := D6.same s69
          have n4d : p4 ≠ d := by
            obtain ⟨c0, r5, hd5⟩ := (D9.same (same_upd np3)).head
            exact Ne.symm (ne_of_none hd5 np4)
          exact ⟨p4, _, _, bs ++ [b], rfl, s06.trans (SmD.of (sm_trans s69 sX)), D9.same sX, n4d, by rw [upd_same, ej], ho', by rw [List.length_append]; show bs.length + 1 ≤ _ + 1; omega⟩
        · exact ⟨bA, _, _, bs, rfl, s06.trans (SmD.of s69), D6.same s69, nbd, s69 _ _ e6, ho, by omega⟩
      · exact iteF ⟨bA, _, _, bs, rfl, s06, D6, nbd, e6, ho, by omega⟩
    · rintro σ H5 ⟨bA, y5, y6, bs, rfl, s5, D5, nbd, e5, ho, hbl⟩
      have bok := bars_ok g ho.bar
      refine ⟨_, rfl, _, rfl, _, rfl, _, rfl, l, bA, bs, rfl, g, SqL.of e5, fun x hx => (bok x hx).2, by omega, fun H6 rA s6 nrA erA => ?_⟩
      have nrd : rA ≠ d := by
        obtain ⟨c0, r5, hd5⟩ := D5.head
        exact Ne.symm (ne_of_none hd5 nrA)
      refine ⟨by show 3 ≤ sizeLine; decide, fun T nT => ?_⟩
      have sT := sm_upd s6 nT (o := .lst [.str (tx l), .ref bA, .ref rA])
      have ntb : bA ≠ T := ne_of_none (s6 _ _ e5) nT
      have ntr : rA ≠ T := ne_of_none erA nT
      exact q _ l bs T bA rA (s5.trans (SmD.of sT)) (D5.same sT) ho (by omega) nbd nrd upd_same (by rw [upd_ne ntb]; exact s6 _ _ e5) (by rw [upd_ne ntr]; exact erA)
end
end NC
namespace NC
open PySem PySem.Spec PyProof.Rows L2
abbrev sSame : Stmt := topS 56
theorem scSame : FnScope ["_law_x", "_law_due", "_law_k"] ["_law_x", "_law_due"] (defScope sSame) := ⟨rfl, rfl, rfl, by decide +kernel, rfl, by decide +kernel, by decide +kernel⟩
theorem boot_isi : bootBuiltins "isinstance" = some (.builtin "isinstance") := PyProof.Rows.boot_isinstance
/-- two things that are the same all through, at most n lists or tuples within one another -/
inductive Alk (H : Hp) : Nat → V → V → Prop where
  | str {n : Nat} (a : Str) : Alk H n (.str a) (.str a)
  | bl {n : Nat} (a : Bool) : Alk H n (.bl a) (.bl a)
  | int {n : Nat} (a : Int) : Alk H n (.int a) (.int a)
  | non {n : Nat} : Alk H n .non .non
  | lst {n : Nat} {p r : Addr} {xs ys : List V} (ep : H p = some (.lst xs)) (er : H r = some (.lst ys)) (hl : xs.length = ys.length) (h5 : ys.length ≤ 5000) (h : ∀ (i : Nat) a b, xs[i]? = some a → ys[i]? = some b → Alk H n a b) : Alk H (n + 1) (.ref p) (.ref r)
  | tup {n : Nat} {p r : Addr} {xs ys : List V} (ep : H p = some (.tup xs)) (er : H r = some (.tup ys)) (hl : xs.length = ys.length) (h5 : ys.length ≤ 5000) (h : ∀ (i : Nat) a b, xs[i]? = some a → ys[i]? = some b → Alk H n a b) : Alk H (n + 1) (.ref p) (.ref r)
theorem Alk.same {H H' : Hp} (s : Same H H') : ∀ {n : Nat} {x y : V}, Alk H n x y → Alk H' n x y
  | _, _, _, .str a => .str a
  | _, _, _, .bl a => .bl a
  | _, _, _, .int a => .int a
  | _, _, _, .non => .non
  | _, _, _, .lst ep er hl h5 h => .lst (s _ _ ep) (s _ _ er) hl h5 fun i a b ha hb => (h i a b ha hb).same s
  | _, _, _, .tup ep er hl h5 h => .tup (s _ _ ep) (s _ _ er) hl h5 fun i a b ha hb => (h i a b ha hb).same s
theorem Alk.strs {H : Hp} {n : Nat} {p r : Addr} {xs : List Str} (ep : H p = some (.lst (xs.map V.str))) (er : H r = some (.lst (xs.map V.str))) (h5 : xs.length ≤ 5000) : Alk H (n + 1) (.ref p) (.ref r) :=
  .lst ep er rfl (by rw [List.length_map]; exact h5) fun i a b ha hb => by
    rw [ha] at hb
    cases hb
    rw [List.getElem?_map] at ha
    obtain ⟨z, _, rfl⟩ := Option.map_eq_some_iff.mp ha
    exact .str z
section
variable {P : Program} {w : World} {K : PySem.W.Frag} {mg : Str → Option Value} {base : Heap}
/-- yes alone: only of what is the same -/
def spYes : Nat → Sp := fun n vs H Q _ => ∃ x y, vs = [x, y] ∧ Alk H n x y ∧ ∀ H', Same H H' → Q (.bl true) H'
def spNo : Sp := fun _ _ _ _ => False
theorem range_true (n : Nat) : ((List.range n).map fun _ => true).all id = true := by
  rw [List.all_eq_true]
  intro x hx
  obtain ⟨_, _, e⟩ := List.mem_map.mp hx
  rw [← e]
  rfl
theorem dec_self (x : V) : decide (x = x) = true := decide_eq_true rfl
set_option maxHeartbeats 2000000 in
theorem ok_yes1 {f : Addr} {fd : FuncData} {k : Nat} {spR : Sp} {n : Nat} (B : BM mg) (hb : mg "bool" = none) (hst : mg "str" = none) (D : DF K mg "_law_same" sSame ["_law_x", "_law_due"] f fd) (GS : FnOk P w K mg base CX0 k f fd ["_law_x", "_law_due"] spR)
    (hR : ∀ m, n = m + 1 → ∀ a b H (Q : VK) E, Alk H m a b → (∀ H', Same H H' → Q (.bl true) H') → spR [a, b] H Q E) :
    FnOk P w K mg base CX0 (k + 1) f fd ["_law_x", "_law_due"] (spYes n) := by
  refine D.F.ok scSame (fun vs H Q E h => ?_) (fun cdv A outer s H vs Q E hr h => ?_)
  · obtain ⟨x, y, rfl, _⟩ := h
    rfl
  · obtain ⟨x, y, rfl, al, q⟩ := h
    refine ⟨_, pss_cons (ps_if (pt_val (pe_callB call_isiT (by rfl) B.isinstance boot_isi (pa_cons (pv 1) (pa_cons (pe_tup (pa_cons (pe_bltn (v := .ty "list") (by rfl) B.list (by decide +kernel) rfl) (pa_cons (pe_bltn (v := .ty "tuple") (by rfl) B.tuple (by decide +kernel) rfl) pa_nil))) pa_nil))))
        (pss_cons (ps_if (PW.pt (pw_or
            (pt_cmpR op_ne (pe_callB call_isi (by rfl) B.isinstance boot_isi (pa_cons (pv 1) (pa_cons (pe_bltn (v := .ty "list") (by rfl) B.list (by decide +kernel) rfl) pa_nil))) (pe_callB call_isi (by rfl) B.isinstance boot_isi (pa_cons (pv 0) (pa_cons (pe_bltn (v := .ty "list") (by rfl) B.list (by decide +kernel) rfl) pa_nil))) (nomark _))
            (pw_or1 (pt_cmpR op_ne (pe_callB call_isi (by rfl) B.isinstance boot_isi (pa_cons (pv 1) (pa_cons (pe_bltn (v := .ty "tuple") (by rfl) B.tuple (by decide +kernel) rfl) pa_nil))) (pe_callB call_isi (by rfl) B.isinstance boot_isi (pa_cons (pv 0) (pa_cons (pe_bltn (v := .ty "tuple") (by rfl) B.tuple (by decide +kernel) rfl) pa_nil))) (nomark _)))))
          (pss_one (ps_ret pe_bl)) pss_nil)
        (pss_one (ps_ret (pe_and (pe_cmpR op_eq (pe_callB call_len_seq (by rfl) B.len PySem.boot_len (pa_cons (pv 0) pa_nil)) (pe_callB call_len_seq (by rfl) B.len PySem.boot_len (pa_cons (pv 1) pa_nil)) (nomark _))
          (pe_one (pe_callB (cr_all rfl) (by rfl) B.all (by decide +kernel) (pa_cons (pe_lc (own := [("_law_k", 2)]) (g := gName 2) (tt := tYes) (te := tCall spR [] E0 (tCons (tOp (fun x y H Q => rIxL K x y H Q ∨ rIxT K x y H Q) (tVar 0) (tVar 2)) (tCons (tOp (fun x y H Q => rIxL K x y H Q ∨ rIxT K x y H Q) (tVar 1) (tVar 2)) tNil))) rfl scSame.nd (pi_range1 (by rfl) B.range (pa_cons (pe_callB call_len_seq (by rfl) B.len PySem.boot_len (pa_cons (pv 1) pa_nil)) pa_nil))
            (blkOk_by (N := ["_law_x", "_law_due", "_law_k"]) (sc := defScope sSame) (by decide +kernel)) (fun _ _ _ _ _ => pg_name (i := 2) scSame.nd rfl (Or.inl rfl)) (fun _ _ _ _ _ => pts_nil)
            (fun _ _ _ _ _ => pe_call GS hr rfl D.g D.F.kp D.b .nil pass0 (pa_cons (pe_ix (IxR.or ix_list ix_tup) (pv 0) (pv 2) (fun _ _ => rfl)) (pa_cons (pe_ix (IxR.or ix_list ix_tup) (pv 1) (pv 2) (fun _ _ => rfl)) pa_nil)))) pa_nil)))))))
        pss_nil)
      (pss_cons (ps_if (PW.pt (pw_or
            (pt_cmpR op_ne (pe_callB call_isi (by rfl) B.isinstance boot_isi (pa_cons (pv 0) (pa_cons (pe_bltn (v := .ty "bool") (by rfl) hb (by decide +kernel) rfl) pa_nil))) (pe_callB call_isi (by rfl) B.isinstance boot_isi (pa_cons (pv 1) (pa_cons (pe_bltn (v := .ty "bool") (by rfl) hb (by decide +kernel) rfl) pa_nil))) (nomark _))
            (pw_or1 (pt_cmpR op_ne (pe_callB call_isi (by rfl) B.isinstance boot_isi (pa_cons (pv 0) (pa_cons (pe_bltn (v := .ty "str") (by rfl) hst (by decide +kernel) rfl) pa_nil))) (pe_callB call_isi (by rfl) B.isinstance boot_isi (pa_cons (pv 1) (pa_cons (pe_bltn (v := .ty "str") (by rfl) hst (by decide +kernel) rfl) pa_nil))) (nomark _)))))
          (pss_one (ps_ret pe_bl)) pss_nil)
      (pss_one (ps_ret (pe_and (pe_cmpR op_eq (pe_cmp (pc_isN (pv 0))) (pe_cmp (pc_isN (pv 1))) (nomark _)) (pe_one (pe_cmpR op_eq (pv 0) (pv 1) (nomark _))))))), ?_⟩
    cases al with
    | str a =>
      refine ⟨_, rfl, by show 2 ≤ sizeLine; decide, fun T nT => ⟨_, T, _, .type "str", [.type "list", .type "tuple"], false, rfl, upd_same, .cons (.ty _) (.cons (.ty _) .nil), .base (.str _), kitAny_cons (kit_ty (b := "list") (r := false) (by decide +kernel)) (fun _ => kitAny_cons (kit_ty (b := "tuple") (r := false) (by decide +kernel)) (fun _ => rfl) (fun z => by cases z)) (fun z => by cases z), _, rfl, iteF ?_⟩⟩
      refine ⟨_, rfl, _, _, .type "str", .type "bool", false, rfl, .ty _, .base (.str _), kit_ty (by decide +kernel), _, rfl, _, _, .type "str", .type "bool", false, rfl, .ty _, .base (.str _), kit_ty (by decide +kernel), rfl, _, rfl, ite2 (fun z => absurd z (by decide)) (fun _ => ?_)⟩
      refine ⟨_, rfl, _, _, .type "str", .type "str", true, rfl, .ty _, .base (.str _), kit_ty (by decide +kernel), _, rfl, _, _, .type "str", .type "str", true, rfl, .ty _, .base (.str _), kit_ty (by decide +kernel), rfl, _, rfl, ite2 (fun z => absurd z (by decide)) (fun _ => ?_)⟩
      refine ⟨_, rfl, _, rfl, rfl, _, rfl, ?_⟩
      rw [dec_self]
      refine iteT ⟨_, rfl, _, rfl, rfl, ?_⟩
      rw [dec_self]
      exact q _ (same_upd nT)
    | bl a =>
      refine ⟨_, rfl, by show 2 ≤ sizeLine; decide, fun T nT => ⟨_, T, _, .type "bool", [.type "list", .type "tuple"], false, rfl, upd_same, .cons (.ty _) (.cons (.ty _) .nil), .base (.bl _), kitAny_cons (kit_ty (b := "list") (r := false) (by decide +kernel)) (fun _ => kitAny_cons (kit_ty (b := "tuple") (r := false) (by decide +kernel)) (fun _ => rfl) (fun z => by cases z)) (fun z => by cases z), _, rfl, iteF ?_⟩⟩
      refine ⟨_, rfl, _, _, .type "bool", .type "bool", true, rfl, .ty _, .base (.bl _), kit_ty (by decide +kernel), _, rfl, _, _, .type "bool", .type "bool", true, rfl, .ty _, .base (.bl _), kit_ty (by decide +kernel), rfl, _, rfl, ite2 (fun z => absurd z (by decide)) (fun _ => ?_)⟩
      refine ⟨_, rfl, _, _, .type "bool", .type "str", false, rfl, .ty _, .base (.bl _), kit_ty (by decide +kernel), _, rfl, _, _, .type "bool", .type "str", false, rfl, .ty _, .base (.bl _), kit_ty (by decide +kernel), rfl, _, rfl, ite2 (fun z => absurd z (by decide)) (fun _ => ?_)⟩
      refine ⟨_, rfl, _, rfl, rfl, _, rfl, ?_⟩
      rw [dec_self]
      refine iteT ⟨_, rfl, _, rfl, rfl, ?_⟩
      rw [dec_self]
      exact q _ (same_upd nT)
    | int a =>
      refine ⟨_, rfl, by show 2 ≤ sizeLine; decide, fun T nT => ⟨_, T, _, .type "int", [.type "list", .type "tuple"], false, rfl, upd_same, .cons (.ty _) (.cons (.ty _) .nil), .base (.int _), kitAny_cons (kit_ty (b := "list") (r := false) (by decide +kernel)) (fun _ => kitAny_cons (kit_ty (b := "tuple") (r := false) (by decide +kernel)) (fun _ => rfl) (fun z => by cases z)) (fun z => by cases z), _, rfl, iteF ?_⟩⟩
      refine ⟨_, rfl, _, _, .type "int", .type "bool", false, rfl, .ty _, .base (.int _), kit_ty (by decide +kernel), _, rfl, _, _, .type "int", .type "bool", false, rfl, .ty _, .base (.int _), kit_ty (by decide +kernel), rfl, _, rfl, ite2 (fun z => absurd z (by decide)) (fun _ => ?_)⟩
      refine ⟨_, rfl, _, _, .type "int", .type "str", false, rfl, .ty _, .base (.int _), kit_ty (by decide +kernel), _, rfl, _, _, .type "int", .type "str", false, rfl, .ty _, .base (.int _), kit_ty (by decide +kernel), rfl, _, rfl, ite2 (fun z => absurd z (by decide)) (fun _ => ?_)⟩
      refine ⟨_, rfl, _, rfl, rfl, _, rfl, ?_⟩
      rw [dec_self]
      refine iteT ⟨_, rfl, _, rfl, rfl, ?_⟩
      rw [dec_self]
      exact q _ (same_upd nT)
    | non =>
      refine ⟨_, rfl, by show 2 ≤ sizeLine; decide, fun T nT => ⟨_, T, _, .type "NoneType", [.type "list", .type "tuple"], false, rfl, upd_same, .cons (.ty _) (.cons (.ty _) .nil), .base .non, kitAny_cons (kit_ty (b := "list") (r := false) (by decide +kernel)) (fun _ => kitAny_cons (kit_ty (b := "tuple") (r := false) (by decide +kernel)) (fun _ => rfl) (fun z => by cases z)) (fun z => by cases z), _, rfl, iteF ?_⟩⟩
      refine ⟨_, rfl, _, _, .type "NoneType", .type "bool", false, rfl, .ty _, .base .non, kit_ty (by decide +kernel), _, rfl, _, _, .type "NoneType", .type "bool", false, rfl, .ty _, .base .non, kit_ty (by decide +kernel), rfl, _, rfl, ite2 (fun z => absurd z (by decide)) (fun _ => ?_)⟩
      refine ⟨_, rfl, _, _, .type "NoneType", .type "str", false, rfl, .ty _, .base .non, kit_ty (by decide +kernel), _, rfl, _, _, .type "NoneType", .type "str", false, rfl, .ty _, .base .non, kit_ty (by decide +kernel), rfl, _, rfl, ite2 (fun z => absurd z (by decide)) (fun _ => ?_)⟩
      refine ⟨_, rfl, _, rfl, rfl, _, rfl, ?_⟩
      rw [dec_self]
      refine iteT ⟨_, rfl, _, rfl, rfl, ?_⟩
      rw [dec_self]
      exact q _ (same_upd nT)
    | @lst m p r xs ys ep er hl h5 hal =>
      have s1 : ∀ {T : Addr}, H T = none → ∀ {o : HO}, (upd H T o) p = some (.lst xs) ∧ (upd H T o) r = some (.lst ys) := fun {T} nT {o} => ⟨by rw [upd_ne (ne_of_none ep nT)]; exact ep, by rw [upd_ne (ne_of_none er nT)]; exact er⟩
      refine ⟨_, rfl, by show 2 ≤ sizeLine; decide, fun T nT => ⟨_, T, _, .type "list", [.type "list", .type "tuple"], true, rfl, upd_same, .cons (.ty _) (.cons (.ty _) .nil), .base (.lst (s1 nT).2), kitAny_cons (kit_ty (b := "list") (r := true) (by decide +kernel)) (fun z => by cases z) (fun _ => rfl), _, rfl, iteT ?_⟩⟩
      have sT : Same H (upd H T (.tup [V.ty "list", V.ty "tuple"])) := same_upd nT
      generalize (upd H T (.tup [V.ty "list", V.ty "tuple"])) = H1 at sT ⊢
      have ep1 := sT _ _ ep
      have er1 := sT _ _ er
      refine ⟨_, rfl, _, _, .type "list", .type "list", true, rfl, .ty _, .base (.lst er1), kit_ty (by decide +kernel), _, rfl, _, _, .type "list", .type "list", true, rfl, .ty _, .base (.lst ep1), kit_ty (by decide +kernel), rfl, _, rfl, ite2 (fun z => absurd z (by decide)) (fun _ => ?_)⟩
      refine ⟨_, rfl, _, _, .type "list", .type "tuple", false, rfl, .ty _, .base (.lst er1), kit_ty (by decide +kernel), _, rfl, _, _, .type "list", .type "tuple", false, rfl, .ty _, .base (.lst ep1), kit_ty (by decide +kernel), rfl, _, rfl, ite2 (fun z => absurd z (by decide)) (fun _ => ?_)⟩
      refine ⟨_, rfl, p, _, rfl, .inl (SqL.of ep1), _, rfl, r, _, rfl, .inl (SqL.of er1), rfl, _, rfl, ?_⟩
      rw [hl, dec_self]
      refine iteT ⟨_, rfl, r, _, rfl, .inl (SqL.of er1), _, rfl, by omega, by omega, ?_⟩
      rw [show ((ys.length : Nat) : Int).toNat = ys.length by exact Int.toNat_natCast _]
      intro Da nD
      refine lc_it walk_range (fun i H' => Same H1 H' ∧ H' Da = some (.lst (((List.range i).map fun _ => true).map V.bl))) ⟨same_upd nD, upd_same⟩ (fun _ _ _ _ => trivial) ?_ ?_
      · rintro i v H2 H3 hi ⟨s2, e2⟩ ⟨rfl, rfl⟩
        have hx : i < xs.length := by omega
        have ax : atI xs (0 + (i : Int)) = some xs[i] := by
          rw [show (0 + (i : Int)) = ((i : Nat) : Int) by omega]
          exact atI_nat (List.getElem?_eq_getElem hx)
        have ay : atI ys (0 + (i : Int)) = some ys[i] := by
          rw [show (0 + (i : Int)) = ((i : Nat) : Int) by omega]
          exact atI_nat (List.getElem?_eq_getElem hi)
        refine ⟨rfl, yes_i ⟨_, rfl, _, rfl, .inl ⟨p, _, _, _, rfl, rfl, SqL.of (s2 _ _ ep1), ax, _, rfl, _, rfl, .inl ⟨r, _, _, _, rfl, rfl, SqL.of (s2 _ _ er1), ay, hR m rfl _ _ _ _ _ ((hal i _ _ (List.getElem?_eq_getElem hx) (List.getElem?_eq_getElem hi)).same (sm_trans sT s2)) fun H4 s4 => ⟨_, s4 _ _ e2, ?_, sm_over (sm_trans s2 s4) nD, ?_⟩⟩⟩⟩⟩
        · rw [List.length_map, List.length_map, List.length_range, sizeLine_eq]
          omega
        · rw [upd_same, List.range_succ, List.map_append, List.map_append]
          rfl
      · rintro H2 ⟨s2, e2⟩
        refine ⟨_, _, rfl, SqL.of e2, ?_⟩
        rw [range_true]
        exact q _ (sm_trans sT s2)
    | @tup m p r xs ys ep er hl h5 hal =>
      have s1 : ∀ {T : Addr}, H T = none → ∀ {o : HO}, (upd H T o) p = some (.tup xs) ∧ (upd H T o) r = some (.tup ys) := fun {T} nT {o} => ⟨by rw [upd_ne (ne_of_none ep nT)]; exact ep, by rw [upd_ne (ne_of_none er nT)]; exact er⟩
      refine ⟨_, rfl, by show 2 ≤ sizeLine; decide, fun T nT => ⟨_, T, _, .type "tuple", [.type "list", .type "tuple"], true, rfl, upd_same, .cons (.ty _) (.cons (.ty _) .nil), .base (.tup (s1 nT).2), kitAny_cons (kit_ty (b := "list") (r := false) (by decide +kernel)) (fun _ => kitAny_cons (kit_ty (b := "tuple") (r := true) (by decide +kernel)) (fun z => by cases z) (fun _ => rfl)) (fun z => by cases z), _, rfl, iteT ?_⟩⟩
      have sT : Same H (upd H T (.tup [V.ty "list", V.ty "tuple"])) := same_upd nT
      generalize (upd H T (.tup [V.ty "list", V.ty "tuple"])) = H1 at sT ⊢
      have ep1 := sT _ _ ep
      have er1 := sT _ _ er
      refine ⟨_, rfl, _, _, .type "tuple", .type "list", false, rfl, .ty _, .base (.tup er1), kit_ty (by decide +kernel), _, rfl, _, _, .type "tuple", .type "list", false, rfl, .ty _, .base (.tup ep1), kit_ty (by decide +kernel), rfl, _, rfl, ite2 (fun z => absurd z (by decide)) (fun _ => ?_)⟩
      refine ⟨_, rfl, _, _, .type "tuple", .type "tuple", true, rfl, .ty _, .base (.tup er1), kit_ty (by decide +kernel), _, rfl, _, _, .type "tuple", .type "tuple", true, rfl, .ty _, .base (.tup ep1), kit_ty (by decide +kernel), rfl, _, rfl, ite2 (fun z => absurd z (by decide)) (fun _ => ?_)⟩
      refine ⟨_, rfl, p, _, rfl, .inr (SqT.of ep1), _, rfl, r, _, rfl, .inr (SqT.of er1), rfl, _, rfl, ?_⟩
      rw [hl, dec_self]
      refine iteT ⟨_, rfl, r, _, rfl, .inr (SqT.of er1), _, rfl, by omega, by omega, ?_⟩
      rw [show ((ys.length : Nat) : Int).toNat = ys.length by exact Int.toNat_natCast _]
      intro Da nD
      refine lc_it walk_range (fun i H' => Same H1 H' ∧ H' Da = some (.lst (((List.range i).map fun _ => true).map V.bl))) ⟨same_upd nD, upd_same⟩ (fun _ _ _ _ => trivial) ?_ ?_
      · rintro i v H2 H3 hi ⟨s2, e2⟩ ⟨rfl, rfl⟩
        have hx : i < xs.length := by omega
        have ax : atI xs (0 + (i : Int)) = some xs[i] := by
          rw [show (0 + (i : Int)) = ((i : Nat) : Int) by omega]
          exact atI_nat (List.getElem?_eq_getElem hx)
        have ay : atI ys (0 + (i : Int)) = some ys[i] := by
          rw [show (0 + (i : Int)) = ((i : Nat) : Int) by omega]
          exact atI_nat (List.getElem?_eq_getElem hi)
        refine ⟨rfl, yes_i ⟨_, rfl, _, rfl, .inr ⟨p, _, _, _, rfl, rfl, SqT.of (s2 _ _ ep1), ax, _, rfl, _, rfl, .inr ⟨r, _, _, _, rfl, rfl, SqT.of (s2 _ _ er1), ay, hR m rfl _ _ _ _ _ ((hal i _ _ (List.getElem?_eq_getElem hx) (List.getElem?_eq_getElem hi)).same (sm_trans sT s2)) fun H4 s4 => ⟨_, s4 _ _ e2, ?_, sm_over (sm_trans s2 s4) nD, ?_⟩⟩⟩⟩⟩
        · rw [List.length_map, List.length_map, List.length_range, sizeLine_eq]
          omega
        · rw [upd_same, List.range_succ, List.map_append, List.map_append]
          rfl
      · rintro H2 ⟨s2, e2⟩
        refine ⟨_, _, rfl, SqL.of e2, ?_⟩
        rw [range_true]
        exact q _ (sm_trans sT s2)
theorem ok_yes {f : Addr} {fd : FuncData} {k : Nat} (B : BM mg) (hb : mg "bool" = none) (hst : mg "str" = none) (D : DF K mg "_law_same" sSame ["_law_x", "_law_due"] f fd) : ∀ n, FnOk P w K mg base CX0 (k + n + 2) f fd ["_law_x", "_law_due"] (spYes n)
  | 0 => ok_yes1 (spR := spNo) B hb hst D (D.F.ok scSame (fun vs H Q E h => h.elim) (fun cdv A outer s H vs Q E hr h => h.elim)) fun m e => by cases e
  | n + 1 => ok_yes1 B hb hst D (ok_yes B hb hst D n) fun m e a b H Q E al q => by
    cases e
    exact ⟨a, b, rfl, al, q⟩
end
end NC
namespace NC
open PySem PySem.Spec PyProof.Rows L2
abbrev sHroom : Stmt := inClass (topS 29) 5
abbrev sHrooms : Stmt := inClass (topS 29) 6
abbrev sHgoes : Stmt := inClass (topS 29) 7
theorem scHroom : FnScope ["self", "room", "bar"] ["self", "room"] (defScope sHroom) := ⟨rfl, rfl, rfl, by decide +kernel, rfl, by decide +kernel, by decide +kernel⟩
theorem scHrooms : FnScope ["self", "begun", "wall", "room", "side"] ["self"] (defScope sHrooms) := ⟨rfl, rfl, rfl, by decide +kernel, rfl, by decide +kernel, by decide +kernel⟩
theorem scHgoes : FnScope ["self", "side", "begun", "forced", "had"] ["self", "side", "begun"] (defScope sHgoes) := ⟨rfl, rfl, rfl, by decide +kernel, rfl, by decide +kernel, by decide +kernel⟩
structure HM (K : PySem.W.Frag) (C fm fr fg : Addr) (dm dr dg : FuncData) : Prop where
  mm : Meth K C "is_room" fm
  Fm : Fun K "is_room" "Hall.is_room" sHroom fm dm
  bm : Binds K dm ["self", "room"] []
  mr : Meth K C "rooms" fr
  Fr : Fun K "rooms" "Hall.rooms" sHrooms fr dr
  br : Binds K dr ["self"] []
  mg : Meth K C "goes_with" fg
  Fg : Fun K "goes_with" "Hall.goes_with" sHgoes fg dg
  bg : Binds K dg ["self", "side", "begun"] []
theorem mem_tx0 {x : List Nat} {bs : List (List Nat)} : tx x ∈ bs.map tx ↔ x ∈ bs := by
  constructor
  · intro h
    obtain ⟨y, hy, e⟩ := List.mem_map.mp h
    rw [← tx_inj e]
    exact hy
  · exact fun h => List.mem_map.mpr ⟨x, h, rfl⟩
theorem str00 : (Str.ofString "") = tx [] := by decide +kernel
theorem HallAt.same {C : Addr} {H H' : Hp} {x dx sb D : Addr} {l : List Nat} {ys : List Str} {fo : Nat → List Nat} (h : HallAt C H x dx sb D l ys fo) (s : Same H H') : HallAt C H' x dx sb D l ys fo := ⟨s _ _ h.x, s _ _ h.sb, s _ _ h.D⟩
theorem prT_len (l : List Nat) (fo : Nat → List Nat) (k : Nat) : (prT l fo k).length ≤ 2 ^ k := by
  rw [prT_eq]
  refine Nat.le_trans (List.length_filter_le _ _) ?_
  rw [allT_len]
  exact Nat.le_refl _
theorem prT_sds {l : List Nat} (g : GoodW l) (fo : Nat → List Nat) {k : Nat} (hk : k ≤ l.length) : ∀ r ∈ prT l fo k, r.length = k ∧ ∀ c ∈ r, c ∈ sds l := fun r hr => by
  rw [prT_eq] at hr
  have hr := (List.mem_filter.mp hr).1
  obtain ⟨p, rfl⟩ := (allT_mem g.nd hk r).mp hr
  refine ⟨by unfold rmOf; rw [List.length_map, List.length_take]; omega, fun c hc => ?_⟩
  unfold rmOf at hc
  obtain ⟨e, he, rfl⟩ := List.mem_map.mp hc
  have he := List.mem_of_mem_take he
  by_cases h : p e = true
  · rw [if_pos h]; exact sds_of_small he
  · rw [if_neg h, upc_small (g.sm e he)]; exact sds_of_great g he
/-- a text is a room of the walls when it is one but for what is great -/
theorem room_low {l : List Nat} (g : GoodW l) (r : List Nat) : r ∈ allT l l.length ↔ r.map lwc = l := by
  have lw1 : ∀ {c : Nat}, c ∈ l → lwc c = c := fun {c} hc => by
    have := g.sm c hc
    unfold lwc
    rw [if_neg (by omega)]
  have lw2 : ∀ {c : Nat}, c ∈ l → lwc (upc c) = c := fun {c} hc => by
    have := g.sm c hc
    rw [upc_small this]
    unfold lwc
    rw [if_pos (by omega)]
    omega
  rw [allT_mem g.nd (Nat.le_refl _) r, List.take_length]
  constructor
  · rintro ⟨p, rfl⟩
    unfold rmOf
    rw [List.map_map]
    refine Eq.trans (List.map_congr_left fun c hc => ?_) (List.map_id l)
    show lwc (if p c then c else upc c) = c
    by_cases h : p c = true
    · rw [if_pos h]; exact lw1 hc
    · rw [if_neg h]; exact lw2 hc
  · intro h
    refine ⟨fun c => decide (c ∈ r), ?_⟩
    have hl : r.length = l.length := by rw [← h, List.length_map]
    refine List.ext_getElem (by unfold rmOf; rw [List.length_map]; exact hl) fun i h1 h2 => ?_
    have hil : i < l.length := by omega
    have ei : lwc r[i] = l[i] := by
      have : (r.map lwc)[i]'(by rw [List.length_map]; exact h1) = l[i] := by simp only [h]
      rw [List.getElem_map] at this
      exact this
    have hm : l[i] ∈ l := List.getElem_mem hil
    have sm := g.sm _ hm
    have eR : (rmOf l fun c => decide (c ∈ r))[i]'h2 = if decide (l[i] ∈ r) = true then l[i] else upc l[i] := by simp only [rmOf, List.getElem_map]
    rw [eR]
    by_cases hin : l[i] ∈ r
    · rw [if_pos (decide_eq_true hin)]
      obtain ⟨j, hj, ej⟩ := List.getElem_of_mem hin
      have ejl : lwc r[j] = l[j]'(by omega) := by
        have : (r.map lwc)[j]'(by rw [List.length_map]; exact hj) = l[j]'(by omega) := by simp only [h]
        rw [List.getElem_map] at this
        exact this
      rw [ej, lw1 hm] at ejl
      have : i = j := (List.getElem?_inj hil g.nd).mp (by rw [List.getElem?_eq_getElem hil, List.getElem?_eq_getElem (show j < l.length by omega), ejl])
      subst this
      exact ej
    · rw [if_neg (fun z => hin (of_decide_eq_true z)), upc_small sm]
      unfold lwc at ei
      by_cases hh : 65 ≤ r[i] ∧ r[i] ≤ 90
      · rw [if_pos hh] at ei
        omega
      · rw [if_neg hh] at ei
        exact absurd (by rw [← ei]; exact List.getElem_mem h1) hin
section
variable {P : Program} {w : World} {K : PySem.W.Frag} {mg : Str → Option Value} {base : Heap} {C fi fb fm fr fg : Addr} {di db dm dr dg : FuncData}
def spGoes (C : Addr) : Sp := fun vs H Q _ => ∃ x dx sb D l ys fo s r, vs = [.ref x, .str (sg s), .str (tx r)] ∧ HallAt C H x dx sb D l ys fo ∧ GoodW l ∧ s ∈ sds l ∧ (∀ c ∈ r, c ∈ sds l) ∧ r.length ≤ 100 ∧ ∀ H', Same H H' → Q (.bl (goes fo s r)) H'
def rSgn2 : R2 := fun x y H Q => ∃ (c : Nat) (z : Str), x = .str ⟨#[c]⟩ ∧ y = .str z ∧ Q (.bl (decide (c ∈ z.cps.toList))) H
set_option maxHeartbeats 1000000 in
theorem ok_Hgoes {fO : Addr} {fdO : FuncData} {k : Nat} (hany : mg "any" = none) (Z : HC K mg C fi fb di db) (M : HM K C fm fr fg dm dr dg) (O : DF K mg "other" sOther ["side"] fO fdO) : FnOk P w K mg base CX0 (k + 2) fg dg ["self", "side", "begun"] (spGoes C) := by
  have GO : FnOk P w K mg base CX0 (k + 1) fO fdO ["side"] spOther := ok_other O.F
  refine M.Fg.ok scHgoes (fun vs H Q E h => ?_) (fun cdv A outer st H vs Q E hr h => ?_)
  · obtain ⟨x, dx, sb, D, l, ys, fo, s, r, rfl, _⟩ := h
    rfl
  · obtain ⟨x, dx, sb, D, l, ys, fo, s, r, rfl, hA, g, hs, hrs, hrl, q⟩ := h
    have nd := scHgoes.nd
    refine ⟨_, pss_cons (ps_set (i := 3) nd rfl (.inr rfl) (pe_dget (hu_of hr) (pe_fld (pv 0) rfl) (pv 1) (fun _ _ => rfl)))
      (pss_one (ps_ret (pe_not (pe_callB (cr_any rfl) (by rfl) hany (by decide +kernel) (pa_cons (pe_lc (own := [("had", 4)]) (g := gName 4) (tt := tYes) (te := tOp rSgn2 (tCall spOther [] E0 (tCons (tVar 4) tNil)) (tVar 3)) rfl nd (pi_str (pv 2)) (blkOk_by (N := ["self", "side", "begun", "forced", "had"]) (sc := defScope sHgoes) (by decide +kernel)) (fun _ _ _ _ _ => pg_name (i := 4) nd rfl (Or.inl rfl)) (fun _ _ _ _ _ => pts_nil)
        (fun _ _ _ _ _ => pe_cmpR op_in_sign (pe_call GO hr rfl O.g O.F.kp O.b .nil pass0 (pa_cons (pv 4) pa_nil)) (pv 3) (by rfl))) pa_nil))))), ?_⟩
    refine ⟨_, rfl, x, C, dx, _, .ref D, rfl, hA.x, Z.cl, Z.n3, rfl, _, rfl, D, _, rfl, foK_get hA.D hs, ?_⟩
    refine ⟨_, rfl, tx r, rfl, fun Da na => ?_⟩
    have lz : (tx r).cps.size = r.length := tx_len _
    refine lc_it walk_str (fun i H' => Same H H' ∧ H' Da = some (.lst (((r.take i).map fun h => decide (swp h ∈ fo s)).map V.bl))) ⟨same_upd na, upd_same⟩ (fun _ _ _ _ => trivial) ?_ ?_
    · rintro i v H1 H2 hi ⟨s1, e1⟩ ⟨rfl, c, hc, rfl⟩
      have hcl : r[i]? = some c := by
        rw [← Array.getElem?_toList, tx_list] at hc
        exact hc
      refine ⟨rfl, yes_i ⟨_, rfl, c, rfl, sds_asc g (hrs c (List.mem_of_getElem? hcl)), _, rfl, swp c, tx (fo s), rfl, rfl, ?_⟩⟩
      rw [tx_list]
      refine ⟨_, e1, ?_, sm_over s1 na, ?_⟩
      · rw [List.length_map, List.length_map, List.length_take, sizeLine_eq]
        omega
      · rw [upd_same, List.take_add_one, hcl, List.map_append, List.map_append]
        rfl
    · rintro H1 ⟨s1, e1⟩
      rw [lz, List.take_length] at e1
      refine ⟨_, _, rfl, SqL.of e1, _, rfl, ?_⟩
      rw [show (!(r.map fun h => decide (swp h ∈ fo s)).any id) = goes fo s r by unfold goes; rw [List.any_map]; rfl]
      exact q _ s1
def spHrooms (C : Addr) : Sp := fun vs H Q _ => ∃ x dx sb D l ys fo, vs = [.ref x] ∧ HallAt C H x dx sb D l ys fo ∧ GoodW l ∧ ∀ H' p, Same H H' → H p = none → H' p = some (.lst (((prT l fo l.length).map tx).map V.str)) → Q (.ref p) H'
abbrev nHrooms : List Str := ["self", "begun", "wall", "room", "side"]
set_option maxHeartbeats 2000000 in
theorem ok_Hrooms {fO : Addr} {fdO : FuncData} {k : Nat} (hany : mg "any" = none) (Z : HC K mg C fi fb di db) (M : HM K C fm fr fg dm dr dg) (O : DF K mg "other" sOther ["side"] fO fdO) : FnOk P w K mg base CX0 (k + 3) fr dr ["self"] (spHrooms C) := by
  have GO : FnOk P w K mg base CX0 (k + 1) fO fdO ["side"] spOther := ok_other O.F
  have GG : FnOk P w K mg base CX0 (k + 2) fg dg ["self", "side", "begun"] (spGoes C) := ok_Hgoes hany Z M O
  refine M.Fr.ok scHrooms (fun vs H Q E h => ?_) (fun cdv A outer st H vs Q E hr h => ?_)
  · obtain ⟨x, dx, sb, D, l, ys, fo, rfl, _⟩ := h
    rfl
  · obtain ⟨x, dx, sb, D, l, ys, fo, rfl, hA, g, q⟩ := h
    have nd := scHrooms.nd
    have r1 : Room (k + 1) _ := hr.mono (by omega)
    refine ⟨_, pss_cons (ps_set (i := 1) nd rfl (.inl rfl) (pe_lst (pa_cons pe_str pa_nil)))
      (pss_cons (ps_for PassesOwn.never rfl (pi_str (pe_fld (pv 0) rfl)) (pg_name (i := 2) nd rfl (.inr rfl))
        (pss_one (ps_setLc2 (i := 1) (wi1 := iTup K (tTup (tCons (tCall spOther [] E0 (tCons (tVar 2) tNil)) (tCons (tVar 2) tNil)))) (own := [("room", 3), ("side", 4)]) (vs1 := [4]) (g := gName 3) (g1 := gName 4) (tt := tYes)
          (tt1 := tB (tMeth C "goes_with" (spGoes C) [] E0 (tVar 0) (tCons (tVar 4) (tCons (tVar 3) tNil)))) rfl nd rfl rfl (sw_true rfl rfl rfl (by decide +kernel)) (pi_list (pv 1))
          (blkOk_by (N := nHrooms) (sc := defScope sHrooms) (by decide +kernel)) (by decide)
          (fun _ _ _ _ _ => pg_name (i := 3) nd rfl (Or.inl rfl)) (fun _ _ _ _ _ => pts_nil)
          (fun _ _ _ _ _ => pi_tup (pe_tup (pa_cons (pe_call GO r1 rfl O.g O.F.kp O.b .nil pass0 (pa_cons (pv 2) pa_nil)) (pa_cons (pv 2) pa_nil))))
          (fun _ _ _ _ _ => pg_name (i := 4) nd rfl (Or.inl rfl))
          (fun _ _ _ _ _ => pts_one (pt_val (pe_meth (pv 0) Z.cl M.mg GG hr M.bg .nil pass0 (pa_cons (pv 4) (pa_cons (pv 3) pa_nil))))) (fun _ _ _ _ _ => pe_op op_add_str (pv 3) (pv 4)))))
      (pss_one (ps_ret (pv 1)))), ?_⟩
    have hl12 := g.hi
    refine ⟨by show 1 ≤ sizeLine; decide, fun p0 np0 => ?_⟩
    have lz : (tx l).cps.size = l.length := tx_len _
    have s0 : Same H (upd H p0 (.lst [V.str (Str.ofString "")])) := same_upd np0
    refine ⟨_, rfl, x, C, dx, _, .str (tx l), rfl, (hA.same s0).x, Z.cl, Z.n1, rfl, tx l, rfl, ?_⟩
    refine for_it walk_str (fun i σ H' => ∃ (p : Addr) (y2 y3 y4 : Option V), σ = [some (.ref x), some (.ref p), y2, y3, y4] ∧ Same H H' ∧ H p = none ∧ H' p = some (.lst (((prT l fo i).map tx).map V.str)))
      ⟨p0, _, _, _, rfl, s0, np0, by rw [upd_same, str00]; rfl⟩ (fun _ _ _ _ _ => trivial) ?_ ?_
    · rintro i v σ H1 H2 hi ⟨p, y2, y3, y4, rfl, s1, np, e1⟩ ⟨rfl, c, hc, rfl⟩
      rw [lz] at hi
      have hcl : l[i]? = some c := by
        rw [← Array.getElem?_toList, tx_list] at hc
        exact hc
      have hcm := List.mem_of_getElem? hcl
      have hca : c < 128 := g.asc c hcm
      have ecg : l.getD i 0 = c := by rw [List.getD_eq_getElem?_getD, hcl]; rfl
      have esw : swp c = upc c := by rw [swp_small (g.sm c hcm), upc_small (g.sm c hcm)]
      have wk := walk_list (K := K) (a := p) (xs := ((prT l fo i).map tx).map V.str)
      rw [List.length_map, List.length_map] at wk
      have tl := prT_len l fo i
      have tp : 2 ^ i ≤ 4096 := Nat.le_trans (Nat.pow_le_pow_right (by decide) (Nat.le_trans (Nat.le_of_lt hi) hl12)) (by decide)
      have hsd : ∀ e ∈ [swp c, c], e ∈ sds l := fun e he => by
        rcases List.mem_cons.mp he with z | z
        · rw [z]; exact sds_swp g (sds_of_small hcm)
        · rw [List.mem_singleton.mp z]; exact sds_of_small hcm
      refine ⟨_, rfl, p, rfl, ⟨_, SqL.of e1⟩, fun Da na => ?_⟩
      have nDH : H Da = none := L2.Same.free s1 na
      have npD : p ≠ Da := ne_of_none e1 na
      refine out_it wk (fun j H' => Same H2 H' ∧ H' Da = some (.lst (((((prT l fo i).take j).flatMap fun r => ([swp c, c].filter fun s => goes fo s r).map fun s => r ++ [s]).map tx).map V.str))) ⟨same_upd na, upd_same⟩ (fun j H' _ h => SqL.of (h.1 _ _ e1)) ?_ ?_
      · rintro j v G3 G4 hj ⟨u3, e3⟩ ⟨rfl, hx⟩
        rw [List.getElem?_map, List.getElem?_map] at hx
        obtain ⟨z, hz, rfl⟩ := Option.map_eq_some_iff.mp hx
        obtain ⟨r, hr2, rfl⟩ := Option.map_eq_some_iff.mp hz
        have hr3 := prT_sds g fo (Nat.le_of_lt hi) r (List.mem_of_getElem? hr2)
        have fl : ∀ (xs : List (List Nat)), (xs.flatMap fun r => ([swp c, c].filter fun s => goes fo s r).map fun s => r ++ [s]).length ≤ 2 * xs.length := fun xs => by
          induction xs with
          | nil => exact Nat.le_refl _
          | cons y t ih =>
            have e : (y :: t).length = t.length + 1 := rfl
            have h2 : ([swp c, c].filter fun s => goes fo s y).length ≤ 2 := List.length_filter_le _ _
            rw [List.flatMap_cons, List.length_append, e, List.length_map]
            omega
        refine ⟨rfl, yes_i ⟨_, rfl, c, rfl, hca, _, rfl, by show 2 ≤ sizeLine; decide, fun T hT => ⟨T, rfl, ⟨_, SqT.of upd_same⟩, ?_⟩⟩⟩
        have nDT : Da ≠ T := ne_of_none e3 hT
        refine in_it (walk_tup (K := K) (a := T) (xs := [swp c, c].map fun e => V.str (sg e))) (fun t H' => Same H2 H' ∧ SqT K H' T ([swp c, c].map fun e => V.str (sg e)) ∧
          H' Da = some (.lst ((((((prT l fo i).take j).flatMap fun r => ([swp c, c].filter fun s => goes fo s r).map fun s => r ++ [s]) ++ (([swp c, c].take t).filter fun s => goes fo s r).map fun s => r ++ [s]).map tx).map V.str)))
          ⟨sm_upd u3 hT, SqT.of upd_same, by rw [upd_ne nDT, e3]; simp⟩ (fun j H' _ h => h.2.1) ?_ ?_
        · rintro t v G5 G6 ht ⟨u5, hT5, e5⟩ ⟨rfl, hx⟩
          rw [List.getElem?_map] at hx
          obtain ⟨e, he, rfl⟩ := Option.map_eq_some_iff.mp hx
          have hes := hsd e (List.mem_of_getElem? he)
          have hA6 := hA.same (sm_trans s1 u5)
          refine ⟨rfl, _, rfl, x, dx, _, rfl, hA6.x, rfl, _, rfl, _, rfl, x, dx, sb, D, l, ys, fo, e, r, rfl, hA6, g, hes, hr3.2, by omega, fun G7 u7 => ⟨_, rfl, ?_⟩⟩
          have hT7 := sm_t u7 hT5
          have e7 := u7 _ _ e5
          refine ite2 (fun k1 => ?_) (fun k1 => ?_)
          · refine ⟨_, rfl, _, rfl, _, _, rfl, rfl, by rw [tx_len, hr3.1, sizeLine_eq]; show i + 1 ≤ _; omega, ?_⟩
            refine ⟨_, e7, ?_, sm_over (sm_trans u5 u7) na, ?_, ?_⟩
            · rw [List.length_map, List.length_map, List.length_append, sizeLine_eq]
              have f1 := fl ((prT l fo i).take j)
              have f2 : ((([swp c, c].take t).filter fun s => goes fo s r).map fun s => r ++ [s]).length ≤ 2 := by
                rw [List.length_map]
                exact Nat.le_trans (List.length_filter_le _ _) (by rw [List.length_take]; exact Nat.min_le_right _ _)
              have f3 : ((prT l fo i).take j).length ≤ 4096 := by rw [List.length_take]; omega
              have f1 : (((prT l fo i).take j).flatMap fun r => ([swp c, c].filter fun s => goes fo s r).map fun s => r ++ [s]).length ≤ 2 * ((prT l fo i).take j).length := f1
              omega
            · rcases hT7 with (z | ⟨o, z⟩) | z
              · exact .inl (.inl (by rw [upd_ne (Ne.symm nDT)]; exact z))
              · exact .inl (.inr ⟨o, by rw [upd_ne (Ne.symm nDT)]; exact z⟩)
              · exact .inr z
            · rw [upd_same, List.take_add_one, he, List.filter_append]
              rw [sg_tx, tx_app]
              simp [k1]
          · refine ⟨sm_trans u5 u7, hT7, ?_⟩
            rw [e7, List.take_add_one, he, List.filter_append]
            have k1 : goes fo e r = false := Bool.eq_false_iff.mpr k1
            simp [k1]
        · rintro G5 ⟨u5, _, e5⟩
          refine ⟨u5, ?_⟩
          rw [e5, List.take_add_one, hr2, List.flatMap_append]
          simp
      · rintro G3 ⟨u3, e3⟩
        rw [List.take_length] at e3
        refine ⟨Da, _, _, _, rfl, sm_trans s1 u3, nDH, ?_⟩
        rw [e3]
        show _ = some (HO.lst ((((prT l fo i).flatMap fun r => ([upc (l.getD i 0), l.getD i 0].filter fun s => goes fo s r).map fun s => r ++ [s]).map tx).map V.str))
        rw [ecg, esw]
    · rintro σ H1 ⟨p, y2, y3, y4, rfl, s1, np, e1⟩
      rw [lz] at e1
      exact ⟨_, rfl, q H1 p s1 np e1⟩
def spHroom (C : Addr) : Sp := fun vs H Q _ => ∃ x dx sb D l ys fo bs r, vs = [.ref x, .str (tx r)] ∧ HallAt C H x dx sb D l ys fo ∧ GoodW l ∧ (∀ b ∈ bs, isBar l b = true) ∧ ys.Perm (bs.map tx) ∧ bs.length ≤ 64 ∧ (∀ c ∈ r, c < 128) ∧ r.length ≤ 100 ∧ ∀ H', Same H H' → Q (.bl (decide (r ∈ rms l bs))) H'
set_option maxHeartbeats 1000000 in
theorem ok_Hroom {k : Nat} (hany : mg "any" = none) (Z : HC K mg C fi fb di db) (M : HM K C fm fr fg dm dr dg) : FnOk P w K mg base CX0 (k + 1) fm dm ["self", "room"] (spHroom C) := by
  refine M.Fm.ok scHroom (fun vs H Q E h => ?_) (fun cdv A outer st H vs Q E hr h => ?_)
  · obtain ⟨x, dx, sb, D, l, ys, fo, bs, r, rfl, _⟩ := h
    rfl
  · obtain ⟨x, dx, sb, D, l, ys, fo, bs, r, rfl, hA, g, hb, hp, hbn, hra, hrl, q⟩ := h
    have nd := scHroom.nd
    refine ⟨_, pss_cons (ps_if (pt_cmpR op_ne (pe_lower (pv 1)) (pe_fld (pv 0) rfl) (nomark _)) (pss_one (ps_ret pe_bl)) pss_nil)
      (pss_one (ps_ret (pe_not (pe_callB (cr_any rfl) (by rfl) hany (by decide +kernel) (pa_cons (pe_lc (own := [("bar", 2)]) (g := gName 2) (tt := tYes) (te := tAndV (tOp rSgn2 (tOp rIxS (tVar 2) (tC (.int 0))) (tVar 1)) (tOp rSgn2 (tOp rIxS (tVar 2) (tC (.int 1))) (tVar 1))) rfl nd (pi_list (pe_fld (pv 0) rfl)) (blkOk_by (N := ["self", "room", "bar"]) (sc := defScope sHroom) (by decide +kernel)) (fun _ _ _ _ _ => pg_name (i := 2) nd rfl (Or.inl rfl)) (fun _ _ _ _ _ => pts_nil)
        (fun _ _ _ _ _ => pe_and (pe_cmpR op_in_sign (pe_ix ix_str (pv 2) pe_int (fun _ _ => rfl)) (pv 1) (by rfl)) (pe_one (pe_cmpR op_in_sign (pe_ix ix_str (pv 2) pe_int (fun _ _ => rfl)) (pv 1) (by rfl))))) pa_nil))))), ?_⟩
    refine ⟨_, rfl, ⟨_, rfl⟩, _, rfl, rfl, by show r.toArray.size ≤ 5592405; rw [List.size_toArray]; omega, ?_⟩
    rw [lower_tx hra]
    refine ⟨_, rfl, x, C, dx, _, .str (tx l), rfl, hA.x, Z.cl, Z.n1, rfl, rfl, _, rfl, ite2 (fun t => ?_) (fun t => ?_)⟩
    · have hn : r ∉ rms l bs := fun z => by
        unfold rms at z
        have := (room_low g r).mp (List.mem_filter.mp z).1
        rw [this] at t
        simp at t
      have := q H (L2.Same.refl _)
      rw [decide_eq_false hn] at this
      exact this
    · have hlow : r.map lwc = l := by
        have t2 : tx (r.map lwc) = tx l := by simpa using t
        exact tx_inj t2
      have hall := (room_low g r).mpr hlow
      have yz : ys = (ys.map fun y => y.cps.toList).map tx := by
        rw [List.map_map]
        refine (Eq.trans (List.map_congr_left fun y _ => ?_) (List.map_id ys)).symm
        show Str.mk y.cps.toList.toArray = y
        rw [Array.toArray_toList]
      generalize hzs : (ys.map fun y => y.cps.toList) = zs at yz
      have mz : ∀ b, b ∈ zs ↔ b ∈ bs := fun b => by
        rw [← mem_tx0, ← mem_tx0, ← yz]
        exact hp.mem_iff
      have zl : zs.length ≤ 64 := by
        have := hp.length_eq
        rw [yz, List.length_map, List.length_map] at this
        omega
      rw [yz] at hA
      have wk := walk_list (K := K) (a := sb) (xs := (zs.map tx).map V.str)
      rw [List.length_map, List.length_map] at wk
      refine ⟨_, rfl, x, C, dx, _, .ref sb, rfl, hA.x, Z.cl, Z.n2, rfl, sb, rfl, ⟨_, SqL.of hA.sb⟩, fun Da na => ?_⟩
      refine lc_it wk (fun i H' => Same H H' ∧ H' Da = some (.lst (((zs.take i).map fun b => inR b r).map V.bl))) ⟨same_upd na, upd_same⟩ (fun i H' _ h => SqL.of (h.1 _ _ hA.sb)) ?_ ?_
      · rintro u v G5 G6 hu ⟨u5, ea⟩ ⟨rfl, hx⟩
        rw [List.getElem?_map, List.getElem?_map] at hx
        obtain ⟨z, hz, rfl⟩ := Option.map_eq_some_iff.mp hx
        obtain ⟨b, hb1, rfl⟩ := Option.map_eq_some_iff.mp hz
        obtain ⟨s, m, rfl, hs, hm, _⟩ := bar_two (hb b ((mz b).mp (List.mem_of_getElem? hb1)))
        have tz : (tx [s, m]).length ≤ sizeLine := by rw [tx_len, sizeLine_eq]; show 2 ≤ _; omega
        have fin : ∀ bb : Bool, bb = inR [s, m] r → ∃ acc, G6 Da = some (.lst acc) ∧ acc.length < sizeLine ∧ Same H (upd G6 Da (.lst (acc ++ [V.bl bb]))) ∧ upd G6 Da (.lst (acc ++ [V.bl bb])) Da = some (.lst (((zs.take (u + 1)).map fun b => inR b r).map V.bl)) := fun bb ebb => by
          refine ⟨_, ea, ?_, sm_over u5 na, ?_⟩
          · rw [List.length_map, List.length_map, List.length_take, sizeLine_eq]
            omega
          · rw [upd_same, List.take_add_one, hb1, List.map_append, List.map_append, ebb]
            rfl
        have ein : inR [s, m] r = (decide (s ∈ r) && decide (m ∈ r)) := by simp [inR]
        refine ⟨rfl, yes_i ⟨_, rfl, _, _, s, rfl, rfl, tz, rfl, _, rfl, s, tx r, rfl, rfl, ?_⟩⟩
        rw [tx_list]
        refine ⟨_, rfl, ite2 (fun k1 => ?_) (fun k1 => fin false (by rw [ein, Bool.eq_false_iff.mpr k1]; rfl))⟩
        refine ⟨_, rfl, _, _, m, rfl, rfl, tz, rfl, _, rfl, m, tx r, rfl, rfl, ?_⟩
        rw [tx_list]
        exact fin _ (by rw [ein, k1]; rfl)
      · rintro G5 ⟨u5, ea⟩
        rw [List.take_length] at ea
        refine ⟨Da, _, rfl, SqL.of ea, _, rfl, ?_⟩
        have e2 : (!(zs.map fun b => inR b r).any id) = decide (r ∈ rms l bs) := by
          rw [List.any_map, Bool.eq_iff_iff, decide_eq_true_eq]
          unfold rms
          rw [List.mem_filter]
          have e3 : (zs.any (id ∘ fun b => inR b r)) = bs.any fun b => inR b r := by
            rw [Bool.eq_iff_iff, List.any_eq_true, List.any_eq_true]
            exact ⟨fun ⟨b, h1, h2⟩ => ⟨b, (mz b).mp h1, h2⟩, fun ⟨b, h1, h2⟩ => ⟨b, (mz b).mpr h1, h2⟩⟩
          rw [e3]
          exact ⟨fun h => ⟨hall, h⟩, fun h => h.2⟩
        rw [e2]
        exact q _ u5
end
end NC
namespace NC
open PySem PySem.Spec PyProof.Rows L2
def dif (r g : List Nat) (k : Nat) : Bool := decide (r.getD k 0 ≠ g.getD k 0)
def ham (r g : List Nat) : Nat := ((List.range r.length).filter (dif r g)).length
theorem ham_zero {r g : List Nat} (hl : r.length = g.length) : ham r g = 0 ↔ r = g := by
  unfold ham
  rw [List.length_eq_zero_iff, List.filter_eq_nil_iff]
  constructor
  · intro h
    refine List.ext_getElem hl fun k h1 h2 => ?_
    have := h k (List.mem_range.mpr h1)
    unfold dif at this
    have e : r.getD k 0 = g.getD k 0 := by simpa using this
    rw [List.getD_eq_getElem?_getD, List.getD_eq_getElem?_getD, List.getElem?_eq_getElem h1, List.getElem?_eq_getElem h2] at e
    exact e
  · rintro rfl k _
    unfold dif
    simp
end NC
namespace NC
open PySem PySem.Spec PyProof.Rows L2
theorem rm_get {l : List Nat} {p : Nat → Bool} {i : Nat} (h : i < l.length) : (rmOf l p).getD i 0 = if p l[i] then l[i] else upc l[i] := by
  unfold rmOf
  rw [List.getD_eq_getElem?_getD, List.getElem?_map, List.getElem?_eq_getElem h]
  rfl
theorem rm_len (l : List Nat) (p : Nat → Bool) : (rmOf l p).length = l.length := List.length_map ..
theorem val_small {p : Nat → Bool} {c : Nat} (h : 97 ≤ c ∧ c ≤ 122) : val p c = p c := by unfold val; rw [if_neg (by omega)]
theorem val_great {p : Nat → Bool} {c : Nat} (h : 97 ≤ c ∧ c ≤ 122) : val p (c - 32) = !p c := by unfold val; rw [if_pos (by omega), show c - 32 + 32 = c by omega]
theorem swp_sd {c : Nat} (h : 97 ≤ c ∧ c ≤ 122) (b : Bool) : swp (if b then c else upc c) = if !b then c else upc c := by
  cases b with
  | true =>
    show swp c = upc c
    rw [swp_small h, upc_small h]
  | false =>
    show swp (upc c) = c
    rw [upc_small h, swp_great (by omega)]
    omega
end NC
namespace NC
open PySem PySem.Spec PyProof.Rows L2
/-- the sign of x at i -/
abbrev SgAt (x : Str) (i : Nat) (v : V) : Prop := ∃ c, x.cps[i]? = some c ∧ v = .str ⟨#[c]⟩
def AtES (x : Str) (t : Tok) (e it : Addr) (i : Nat) (h : Heap) : Prop := (∃ last, IsEnum h e it ((i : Nat) : Int) last) ∧ h.IsStrIter it (strIterType x) x t i ∧ e ≠ it ∧ i ≤ x.cps.size
theorem AtES.olds {x : Str} {t : Tok} {e it : Addr} {i : Nat} {h : Heap} (st : AtES x t e it i h) {b : Addr} (m : b ∈ [e, it]) : b < h.objs.size := by
  obtain ⟨⟨_, g1⟩, ⟨o2, g2, _⟩, _⟩ := st
  rcases List.mem_cons.mp m with rfl | m
  · exact Heap.lt_size g1
  · exact (List.mem_singleton.mp m) ▸ Heap.lt_size g2
def AtZS (x y : Str) (t1 t2 : Tok) (z TI TO i1 i2 : Addr) (i : Nat) (h : Heap) : Prop := IsZip h z TI TO .none ∧ IsTupOf2 h TI (.ref i1) (.ref i2) ∧ (∃ a b, IsTupOf2 h TO a b) ∧ h.IsStrIter i1 (strIterType x) x t1 i ∧ h.IsStrIter i2 (strIterType y) y t2 i ∧ i ≤ x.cps.size ∧ i ≤ y.cps.size
theorem AtZS.olds {x y : Str} {t1 t2 : Tok} {z TI TO i1 i2 : Addr} {i : Nat} {h : Heap} (st : AtZS x y t1 t2 z TI TO i1 i2 i h) : ∀ b ∈ [z, TI, TO, i1, i2], ∃ o, h.get? b = some o ∧ ∀ v, o.data ≠ .cell v := by
  obtain ⟨hz, hI, ⟨a, b, hO⟩, ⟨o1, e1, _, d1⟩, ⟨o2, e2, _, d2⟩, _⟩ := st
  simp only [List.mem_cons, List.not_mem_nil, or_false, forall_eq_or_imp, forall_eq]
  exact ⟨⟨_, hz, nofun⟩, ⟨_, hI, nofun⟩, ⟨_, hO, nofun⟩, ⟨o1, e1, fun v q => nomatch d1.symm.trans q⟩, ⟨o2, e2, fun v q => nomatch d2.symm.trans q⟩⟩
/-- a statement that is never come to -/
theorem ps_dead {X : Cx} {st : Stmt} : PS X st (fun _ _ _ => False) := ⟨fun _ _ _ _ _ _ h => h.elim⟩
end NC
namespace NC
open PySem PySem.Spec PyProof.Rows L2
abbrev sChkRoom : Stmt := topS 23
theorem scChkRoom : FnScope ["hall", "room"] ["hall", "room"] (defScope sChkRoom) := ⟨rfl, rfl, rfl, by decide +kernel, rfl, by decide +kernel, by decide +kernel⟩
/-- a hall that was let by, at x -/
structure HallG (C : Addr) (H : Hp) (x dx sb D : Addr) (l : List Nat) (ys : List Str) (fo : Nat → List Nat) (bs : List (List Nat)) : Prop where
  hA : HallAt C H x dx sb D l ys fo
  g : GoodW l
  bar : ∀ b ∈ bs, isBar l b = true
  perm : ys.Perm (bs.map tx)
  len : bs.length ≤ 64
  ok : Okv l bs
theorem HallG.same {C : Addr} {H H' : Hp} {x dx sb D : Addr} {l : List Nat} {ys : List Str} {fo : Nat → List Nat} {bs : List (List Nat)} (h : HallG C H x dx sb D l ys fo bs) (s : Same H H') : HallG C H' x dx sb D l ys fo bs := ⟨h.hA.same s, h.g, h.bar, h.perm, h.len, h.ok⟩
theorem rms_lets {l : List Nat} (g : GoodW l) {bs : List (List Nat)} : ∀ r ∈ rms l bs, r.length = l.length ∧ ∀ c ∈ r, isLt c := fun r hr => by
  have hm : r ∈ allT l l.length := by
    unfold rms at hr
    exact (List.mem_filter.mp hr).1
  obtain ⟨p, rfl⟩ := (allT_mem g.nd (Nat.le_refl _) r).mp hm
  rw [List.take_length]
  exact ⟨rm_len l p, fun c hc => sds_lt g (rm_asc g hc)⟩
theorem get_of {r : List Nat} {i c : Nat} (h : r[i]? = some c) : r.getD i 0 = c := by rw [List.getD_eq_getElem?_getD, h]; rfl
section
variable {P : Program} {w : World} {K : PySem.W.Frag} {mg : Str → Option Value} {base : Heap} {C fi fb fm fr fg : Addr} {di db dm dr dg : FuncData}
def spChkRoom (C : Addr) : Sp := fun vs H Q _ => ∃ x dx sb D l ys fo bs r, vs = [.ref x, .str (tx r)] ∧ HallG C H x dx sb D l ys fo bs ∧ r ∈ rms l bs ∧ ∀ H', Same H H' → Q .non H'
theorem ok_chkRoom {f : Addr} {fd : FuncData} {k : Nat} (hany : mg "any" = none) (Z : HC K mg C fi fb di db) (M : HM K C fm fr fg dm dr dg) (F : Fun K "check_room" "check_room" sChkRoom f fd) : FnOk P w K mg base CX0 (k + 2) f fd ["hall", "room"] (spChkRoom C) := by
  have GM : FnOk P w K mg base CX0 (k + 1) fm dm ["self", "room"] (spHroom C) := ok_Hroom hany Z M
  refine F.ok scChkRoom (fun vs H Q E h => ?_) (fun cdv A outer st H vs Q E hr h => ?_)
  · obtain ⟨x, dx, sb, D, l, ys, fo, bs, r, rfl, _⟩ := h
    rfl
  · obtain ⟨x, dx, sb, D, l, ys, fo, bs, r, rfl, hG, hm, q⟩ := h
    obtain ⟨rl, rlt⟩ := rms_lets hG.g r hm
    have hl12 := hG.g.hi
    refine ⟨_, pss_one (ps_if (pt_not (pt_val (pe_meth (pv 0) Z.cl M.mm GM hr M.bm .nil pass0 (pa_cons (pv 1) pa_nil)))) (pss_one ps_dead) pss_nil), ?_⟩
    refine ⟨_, rfl, x, dx, _, rfl, hG.hA.x, rfl, _, rfl, x, dx, sb, D, l, ys, fo, bs, r, rfl, hG.hA, hG.g, hG.bar, hG.perm, hG.len, (fun c hc => (rlt c hc).asc), by omega, fun H1 s1 => ⟨_, rfl, ?_⟩⟩
    rw [decide_eq_true hm]
    exact iteF (q H1 s1)
end
end NC
namespace NC
open PySem PySem.Spec PyProof.Rows L2
abbrev sApart : Stmt := topS 73
theorem scApart : FnScope ["_law_one", "_law_two", "_law_k"] ["_law_one", "_law_two"] (defScope sApart) := ⟨rfl, rfl, rfl, by decide +kernel, rfl, by decide +kernel, by decide +kernel⟩
section
variable {P : Program} {w : World} {K : PySem.W.Frag} {mg : Str → Option Value} {base : Heap}
def spApart : Sp := fun vs H Q _ => ∃ r o, vs = [.str (tx r), .str (tx o)] ∧ r.length = o.length ∧ r.length ≤ 100 ∧ ∀ H', Same H H' → Q (.int (ham r o : Nat)) H'
set_option maxHeartbeats 1000000 in
theorem ok_apart {f : Addr} {fd : FuncData} {k : Nat} (B : BM mg) (F : Fun K "_law_apart" "_law_apart" sApart f fd) : FnOk P w K mg base CX0 (k + 1) f fd ["_law_one", "_law_two"] spApart := by
  refine F.ok scApart (fun vs H Q E h => ?_) (fun cdv A outer st H vs Q E hr h => ?_)
  · obtain ⟨r, o, rfl, _⟩ := h
    rfl
  · obtain ⟨r, o, rfl, hl, hn, q⟩ := h
    have nd := scApart.nd
    refine ⟨_, pss_one (ps_ret (pe_callB call_len_seq (by rfl) B.len PySem.boot_len (pa_cons (pe_lc (own := [("_law_k", 2)]) (g := gName 2) (tt := tTest (tOp rNe (tOp rIxS (tVar 0) (tVar 2)) (tOp rIxS (tVar 1) (tVar 2)))) (te := tC (.int 1)) rfl nd (pi_range1 (by rfl) B.range (pa_cons (pe_callB call_len_str (by rfl) B.len PySem.boot_len (pa_cons (pv 0) pa_nil)) pa_nil))
      (blkOk_by (N := ["_law_one", "_law_two", "_law_k"]) (sc := defScope sApart) (by decide +kernel)) (fun _ _ _ _ _ => pg_name (i := 2) nd rfl (Or.inl rfl))
      (fun _ _ _ _ _ => pts_one (pt_cmpR op_ne (pe_ix ix_str (pv 0) (pv 2) (fun _ _ => rfl)) (pe_ix ix_str (pv 1) (pv 2) (fun _ _ => rfl)) (nomark _))) (fun _ _ _ _ _ => pe_int)) pa_nil))), ?_⟩
    have hz1 : (tx r).length ≤ sizeLine := by rw [tx_len, sizeLine_eq]; omega
    have hz2 : (tx o).length ≤ sizeLine := by rw [tx_len, sizeLine_eq]; omega
    refine ⟨_, rfl, _, rfl, hz1, _, rfl, by omega, by rw [tx_len]; omega, ?_⟩
    rw [show (((tx r).length : Nat) : Int).toNat = r.length by rw [tx_len]; exact Int.toNat_natCast _]
    intro Da na
    refine lc_it walk_range (fun i H' => Same H H' ∧ H' Da = some (.lst (((List.range i).filter (dif r o)).map fun _ => V.int 1))) ⟨same_upd na, upd_same⟩ (fun _ _ _ _ => trivial) ?_ ?_
    · rintro i v H1 H2 hi ⟨s1, e1⟩ ⟨rfl, rfl⟩
      have hc : r[i]? = some r[i] := List.getElem?_eq_getElem hi
      have ho : i < o.length := by omega
      have he : o[i]? = some o[i] := List.getElem?_eq_getElem ho
      have ax : atI (tx r).cps.toList (0 + (i : Int)) = some r[i] := by
        rw [tx_list, show (0 + (i : Int)) = ((i : Nat) : Int) by omega]
        exact atI_nat hc
      have ay : atI (tx o).cps.toList (0 + (i : Int)) = some o[i] := by
        rw [tx_list, show (0 + (i : Int)) = ((i : Nat) : Int) by omega]
        exact atI_nat he
      generalize r[i] = c at hc ax
      generalize o[i] = e at he ay
      have dd : dif r o i = decide (c ≠ e) := by unfold dif; rw [get_of hc, get_of he]
      have fl : (((List.range i).filter (dif r o)).map fun _ => V.int 1).length ≤ i := by
        rw [List.length_map]
        exact Nat.le_trans (List.length_filter_le _ _) (by rw [List.length_range]; exact Nat.le_refl _)
      refine ⟨rfl, _, rfl, _, rfl, _, _, c, rfl, rfl, hz1, ax, _, rfl, _, rfl, _, _, e, rfl, rfl, hz2, ay, rfl, _, rfl, ite2 (fun t => ?_) (fun t => ?_)⟩
      · have ne : c ≠ e := fun z => by
          rw [z] at t
          simp at t
        refine ⟨_, e1, by rw [sizeLine_eq]; omega, sm_over s1 na, ?_⟩
        rw [upd_same, List.range_succ, List.filter_append, List.map_append, List.filter_cons, if_pos (by rw [dd]; exact decide_eq_true ne)]
        rfl
      · have eq : c = e := by
          have : (⟨#[c]⟩ : Str) = ⟨#[e]⟩ := by simpa using t
          have := congrArg Str.cps this
          simpa using this
        refine ⟨s1, ?_⟩
        rw [e1, List.range_succ, List.filter_append, List.map_append, List.filter_cons, if_neg (by rw [dd, eq]; simp)]
        simp
    · rintro H1 ⟨s1, e1⟩
      refine ⟨Da, _, rfl, .inl (SqL.of e1), ?_⟩
      have := q H1 s1
      unfold ham at this
      rw [List.length_map]
      exact this
end
end NC
namespace NC
open PySem PySem.Spec PyProof.Rows L2
/-- a part: sides of rising walls -/
structure Part (l P : List Nat) : Prop where
  sub : (P.map lwc).Sublist l
  sd : ∀ c ∈ P, c ∈ sds l
def allFo (fo : Nat → List Nat) (P : List Nat) : List Nat := P.flatMap fo
def tornL (l W : List Nat) : List Nat := l.filter fun c => decide (c ∈ W) && decide (swp c ∈ W)
def byWT (l W : List Nat) : List Nat := l.flatMap fun c => [swp c, c].filter fun e => decide (e ∈ W)
def wov (W r : List Nat) : List Nat := r.map fun s => if swp s ∈ W then swp s else s
theorem inR_iff {b r : List Nat} : inR b r = true ↔ ∀ s ∈ b, s ∈ r := by
  unfold inR
  rw [List.all_eq_true]
  exact ⟨fun h s hs => of_decide_eq_true (h s hs), fun h s hs => decide_eq_true (h s hs)⟩
theorem Part.len {l P : List Nat} (h : Part l P) : P.length ≤ l.length := by
  have := h.sub.length_le
  rw [List.length_map] at this
  exact this
theorem byWT_mem {l : List Nat} (g : GoodW l) {W : List Nat} {s : Nat} : s ∈ byWT l W ↔ s ∈ sds l ∧ s ∈ W := by
  unfold byWT
  rw [List.mem_flatMap]
  constructor
  · rintro ⟨c, hc, hs⟩
    obtain ⟨h1, h2⟩ := List.mem_filter.mp hs
    refine ⟨?_, of_decide_eq_true h2⟩
    rcases List.mem_cons.mp h1 with e | e
    · rw [e]; exact sds_swp g (sds_of_small hc)
    · rw [List.mem_singleton.mp e]; exact sds_of_small hc
  · rintro ⟨h1, h2⟩
    rcases sds_shape g h1 with z | z
    · exact ⟨s, z.2.2, List.mem_filter.mpr ⟨List.mem_cons_of_mem _ (List.mem_singleton.mpr rfl), decide_eq_true h2⟩⟩
    · refine ⟨s + 32, z.2.2, List.mem_filter.mpr ⟨?_, decide_eq_true h2⟩⟩
      rw [swp_small (by omega)]
      exact List.mem_cons.mpr (.inl (by omega))
theorem byWT_len (l W : List Nat) : (byWT l W).length ≤ 2 * l.length := by
  induction l with
  | nil => simp [byWT]
  | cons x r ih =>
    have h1 : (byWT (x :: r) W) = ([swp x, x].filter fun e => decide (e ∈ W)) ++ byWT r W := by simp [byWT]
    rw [h1, List.length_append, List.length_cons]
    have h2 : ([swp x, x].filter fun e => decide (e ∈ W)).length ≤ 2 := List.length_filter_le _ _
    omega
theorem byWT_snoc (l : List Nat) (n : Nat) (c : Nat) (W : List Nat) (h : l[n]? = some c) : byWT (l.take (n + 1)) W = byWT (l.take n) W ++ [swp c, c].filter fun e => decide (e ∈ W) := by
  rw [List.take_add_one, h]
  unfold byWT
  rw [List.flatMap_append]
  simp
section
variable {l : List Nat} (g : GoodW l) {bs : List (List Nat)} (hb : ∀ b ∈ bs, isBar l b = true) {fo : Nat → List Nat} (hf : ∀ s ∈ sds l, ∀ t, t ∈ fo s ↔ Frc (adjOf bs) s t)
include g hb hf
theorem allFo_mem {P : List Nat} (hP : ∀ c ∈ P, c ∈ sds l) {t : Nat} : t ∈ allFo fo P ↔ ∃ s ∈ P, Frc (adjOf bs) s t := by
  unfold allFo
  rw [List.mem_flatMap]
  exact ⟨fun ⟨s, hs, h⟩ => ⟨s, hs, (hf s (hP s hs) t).mp h⟩, fun ⟨s, hs, h⟩ => ⟨s, hs, (hf s (hP s hs) t).mpr h⟩⟩
theorem allFo_sd {P : List Nat} (hP : ∀ c ∈ P, c ∈ sds l) {t : Nat} (h : t ∈ allFo fo P) : t ∈ sds l := by
  obtain ⟨s, hs, k⟩ := (allFo_mem g hb hf hP).mp h
  exact Frc.mem g hb (hP s hs) k
theorem allFo_adj {P : List Nat} (hP : ∀ c ∈ P, c ∈ sds l) {t u : Nat} (h : t ∈ allFo fo P) (k : u ∈ adjOf bs t) : u ∈ allFo fo P := by
  obtain ⟨s, hs, z⟩ := (allFo_mem g hb hf hP).mp h
  exact (allFo_mem g hb hf hP).mpr ⟨s, hs, z.step k⟩
theorem allFo_self {P : List Nat} (hP : ∀ c ∈ P, c ∈ sds l) {t : Nat} (h : t ∈ P) : t ∈ allFo fo P := (allFo_mem g hb hf hP).mpr ⟨t, h, Frc.refl⟩
/-- what a room has of a part it has of all that is forced -/
theorem allFo_in {P : List Nat} (hP : ∀ c ∈ P, c ∈ sds l) {q : List Nat} (hq : q ∈ rms l bs) (hin : ∀ s ∈ P, s ∈ q) {t : Nat} (h : t ∈ allFo fo P) : t ∈ q := by
  obtain ⟨p, rfl, sp⟩ := (rms_mem g hb q).mp hq
  obtain ⟨s, hs, z⟩ := (allFo_mem g hb hf hP).mp h
  have v := Sat.frc g hb sp ((rm_mem g (hP s hs)).mp (hin s hs)) z
  exact (rm_mem g (Frc.mem g hb (hP s hs) z)).mpr v
theorem room_one {q : List Nat} (hq : q ∈ rms l bs) {t : Nat} (ht : t ∈ sds l) (h1 : t ∈ q) (h2 : swp t ∈ q) : False := by
  obtain ⟨p, rfl, sp⟩ := (rms_mem g hb q).mp hq
  have v1 := (rm_mem g ht).mp h1
  have v2 := (rm_mem g (sds_swp g ht)).mp h2
  rw [val_swp (sds_lt g ht), v1] at v2
  cases v2
theorem torn_no {P : List Nat} (hP : ∀ c ∈ P, c ∈ sds l) {q : List Nat} (hq : q ∈ rms l bs) (hin : ∀ s ∈ P, s ∈ q) : tornL l (allFo fo P) = [] := by
  unfold tornL
  rw [List.filter_eq_nil_iff]
  intro c hc h
  rw [Bool.and_eq_true, decide_eq_true_eq, decide_eq_true_eq] at h
  exact room_one g hb hf hq (sds_of_small hc) (allFo_in g hb hf hP hq hin h.1) (allFo_in g hb hf hP hq hin h.2)
/-- what is written over a room is a room of the part -/
theorem wov_room {P : List Nat} (hP : ∀ c ∈ P, c ∈ sds l) {q r : List Nat} (hq : q ∈ rms l bs) (hin : ∀ s ∈ P, s ∈ q) (hr : r ∈ rms l bs) : wov (allFo fo P) r ∈ rms l bs ∧ ∀ s ∈ P, s ∈ wov (allFo fo P) r := by
  have hW : ∀ {t}, t ∈ allFo fo P → t ∈ q := fun h => allFo_in g hb hf hP hq hin h
  have hWs : ∀ {t}, t ∈ allFo fo P → t ∈ sds l := fun h => allFo_sd g hb hf hP h
  have one : ∀ {t}, t ∈ allFo fo P → swp t ∈ allFo fo P → False := fun h1 h2 => room_one g hb hf hq (hWs h1) (hW h1) (hW h2)
  obtain ⟨p, rfl, sp⟩ := (rms_mem g hb r).mp hr
  have self : ∀ {t}, t ∈ P → t ∈ allFo fo P := fun h => allFo_self g hb hf hP h
  have adj : ∀ {t u}, t ∈ allFo fo P → u ∈ adjOf bs t → u ∈ allFo fo P := fun h k => allFo_adj g hb hf hP h k
  generalize allFo fo P = W at hW hWs one self adj
  have eN : wov W (rmOf l p) = rmOf l (fun c => if c ∈ W then true else if upc c ∈ W then false else p c) := by
    unfold wov rmOf
    rw [List.map_map]
    refine List.map_congr_left fun c hc => ?_
    have sm := g.sm c hc
    show (if swp (if p c then c else upc c) ∈ W then swp (if p c then c else upc c) else (if p c then c else upc c)) = _
    have e1 : swp c = upc c := by rw [swp_small sm, upc_small sm]
    have e2 : swp (upc c) = c := by rw [upc_small sm, swp_great (by omega)]; omega
    have no : c ∈ W → upc c ∈ W → False := fun h1 h2 => one h1 (by rw [e1]; exact h2)
    by_cases hp : p c = true
    · simp only [hp, if_true, e1]
      by_cases h1 : c ∈ W
      · by_cases h2 : upc c ∈ W
        · exact (no h1 h2).elim
        · simp [h1, h2]
      · by_cases h2 : upc c ∈ W <;> simp [h1, h2]
    · simp only [hp, e2]
      by_cases h1 : c ∈ W
      · simp [h1, e2]
      · by_cases h2 : upc c ∈ W <;> simp [h1, h2, e2]
  generalize hpN : (fun c => if c ∈ W then true else if upc c ∈ W then false else p c) = pN at eN
  have vW : ∀ {t}, t ∈ sds l → t ∈ W → val pN t = true := fun {t} ht h => by
    rcases sds_shape g ht with z | z
    · rw [val_small ⟨z.1, z.2.1⟩, ← hpN]
      simp [h]
    · have hn : t + 32 ∉ W := fun k => one h (by rw [swp_great ⟨z.1, z.2.1⟩]; exact k)
      have hu : upc (t + 32) = t := by rw [upc_small (by omega)]; omega
      unfold val
      rw [if_pos (by omega), ← hpN]
      simp [hn, hu, h]
  have vr : ∀ {t}, t ∈ sds l → t ∉ W → val pN t = true → val p t = true := fun {t} ht h v => by
    have hn : swp t ∉ W := fun k => by
      have := vW (sds_swp g ht) k
      rw [val_swp (sds_lt g ht), v] at this
      cases this
    rcases sds_shape g ht with z | z
    · rw [swp_small ⟨z.1, z.2.1⟩, ← upc_small ⟨z.1, z.2.1⟩] at hn
      rw [val_small ⟨z.1, z.2.1⟩, ← hpN] at v
      rw [val_small ⟨z.1, z.2.1⟩]
      simpa [h, hn] using v
    · rw [swp_great ⟨z.1, z.2.1⟩] at hn
      have hu : upc (t + 32) = t := by rw [upc_small (by omega)]; omega
      unfold val at v ⊢
      rw [if_pos (by omega), ← hpN] at v
      rw [if_pos (by omega)]
      simpa [hn, hu, h] using v
  refine ⟨?_, fun s hs => ?_⟩
  · rw [eN]
    refine (rms_mem g hb _).mpr ⟨pN, rfl, fun x y hxy ⟨v1, v2⟩ => ?_⟩
    obtain ⟨x', y', e, hx, hy, _⟩ := bar_two (hb _ hxy)
    cases e
    by_cases h1 : x ∈ W
    · have := adj h1 ((adj_iff g hb (sds_lt g (sds_swp g hy))).mpr (.inl (by rw [swp_swp (sds_lt g hy)]; exact hxy)))
      have := vW (sds_swp g hy) this
      rw [val_swp (sds_lt g hy), v2] at this
      cases this
    · by_cases h2 : y ∈ W
      · have := adj h2 ((adj_iff g hb (sds_lt g (sds_swp g hx))).mpr (.inr (by rw [swp_swp (sds_lt g hx)]; exact hxy)))
        have := vW (sds_swp g hx) this
        rw [val_swp (sds_lt g hx), v1] at this
        cases this
      · exact sp x y hxy ⟨vr hx h1 v1, vr hy h2 v2⟩
  · rw [eN]
    exact (rm_mem g (hP s hs)).mpr (vW (hP s hs) (self hs))
end
theorem filter_add {L : List Nat} {p a b : Nat → Bool} (h : ∀ k ∈ L, p k = (a k || b k) ∧ ¬ (a k = true ∧ b k = true)) : (L.filter p).length = (L.filter a).length + (L.filter b).length := by
  induction L with
  | nil => rfl
  | cons x r ih =>
    have h0 := h x (List.mem_cons_self ..)
    have ih := ih fun k hk => h k (List.mem_cons_of_mem _ hk)
    rw [List.filter_cons, List.filter_cons, List.filter_cons, h0.1]
    have h1 := h0.2
    cases ha : a x <;> cases hb : b x
    · simpa [ha, hb] using ih
    · simp only [ha, hb, Bool.or_true, if_true, List.length_cons, ih, Bool.false_eq_true, if_false]; omega
    · simp only [ha, hb, Bool.or_false, if_true, List.length_cons, ih, Bool.false_eq_true, if_false]; omega
    · exact absurd ⟨ha, hb⟩ h1
section
variable {l : List Nat} (g : GoodW l) {bs : List (List Nat)} (hb : ∀ b ∈ bs, isBar l b = true) {fo : Nat → List Nat} (hf : ∀ s ∈ sds l, ∀ t, t ∈ fo s ↔ Frc (adjOf bs) s t)
include g hb hf
/-- how far it is to a room of the part: over the written one -/
theorem wov_ham {P : List Nat} (hP : ∀ c ∈ P, c ∈ sds l) {q r : List Nat} (hq : q ∈ rms l bs) (hin : ∀ s ∈ P, s ∈ q) (hr : r ∈ rms l bs) : ham r q = ham r (wov (allFo fo P) r) + ham (wov (allFo fo P) r) q := by
  have hW : ∀ {t}, t ∈ allFo fo P → t ∈ q := fun h => allFo_in g hb hf hP hq hin h
  obtain ⟨pq, rfl, sq⟩ := (rms_mem g hb q).mp hq
  obtain ⟨p, rfl, sp⟩ := (rms_mem g hb r).mp hr
  generalize allFo fo P = W at hW
  have wl : (wov W (rmOf l p)).length = l.length := by unfold wov; rw [List.length_map, rm_len]
  unfold ham
  rw [wl, rm_len]
  refine filter_add fun k hk => ?_
  have hk := List.mem_range.mp hk
  have sm := g.sm _ (List.getElem_mem hk)
  have ew : (wov W (rmOf l p)).getD k 0 = if swp (if p l[k] then l[k] else upc l[k]) ∈ W then swp (if p l[k] then l[k] else upc l[k]) else if p l[k] then l[k] else upc l[k] := by
    unfold wov rmOf
    rw [List.getD_eq_getElem?_getD, List.getElem?_map, List.getElem?_map, List.getElem?_eq_getElem hk]
    rfl
  have hsd : ∀ b : Bool, (if b then l[k] else upc l[k]) ∈ sds l := fun b => by
    cases b
    · rw [if_neg (by simp), upc_small sm]; exact sds_of_great g (List.getElem_mem hk)
    · rw [if_pos rfl]; exact sds_of_small (List.getElem_mem hk)
  have key : swp (if p l[k] then l[k] else upc l[k]) ∈ W → (if pq l[k] then l[k] else upc l[k]) = swp (if p l[k] then l[k] else upc l[k]) := fun h => by
    have h2 := hW h
    have h3 := (rm_mem g (sds_swp g (hsd _))).mp h2
    rw [swp_sd sm] at h3 ⊢
    have : pq l[k] = !p l[k] := by
      cases hpk : p l[k]
      · rw [hpk] at h3
        simpa [val_small sm] using h3
      · rw [hpk] at h3
        have h4 : val pq (l[k] - 32) = true := by simpa [upc_small sm] using h3
        rw [val_great sm] at h4
        simpa using h4
    rw [this]
  unfold dif
  rw [ew, rm_get hk, rm_get hk]
  by_cases h : swp (if p l[k] then l[k] else upc l[k]) ∈ W
  · rw [if_pos h, key h]
    refine ⟨by simp, fun z => ?_⟩
    have := z.2
    simp at this
  · rw [if_neg h]
    refine ⟨by simp, fun z => ?_⟩
    have := z.1
    simp at this
theorem wov_best {P : List Nat} (hP : ∀ c ∈ P, c ∈ sds l) {q r : List Nat} (hq : q ∈ rms l bs) (hin : ∀ s ∈ P, s ∈ q) (hr : r ∈ rms l bs) (h : ham r q ≤ ham r (wov (allFo fo P) r)) : q = wov (allFo fo P) r := by
  have e := wov_ham g hb hf hP hq hin hr
  have z : ham (wov (allFo fo P) r) q = 0 := by omega
  refine ((ham_zero ?_).mp z).symm
  have h1 := (wov_room g hb hf hP hq hin hr).1
  obtain ⟨p1, e1, _⟩ := (rms_mem g hb _).mp h1
  obtain ⟨p2, e2, _⟩ := (rms_mem g hb _).mp hq
  rw [e1, e2, rm_len, rm_len]
end
theorem upc_ne {c : Nat} (h : 97 ≤ c ∧ c ≤ 122) : upc c ≠ c := by rw [upc_small h]; omega
theorem allT_nd {l : List Nat} (sm : ∀ c ∈ l, 97 ≤ c ∧ c ≤ 122) : ∀ k, k ≤ l.length → (allT l k).Nodup
  | 0, _ => by simp [allT]
  | k + 1, h => by
    have ih := allT_nd sm k (by omega)
    have hk : k < l.length := by omega
    have ne : upc (l.getD k 0) ≠ l.getD k 0 := by
      have : l.getD k 0 = l[k] := by rw [List.getD_eq_getElem?_getD, List.getElem?_eq_getElem hk]; rfl
      rw [this]
      exact upc_ne (sm _ (List.getElem_mem hk))
    show ((allT l k).flatMap fun r => [r ++ [upc (l.getD k 0)], r ++ [l.getD k 0]]).Nodup
    generalize allT l k = L at ih
    induction L with
    | nil => simp
    | cons x r ih2 =>
      have h1 := List.nodup_cons.mp ih
      rw [List.flatMap_cons, List.nodup_append]
      refine ⟨?_, ih2 h1.2, fun a ha b hb e => ?_⟩
      · rw [List.nodup_cons]
        refine ⟨fun z => ?_, by simp⟩
        have := List.mem_singleton.mp z
        have := List.append_cancel_left this
        exact ne (by simpa using this)
      · subst e
        obtain ⟨y, hy, hm⟩ := List.mem_flatMap.mp hb
        have e1 : a.dropLast = x := by
          rcases List.mem_cons.mp ha with z | z
          · rw [z]; simp
          · rw [List.mem_singleton.mp z]; simp
        have e2 : a.dropLast = y := by
          rcases List.mem_cons.mp hm with z | z
          · rw [z]; simp
          · rw [List.mem_singleton.mp z]; simp
        rw [← e1, e2] at h1
        exact h1.1 hy
theorem rms_nd {l : List Nat} (g : GoodW l) {bs : List (List Nat)} : (rms l bs).Nodup := by
  unfold rms
  exact (allT_nd g.sm _ (Nat.le_refl _)).sublist List.filter_sublist
theorem part_pw {l P : List Nat} (g : GoodW l) (h : Part l P) : (P.map lwc).Pairwise (· < ·) := g.rise.sublist h.sub
end NC
namespace NC
open PySem PySem.Spec PyProof.Rows L2
abbrev sHwalls : Stmt := inClass (topS 29) 1
abbrev sHforced : Stmt := inClass (topS 29) 3
abbrev sIsPart : Stmt := topS 31
abbrev sChkPart : Stmt := topS 32
abbrev sAllFB : Stmt := topS 33
abbrev sTorn : Stmt := topS 34
theorem scHwalls : FnScope ["self"] ["self"] (defScope sHwalls) := ⟨rfl, rfl, rfl, by decide +kernel, rfl, by decide +kernel, by decide +kernel⟩
theorem scHforced : FnScope ["self", "side"] ["self", "side"] (defScope sHforced) := ⟨rfl, rfl, rfl, by decide +kernel, rfl, by decide +kernel, by decide +kernel⟩
abbrev nIsPart : List Str := ["hall", "part", "walls", "ahead", "wall"]
theorem scIsPart : FnScope nIsPart ["hall", "part"] (defScope sIsPart) := ⟨rfl, rfl, rfl, by decide +kernel, rfl, by decide +kernel, by decide +kernel⟩
theorem scChkPart : FnScope ["hall", "part"] ["hall", "part"] (defScope sChkPart) := ⟨rfl, rfl, rfl, by decide +kernel, rfl, by decide +kernel, by decide +kernel⟩
theorem scAllFB : FnScope ["hall", "part", "side"] ["hall", "part"] (defScope sAllFB) := ⟨rfl, rfl, rfl, by decide +kernel, rfl, by decide +kernel, by decide +kernel⟩
theorem scTorn : FnScope ["hall", "part", "sides", "wall"] ["hall", "part"] (defScope sTorn) := ⟨rfl, rfl, rfl, by decide +kernel, rfl, by decide +kernel, by decide +kernel⟩
structure HP (K : PySem.W.Frag) (C fw ff : Addr) (dw df : FuncData) : Prop where
  mw : Meth K C "walls" fw
  Fw : Fun K "walls" "Hall.walls" sHwalls fw dw
  bw : Binds K dw ["self"] []
  mf : Meth K C "forced" ff
  Ff : Fun K "forced" "Hall.forced" sHforced ff df
  bf : Binds K df ["self", "side"] []
/-- a hall of which it is known what its sides force -/
structure HallF (C : Addr) (H : Hp) (x dx sb D : Addr) (l : List Nat) (ys : List Str) (fo : Nat → List Nat) (bs : List (List Nat)) : Prop where
  G : HallG C H x dx sb D l ys fo bs
  hf : ∀ s ∈ sds l, ∀ t, t ∈ fo s ↔ Frc (adjOf bs) s t
  fl : ∀ s ∈ sds l, (fo s).length ≤ 24
theorem HallF.same {C : Addr} {H H' : Hp} {x dx sb D : Addr} {l : List Nat} {ys : List Str} {fo : Nat → List Nat} {bs : List (List Nat)} (h : HallF C H x dx sb D l ys fo bs) (s : Same H H') : HallF C H' x dx sb D l ys fo bs := ⟨h.G.same s, h.hf, h.fl⟩
theorem allFo_len {l : List Nat} {fo : Nat → List Nat} (fl : ∀ s ∈ sds l, (fo s).length ≤ 24) : ∀ {P : List Nat}, (∀ c ∈ P, c ∈ sds l) → (allFo fo P).length ≤ 24 * P.length
  | [], _ => by simp [allFo]
  | x :: r, h => by
    have e : allFo fo (x :: r) = fo x ++ allFo fo r := by simp [allFo]
    have h1 := fl x (h x (List.mem_cons_self ..))
    have h2 := allFo_len fl (P := r) fun c hc => h c (List.mem_cons_of_mem _ hc)
    rw [e, List.length_append, List.length_cons]
    omega
theorem sum_txs (xs : List (List Nat)) : ((xs.map tx).map (·.length)).sum = xs.flatten.length := by
  induction xs with
  | nil => rfl
  | cons x r ih => rw [List.map_cons, List.map_cons, List.sum_cons, ih, List.flatten_cons, List.length_append, tx_len]
theorem sum_sgs (xs : List Nat) : ((xs.map sg).map (·.length)).sum = xs.length := by
  induction xs with
  | nil => rfl
  | cons x r ih =>
    rw [List.map_cons, List.map_cons, List.sum_cons, ih, List.length_cons]
    show 1 + r.length = _
    omega
section
variable {P : Program} {w : World} {K : PySem.W.Frag} {mg : Str → Option Value} {base : Heap} {C fi fb fm fr fg fw ff : Addr} {di db dm dr dg dw df : FuncData}
def spHwalls (C : Addr) : Sp := fun vs H Q _ => ∃ x dx sb D l ys fo, vs = [.ref x] ∧ HallAt C H x dx sb D l ys fo ∧ Q (.str (tx l)) H
theorem ok_Hwalls {k : Nat} (Z : HC K mg C fi fb di db) (Y : HP K C fw ff dw df) : FnOk P w K mg base CX0 (k + 1) fw dw ["self"] (spHwalls C) := by
  refine Y.Fw.ok scHwalls (fun vs H Q E h => ?_) (fun cdv A outer st H vs Q E hr h => ?_)
  · obtain ⟨x, dx, sb, D, l, ys, fo, rfl, _⟩ := h
    rfl
  · obtain ⟨x, dx, sb, D, l, ys, fo, rfl, hA, q⟩ := h
    refine ⟨_, pss_one (ps_ret (pe_fld (pv 0) rfl)), ?_⟩
    exact ⟨_, rfl, x, C, dx, _, .str (tx l), rfl, hA.x, Z.cl, Z.n1, rfl, q⟩
def spHforced (C : Addr) : Sp := fun vs H Q _ => ∃ x dx sb D l ys fo s, vs = [.ref x, .str (sg s)] ∧ HallAt C H x dx sb D l ys fo ∧ GoodW l ∧ s ∈ sds l ∧ ∀ H', Same H H' → Q (.str (tx (fo s))) H'
theorem ok_Hforced {fC fS : Addr} {dC dS : FuncData} {k : Nat} (B : BM mg) (Z : HC K mg C fi fb di db) (Y : HP K C fw ff dw df) (Cs : DF K mg "check_side" sChkSide ["walls", "side"] fC dC) (S : DF K mg "sides_of" sSides ["walls"] fS dS) : FnOk P w K mg base CX0 (k + 3) ff df ["self", "side"] (spHforced C) := by
  have GS := ok_chkSide (P := P) (w := w) (base := base) (k := k) B Cs.F S
  refine Y.Ff.ok scHforced (fun vs H Q E h => ?_) (fun cdv A outer st H vs Q E hr h => ?_)
  · obtain ⟨x, dx, sb, D, l, ys, fo, s, rfl, _⟩ := h
    rfl
  · obtain ⟨x, dx, sb, D, l, ys, fo, s, rfl, hA, g, hs, q⟩ := h
    refine ⟨_, pss_cons (ps_expr (pe_call GS hr rfl Cs.g Cs.F.kp Cs.b .nil pass0 (pa_cons (pe_fld (pv 0) rfl) (pa_cons (pv 1) pa_nil)))) (pss_one (ps_ret (pe_dget (hu_of hr) (pe_fld (pv 0) rfl) (pv 1) (fun _ _ => rfl)))), ?_⟩
    refine ⟨_, rfl, x, C, dx, _, .str (tx l), rfl, hA.x, Z.cl, Z.n1, rfl, _, rfl, l, s, rfl, g, hs, fun H1 s1 => ?_⟩
    have hA1 := hA.same s1
    exact ⟨_, rfl, x, C, dx, _, .ref D, rfl, hA1.x, Z.cl, Z.n3, rfl, _, rfl, D, _, rfl, foK_get hA1.D hs, q H1 s1⟩
def spIsPart (C : Addr) : Sp := fun vs H Q _ => ∃ x dx sb D l ys fo P, vs = [.ref x, .str (tx P)] ∧ HallAt C H x dx sb D l ys fo ∧ GoodW l ∧ Part l P ∧ ∀ H', Same H H' → Q (.bl true) H'
set_option maxHeartbeats 1000000 in
theorem ok_isPart {f : Addr} {fd : FuncData} {k : Nat} (Z : HC K mg C fi fb di db) (Y : HP K C fw ff dw df) (F : Fun K "is_part" "is_part" sIsPart f fd) : FnOk P w K mg base CX0 (k + 2) f fd ["hall", "part"] (spIsPart C) := by
  have GW : FnOk P w K mg base CX0 (k + 1) fw dw ["self"] (spHwalls C) := ok_Hwalls Z Y
  refine F.ok scIsPart (fun vs H Q E h => ?_) (fun cdv A outer st H vs Q E hr h => ?_)
  · obtain ⟨x, dx, sb, D, l, ys, fo, P, rfl, _⟩ := h
    rfl
  · obtain ⟨x, dx, sb, D, l, ys, fo, P, rfl, hA, g, hP, q⟩ := h
    have nd := scIsPart.nd
    have hl12 := g.hi
    refine ⟨_, pss_cons (ps_set (i := 2) nd rfl (.inl rfl) (pe_meth0 (pv 0) Z.cl Y.mw GW hr Y.bw .nil pass0))
      (pss_cons (ps_set (i := 3) nd rfl (.inl rfl) pe_str)
      (pss_cons (ps_for PassesOwn.never rfl (pi_str (pe_lower (pv 1))) (pg_name (i := 4) nd rfl (.inl rfl))
        (pss_cons (ps_if (PW.pt (pw_or (pt_cmpR op_notIn_sign (pv 4) (pv 2) (by rfl)) (pw_or1 (pt_cmpR op_le_str (pv 4) (pv 3) (nomark _))))) (pss_one (ps_ret pe_bl)) pss_nil)
        (pss_one (ps_set (i := 3) nd rfl (.inl rfl) (pv 4)))))
      (pss_one (ps_ret pe_bl)))), ?_⟩
    refine ⟨_, rfl, x, dx, _, rfl, hA.x, rfl, x, dx, sb, D, l, ys, fo, rfl, hA, ?_⟩
    have pa : ∀ c ∈ P, c < 128 := fun c hc => sds_asc g (hP.sd c hc)
    have pl := hP.len
    refine ⟨_, rfl, ⟨_, rfl⟩, _, rfl, rfl, by show P.toArray.size ≤ 5592405; rw [List.size_toArray]; omega, ?_⟩
    rw [lower_tx pa]
    refine ⟨_, rfl, ?_⟩
    have lz : (tx (P.map lwc)).cps.size = P.length := by rw [show (tx (P.map lwc)).cps.size = (P.map lwc).length from tx_len _, List.length_map]
    have wk := walk_str (z := tx (P.map lwc))
    rw [lz] at wk
    have pw := part_pw g hP
    have sub := hP.sub
    generalize hS : P.map lwc = S at *
    have sl : S.length = P.length := by rw [← hS, List.length_map]
    refine for_it wk (fun i σ H' => ∃ (a : List Nat) (y4 : Option V), σ = [some (.ref x), some (.str (tx P)), some (.str (tx l)), some (.str (tx a)), y4] ∧ Same H H' ∧ ∀ c, S[i]? = some c → a < [c]) ⟨[], _, by rw [str00]; rfl, L2.Same.refl _, fun c _ => by simp⟩ (fun _ _ _ _ _ => trivial) ?_ ?_
    · rintro i v σ H1 H2 hi ⟨a, y4, rfl, s1, ha⟩ ⟨rfl, c, hc, rfl⟩
      have hc : S[i]? = some c := by
        rw [← Array.getElem?_toList, tx_list] at hc
        exact hc
      have cl : c ∈ l := sub.subset (List.mem_of_getElem? hc)
      refine ⟨_, rfl, _, rfl, c, tx l, rfl, rfl, _, rfl, ?_⟩
      rw [tx_list, decide_eq_true cl]
      refine iteF ⟨_, rfl, _, rfl, _, _, rfl, rfl, _, rfl, ?_⟩
      rw [show (⟨#[c]⟩ : Str).cps.toList = [c] from rfl, tx_list, decide_eq_true (ha c hc)]
      refine iteF ⟨_, rfl, [c], _, rfl, s1, fun e he => ?_⟩
      rw [lt1]
      have hi1 := (List.getElem?_eq_some_iff.mp hc)
      have hi2 := (List.getElem?_eq_some_iff.mp he)
      have := List.pairwise_iff_getElem.mp pw i (i + 1) hi1.1 hi2.1 (by omega)
      rw [hi1.2, hi2.2] at this
      exact this
    · rintro σ H1 ⟨a, y4, rfl, s1, ha⟩
      exact q H1 s1
def spChkPart (C : Addr) : Sp := fun vs H Q _ => ∃ x dx sb D l ys fo P, vs = [.ref x, .str (tx P)] ∧ HallAt C H x dx sb D l ys fo ∧ GoodW l ∧ Part l P ∧ ∀ H', Same H H' → Q .non H'
theorem ok_chkPart {f fI : Addr} {fd dI : FuncData} {k : Nat} (Z : HC K mg C fi fb di db) (Y : HP K C fw ff dw df) (F : Fun K "check_part" "check_part" sChkPart f fd) (I : DF K mg "is_part" sIsPart ["hall", "part"] fI dI) : FnOk P w K mg base CX0 (k + 3) f fd ["hall", "part"] (spChkPart C) := by
  have GI : FnOk P w K mg base CX0 (k + 2) fI dI ["hall", "part"] (spIsPart C) := ok_isPart Z Y I.F
  refine F.ok scChkPart (fun vs H Q E h => ?_) (fun cdv A outer st H vs Q E hr h => ?_)
  · obtain ⟨x, dx, sb, D, l, ys, fo, P, rfl, _⟩ := h
    rfl
  · obtain ⟨x, dx, sb, D, l, ys, fo, P, rfl, hA, g, hP, q⟩ := h
    refine ⟨_, pss_one (ps_if (pt_not (pt_val (pe_call GI hr rfl I.g I.F.kp I.b .nil pass0 (pa_cons (pv 0) (pa_cons (pv 1) pa_nil))))) (pss_one ps_dead) pss_nil), ?_⟩
    exact ⟨_, rfl, _, rfl, x, dx, sb, D, l, ys, fo, P, rfl, hA, g, hP, fun H1 s1 => ⟨_, rfl, iteF (q H1 s1)⟩⟩
def spAllFB (C : Addr) : Sp := fun vs H Q _ => ∃ x dx sb D l ys fo P, vs = [.ref x, .str (tx P)] ∧ HallAt C H x dx sb D l ys fo ∧ GoodW l ∧ (∀ s ∈ sds l, (fo s).length ≤ 24) ∧ (∀ c ∈ P, c ∈ sds l) ∧ P.length ≤ 100 ∧ ∀ H', Same H H' → Q (.str (tx (allFo fo P))) H'
set_option maxHeartbeats 1000000 in
theorem ok_allFB {f fC fS : Addr} {fd dC dS : FuncData} {k : Nat} (B : BM mg) (Z : HC K mg C fi fb di db) (Y : HP K C fw ff dw df) (Cs : DF K mg "check_side" sChkSide ["walls", "side"] fC dC) (S : DF K mg "sides_of" sSides ["walls"] fS dS) (F : Fun K "all_forced_by" "all_forced_by" sAllFB f fd) : FnOk P w K mg base CX0 (k + 4) f fd ["hall", "part"] (spAllFB C) := by
  have GF : FnOk P w K mg base CX0 (k + 3) ff df ["self", "side"] (spHforced C) := ok_Hforced B Z Y Cs S
  refine F.ok scAllFB (fun vs H Q E h => ?_) (fun cdv A outer st H vs Q E hr h => ?_)
  · obtain ⟨x, dx, sb, D, l, ys, fo, P, rfl, _⟩ := h
    rfl
  · obtain ⟨x, dx, sb, D, l, ys, fo, P, rfl, hA, g, fl, hP, hn, q⟩ := h
    have nd := scAllFB.nd
    refine ⟨_, pss_one (ps_ret (pe_join pe_str (pe_lc (own := [("side", 2)]) (g := gName 2) (tt := tYes) (te := tMeth C "forced" (spHforced C) [] E0 (tVar 0) (tCons (tVar 2) tNil)) rfl nd (pi_str (pv 1)) (blkOk_by (N := ["hall", "part", "side"]) (sc := defScope sAllFB) (by decide +kernel)) (fun _ _ _ _ _ => pg_name (i := 2) nd rfl (Or.inl rfl)) (fun _ _ _ _ _ => pts_nil)
      (fun _ _ _ _ _ => pe_meth (pv 0) Z.cl Y.mf GF hr Y.bf .nil pass0 (pa_cons (pv 2) pa_nil))))), ?_⟩
    refine ⟨⟨_, rfl⟩, _, rfl, tx P, rfl, fun Da na => ?_⟩
    have lz : (tx P).cps.size = P.length := tx_len _
    have wk := walk_str (z := tx P)
    rw [lz] at wk
    refine lc_it wk (fun i H' => Same H H' ∧ H' Da = some (.lst ((((P.take i).map fo).map tx).map V.str))) ⟨same_upd na, upd_same⟩ (fun _ _ _ _ => trivial) ?_ ?_
    · rintro i v H1 H2 hi ⟨s1, e1⟩ ⟨rfl, c, hc, rfl⟩
      have hc : P[i]? = some c := by
        rw [← Array.getElem?_toList, tx_list] at hc
        exact hc
      have hA1 := hA.same s1
      refine ⟨rfl, yes_i ⟨_, rfl, x, dx, _, rfl, hA1.x, rfl, _, rfl, x, dx, sb, D, l, ys, fo, c, rfl, hA1, g, hP c (List.mem_of_getElem? hc), fun H3 s3 => ⟨_, s3 _ _ e1, ?_, sm_over (sm_trans s1 s3) na, ?_⟩⟩⟩
      · rw [List.length_map, List.length_map, List.length_map, List.length_take, sizeLine_eq]
        omega
      · rw [upd_same, List.take_add_one, hc, List.map_append, List.map_append, List.map_append]
        rfl
    · rintro H1 ⟨s1, e1⟩
      rw [List.take_length] at e1
      have ln := allFo_len fl hP
      have ef : (P.map fo).flatten = allFo fo P := by unfold allFo; rw [List.flatMap_def]
      refine ⟨_, _, (P.map fo).map tx, rfl, rfl, .inl (SqL.of e1), ?_, ?_⟩
      · rw [sum_txs, ef, show (Str.ofString "").length = 0 by decide +kernel]
        omega
      · rw [join_tx, ef]
        exact q _ s1
def spTorn (C : Addr) : Sp := fun vs H Q _ => ∃ x dx sb D l ys fo P, vs = [.ref x, .str (tx P)] ∧ HallAt C H x dx sb D l ys fo ∧ GoodW l ∧ (∀ s ∈ sds l, (fo s).length ≤ 24) ∧ (∀ c ∈ P, c ∈ sds l) ∧ P.length ≤ 100 ∧ ∀ H', Same H H' → Q (.str (tx (tornL l (allFo fo P)))) H'
set_option maxHeartbeats 1000000 in
theorem ok_torn {f fC fS fA fO : Addr} {fd dC dS dA dO : FuncData} {k : Nat} (B : BM mg) (Z : HC K mg C fi fb di db) (Y : HP K C fw ff dw df) (Cs : DF K mg "check_side" sChkSide ["walls", "side"] fC dC) (S : DF K mg "sides_of" sSides ["walls"] fS dS) (A : DF K mg "all_forced_by" sAllFB ["hall", "part"] fA dA) (O : DF K mg "other" sOther ["side"] fO dO) (F : Fun K "torn_walls" "torn_walls" sTorn f fd) :
    FnOk P w K mg base CX0 (k + 5) f fd ["hall", "part"] (spTorn C) := by
  have GA : FnOk P w K mg base CX0 (k + 4) fA dA ["hall", "part"] (spAllFB C) := ok_allFB B Z Y Cs S A.F
  have GW : FnOk P w K mg base CX0 (k + 1) fw dw ["self"] (spHwalls C) := ok_Hwalls Z Y
  have GO : FnOk P w K mg base CX0 (k + 1) fO dO ["side"] spOther := ok_other O.F
  refine F.ok scTorn (fun vs H Q E h => ?_) (fun cdv A0 outer st H vs Q E hr h => ?_)
  · obtain ⟨x, dx, sb, D, l, ys, fo, P, rfl, _⟩ := h
    rfl
  · obtain ⟨x, dx, sb, D, l, ys, fo, P, rfl, hA, g, fl, hP, hn, q⟩ := h
    have nd := scTorn.nd
    have r1 : Room (k + 1) _ := hr.mono (by omega)
    have hl12 := g.hi
    refine ⟨_, pss_cons (ps_set (i := 2) nd rfl (.inr rfl) (pe_call GA hr rfl A.g A.F.kp A.b .nil pass0 (pa_cons (pv 0) (pa_cons (pv 1) pa_nil))))
      (pss_one (ps_ret (pe_join pe_str (pe_lc (own := [("wall", 3)]) (g := gName 3) (tt := tAnd (tTest (tOp rSgn2 (tVar 3) (tVar 2))) (tTest (tOp rSgn2 (tCall spOther [] E0 (tCons (tVar 3) tNil)) (tVar 2)))) rfl nd (pi_str (pe_meth0 (pv 0) Z.cl Y.mw GW r1 Y.bw .nil pass0)) (blkOk_by (N := ["hall", "part", "sides", "wall"]) (sc := defScope sTorn) (by decide +kernel)) (fun _ _ _ _ _ => pg_name (i := 3) nd rfl (Or.inl rfl))
        (fun _ _ _ _ _ => pts_one (PW.pt (pw_and (pt_cmpR op_in_sign (pv 3) (pv 2) (by rfl)) (pw_and1 (pt_cmpR op_in_sign (pe_call GO r1 rfl O.g O.F.kp O.b .nil pass0 (pa_cons (pv 3) pa_nil)) (pv 2) (by rfl)))))) (fun _ _ _ _ _ => pv 3))))), ?_⟩
    refine ⟨_, rfl, _, rfl, x, dx, sb, D, l, ys, fo, P, rfl, hA, g, fl, hP, hn, fun H0 s0 => ?_⟩
    have hA0 := hA.same s0
    generalize allFo fo P = W at *
    refine ⟨⟨_, rfl⟩, _, rfl, x, dx, _, rfl, hA0.x, rfl, x, dx, sb, D, l, ys, fo, rfl, hA0, tx l, rfl, fun Da na => ?_⟩
    have lz : (tx l).cps.size = l.length := tx_len _
    have wk := walk_str (z := tx l)
    rw [lz] at wk
    refine lc_it wk (fun i H' => Same H0 H' ∧ H' Da = some (.lst (((tornL (l.take i) W).map sg).map V.str))) ⟨same_upd na, upd_same⟩ (fun _ _ _ _ => trivial) ?_ ?_
    · rintro i v H1 H2 hi ⟨s1, e1⟩ ⟨rfl, c, hc, rfl⟩
      have hc : l[i]? = some c := by
        rw [← Array.getElem?_toList, tx_list] at hc
        exact hc
      have ca : c < 128 := g.asc c (List.mem_of_getElem? hc)
      have et : tornL (l.take (i + 1)) W = tornL (l.take i) W ++ [c].filter fun c => decide (c ∈ W) && decide (swp c ∈ W) := by
        unfold tornL
        rw [List.take_add_one, hc, List.filter_append]
        rfl
      have tl : (tornL (l.take i) W).length ≤ 12 := Nat.le_trans (List.length_filter_le _ _) (by rw [List.length_take]; omega)
      have no : (decide (c ∈ W) && decide (swp c ∈ W)) = false → Same H0 H2 ∧ H2 Da = some (.lst (((tornL (l.take (i + 1)) W).map sg).map V.str)) := fun z => by
        refine ⟨s1, ?_⟩
        rw [e1, et, List.filter_cons, if_neg (by rw [z]; simp)]
        simp
      refine ⟨rfl, _, rfl, _, rfl, c, tx W, rfl, rfl, _, rfl, ?_⟩
      rw [tx_list]
      refine ite2 (fun t1 => ?_) (fun t1 => no (by rw [Bool.eq_false_iff.mpr t1]; rfl))
      refine ⟨_, rfl, c, rfl, ca, _, rfl, swp c, tx W, rfl, rfl, _, rfl, ?_⟩
      rw [tx_list]
      refine ite2 (fun t2 => ?_) (fun t2 => no (by rw [Bool.eq_false_iff.mpr t2]; simp))
      refine ⟨_, rfl, _, e1, by rw [List.length_map, List.length_map, sizeLine_eq]; omega, sm_over s1 na, ?_⟩
      rw [upd_same, et, List.filter_cons, if_pos (by rw [t1, t2]; rfl)]
      simp
      rfl
    · rintro H1 ⟨s1, e1⟩
      rw [List.take_length] at e1
      have tl : (tornL l W).length ≤ 12 := Nat.le_trans (List.length_filter_le _ _) hl12
      refine ⟨_, _, (tornL l W).map sg, rfl, rfl, .inl (SqL.of e1), ?_, ?_⟩
      · rw [sum_sgs, show (Str.ofString "").length = 0 by decide +kernel]
        omega
      · rw [join_sg]
        exact q _ (sm_trans s0 s1)
end
end NC
namespace NC
open PySem PySem.Spec PyProof.Rows L2
abbrev sShut : Stmt := topS 35
theorem scShut : FnScope ["hall", "part", "torn"] ["hall", "part"] (defScope sShut) := ⟨rfl, rfl, rfl, by decide +kernel, rfl, by decide +kernel, by decide +kernel⟩
section
variable {P : Program} {w : World} {K : PySem.W.Frag} {mg : Str → Option Value} {base : Heap} {C fi fb fm fr fg fw ff : Addr} {di db dm dr dg dw df : FuncData}
def spByWT : Sp := fun vs H Q _ => ∃ l W, vs = [.str (tx l), .str (tx W)] ∧ GoodW l ∧ ∀ H', Same H H' → Q (.str (tx (byWT l W))) H'
set_option maxHeartbeats 1000000 in
theorem ok_byWT {f fO : Addr} {fd fdO : FuncData} {k : Nat} (F : Fun K "by_walls" "by_walls" sByWalls f fd) (O : DF K mg "other" sOther ["side"] fO fdO) : FnOk P w K mg base CX0 (k + 2) f fd ["walls", "sides"] spByWT := by
  have GO : FnOk P w K mg base CX0 (k + 1) fO fdO ["side"] spOther := ok_other O.F
  refine F.ok scByWalls (fun vs H Q E h => ?_) (fun cdv A outer s H vs Q E hr h => ?_)
  · obtain ⟨l, W, rfl, _⟩ := h
    rfl
  · obtain ⟨l, W, rfl, g, q⟩ := h
    refine ⟨_, pss_one (ps_ret (pe_join pe_str (pe_lc2 (wi1 := iTup K (tTup (tCons (tCall spOther [] E0 (tCons (tVar 2) tNil)) (tCons (tVar 2) tNil)))) (own := [("wall", 2), ("side", 3)]) (vs1 := [3]) (g := gName 2) (g1 := gName 3) (tt := tYes) rfl scByWalls.nd (pi_str (pv 0))
      (blkOk_by (N := ["walls", "sides", "wall", "side"]) (sc := defScope sByWalls) (by decide +kernel)) (by decide)
      (fun _ _ _ _ _ => pg_name (i := 2) scByWalls.nd rfl (Or.inl rfl)) (fun _ _ _ _ _ => pts_nil)
      (fun _ _ _ _ _ => pi_tup (pe_tup (pa_cons (pe_call GO hr rfl O.g O.F.kp O.b .nil pass0 (pa_cons (pv 2) pa_nil)) (pa_cons (pv 2) pa_nil))))
      (fun _ _ _ _ _ => pg_name (i := 3) scByWalls.nd rfl (Or.inl rfl))
      (fun _ _ _ _ _ => pts_one (pt_cmpR op_in_sign (pv 3) (pv 1) (by rfl))) (fun _ _ _ _ _ => pv 3)))), ?_⟩
    refine ⟨⟨_, rfl⟩, _, rfl, tx l, rfl, fun D hD => ?_⟩
    refine out_it walk_str (fun i H' => Same H H' ∧ H' D = some (.lst (((byWT (l.take i) W).map sg).map V.str))) ⟨same_upd hD, upd_same⟩ (fun _ _ _ _ => trivial) ?_ ?_
    · rintro i x H1 H2 hi ⟨sm, eD⟩ ⟨rfl, c, hc, rfl⟩
      have hcl : l[i]? = some c := by
        rw [← Array.getElem?_toList, tx_list] at hc
        exact hc
      have hca : c < 128 := g.asc c (List.mem_of_getElem? hcl)
      refine ⟨rfl, yes_i ⟨_, rfl, c, rfl, hca, _, rfl, by show 2 ≤ sizeLine; decide, fun T hT => ⟨T, rfl, ⟨_, SqT.of upd_same⟩, ?_⟩⟩⟩
      have nDT : D ≠ T := ne_of_none eD hT
      refine in_it (walk_tup (K := K) (a := T) (xs := [swp c, c].map fun e => V.str (sg e))) (fun j H' => Same H H' ∧ SqT K H' T ([swp c, c].map fun e => V.str (sg e)) ∧ H' D = some (.lst (((byWT (l.take i) W ++ ([swp c, c].take j).filter fun e => decide (e ∈ W)).map sg).map V.str)))
        ⟨sm_upd sm hT, SqT.of upd_same, by rw [upd_ne nDT, eD]; simp⟩ (fun j H' _ h => h.2.1) ?_ ?_
      · rintro j x H3 H4 hj ⟨sm2, hT2, eD2⟩ ⟨rfl, hx⟩
        rw [List.getElem?_map] at hx
        obtain ⟨e, he, rfl⟩ := Option.map_eq_some_iff.mp hx
        have hlen : (byWT (l.take i) W ++ ([swp c, c].take j).filter fun e => decide (e ∈ W)).length ≤ 2 * 12 + 2 := by
          rw [List.length_append]
          have h1 := byWT_len (l.take i) W
          have h2 : (([swp c, c].take j).filter fun e => decide (e ∈ W)).length ≤ 2 := Nat.le_trans (List.length_filter_le _ _) (by rw [List.length_take]; exact Nat.min_le_right _ _)
          have h3 : (l.take i).length ≤ 12 := Nat.le_trans (by rw [List.length_take]; exact Nat.min_le_right _ _) g.hi
          omega
        refine ⟨rfl, _, rfl, _, rfl, e, tx W, rfl, rfl, _, rfl, ?_⟩
        rw [tx_list]
        refine ite2 (fun ht => ⟨_, rfl, _, eD2, ?_, sm_over sm2 hD, ?_, ?_⟩) (fun ht => ⟨sm2, hT2, ?_⟩)
        · rw [List.length_map, List.length_map, sizeLine_eq]
          omega
        · rcases hT2 with (z | ⟨o, z⟩) | z
          · exact .inl (.inl (by rw [upd_ne (Ne.symm nDT)]; exact z))
          · exact .inl (.inr ⟨o, by rw [upd_ne (Ne.symm nDT)]; exact z⟩)
          · exact .inr z
        · have e1 : e ∈ W := of_decide_eq_true ht
          rw [upd_same, List.take_add_one, he, List.filter_append]
          simp [e1, sg_tx]
        · have e1 : e ∉ W := fun z => ht (decide_eq_true z)
          rw [eD2, List.take_add_one, he, List.filter_append]
          simp [e1]
      · rintro H3 ⟨sm2, _, eD2⟩
        refine ⟨sm2, ?_⟩
        rw [eD2, byWT_snoc l i c W hcl]
        rfl
    · rintro H3 ⟨sm2, eD2⟩
      have e1 : (l.take (tx l).cps.size) = l := by
        rw [show (tx l).cps.size = l.length from tx_len l]
        exact List.take_length
      rw [e1] at eD2
      refine ⟨_, _, (byWT l W).map sg, rfl, rfl, .inl (SqL.of eD2), ?_, ?_⟩
      · have h1 := byWT_len l W
        have h2 := g.hi
        rw [sum_sgs, show (Str.ofString "").length = 0 by decide +kernel]
        omega
      · rw [join_sg]
        exact q _ sm2
/-- what the functions of parts ask for in the text -/
structure PT (K : PySem.W.Frag) (mg : Str → Option Value) (C fw ff : Addr) (dw df : FuncData) (fIsP fChP fAFB fTo : Addr) (dIsP dChP dAFB dTo : FuncData) : Prop where
  Y : HP K C fw ff dw df
  isP : DF K mg "is_part" sIsPart ["hall", "part"] fIsP dIsP
  chP : DF K mg "check_part" sChkPart ["hall", "part"] fChP dChP
  afb : DF K mg "all_forced_by" sAllFB ["hall", "part"] fAFB dAFB
  to : DF K mg "torn_walls" sTorn ["hall", "part"] fTo dTo
def spShut (C : Addr) : Sp := fun vs H Q _ => ∃ x dx sb D l ys fo bs P z, vs = [.ref x, .str (tx P)] ∧ HallF C H x dx sb D l ys fo bs ∧ Part l P ∧ z ∈ rms l bs ∧ (∀ s ∈ P, s ∈ z) ∧ ∀ H', Same H H' → Q (.str (tx (byWT l (allFo fo P)))) H'
set_option maxHeartbeats 1000000 in
theorem ok_shut {f fC fS fO fBy fIsP fChP fAFB fTo : Addr} {fd dC dS dO dBy dIsP dChP dAFB dTo : FuncData} {k : Nat} (B : BM mg) (Z : HC K mg C fi fb di db) (T : PT K mg C fw ff dw df fIsP fChP fAFB fTo dIsP dChP dAFB dTo) (Cs : DF K mg "check_side" sChkSide ["walls", "side"] fC dC) (S : DF K mg "sides_of" sSides ["walls"] fS dS) (O : DF K mg "other" sOther ["side"] fO dO) (By : DF K mg "by_walls" sByWalls ["walls", "sides"] fBy dBy) (F : Fun K "shut" "shut" sShut f fd) :
    FnOk P w K mg base CX0 (k + 6) f fd ["hall", "part"] (spShut C) := by
  have GA : FnOk P w K mg base CX0 (k + 4) fAFB dAFB ["hall", "part"] (spAllFB C) := ok_allFB B Z T.Y Cs S T.afb.F
  have GW : FnOk P w K mg base CX0 (k + 1) fw dw ["self"] (spHwalls C) := ok_Hwalls Z T.Y
  have GT : FnOk P w K mg base CX0 (k + 5) fTo dTo ["hall", "part"] (spTorn C) := ok_torn B Z T.Y Cs S T.afb O T.to.F
  have GC : FnOk P w K mg base CX0 (k + 3) fChP dChP ["hall", "part"] (spChkPart C) := ok_chkPart Z T.Y T.chP.F T.isP
  have GB : FnOk P w K mg base CX0 (k + 2) fBy dBy ["walls", "sides"] spByWT := ok_byWT By.F O
  refine F.ok scShut (fun vs H Q E h => ?_) (fun cdv A0 outer st H vs Q E hr h => ?_)
  · obtain ⟨x, dx, sb, D, l, ys, fo, bs, P, z, rfl, _⟩ := h
    rfl
  · obtain ⟨x, dx, sb, D, l, ys, fo, bs, P, z, rfl, hF, hP, hz, hin, q⟩ := h
    have nd := scShut.nd
    have g := hF.G.g
    have hl12 := g.hi
    have pl := hP.len
    have r1 : Room (k + 1) _ := hr.mono (by omega)
    have r2 : Room (k + 2) _ := hr.mono (by omega)
    have r3 : Room (k + 3) _ := hr.mono (by omega)
    have r4 : Room (k + 4) _ := hr.mono (by omega)
    refine ⟨_, pss_cons (ps_expr (pe_call GC r3 rfl T.chP.g T.chP.F.kp T.chP.b .nil pass0 (pa_cons (pv 0) (pa_cons (pv 1) pa_nil))))
      (pss_cons (ps_set (i := 2) nd rfl (.inl rfl) (pe_call GT hr rfl T.to.g T.to.F.kp T.to.b .nil pass0 (pa_cons (pv 0) (pa_cons (pv 1) pa_nil))))
      (pss_cons (ps_if (pt_cmpR op_ne (pv 2) pe_str (nomark _)) (pss_one ps_dead) pss_nil)
      (pss_one (ps_ret (pe_call GB r2 rfl By.g By.F.kp By.b .nil pass0 (pa_cons (pe_meth0 (pv 0) Z.cl T.Y.mw GW r1 T.Y.bw .nil pass0) (pa_cons (pe_call GA r4 rfl T.afb.g T.afb.F.kp T.afb.b .nil pass0 (pa_cons (pv 0) (pa_cons (pv 1) pa_nil))) pa_nil))))))), ?_⟩
    refine ⟨_, rfl, _, rfl, x, dx, sb, D, l, ys, fo, P, rfl, hF.G.hA, g, hP, fun H1 s1 => ?_⟩
    have hF1 := hF.same s1
    refine ⟨_, rfl, _, rfl, x, dx, sb, D, l, ys, fo, P, rfl, hF1.G.hA, g, hF.fl, hP.sd, by omega, fun H2 s2 => ?_⟩
    have hF2 := hF1.same s2
    rw [torn_no g hF.G.bar hF.hf hP.sd hz hin]
    refine ⟨_, rfl, rfl, _, rfl, ?_⟩
    rw [str00, show (!decide (V.str (tx []) = V.str (tx []))) = false by simp]
    refine iteF ⟨_, rfl, x, dx, _, rfl, hF2.G.hA.x, rfl, x, dx, sb, D, l, ys, fo, rfl, hF2.G.hA, _, rfl, _, rfl, x, dx, sb, D, l, ys, fo, P, rfl, hF2.G.hA, g, hF.fl, hP.sd, by omega, fun H3 s3 => ?_⟩
    exact ⟨l, _, rfl, g, fun H4 s4 => q H4 (sm_trans (sm_trans s1 s2) (sm_trans s3 s4))⟩
end
end NC
namespace NC
open PySem PySem.Spec PyProof.Rows L2
abbrev sLSides : Stmt := topS 71
abbrev sLPart : Stmt := topS 72
abbrev nLSides : List Str := ["_law_d", "_law_shuts_here", "_law_odds", "_law_found", "_law_shut", "_law_how"]
abbrev nLPart : List Str := ["_law_d", "_law_shuts_here", "_law_rooms_here", "_law_part_here", "_law_room", "_law_side"]
theorem scLSides : FnScope nLSides ["_law_d", "_law_shuts_here"] (defScope sLSides) := ⟨rfl, rfl, rfl, by decide +kernel, rfl, by decide +kernel, by decide +kernel⟩
theorem scLPart : FnScope nLPart ["_law_d", "_law_shuts_here", "_law_rooms_here"] (defScope sLPart) := ⟨rfl, rfl, rfl, by decide +kernel, rfl, by decide +kernel, by decide +kernel⟩
theorem Dr.ne {H : Hp} {d p : Addr} (D : Dr H d) (n : H p = none) : p ≠ d := by
  obtain ⟨c0, r0, hd⟩ := D.head
  exact Ne.symm (ne_of_none hd n)
theorem lwc_small {c : Nat} (h : 97 ≤ c ∧ c ≤ 122) : lwc c = c := by unfold lwc; rw [if_neg (by omega)]
theorem lwc_up {c : Nat} (h : 97 ≤ c ∧ c ≤ 122) : lwc (upc c) = c := by rw [upc_small h]; unfold lwc; rw [if_pos (by omega)]; omega
theorem filter_part {l q S : List Nat} (g : GoodW l) {bs : List (List Nat)} (hb : ∀ b ∈ bs, isBar l b = true) (hq : q ∈ rms l bs) : Part l (q.filter fun c => decide (c ∈ S)) := by
  have h1 : q.map lwc = l := (room_low g q).mp (by unfold rms at hq; exact (List.mem_filter.mp hq).1)
  refine ⟨?_, fun c hc => ?_⟩
  · have := (List.filter_sublist (p := fun c => decide (c ∈ S)) (l := q)).map lwc
    rw [h1] at this
    exact this
  · obtain ⟨p, rfl, _⟩ := (rms_mem g hb q).mp hq
    exact rm_asc g (List.mem_filter.mp hc).1
section
variable {P : Program} {w : World} {K : PySem.W.Frag} {mg : Str → Option Value} {base : Heap}
def spLSides : Sp := fun vs H Q _ => ∃ d l, vs = [.ref d, .str (tx l)] ∧ Dr H d ∧ GoodW l ∧ ∀ H' P, SmD d H H' → Dr H' d → Part l P → Q (.str (tx P)) H'
set_option maxHeartbeats 1000000 in
theorem ok_lsides {f fD fO : Addr} {fd dD dO : FuncData} {k : Nat} (B : BM mg) (F : Fun K "_law_sides" "_law_sides" sLSides f fd) (D : DF K mg "_law_draw" sDraw ["_law_d", "_law_many"] fD dD) (Of : DF K mg "_law_of" sOf ["_law_d", "_law_some"] fO dO) :
    FnOk P w K mg base CX0 (k + 3) f fd ["_law_d", "_law_shuts_here"] spLSides := by
  have GD : FnOk P w K mg base CX0 (k + 1) fD dD ["_law_d", "_law_many"] spDraw := ok_draw B D.F
  have GO : FnOk P w K mg base CX0 (k + 2) fO dO ["_law_d", "_law_some"] (spOf K) := ok_of B Of.F D
  refine F.ok scLSides (fun vs H Q E h => ?_) (fun cdv A outer st H vs Q E hr h => ?_)
  · obtain ⟨d, l, rfl, _⟩ := h
    rfl
  · obtain ⟨d, l, rfl, hD, g, q⟩ := h
    have nd := scLSides.nd
    have hl12 := g.hi
    have r1 : Room (k + 1) _ := hr.mono (by omega)
    refine ⟨_, pss_cons (ps_set (i := 2) nd rfl (.inl rfl) (pe_call GO hr rfl Of.g Of.F.kp Of.b .nil pass0 (pa_cons (pv 0) (pa_cons (pe_lst (pa_cons pe_int (pa_cons pe_int (pa_cons pe_int (pa_cons pe_int pa_nil))))) pa_nil))))
      (pss_cons (ps_set (i := 3) nd rfl (.inl rfl) pe_str)
      (pss_cons (ps_for PassesOwn.never rfl (pi_str (pv 1)) (pg_name (i := 4) nd rfl (.inl rfl))
        (pss_cons (ps_set (i := 5) nd rfl (.inl rfl) (pe_call GD r1 rfl D.g D.F.kp D.b .nil pass0 (pa_cons (pv 0) (pa_cons (pe_op op_mul pe_int (pv 2)) pa_nil))))
        (pss_one (ps_if (pt_cmpR op_lt (pv 5) pe_int (nomark _)) (pss_one (ps_set (i := 3) nd rfl (.inl rfl) (pe_op op_add_str (pv 3) (pe_ix ix_list (pe_lst (pa_cons (pv 4) (pa_cons (pe_upper (pv 4)) pa_nil))) (pv 5) (fun _ _ => rfl))))) pss_nil))))
      (pss_one (ps_ret (pv 3))))), ?_⟩
    refine ⟨_, rfl, by show 4 ≤ sizeLine; decide, fun p0 np0 => ?_⟩
    refine ⟨d, _, rfl, hD.same (same_upd np0), .inl ⟨p0, _, rfl, hD.ne np0, SqL.of upd_same, by show 1 ≤ 4; decide, by show 4 ≤ 1000; decide, fun H1 v j s1 D1 hv => ?_⟩⟩
    obtain ⟨od, rfl, od1, od2⟩ : ∃ od : Int, v = .int od ∧ 2 ≤ od ∧ od ≤ 6 := by
      match j, hv with
      | 0, hv => cases hv; exact ⟨_, rfl, by decide, by decide⟩
      | 1, hv => cases hv; exact ⟨_, rfl, by decide, by decide⟩
      | 2, hv => cases hv; exact ⟨_, rfl, by decide, by decide⟩
      | 3, hv => cases hv; exact ⟨_, rfl, by decide, by decide⟩
    have s01 : SmD d H H1 := (SmD.of (same_upd np0)).trans s1
    refine ⟨_, rfl, tx l, rfl, ?_⟩
    have lz : (tx l).cps.size = l.length := tx_len _
    have wk := walk_str (z := tx l)
    rw [lz] at wk
    refine for_it wk (fun i σ H' => ∃ (S : List Nat) (y4 y5 : Option V), σ = [some (.ref d), some (.str (tx l)), some (.int od), some (.str (tx S)), y4, y5] ∧ SmD d H H' ∧ Dr H' d ∧ (S.map lwc).Sublist (l.take i) ∧ ∀ c ∈ S, c ∈ sds l)
      ⟨[], _, _, by rw [← str0]; rfl, s01, D1, by simp, by simp⟩ (fun _ _ _ _ _ => trivial) ?_ ?_
    · rintro i v σ H2 H3 hi ⟨S, y4, y5, rfl, s2, D2, sub, hsd⟩ ⟨rfl, c, hc, rfl⟩
      have hc : l[i]? = some c := by
        rw [← Array.getElem?_toList, tx_list] at hc
        exact hc
      have cm := List.mem_of_getElem? hc
      have cs := g.sm c cm
      have tk : l.take (i + 1) = l.take i ++ [c] := by rw [List.take_add_one, hc]; rfl
      have sl : S.length ≤ 12 := by
        have := sub.length_le
        rw [List.length_map, List.length_take] at this
        omega
      refine ⟨_, rfl, _, rfl, _, _, rfl, rfl, .inl ⟨by omega, by omega⟩, d, _, rfl, D2, by omega, by omega, fun H4 how s4 D4 h0 h1 => ?_⟩
      have s24 := s2.trans s4
      refine ⟨_, rfl, _, _, rfl, rfl, _, rfl, ite2 (fun t => ?_) (fun t => ⟨S, _, _, rfl, s24, D4, by rw [tk]; exact sub.trans (List.sublist_append_left ..), hsd⟩)⟩
      have hw : how < 2 := of_decide_eq_true t
      have uc : Txt.upper (⟨#[c]⟩ : Str) = sg (upc c) := upper_tx (l := [c]) (fun e he => by rw [List.mem_singleton.mp he]; exact g.asc c cm)
      refine ⟨_, rfl, _, rfl, _, rfl, ⟨_, rfl⟩, _, rfl, rfl, by show 1 ≤ 5592405; decide, ?_⟩
      rw [uc]
      refine ⟨by show 2 ≤ sizeLine; decide, fun T nT => ?_⟩
      obtain ⟨e, he, hat⟩ : ∃ e, (e = c ∨ e = upc c) ∧ atI [V.str ⟨#[c]⟩, V.str (sg (upc c))] how = some (.str (sg e)) := by
        have hv : how = 0 ∨ how = 1 := by omega
        rcases hv with z | z
        · exact ⟨c, .inl rfl, by rw [z]; rfl⟩
        · exact ⟨upc c, .inr rfl, by rw [z]; rfl⟩
      refine ⟨_, rfl, T, _, how, .str (sg e), rfl, rfl, SqL.of upd_same, hat, _, _, rfl, rfl, by rw [tx_len, sizeLine_eq]; show _ + 1 ≤ _; omega, S ++ [e], _, _, by rw [sg_tx, tx_app]; rfl, s24.trans (SmD.of (same_upd nT)), D4.same (same_upd nT), ?_, fun b hb => ?_⟩
      · rw [List.map_append, tk]
        refine sub.append ?_
        show [lwc e].Sublist [c]
        rcases he with z | z
        · rw [z, lwc_small cs]; exact List.Sublist.refl _
        · rw [z, lwc_up cs]; exact List.Sublist.refl _
      · rcases List.mem_append.mp hb with z | z
        · exact hsd b z
        · rw [List.mem_singleton.mp z]
          rcases he with y | y
          · rw [y]; exact sds_of_small cm
          · rw [y, upc_small cs]; exact sds_of_great g cm
    · rintro σ H2 ⟨S, y4, y5, rfl, s2, D2, sub, hsd⟩
      rw [List.take_length] at sub
      exact ⟨_, rfl, q H2 S s2 D2 ⟨sub, hsd⟩⟩
def spLPart : Sp := fun vs H Q _ => ∃ d l bs rA, vs = [.ref d, .str (tx l), .ref rA] ∧ Dr H d ∧ GoodW l ∧ (∀ b ∈ bs, isBar l b = true) ∧ rA ≠ d ∧ H rA = some (.lst (((rms l bs).map tx).map V.str)) ∧ rms l bs ≠ [] ∧ (rms l bs).length ≤ 1000 ∧
  ∀ H' P z, SmD d H H' → Dr H' d → Part l P → z ∈ rms l bs → (∀ s ∈ P, s ∈ z) → Q (.str (tx P)) H'
set_option maxHeartbeats 1000000 in
theorem ok_lpart {f fD fO fS fW : Addr} {fd dD dO dS dW : FuncData} {k : Nat} (B : BM mg) (hany : mg "any" = none) (F : Fun K "_law_part" "_law_part" sLPart f fd) (D : DF K mg "_law_draw" sDraw ["_law_d", "_law_many"] fD dD) (Of : DF K mg "_law_of" sOf ["_law_d", "_law_some"] fO dO) (Sd : DF K mg "_law_sides" sLSides ["_law_d", "_law_shuts_here"] fS dS) (W : DF K mg "_law_within" sWithin ["_law_sides_here", "_law_room"] fW dW) :
    FnOk P w K mg base CX0 (k + 4) f fd ["_law_d", "_law_shuts_here", "_law_rooms_here"] spLPart := by
  have GS : FnOk P w K mg base CX0 (k + 3) fS dS ["_law_d", "_law_shuts_here"] spLSides := ok_lsides B Sd.F D Of
  have GO : FnOk P w K mg base CX0 (k + 2) fO dO ["_law_d", "_law_some"] (spOf K) := ok_of B Of.F D
  have GW : FnOk P w K mg base CX0 (k + 1) fW dW ["_law_sides_here", "_law_room"] spWithin := ok_within B W.F
  refine F.ok scLPart (fun vs H Q E h => ?_) (fun cdv A outer st H vs Q E hr h => ?_)
  · obtain ⟨d, l, bs, rA, rfl, _⟩ := h
    rfl
  · obtain ⟨d, l, bs, rA, rfl, hD, g, hb, nrd, er, rne, rlen, q⟩ := h
    have nd := scLPart.nd
    have hl12 := g.hi
    have r1 : Room (k + 1) _ := hr.mono (by omega)
    have r2 : Room (k + 2) _ := hr.mono (by omega)
    refine ⟨_, pss_cons (ps_set (i := 3) nd rfl (.inr rfl) (pe_call GS hr rfl Sd.g Sd.F.kp Sd.b .nil pass0 (pa_cons (pv 0) (pa_cons (pv 1) pa_nil))))
      (pss_cons (ps_if (pt_val (pe_callB (cr_any rfl) (by rfl) hany (by decide +kernel) (pa_cons (pe_lc (own := [("_law_room", 4)]) (g := gName 4) (tt := tYes) (te := tCall spWithin [] E0 (tCons (tVar 3) (tCons (tVar 4) tNil))) rfl nd (pi_list (pv 2)) (blkOk_by (N := nLPart) (sc := defScope sLPart) (by decide +kernel)) (fun _ _ _ _ _ => pg_name (i := 4) nd rfl (Or.inl rfl)) (fun _ _ _ _ _ => pts_nil)
          (fun _ _ _ _ _ => pe_call GW r1 rfl W.g W.F.kp W.b .nil pass0 (pa_cons (pv 3) (pa_cons (pv 4) pa_nil)))) pa_nil))) (pss_one (ps_ret (pv 3))) pss_nil)
      (pss_cons (ps_set (i := 4) nd rfl (.inl rfl) (pe_call GO r2 rfl Of.g Of.F.kp Of.b .nil pass0 (pa_cons (pv 0) (pa_cons (pv 2) pa_nil))))
      (pss_one (ps_ret (pe_join pe_str (pe_lc (own := [("_law_side", 5)]) (g := gName 5) (tt := tTest (tOp rSgn2 (tVar 5) (tVar 3))) rfl nd (pi_str (pv 4)) (blkOk_by (N := nLPart) (sc := defScope sLPart) (by decide +kernel)) (fun _ _ _ _ _ => pg_name (i := 5) nd rfl (Or.inl rfl))
        (fun _ _ _ _ _ => pts_one (pt_cmpR op_in_sign (pv 5) (pv 3) (by rfl))) (fun _ _ _ _ _ => pv 5))))))), ?_⟩
    refine ⟨_, rfl, _, rfl, d, l, rfl, hD, g, fun H1 S s1 D1 pS => ?_⟩
    have er1 := s1.1 _ _ nrd er
    have sl := pS.len
    have wk := walk_list (K := K) (a := rA) (xs := ((rms l bs).map tx).map V.str)
    rw [List.length_map, List.length_map] at wk
    refine ⟨_, rfl, rA, rfl, ⟨_, SqL.of er1⟩, fun Da na => ?_⟩
    refine lc_it wk (fun i H' => Same H1 H' ∧ H' Da = some (.lst ((((rms l bs).take i).map fun r => inR S r).map V.bl))) ⟨same_upd na, upd_same⟩ (fun i H' _ h => SqL.of (h.1 _ _ er1)) ?_ ?_
    · rintro i v H2 H3 hi ⟨s2, e2⟩ ⟨rfl, hx⟩
      rw [List.getElem?_map, List.getElem?_map] at hx
      obtain ⟨z, hz, rfl⟩ := Option.map_eq_some_iff.mp hx
      obtain ⟨r, hr2, rfl⟩ := Option.map_eq_some_iff.mp hz
      refine ⟨rfl, yes_i ⟨_, rfl, _, rfl, S, r, rfl, by omega, fun H4 s4 => ⟨_, s4 _ _ e2, ?_, sm_over (sm_trans s2 s4) na, ?_⟩⟩⟩
      · rw [List.length_map, List.length_map, List.length_take, sizeLine_eq]
        omega
      · rw [upd_same, List.take_add_one, hr2, List.map_append, List.map_append]
        rfl
    rintro H2 ⟨s2, e2⟩
    rw [List.take_length] at e2
    have D2 := D1.same s2
    have s12 := s1.trans (SmD.of s2)
    refine ⟨Da, _, rfl, SqL.of e2, _, rfl, ite2 (fun t => ?_) (fun t => ?_)⟩
    · obtain ⟨z, hz, hin⟩ : ∃ z ∈ rms l bs, inR S z = true := by
        rw [List.any_map, List.any_eq_true] at t
        exact t
      exact ⟨_, rfl, q H2 S z s12 D2 pS hz (inR_iff.mp hin)⟩
    · have ll : (((rms l bs).map tx).map V.str).length = (rms l bs).length := by rw [List.length_map, List.length_map]
      refine ⟨_, rfl, _, rfl, d, _, rfl, D2, .inl ⟨rA, _, rfl, nrd, SqL.of (s2 _ _ er1), by rw [ll]; exact List.length_pos_iff.mpr rne, by rw [ll]; exact rlen, fun H3 v j s3 D3 hv => ?_⟩⟩
      rw [List.getElem?_map, List.getElem?_map] at hv
      obtain ⟨z, hz1, rfl⟩ := Option.map_eq_some_iff.mp hv
      obtain ⟨r, hr1, rfl⟩ := Option.map_eq_some_iff.mp hz1
      have hm := List.mem_of_getElem? hr1
      have rl := (rms_lets g r hm).1
      refine ⟨⟨_, rfl⟩, _, rfl, tx r, rfl, fun Db nb => ?_⟩
      have lz : (tx r).cps.size = r.length := tx_len _
      have wk2 := walk_str (z := tx r)
      rw [lz] at wk2
      refine lc_it wk2 (fun i H' => Same H3 H' ∧ H' Db = some (.lst ((((r.take i).filter fun c => decide (c ∈ S)).map sg).map V.str))) ⟨same_upd nb, upd_same⟩ (fun _ _ _ _ => trivial) ?_ ?_
      · rintro i v H4 H5 hi ⟨s4, e4⟩ ⟨rfl, c, hc, rfl⟩
        have hc : r[i]? = some c := by
          rw [← Array.getElem?_toList, tx_list] at hc
          exact hc
        have tk : r.take (i + 1) = r.take i ++ [c] := by rw [List.take_add_one, hc]; rfl
        have fl : ((r.take i).filter fun c => decide (c ∈ S)).length ≤ 12 := Nat.le_trans (List.length_filter_le _ _) (by rw [List.length_take]; omega)
        refine ⟨rfl, _, rfl, _, rfl, c, tx S, rfl, rfl, _, rfl, ?_⟩
        rw [tx_list]
        refine ite2 (fun t2 => ⟨_, rfl, _, e4, by rw [List.length_map, List.length_map, sizeLine_eq]; omega, sm_over s4 nb, ?_⟩) (fun t2 => ⟨s4, ?_⟩)
        · rw [upd_same, tk, List.filter_append, List.filter_cons, if_pos t2]
          simp
          rfl
        · rw [e4, tk, List.filter_append, List.filter_cons, if_neg t2]
          simp
      · rintro H4 ⟨s4, e4⟩
        rw [List.take_length] at e4
        have fl : (r.filter fun c => decide (c ∈ S)).length ≤ 12 := Nat.le_trans (List.length_filter_le _ _) (by omega)
        refine ⟨_, _, (r.filter fun c => decide (c ∈ S)).map sg, rfl, rfl, .inl (SqL.of e4), ?_, ?_⟩
        · rw [sum_sgs, show (Str.ofString "").length = 0 by decide +kernel]
          omega
        · rw [join_sg]
          exact q H4 _ r ((s12.trans s3).trans (SmD.of s4)) (D3.same s4) (filter_part g hb hm) hm fun s hs => (List.mem_filter.mp hs).1
end
end NC
namespace NC
open PySem PySem.Spec PyProof.Rows L2
/-- the ends of a suite whose clause names slot i -/
def endsAs (i : Nat) (D : Ends) : Ends := { nx := fun σ => D.nx (σ.set i none), rt := D.rt, bk := fun σ => D.bk (σ.set i none), ct := fun σ => D.ct (σ.set i none) }
abbrev Clause := Value × Nat × (Addr → Value → Option Addr → TS)
def wManyA (K : PySem.W.Frag) (Wout : WX) (D : Ends) : List Clause → WX
  | [] => Wout
  | c :: r => fun cls d σ H => ∃ b, PySem.W.exmOne K cls c.1 = some b ∧ (b = true → ∀ a, H a = none → c.2.2 a cls d (endsAs c.2.1 D) (σ.set c.2.1 (some (.ref a))) H) ∧ (b = false → wManyA K Wout D r cls d σ H)
/-- the clause 'except x as n' reads c -/
structure AsOk (X : Cx) (x n : Str) (suite : List Stmt) (c : Clause) : Prop where
  slot : X.N[c.2.1]? = some n
  kind : X.env.kindOf n = some .local
  cls : Names X x c.1
  run : ∀ (a : Addr) (oe : Obj) (cls : Value) (d : Option Addr) (pn : List (Addr × Obj)), Zc cls d oe → (∃ vs, oe.data = .fields vs) → PSs (X.suite a ((a, oe) :: pn)) suite (c.2.2 a cls d)
inductive HdsA (X : Cx) : List ExceptHandler → List Clause → Prop
  | nil : HdsA X [] []
  | cons {x n : Str} {c : Clause} {b₀ : Stmt} {suite : List Stmt} {p q : Pos} {hds : List ExceptHandler} {l : List Clause} (ok : AsOk X x n (b₀ :: suite) c) (r : HdsA X hds l) : HdsA X (.ExceptHandler (some (.Name x p)) (some n) (b₀ :: suite) q :: hds) (c :: l)
/-- the exception at a, caught in X's own frame, with the state t -/
structure Gnd (X : Cx) (pins : List (Addr × Obj)) (a : Addr) (cls : Value) (d : Option Addr) (σ : L2.St) (H : Hp) (B : Heap) (t0 t : Shared) : Prop where
  own : X.stack = X.env :: X.outer
  frm : X.env.frame = some X.env.locals
  was : Inv X pins σ H t0
  low : ∀ b o, t0.heap.get? b = some o → b ∉ frs X.stack → B.get? b = some o
  up : t0.heap.UpToSlots t.heap
  new : H a = none
  io : t.os = t0.os
  gen : AllBare t.gens
  fly : HandSPX.FlyingZ B (X.env :: X.outer) a (Zc cls d) t.heap
section
variable {X : Cx} {pins : List (Addr × Obj)} {a : Addr} {cls : Value} {d : Option Addr} {σ : L2.St} {H : Hp} {B : Heap} {t0 t : Shared} {D : Ends}
theorem Gnd.to (G : Gnd X pins a cls d σ H B t0 t) {h : Heap} (f : HandSPX.FlyingZ B (X.env :: X.outer) a (Zc cls d) h) (u : t.heap.UpToSlots h) : Gnd X pins a cls d σ H B t0 { t with heap := h } := { G with up := G.up.trans u, fly := f }
theorem Gnd.now (G : Gnd X pins a cls d σ H B t0 t) : Inv X pins σ H t := G.was.landed G.low G.fly.1 G.up G.io G.gen
/-- the exception is no frame -/
theorem Gnd.off (G : Gnd X pins a cls d σ H B t0 t) : a ∉ frs (X.env :: X.outer) := fun z => by
  obtain ⟨o, vs, g1, _, g2⟩ := G.fly.there
  obtain ⟨_, o2, g3, g4⟩ := G.fly.2.2.1.mem z
  exact g4 _ ((Option.some.inj (g3.symm.trans g1)) ▸ g2)
/-- the state in the clause's suite -/
theorem Gnd.inS (G : Gnd X pins a cls d σ H B t0 t) : ∃ oe, Zc cls d oe ∧ (∃ vs, oe.data = .fields vs) ∧ t.heap.get? a = some oe ∧ Inv (X.suite a ((a, oe) :: (X.pn ++ pins))) [] σ H t := by
  obtain ⟨o, vs, g1, g2, g3⟩ := G.fly.there
  refine ⟨o, g2, ⟨vs, g3⟩, g1, G.now.suite g1 g3 G.new (fun z => G.off ?_) fun z => G.off ?_⟩
  · exact List.mem_filterMap.mpr ⟨_, .head _, G.frm.trans (congrArg some z.symm)⟩
  · exact let ⟨e, m, q⟩ := List.mem_filterMap.mp z; List.mem_filterMap.mpr ⟨e, .tail _ m, q⟩
/-- no clause is left: it flies on -/
theorem gnd_out {Wout : WX} (tk : Takes X Wout) (G : Gnd X pins a cls d σ H B t0 t) (w : Wout cls d σ H) : wpAny (model X.prog X.w) X.A (handleBy (.ref a) X.env []) (SP X pins D) X.xe t := by
  have away : wpAny (model X.prog X.w) X.A (setFlight (.ref a) (some X.env.locals)) (fun _ v => wpAny (model X.prog X.w) X.A (throw (.ref a) : Sem Flow) (SP X pins D) X.xe v) X.xe t :=
    HandSPX.setFlight_upZ G.fly fun g held u => wpAny_throw (tk _ _ ⟨a, B, t0, pins, σ, H, cls, d, rfl, G.was, G.low, G.up.trans u, .inr (.inr (G.own ▸ held)), G.new, G.io, G.gen, w⟩)
  rw [← G.frm] at away
  obtain ⟨_, _, _, o, vs, tb, _, _, g1, _, g2, g3, _⟩ := G.fly
  refine wpAny_handleBy_nil ?_
  unfold PySem.passOn
  refine wpAny_bind (wpAny_field g1 g2 g3 ?_)
  have nn : ¬ (Value.ref tb == Value.none) = true := by simp
  rw [if_neg nn]
  first | exact wpAny_bind (wpAny_pure (wpAny_bind away)) | exact wpAny_bind away
/-- one clause: its suite, or what follows it -/
theorem gnd_as {x n : Str} {c : Clause} {b₀ : Stmt} {suite : List Stmt} {p q : Pos} {hds : List ExceptHandler} (hN : X.N.Nodup) (C : AsOk X x n (b₀ :: suite) c) (G : Gnd X pins a cls d σ H B t0 t) {b : Bool} (m : PySem.W.exmOne X.K cls c.1 = some b)
    (yes : b = true → c.2.2 a cls d (endsAs c.2.1 D) (σ.set c.2.1 (some (.ref a))) H) (no : b = false → wpAny (model X.prog X.w) X.A (handleBy (.ref a) X.env hds) (SP X pins D) X.xe t) :
    wpAny (model X.prog X.w) X.A (handleBy (.ref a) X.env (.ExceptHandler (some (.Name x p)) (some n) (b₀ :: suite) q :: hds)) (SP X pins D) X.xe t := by
  obtain ⟨oe, z1, z2, z3, I⟩ := G.inS
  have lk : PySem.W.Looks (model X.prog X.w) t.heap (typeOf (.ref a)) cls := fun _ _ _ _ k r => wpAny_typeOf_ref (k _ _ z3) (z1.1.symm ▸ r)
  have nm : ∀ {Q E : Value → Shared → Prop}, Q c.1 t → wpAny (model X.prog X.w) (X.A.mark (some (.ref a))) (eval (.Name x p) X.env) Q E t := fun {Q E} r => C.cls.2.2.elim
    (fun g => ld_glob (X := X.suite a ((a, oe) :: (X.pn ++ pins))) I C.cls.1 g r C.cls.2.1) (fun g => ld_blt (X := X.suite a ((a, oe) :: (X.pn ++ pins))) I C.cls.1 g.1 g.2.1 r g.2.2 C.cls.2.1)
  refine wpAny_handleBy_cons (codeAny_handlers_test (nm ((PySem.W.exm_one (M := model X.prog X.w) G.now.kIn lk m).here ?_))) nofun
  cases b with
  | false => exact no rfl
  | true =>
    refine codeAny_handlers_suite_as (HandSPX.lands_againZ G.fly fun g f u => ?_)
    obtain ⟨o2, y1, y2, _, I2⟩ := (G.to f u).inS
    refine store_ok (X := X.suite a ((a, o2) :: (X.pn ++ pins))) (v := .ref a) I2 hN C.slot (.inl C.kind) rfl (fun v I3 => ?_) (.inr C.kind)
    have gone : ∀ {τ : L2.St} {G' : Hp} {v' : Shared} {R : Shared → Prop}, Inv (X.suite a ((a, o2) :: (X.pn ++ pins))) [] τ G' v' → (∀ v2, Inv X pins (τ.set c.2.1 none) G' v2 → R v2) → wpAny (model X.prog X.w) X.A (do bindName X.env n .none; unbindBehindTheSuite X.env n q) (fun _ v2 => R v2) X.xe v' :=
      fun k r => gone_ok (k.unsuite G.was.ok) hN C.slot C.kind r
    refine wpAny_mono ((C.run a o2 cls d (X.pn ++ pins) y1 y2).run [] v _ H _ I3 (yes rfl)) (fun fl v' r => ?_) fun _ _ e => e.elim
    match fl, r with
    | .next, ⟨τ, G', k, r⟩ => exact gone k fun v2 k2 => ⟨_, G', k2, r⟩
    | .brk, ⟨τ, G', k, r⟩ => exact gone k fun v2 k2 => ⟨_, G', k2, r⟩
    | .cont, ⟨τ, G', k, r⟩ => exact gone k fun v2 k2 => ⟨_, G', k2, r⟩
    | .ret _, ⟨y, τ, G', k, rl, r⟩ => exact gone k fun v2 k2 => ⟨y, _, G', k2, rl, r⟩
theorem gnd_all {Wout : WX} (hN : X.N.Nodup) (tk : Takes X Wout) (G : Gnd X pins a cls d σ H B t0 t) : ∀ {hds : List ExceptHandler} {l : List Clause}, HdsA X hds l → wManyA X.K Wout D l cls d σ H → wpAny (model X.prog X.w) X.A (handleBy (.ref a) X.env hds) (SP X pins D) X.xe t
  | _, _, .nil, w => gnd_out tk G w
  | _, _, .cons ok r, ⟨_, m, yes, no⟩ => gnd_as hN ok G m (fun e => yes e a G.new) fun e => gnd_all hN tk G r (no e)
theorem ps_try_manyA {body : List Stmt} {h₀ : ExceptHandler} {hds : List ExceptHandler} {l : List Clause} {pos : Pos} {tb : WX → TS} {Wout : WX} (own : X.stack = X.env :: X.outer) (frm : X.env.frame = some X.env.locals) (hN : X.N.Nodup) (tk : Takes X Wout)
    (bd : ∀ (W : WX) (pn : List (Addr × Obj)) (xe : Value → Shared → Prop), Takes (X.tr pn xe) W → PSs (X.tr pn xe) body (tb W)) (cl : HdsA X (h₀ :: hds) l) : PS X (.Try body (h₀ :: hds) [] [] pos) (fun D σ H => tb (wManyA X.K Wout D l) D σ H) := by
  refine ⟨fun ps s σ0 H0 D I h => wpAny_Try_except (wpAny_mono ((bd _ (X.pn ++ ps) _ ?_).run [] s σ0 H0 D (I.toTry _) h) (fun fl v r => ?_) fun _ _ e => e)⟩
  · rintro u v ⟨a, B, t0, _, σ, H, cls, d, rfl, J, low, up, sky, new, io, gen, w⟩
    have fr : X.A.frames = some (X.env :: X.outer) := I.ok.frames.trans (congrArg some own)
    refine Sky.land (Z := Zc cls d) Zc.steady fr frm (B := B) (own ▸ sky) fun g f u => ?_
    exact gnd_all hN tk (show Gnd X ps a cls d σ H B t0 { v with heap := g } from ⟨own, frm, J.ofTry I.ok, low, up.trans u, new, io, gen, f⟩) cl w
  · match fl, r with
    | .next, ⟨τ, G', k, r⟩ => exact wpAny_execs_nil ⟨τ, G', k.ofTry I.ok, r⟩
    | .brk, ⟨τ, G', k, r⟩ => exact ⟨τ, G', k.ofTry I.ok, r⟩
    | .cont, ⟨τ, G', k, r⟩ => exact ⟨τ, G', k.ofTry I.ok, r⟩
    | .ret _, ⟨y, τ, G', k, rl, r⟩ => exact ⟨y, τ, G', k.ofTry I.ok, rl, r⟩
end
end NC
namespace NC
open PySem PySem.Spec PyProof.Rows L2
theorem un_join {fs gs : List Addr} {H0 H1 H2 : Hp} {h0 h1 h2 : Heap} (a : Un fs [] H0 H1 h0 h1) (b : Un gs [] H1 H2 h1 h2) (y : ∀ c ∈ gs, c ∈ fs ∨ h0.get? c = none) : Un fs [] H0 H2 h0 h2 where
  keep := fun c o g n nf nx => b.keep c o (a.keep c o g n nf nx) (a.free c o g n nx) (fun m => (y c m).elim nf fun z => by rw [g] at z; cases z) nx
  slot := fun c o g n mf nx => by
    obtain ⟨_, g1⟩ := a.slot c o g n mf nx
    obtain ⟨sl, g2⟩ := b.any g1 (a.free c o g n nx) nx
    exact ⟨sl, g2⟩
  free := fun c o g n nx => let ⟨o1, g1⟩ := a.there c o g nx; b.free c o1 g1 (a.free c o g n nx) nx
  there := fun c o g nx => let ⟨o1, g1⟩ := a.there c o g nx; b.there c o1 g1 nx
  tups := fun c xs g => b.tups c xs (a.tups c xs g)
  frzs := fun c o u g => b.frzs c o u (a.frzs c o u g)
  tbls := fun c ps g => by
    obtain ⟨m, g1⟩ := a.tbls c ps g
    obtain ⟨m', g2⟩ := b.tbls c _ g1
    exact ⟨m ++ m', g2.trans (by rw [Array.append_assoc])⟩
/-- f, called with nothing, does tl as long as J; fs H0 h0: the frames and the heaps that this was said of -/
structure Acts (P : Program) (w : World) (K : PySem.W.Frag) (mg : Str → Option Value) (B : Heap) (k : Nat) (f : Addr) (J : Hp → Prop) (fs : List Addr) (H0 : Hp) (h0 : Heap) (tl : XK → Hp → VK → Prop) : Prop where
  obj : ∀ (G : Hp) (s : Shared), Un fs [] H0 G h0 s.heap → HOk P w G s.heap → J G → PySem.W.FnAt f s.heap
  run : ∀ (A : Around) (out : List Env) (s : Shared) (G : Hp) (Q : VK) (E : XK), Room (k + 1) A → Env0 P w K mg B A out s G → Un fs [] H0 G h0 s.heap → J G → tl E G Q →
    codeAny (model P w) A (.call (.ref f) ⟨[], []⟩) (CR (L2.CX P w) out P w G s Q E) s
section
variable {P : Program} {w : World} {K : PySem.W.Frag} {mg : Str → Option Value} {B : Heap} {k j : Nat} {f g : Addr} {J : Hp → Prop} {fs gs : List Addr} {H0 H1 : Hp} {h0 h1 : Heap} {tl : XK → Hp → VK → Prop}
theorem Acts.move (a : Acts P w K mg B k f J fs H0 h0 tl) (u : Un fs [] H0 H1 h0 h1) (y : ∀ c ∈ gs, c ∈ fs ∨ h0.get? c = none) : Acts P w K mg B k f J gs H1 h1 tl :=
  ⟨fun G s v => a.obj G s (un_join u v y), fun A out s G Q E r e v => a.run A out s G Q E r e (un_join u v y)⟩
theorem Acts.mono {i : Nat} (a : Acts P w K mg B k f J fs H0 h0 tl) (l : k ≤ i) : Acts P w K mg B i f J fs H0 h0 tl := ⟨a.obj, fun A out s G Q E r => a.run A out s G Q E (r.mono (by omega))⟩
/-- from a def's beginning to where it stands -/
theorem Acts.here {Z : Cx} {pins : List (Addr × Obj)} {σ : L2.St} {H : Hp} {s : Shared} (I : Inv Z pins σ H s) (ex : Z.ex = []) (a : Acts Z.prog Z.w Z.K Z.mg Z.base k f J Z.fs Z.H_0 Z.s_0.heap tl) : Acts Z.prog Z.w Z.K Z.mg Z.base k f J (frs Z.stack) H s.heap tl :=
  a.move (ex ▸ I.base) fun c m => (List.mem_cons.mp (I.stkSub c m)).elim (fun e => .inr (by rw [e]; exact Heap.get?_none_of_le I.ok.above)) .inl
/-- the def at g, handed an f that does tl, does what sp says -/
def Uses (P : Program) (w : World) (K : PySem.W.Frag) (mg : Str → Option Value) (B : Heap) (k j : Nat) (g : Addr) (fd : FuncData) (ps : List Str) (sp : Addr → (XK → Hp → VK → Prop) → List V → Hp → VK → Prop) : Prop :=
  ∀ (A : Around) (out : List Env) (s : Shared) (H : Hp) (args : Args) (us : List Value) (vs : List V) (Q : VK) (f : Addr) (J : Hp → Prop) (tl : XK → Hp → VK → Prop), Room j A → Env0 P w K mg B A out s H → BindsTo s fd args (ps.zip us) → Vals vs us → vs.length = ps.length →
    Acts P w K mg B k f J (frs out) H s.heap tl → J H → sp f tl vs H Q → codeAny (model P w) A (.call (.ref g) args) (CR C8.CX0 out P w H s Q C8.E0) s
variable {fd : FuncData} {ps : List Str} {sp : Addr → (XK → Hp → VK → Prop) → List V → Hp → VK → Prop}
theorem uses_of {x qual : Str} {st : Stmt} {N : List Str} (F : Fun K x qual st g fd) (S : FnScope N ps (defScope st))
    (body : ∀ (cdv : Value) (A : Around) (out : List Env) (s : Shared) (H : Hp) (vs : List V) (Q : VK) (f : Addr) (J : Hp → Prop) (tl : XK → Hp → VK → Prop), Room j (A.deeper (envOfC qual (defScope st) s.heap.objs.size g cdv)) → Acts P w K mg B k f J (frs out) H s.heap tl → J H → sp f tl vs H Q →
      ∃ t, PSs (cxOf C8.CX0 P w K mg B N qual (defScope st) g cdv A out s H C8.E0).nox (defBody st) t ∧ t { nx := fun _ G => Q .non G, rt := Q } (L2.start N vs) H) : Uses P w K mg B k (j + 1) g fd ps sp := by
  obtain ⟨oc, od, kV, doc, pm, an, cd, ct, osl, rfl, lk, cc⟩ := F.ex
  intro A out s H args us vs Q f J tl r e0 b v l a jH h
  refine LamX.run_ofS (N := N) (us := us) lk cc S r e0 b v l fun r2 => ?_
  obtain ⟨t, d, q⟩ := body cd A out s H vs Q f J tl r2 a jH h
  exact ⟨t, d.nox, q⟩
end
section
variable {Z : Cx} {k j i : Nat} {f g : Addr} {J : Hp → Prop} {tl : XK → Hp → VK → Prop} {fd : FuncData} {ps : List Str} {sp : Addr → (XK → Hp → VK → Prop) → List V → Hp → VK → Prop} {x y : Str} {p p2 pos : Pos} {e : Expr} {es : List Expr} {t : TA} {E : XK}
theorem end_of {CX : CXT} {pins : List (Addr × Obj)} {σ : L2.St} {H : Hp} {s s' : Shared} {Q : VK} {r : Result} (I : Inv Z pins σ H s) (px : Passes CX Z E) (h : CR CX Z.stack Z.prog Z.w H s Q E r s') : wants (EP Z pins σ Q) Z.xe r s' := by
  match r, h with
  | .ok (.ret _), h => exact I.after h
  | .error _, h => exact px _ _ _ _ _ _ I h
/-- y(), y holding such an f -/
theorem pe_thunk (a : Acts Z.prog Z.w Z.K Z.mg Z.base k f J Z.fs Z.H_0 Z.s_0.heap tl) (ex : Z.ex = []) (px : Passes (L2.CX Z.prog Z.w) Z E) (r : Room (k + 1) Z.A) (at_ : PE Z (.Name y p) (tVar i)) :
    PE Z (.Call (.Name y p) [] [] p2) (fun σ H Q => σ[i]? = some (some (.ref f)) ∧ J H ∧ tl E H Q) := ⟨fun pins s σ H Q I ⟨sv, jH, h⟩ => by
  refine wpAny_Call_Name_kw (thn (at_.run pins s σ H (fun v G => v = .ref f ∧ J G ∧ tl E G Q) I ⟨_, sv, rfl, jH, h⟩) ?_)
  rintro u s1 ⟨v, G, I1, rv, rfl, jG, hG⟩
  obtain rfl : u = Value.ref f := rv
  have un : Un Z.fs [] Z.H_0 G Z.s_0.heap s1.heap := ex ▸ I1.base
  exact PySem.W.callWith_F0 (a.obj G s1 un I1.hok jG) (wpAny_call (codeAny_mono (a.run _ _ _ _ Q E r I1.env0 un jG hG) fun _ _ q => end_of I1 px q))⟩
end
section
variable {X : Cx} {pins : List (Addr × Obj)} {σ : L2.St} {H : Hp} {s : Shared} {params : Arguments} {body : Expr} {scope : Scope} {f c' : Addr} {pm ctv : Value} {k : Nat} {t : XK → TE}
theorem acts_lam (I : Inv X pins σ H s) (L : LamX.LamS X.env.scope scope) (hf : s.heap.get? f = some (PySem.W.kla_obj "<lambda>" (X.env.qual ++ "<lambda>") params body scope (cloFrom X.env.cells scope.names []) pm c' ctv)) (nf : H f = none) (off : f ∉ frs X.stack)
    (nb : bindArgs (PySem.W.kla_fn "<lambda>" (X.env.qual ++ "<lambda>") params body scope (cloFrom X.env.cells scope.names []) pm (.ref c') ctv) ⟨[], []⟩ = pure [])
    (pb : ∀ (A : Around) (out : List Env) (s : Shared) (H : Hp) (E : XK), Room k (A.deeper (LamX.lamEnv X scope s.heap.objs.size f c')) → PE (LamX.lamCx X A out s H E scope f c') body (t E)) :
    Acts X.prog X.w X.K X.mg X.base k f (fun G => G c' = some (LamX.CodeO c' (X.env.qual ++ "<lambda>"))) (frs X.stack) H s.heap (fun E G Q => t E σ G Q) := by
  have stays : ∀ {G : Hp} {h : Heap}, Un (frs X.stack) [] H G s.heap h → h.get? f = _ := fun u => u.keep f _ hf nf off nofun
  refine ⟨fun G v u _ _ => ⟨_, _, _, _, stays u⟩, fun A out v G Q E r e0 u jG h => ?_⟩
  obtain ⟨⟨co, fl, tk, c1, c2, c3⟩, _⟩ := e0.hok c' _ jG
  refine PySem.W.kla_callFunE r.depth (stays u) rfl L.co L.gen rfl ⟨c', co, fl, tk, rfl, c1, c2, c3⟩ ?_
  rw [nb]
  have lim : v.heap.NoLimit := e0.mod.nolimit.keeps fun b o z => (e0.bs b o z).1
  refine wpAny_pure (wpAny_newFunctionEnv (fun y m => (L.own y m).2) nofun (fun h1 ns sb => ⟨lim.fresh _ sb, ?_⟩) L.kind)
  have old : ∀ b o, v.heap.get? b = some o → h1.get? b = some o := fun b o z => sb.extBut b o (Nat.ne_of_lt (Heap.lt_size z)) (Heap.get?_push_of_some _ z)
  have V := LamX.lam_start2 (E := E) (f := f) (c' := c') (tk := v.toks + ([] : List (Str × Value)).length) I L e0 r.hd u ns old
  refine PySem.W.kla_codeExpr (wpAny_mono ((pb A out v G E (r.deeper _)).run [] _ σ G Q V h) ?_ fun _ _ z => z)
  rintro u2 v2 ⟨y, G2, V2, ry, qy⟩
  exact ⟨y, G2, V2.os, V2.bare, V2.base, V2.hok, ry, qy⟩
end
section
variable {X : Cx} {T : List (Addr × Str)} {c P g : Addr} {params : Arguments} {body : Expr} {scope : Scope} {k j : Nat} {t : XK → TE} {es : List Expr} {vs0 : List V} {fd : FuncData} {ps : List Str} {sp : Addr → (XK → Hp → VK → Prop) → List V → Hp → VK → Prop} {x : Str} {p lpos pos : Pos}
def tLamU (T : List (Addr × Str)) (sp : Addr → (XK → Hp → VK → Prop) → List V → Hp → VK → Prop) (vs0 : List V) (t : XK → TE) : TE := fun σ H Q => LamX.Tabs T H ∧ ∀ f H1, LamX.ExtN H H1 → LamX.Tabs T H1 → sp f (fun E G R => t E σ G R) (.ref f :: vs0) H1 Q
/-- x(lambda: body, constants ..) -/
theorem pe_lamU (U : Uses X.prog X.w X.K X.mg X.base k j g fd ps sp) (r : Room j X.A) (gl : Gl X x) (hm : X.mg x = some (.ref g)) (kp : PySem.W.keepIn X.K (.ref g) = true) (b : Binds X.K fd ps []) (ln : vs0.length + 1 = ps.length) (ha : PA X es (fun _ H Q => Q vs0 H))
    (TB : LamX.TabB X.base X.mg c P) (hc : X.env.code = .ref c) (hT : (P, X.env.qual ++ "<lambda>") ∈ T) (hu : ∀ p ∈ T, p.1 = P → p.2 = X.env.qual ++ "<lambda>") (L : LamX.LamS X.env.scope scope) (nd : defaultsOf params X.env = ([], []))
    (nb : ∀ (q : Str) (cl : List (Str × Addr)) (pm cv ctv : Value), bindArgs (PySem.W.kla_fn "<lambda>" q params body scope cl pm cv ctv) ⟨[], []⟩ = pure [])
    (pb : ∀ (A : Around) (out : List Env) (s : Shared) (H : Hp) (E : XK) (f c' : Addr), Room k (A.deeper (LamX.lamEnv X scope s.heap.objs.size f c')) → PE (LamX.lamCx X A out s H E scope f c') body (t E)) (ex : X.ex = [])
    (db : (x == ("__debug__" : Str)) = false := by decide) (h1 : starEach (.Lambda params body scope lpos :: es) X.env = (false, eval (.Lambda params body scope lpos) X.env) :: starEach es X.env := by rfl) (h2 : (backTo pos (starEach es X.env)).any (·.1) = false := by rfl) :
    PE X (.Call (.Name x p) (.Lambda params body scope lpos :: es) [] pos) (tLamU T sp vs0 t) := ⟨fun pins s σ H Q I ⟨tb, h⟩ => by
  refine wpAny_Call_Name_kw (ld_glob I gl hm (PySem.W.callWith_K (h₀ := X.base) I.mod.kin kp ?_ h1 h2) db)
  rw [h1]
  refine Calls.spliced_cons (LamX.lam_make2 I TB hc hT hu tb nd (L.has I.ok) fun f c' pm ctv H1 s1 I1 eN T1 hf nf off jc => ?_)
  have offs : f ∉ X.fs := fun z => off (I1.ok.stk.elim (fun e => e ▸ z) fun e => by
    rw [e.1]
    exact let ⟨v, m, q⟩ := List.mem_filterMap.mp z; List.mem_filterMap.mpr ⟨v, .tail _ m, q⟩)
  have nl : f ≠ X.env.locals := fun z => by
    obtain ⟨m, ⟨o, es, ep, ho, hd, _⟩, _⟩ := I1.loc
    rw [← z, hf] at ho
    cases ho
    cases hd
  have I2 : Inv X ((f, _) :: pins) σ H1 s1 := I1.pins_of fun q m => (List.mem_cons.mp m).elim (fun e => by rw [e]; exact ⟨hf, nf, nl, offs, nofun⟩) fun m2 => I1.pin q (List.mem_append_right _ m2)
  refine thn (ha.run pos _ s1 σ H1 (fun vs G => vs = vs0 ∧ G = H1) I2 ⟨rfl, rfl⟩) ?_
  rintro us s2 ⟨vs, G, I3, v, rfl, rfl⟩
  obtain ⟨hf3, _⟩ := I3.pin (f, _) (List.mem_append_right _ (.head _))
  have I4 : Inv X pins σ G s2 := I3.pins_of fun q m => I3.pin q (List.mem_append_right _ (.tail _ m))
  have l2 : (Value.ref f :: us).length = ps.length := by rw [List.length_cons, ← v.length]; exact ln
  have bt : BindsTo s2 fd ⟨.ref f :: us, []⟩ (ps.zip (.ref f :: us)) := by
    have z := b s2 (.ref f :: us) I4.kIn (by rw [List.append_nil]; exact l2)
    rw [List.append_nil] at z
    exact z
  have a := acts_lam (k := k) (t := t) I4 L hf3 nf off (nb _ _ _ _ _) fun A out s H E => pb A out s H E f c'
  exact ⟨I4.kIn, wpAny_call (codeAny_mono (U _ _ _ _ _ (.ref f :: us) (.ref f :: vs) Q f _ _ r I4.env0 bt (.cons rfl v) ln a jc (h f G eN T1)) fun _ _ q => end_of (CX := C8.CX0) (E := C8.E0) I4 (fun _ _ _ _ _ _ _ z => z.elim) q)⟩⟩
end
end NC
namespace NC
open PySem PySem.Spec PyProof.Rows L2
theorem passF {X : Cx} : Passes (L2.CX X.prog X.w) X E0 := fun _ _ _ _ _ _ _ h => by
  obtain ⟨_, _, _, _, _, _, _, _, _, _, _, _, z⟩ := h
  exact z.elim
/-- what stands beside the draws: the rooms, the hall -/
structure St6 (d c rA : Addr) (R : List V) (C x dx sb D : Addr) (l : List Nat) (ys : List Str) (fo : Nat → List Nat) (H : Hp) : Prop where
  dr : Dr H d
  hc : HeadC H d c
  rA : H rA = some (.lst R)
  hA : HallAt C H x dx sb D l ys fo
section
variable {d c rA C x dx sb D : Addr} {R : List V} {l : List Nat} {ys : List Str} {fo : Nat → List Nat} {H H' : Hp}
theorem St6.same (s : St6 d c rA R C x dx sb D l ys fo H) (e : Same H H') : St6 d c rA R C x dx sb D l ys fo H' := ⟨s.dr.same e, let ⟨r, h⟩ := s.hc; ⟨r, e _ _ h⟩, e _ _ s.rA, s.hA.same e⟩
theorem St6.smd (s : St6 d c rA R C x dx sb D l ys fo H) (nr : rA ≠ d) (ns : sb ≠ d) (e : SmD d H H') (D' : Dr H' d) : St6 d c rA R C x dx sb D l ys fo H' := by
  obtain ⟨r, hd⟩ := s.hc
  have nx : x ≠ d := ne_of s.hA.x hd fun z => by cases z
  have nD : D ≠ d := ne_of s.hA.D hd fun z => by cases z
  exact ⟨D', e.2 _ s.hc, e.1 _ _ nr s.rA, ⟨e.1 _ _ nx s.hA.x, e.1 _ _ ns s.hA.sb, e.1 _ _ nD s.hA.D⟩⟩
theorem St6.new (s : St6 d c rA R C x dx sb D l ys fo H) {p : Addr} (n : H p = none) (s' : St6 d c rA R C x dx sb D l ys fo H') {o : HO} : St6 d c rA R C x dx sb D l ys fo (L2.upd H' p o) := by
  obtain ⟨ns, hcell⟩ := s.dr.cell s.hc
  have n1 : p ≠ d := s.dr.ne n
  have n2 : p ≠ c := Ne.symm (ne_of_none hcell n)
  exact ⟨s'.dr.upd s'.hc n1 n2, s'.hc.upd n1, by rw [upd_ne (ne_of_none s.rA n)]; exact s'.rA, ⟨by rw [upd_ne (ne_of_none s.hA.x n)]; exact s'.hA.x, by rw [upd_ne (ne_of_none s.hA.sb n)]; exact s'.hA.sb, by rw [upd_ne (ne_of_none s.hA.D n)]; exact s'.hA.D⟩⟩
end
end NC
namespace NC
open PySem PySem.Spec PyProof.Rows L2
abbrev sLNear : Stmt := topS 74
abbrev nLNear : List Str := ["_law_rooms_here", "_law_part_here", "_law_room", "_law_best", "_law_one"]
theorem scLNear : FnScope nLNear ["_law_rooms_here", "_law_part_here", "_law_room"] (defScope sLNear) := ⟨rfl, rfl, rfl, by decide +kernel, rfl, by decide +kernel, by decide +kernel⟩
section
variable {P : Program} {w : World} {K : PySem.W.Frag} {mg : Str → Option Value} {base : Heap}
def spLNear (K : PySem.W.Frag) : Sp := fun vs H Q _ => ∃ a l bs P r N, vs = [.ref a, .str (tx P), .str (tx r)] ∧ GoodW l ∧ SqL K H a (((rms l bs).map tx).map V.str) ∧ r ∈ rms l bs ∧ P.length ≤ 100 ∧ N ∈ rms l bs ∧ inR P N = true ∧ (∀ q ∈ rms l bs, inR P q = true → ham r q ≤ ham r N → q = N) ∧ ∀ H', Same H H' → Q (.str (tx N)) H'
set_option maxHeartbeats 1000000 in
theorem ok_lnear {f fW fA : Addr} {fd dW dA : FuncData} {k : Nat} (B : BM mg) (F : Fun K "_law_near" "_law_near" sLNear f fd) (W : DF K mg "_law_within" sWithin ["_law_sides_here", "_law_room"] fW dW) (Ap : DF K mg "_law_apart" sApart ["_law_one", "_law_two"] fA dA) :
    FnOk P w K mg base CX0 (k + 2) f fd ["_law_rooms_here", "_law_part_here", "_law_room"] (spLNear K) := by
  have GW : FnOk P w K mg base CX0 (k + 1) fW dW ["_law_sides_here", "_law_room"] spWithin := ok_within B W.F
  have GA : FnOk P w K mg base CX0 (k + 1) fA dA ["_law_one", "_law_two"] spApart := ok_apart B Ap.F
  refine F.ok scLNear (fun vs H Q E h => ?_) (fun cdv A outer st H vs Q E hr h => ?_)
  · obtain ⟨a, l, bs, P, r, N, rfl, _⟩ := h
    rfl
  · obtain ⟨a, l, bs, P, r, N, rfl, g, hS, hm, pl, hN, hiN, best, q⟩ := h
    have nd := scLNear.nd
    have hl12 := g.hi
    obtain ⟨rl, rlt⟩ := rms_lets g r hm
    refine ⟨_, pss_cons (ps_set (i := 3) nd rfl (.inl rfl) pe_non)
      (pss_cons (ps_for PassesOwn.never rfl (pi_list (pv 0)) (pg_name (i := 4) nd rfl (.inl rfl))
        (pss_one (ps_if (pt_val (pe_call GW hr rfl W.g W.F.kp W.b .nil pass0 (pa_cons (pv 1) (pa_cons (pv 4) pa_nil))))
          (pss_one (ps_if (PW.pt (pw_or (pt_cmp (pc_isN (pv 3))) (pw_or1 (pt_cmpR op_lt (pe_call GA hr rfl Ap.g Ap.F.kp Ap.b .nil pass0 (pa_cons (pv 2) (pa_cons (pv 4) pa_nil))) (pe_call GA hr rfl Ap.g Ap.F.kp Ap.b .nil pass0 (pa_cons (pv 2) (pa_cons (pv 3) pa_nil))) (nomark _)))))
            (pss_one (ps_set (i := 3) nd rfl (.inl rfl) (pv 4))) pss_nil)) pss_nil)))
      (pss_one (ps_ret (pv 3)))), ?_⟩
    have wk := walk_list (K := K) (a := a) (xs := ((rms l bs).map tx).map V.str)
    rw [List.length_map, List.length_map] at wk
    refine ⟨_, rfl, a, rfl, ⟨_, hS⟩, ?_⟩
    refine for_it wk (fun i σ H' => ∃ (y3 : V) (y4 : Option V), σ = [some (.ref a), some (.str (tx P)), some (.str (tx r)), some y3, y4] ∧ Same H H' ∧
        ((y3 = .non ∧ ∀ q ∈ (rms l bs).take i, inR P q = false) ∨ ∃ b, y3 = .str (tx b) ∧ b ∈ rms l bs ∧ inR P b = true ∧ ∀ q ∈ (rms l bs).take i, inR P q = true → ham r b ≤ ham r q))
      ⟨_, _, rfl, L2.Same.refl _, .inl ⟨rfl, by simp⟩⟩ (fun i σ H' _ h => by obtain ⟨_, _, _, s, _⟩ := h; exact sm_l s hS) ?_ ?_
    · rintro i v σ H1 H2 hi ⟨y3, y4, rfl, s1, inv⟩ ⟨rfl, hx⟩
      rw [List.getElem?_map, List.getElem?_map] at hx
      obtain ⟨z, hz, rfl⟩ := Option.map_eq_some_iff.mp hx
      obtain ⟨o, ho, rfl⟩ := Option.map_eq_some_iff.mp hz
      have om := List.mem_of_getElem? ho
      have ol := (rms_lets g o om).1
      have tk : (rms l bs).take (i + 1) = (rms l bs).take i ++ [o] := by rw [List.take_add_one, ho]; rfl
      refine ⟨_, rfl, _, rfl, P, o, rfl, pl, fun H3 s3 => ⟨_, rfl, ite2 (fun t => ?_) (fun t => ?_)⟩⟩
      · have s13 := sm_trans s1 s3
        have take : ∀ H4, Same H H4 → (∀ q ∈ (rms l bs).take i, inR P q = true → ham r o ≤ ham r q) → ∃ (y3 : V) (y4 : Option V), [some (V.ref a), some (.str (tx P)), some (.str (tx r)), some (V.str (tx o)), some (V.str (tx o))] = [some (.ref a), some (.str (tx P)), some (.str (tx r)), some y3, y4] ∧ Same H H4 ∧
            ((y3 = .non ∧ ∀ q ∈ (rms l bs).take (i + 1), inR P q = false) ∨ ∃ b, y3 = .str (tx b) ∧ b ∈ rms l bs ∧ inR P b = true ∧ ∀ q ∈ (rms l bs).take (i + 1), inR P q = true → ham r b ≤ ham r q) := fun H4 s4 le =>
          ⟨_, _, rfl, s4, .inr ⟨o, rfl, om, t, fun q hq hi => by
            rw [tk] at hq
            rcases List.mem_append.mp hq with z | z
            · exact le q z hi
            · rw [List.mem_singleton.mp z]; exact Nat.le_refl _⟩⟩
        rcases inv with ⟨rfl, none⟩ | ⟨b, rfl, bm, bi, ble⟩
        · refine ⟨_, rfl, _, rfl, iteT ⟨_, rfl, take H3 s13 fun q hq hi => ?_⟩⟩
          rw [none q hq] at hi
          cases hi
        · have bl := (rms_lets g b bm).1
          refine ⟨_, rfl, _, rfl, iteF ⟨_, rfl, _, rfl, r, o, rfl, by omega, by omega, fun H4 s4 => ⟨_, rfl, _, rfl, r, b, rfl, by omega, by omega, fun H5 s5 => ⟨_, _, rfl, rfl, _, rfl, ite2 (fun t2 => ?_) (fun t2 => ?_)⟩⟩⟩⟩
          · have lt : ham r o < ham r b := by
              have := of_decide_eq_true t2
              omega
            refine ⟨_, rfl, take H5 (sm_trans s13 (sm_trans s4 s5)) fun q hq hi => ?_⟩
            have := ble q hq hi
            omega
          · have ge : ham r b ≤ ham r o := by
              have : ¬ ((ham r o : Nat) : Int) < ((ham r b : Nat) : Int) := fun z => t2 (decide_eq_true z)
              omega
            refine ⟨_, _, rfl, sm_trans s13 (sm_trans s4 s5), .inr ⟨b, rfl, bm, bi, fun q hq hi => ?_⟩⟩
            rw [tk] at hq
            rcases List.mem_append.mp hq with z | z
            · exact ble q z hi
            · rw [List.mem_singleton.mp z]; exact ge
      · refine ⟨_, _, rfl, sm_trans s1 s3, ?_⟩
        have no : inR P o = false := Bool.eq_false_iff.mpr t
        rcases inv with ⟨rfl, none⟩ | ⟨b, rfl, bm, bi, ble⟩
        · refine .inl ⟨rfl, fun q hq => ?_⟩
          rw [tk] at hq
          rcases List.mem_append.mp hq with z | z
          · exact none q z
          · rw [List.mem_singleton.mp z]; exact no
        · refine .inr ⟨b, rfl, bm, bi, fun q hq hi => ?_⟩
          rw [tk] at hq
          rcases List.mem_append.mp hq with z | z
          · exact ble q z hi
          · rw [List.mem_singleton.mp z, no] at hi
            cases hi
    · rintro σ H1 ⟨y3, y4, rfl, s1, inv⟩
      rw [List.take_length] at inv
      rcases inv with ⟨rfl, none⟩ | ⟨b, rfl, bm, bi, ble⟩
      · have := none N hN
        rw [hiN] at this
        cases this
      · refine ⟨_, rfl, ?_⟩
        rw [best b bm bi (ble N hN hiN)]
        exact q H1 s1
end
end NC
namespace NC
open PySem PySem.Spec PyProof.Rows L2
theorem rms_len0 {l : List Nat} (g : GoodW l) {bs : List (List Nat)} : (rms l bs).length ≤ 4096 := by
  unfold rms
  refine Nat.le_trans (List.length_filter_le _ _) ?_
  rw [allT_len]
  exact Nat.le_trans (Nat.pow_le_pow_right (by decide) g.hi) (by decide)
/-- the sides behind so many walls -/
def wS (fo : Nat → List Nat) (l W : List Nat) : Nat → List Nat
  | 0 => W
  | i + 1 => if l.getD i 0 ∈ wS fo l W i then wS fo l W i else wS fo l W i ++ fo (upc (l.getD i 0))
theorem wS_le {fo : Nat → List Nat} {l W : List Nat} {i j : Nat} (h : i ≤ j) : ∀ {t}, t ∈ wS fo l W i → t ∈ wS fo l W j := by
  induction j with
  | zero =>
    intro t ht
    rw [show i = 0 by omega] at ht
    exact ht
  | succ j ih =>
    intro t ht
    rcases Nat.lt_or_ge j i with z | z
    · rw [show i = j + 1 by omega] at ht
      exact ht
    · have := ih z ht
      show t ∈ (if l.getD j 0 ∈ wS fo l W j then wS fo l W j else wS fo l W j ++ fo (upc (l.getD j 0)))
      split
      · exact this
      · exact List.mem_append_left _ this
section
variable {l : List Nat} (g : GoodW l) {bs : List (List Nat)} (hb : ∀ b ∈ bs, isBar l b = true) {fo : Nat → List Nat} (hf : ∀ s ∈ sds l, ∀ t, t ∈ fo s ↔ Frc (adjOf bs) s t) (ok : Okv l bs)
/-- sides that force nothing more, no two of one wall -/
structure Clo (l : List Nat) (bs : List (List Nat)) (W : List Nat) : Prop where
  sd : ∀ t ∈ W, t ∈ sds l
  adj : ∀ t ∈ W, ∀ u ∈ adjOf bs t, u ∈ W
  one : ∀ t ∈ W, swp t ∉ W
include g hb hf ok
theorem no_self {s : Nat} (hs : s ∈ sds l) : ¬ Frc (adjOf bs) s (swp s) := fun h => by
  have e := ok fo hf
  unfold vdOf at e
  split at e
  · cases e
  · next hn =>
    have := List.find?_eq_none.mp hn s hs
    unfold fxP at this
    rw [decide_eq_true_eq] at this
    exact this ((hf s hs _).mpr h)
theorem Clo.grow {W : List Nat} (h : Clo l bs W) {c : Nat} (hc : c ∈ l) (hn : c ∉ W) : Clo l bs (W ++ fo (upc c)) := by
  have sm := g.sm c hc
  have hg : upc c ∈ sds l := by rw [upc_small sm]; exact sds_of_great g hc
  have e2 : swp (upc c) = c := by rw [upc_small sm, swp_great (by omega)]; omega
  have F : ∀ t, t ∈ fo (upc c) ↔ Frc (adjOf bs) (upc c) t := hf _ hg
  have cl : ∀ t ∈ W, ∀ u, Frc (adjOf bs) t u → u ∈ W := fun t ht u hu => hu.ind (p := fun x => x ∈ W) ht fun a b ha k => h.adj a ha b k
  have cross : ∀ t ∈ W, swp t ∈ fo (upc c) → False := fun t ht h2 => by
    have := Frc.back g hb hg ((F _).mp h2)
    rw [swp_swp (sds_lt g (h.sd t ht)), e2] at this
    exact hn (cl t ht c this)
  refine ⟨fun t ht => ?_, fun t ht u hu => ?_, fun t ht h2 => ?_⟩
  · rcases List.mem_append.mp ht with z | z
    · exact h.sd t z
    · exact Frc.mem g hb hg ((F t).mp z)
  · rcases List.mem_append.mp ht with z | z
    · exact List.mem_append_left _ (h.adj t z u hu)
    · exact List.mem_append_right _ ((F u).mpr (((F t).mp z).step hu))
  · rcases List.mem_append.mp ht with z | z <;> rcases List.mem_append.mp h2 with y | y
    · exact h.one t z y
    · exact cross t z y
    · refine cross (swp t) y ?_
      rw [swp_swp (sds_lt g (Frc.mem g hb hg ((F t).mp z)))]
      exact z
    · exact no_self g hb hf ok hg (Frc.torn g hb hg ((F t).mp z) ((F _).mp y))
theorem wS_clo {W : List Nat} (h : Clo l bs W) : ∀ i, i ≤ l.length → Clo l bs (wS fo l W i)
  | 0, _ => h
  | i + 1, hi => by
    have ih := wS_clo h i (by omega)
    have hil : i < l.length := by omega
    have e : l.getD i 0 = l[i] := by rw [List.getD_eq_getElem?_getD, List.getElem?_eq_getElem hil]; rfl
    show Clo l bs (if l.getD i 0 ∈ wS fo l W i then wS fo l W i else wS fo l W i ++ fo (upc (l.getD i 0)))
    split
    · exact ih
    · next hn => exact Clo.grow g hb hf ok ih (by rw [e]; exact List.getElem_mem hil) hn
theorem wS_full {W : List Nat} {i : Nat} (hi : i < l.length) : l[i] ∈ wS fo l W (i + 1) ∨ upc l[i] ∈ wS fo l W (i + 1) := by
  have e : l.getD i 0 = l[i] := by rw [List.getD_eq_getElem?_getD, List.getElem?_eq_getElem hi]; rfl
  have sm := g.sm _ (List.getElem_mem hi)
  have hg : upc l[i] ∈ sds l := by rw [upc_small sm]; exact sds_of_great g (List.getElem_mem hi)
  show _ ∈ (if l.getD i 0 ∈ wS fo l W i then wS fo l W i else wS fo l W i ++ fo (upc (l.getD i 0))) ∨ _ ∈ (if l.getD i 0 ∈ wS fo l W i then wS fo l W i else wS fo l W i ++ fo (upc (l.getD i 0)))
  rw [e]
  split
  · next h => exact .inl h
  · exact .inr (List.mem_append_right _ ((hf _ hg _).mpr Frc.refl))
theorem clo_room {W : List Nat} (h : Clo l bs W) (full : ∀ c ∈ l, c ∈ W ∨ upc c ∈ W) : byWT l W = rmOf l (fun c => decide (c ∈ W)) ∧ rmOf l (fun c => decide (c ∈ W)) ∈ rms l bs := by
  have e1 : ∀ c ∈ l, swp c = upc c := fun c hc => by rw [swp_small (g.sm c hc), upc_small (g.sm c hc)]
  constructor
  · unfold byWT rmOf
    have : ∀ L : List Nat, (∀ c ∈ L, c ∈ l) → (L.flatMap fun c => [swp c, c].filter fun e => decide (e ∈ W)) = L.map fun c => if decide (c ∈ W) = true then c else upc c := fun L => by
      induction L with
      | nil => intro _; rfl
      | cons c r ih =>
        intro hL
        have hc := hL c (List.mem_cons_self ..)
        rw [List.flatMap_cons, List.map_cons, ih fun x hx => hL x (List.mem_cons_of_mem _ hx), e1 c hc]
        by_cases hw : c ∈ W
        · have hn : upc c ∉ W := fun z => h.one c hw (by rw [e1 c hc]; exact z)
          simp [hw, hn]
        · have hy : upc c ∈ W := (full c hc).resolve_left hw
          simp [hw, hy]
    exact this l fun c hc => hc
  · refine (rms_mem g hb _).mpr ⟨_, rfl, fun x y hxy ⟨v1, v2⟩ => ?_⟩
    obtain ⟨x', y', e, hx, hy, _⟩ := bar_two (hb _ hxy)
    cases e
    have vW : ∀ t ∈ sds l, val (fun c => decide (c ∈ W)) t = true → t ∈ W := fun t ht v => by
      rcases sds_shape g ht with z | z
      · rw [val_small ⟨z.1, z.2.1⟩] at v
        exact of_decide_eq_true v
      · unfold val at v
        rw [if_pos (by omega)] at v
        have hn : t + 32 ∉ W := by simpa using v
        have := (full (t + 32) z.2.2).resolve_left hn
        rw [upc_small (by omega), show t + 32 - 32 = t by omega] at this
        exact this
    exact h.one y (vW y hy v2) (h.adj x (vW x hx v1) _ ((adj_iff g hb (sds_lt g (sds_swp g hy))).mpr (.inl (by rw [swp_swp (sds_lt g hy)]; exact hxy))))
end
end NC
namespace NC
open PySem PySem.Spec PyProof.Rows L2
section
variable {l : List Nat} (g : GoodW l) {bs : List (List Nat)} (hb : ∀ b ∈ bs, isBar l b = true) {fo : Nat → List Nat} (hf : ∀ s ∈ sds l, ∀ t, t ∈ fo s ↔ Frc (adjOf bs) s t) (ok : Okv l bs)
include g hb hf ok
theorem torn_iff {P : List Nat} (hP : ∀ c ∈ P, c ∈ sds l) : tornL l (allFo fo P) = [] ↔ ∃ z ∈ rms l bs, ∀ s ∈ P, s ∈ z := by
  constructor
  · intro h
    have c0 : Clo l bs (allFo fo P) := ⟨fun t ht => allFo_sd g hb hf hP ht, fun t ht u hu => allFo_adj g hb hf hP ht hu, fun t ht h2 => by
      have hs := allFo_sd g hb hf hP ht
      have : ∃ c ∈ l, c ∈ allFo fo P ∧ swp c ∈ allFo fo P := by
        rcases sds_shape g hs with z | z
        · exact ⟨t, z.2.2, ht, h2⟩
        · refine ⟨t + 32, z.2.2, ?_, ?_⟩
          · rw [swp_great ⟨z.1, z.2.1⟩] at h2
            exact h2
          · rw [swp_small (by omega), show t + 32 - 32 = t by omega]
            exact ht
      obtain ⟨c, hc, h3, h4⟩ := this
      have : c ∈ tornL l (allFo fo P) := List.mem_filter.mpr ⟨hc, by rw [decide_eq_true h3, decide_eq_true h4]; rfl⟩
      rw [h] at this
      cases this⟩
    have self : ∀ t ∈ P, t ∈ allFo fo P := fun t ht => allFo_self g hb hf hP ht
    generalize allFo fo P = W0 at c0 self
    have cF := wS_clo g hb hf ok c0 l.length (Nat.le_refl _)
    have full : ∀ c ∈ l, c ∈ wS fo l W0 l.length ∨ upc c ∈ wS fo l W0 l.length := fun c hc => by
      obtain ⟨i, hi, rfl⟩ := List.getElem_of_mem hc
      exact (wS_full g hb hf ok hi).imp (wS_le hi) (wS_le hi)
    obtain ⟨eZ, hZ⟩ := clo_room g hb hf ok cF full
    refine ⟨_, hZ, fun s hs => ?_⟩
    rw [← eZ]
    exact (byWT_mem g).mpr ⟨hP s hs, wS_le (Nat.zero_le _) (self s hs)⟩
  · rintro ⟨z, hz, hin⟩
    exact torn_no g hb hf hP hz hin
theorem side_room {s : Nat} (hs : s ∈ sds l) : ∃ z ∈ rms l bs, s ∈ z := by
  have hP : ∀ c ∈ [s], c ∈ sds l := fun c hc => by rw [List.mem_singleton.mp hc]; exact hs
  obtain ⟨z, hz, h⟩ := (torn_iff g hb hf ok hP).mp (by
    unfold tornL
    rw [List.filter_eq_nil_iff]
    intro c hc h
    rw [Bool.and_eq_true, decide_eq_true_eq, decide_eq_true_eq] at h
    obtain ⟨a1, h1, f1⟩ := (allFo_mem g hb hf hP).mp h.1
    obtain ⟨a2, h2, f2⟩ := (allFo_mem g hb hf hP).mp h.2
    rw [List.mem_singleton.mp h1] at f1
    rw [List.mem_singleton.mp h2] at f2
    exact no_self g hb hf ok hs (Frc.torn g hb hs f1 f2))
  exact ⟨z, hz, h s (List.mem_singleton.mpr rfl)⟩
end
end NC
namespace NC
open PySem PySem.Spec PyProof.Rows L2
def low (T : List Nat) : List Nat := T.map lwc
end NC
namespace NC
open PySem PySem.Spec PyProof.Rows L2
abbrev sShCalls : Stmt := topS 37
theorem scShCalls : FnScope ["hall", "calls", "most", "part"] ["hall", "calls", "most"] (defScope sShCalls) := ⟨rfl, rfl, rfl, by decide +kernel, rfl, by decide +kernel, by decide +kernel⟩
/-- the shut text of a part -/
def shT (l : List Nat) (fo : Nat → List Nat) (P : List Nat) : List Nat := byWT l (allFo fo P)
section
variable {P : Program} {w : World} {K : PySem.W.Frag} {mg : Str → Option Value} {base : Heap} {C fi fb fm fr fg fw ff : Addr} {di db dm dr dg dw df : FuncData}
def spShCalls (K : PySem.W.Frag) (C : Addr) : Sp := fun vs H Q _ => ∃ x dx sb D l ys fo bs a, ∃ (Ps : List (List Nat)) (n : Int), vs = [.ref x, .ref a, .int n] ∧ 12 ≤ n ∧ HallF C H x dx sb D l ys fo bs ∧ (SqL K H a ((Ps.map tx).map V.str) ∨ SqT K H a ((Ps.map tx).map V.str)) ∧ Ps.length ≤ 12 ∧ (∀ P ∈ Ps, Part l P ∧ ∃ z ∈ rms l bs, ∀ s ∈ P, s ∈ z) ∧
  ∀ H' p, Same H H' → H p = none → H' p = some (.lst (((Ps.map (shT l fo)).map tx).map V.str)) → Q (.ref p) H'
set_option maxHeartbeats 1000000 in
theorem ok_shCalls {f fC fS fO fBy fIsP fChP fAFB fTo fSh : Addr} {fd dC dS dO dBy dIsP dChP dAFB dTo dSh : FuncData} {k : Nat} (B : BM mg) (Z : HC K mg C fi fb di db) (T : PT K mg C fw ff dw df fIsP fChP fAFB fTo dIsP dChP dAFB dTo) (Cs : DF K mg "check_side" sChkSide ["walls", "side"] fC dC) (S : DF K mg "sides_of" sSides ["walls"] fS dS) (O : DF K mg "other" sOther ["side"] fO dO) (By : DF K mg "by_walls" sByWalls ["walls", "sides"] fBy dBy)
    (Sh : DF K mg "shut" sShut ["hall", "part"] fSh dSh) (F : Fun K "shut_calls" "shut_calls" sShCalls f fd) : FnOk P w K mg base CX0 (k + 7) f fd ["hall", "calls", "most"] (spShCalls K C) := by
  have GS : FnOk P w K mg base CX0 (k + 6) fSh dSh ["hall", "part"] (spShut C) := ok_shut B Z T Cs S O By Sh.F
  refine F.ok scShCalls (fun vs H Q E h => ?_) (fun cdv A0 outer st H vs Q E hr h => ?_)
  · obtain ⟨x, dx, sb, D, l, ys, fo, bs, a, Ps, n, rfl, _⟩ := h
    rfl
  · obtain ⟨x, dx, sb, D, l, ys, fo, bs, a, Ps, n, rfl, h12, hF, hS, hn, hPs, q⟩ := h
    have nd := scShCalls.nd
    refine ⟨_, pss_cons (ps_if (pt_cmpR op_gt (pe_callB call_len_seq (by rfl) B.len PySem.boot_len (pa_cons (pv 1) pa_nil)) (pv 2) (nomark _)) (pss_one ps_dead) pss_nil)
      (pss_one (ps_ret (pe_lc (own := [("part", 3)]) (g := gName 3) (tt := tYes) (te := tCall (spShut C) [] E0 (tCons (tVar 0) (tCons (tVar 3) tNil))) rfl nd (pi_seq (pv 1)) (blkOk_by (N := ["hall", "calls", "most", "part"]) (sc := defScope sShCalls) (by decide +kernel)) (fun _ _ _ _ _ => pg_name (i := 3) nd rfl (Or.inl rfl)) (fun _ _ _ _ _ => pts_nil)
        (fun _ _ _ _ _ => pe_call GS hr rfl Sh.g Sh.F.kp Sh.b .nil pass0 (pa_cons (pv 0) (pa_cons (pv 3) pa_nil)))))), ?_⟩
    refine ⟨_, rfl, a, _, rfl, hS, _, rfl, _, _, rfl, rfl, _, rfl, ?_⟩
    rw [decide_eq_false (by rw [List.length_map, List.length_map]; omega)]
    refine iteF ?_
    rcases hS with hS | hS
    · have wk := walk_list (K := K) (a := a) (xs := (Ps.map tx).map V.str)
      rw [List.length_map, List.length_map] at wk
      refine ⟨_, rfl, a, rfl, .inl ⟨⟨_, hS⟩, fun Da na => ?_⟩⟩
      refine lc_it wk (fun i H' => Same H H' ∧ H' Da = some (.lst ((((Ps.take i).map (shT l fo)).map tx).map V.str))) ⟨same_upd na, upd_same⟩ (fun i H' _ h => sm_l h.1 hS) ?_ ?_
      · rintro u v G1 G2 hu ⟨u1, e1⟩ ⟨rfl, hx⟩
        rw [List.getElem?_map, List.getElem?_map] at hx
        obtain ⟨z2, hz2, rfl⟩ := Option.map_eq_some_iff.mp hx
        obtain ⟨o, ho2, rfl⟩ := Option.map_eq_some_iff.mp hz2
        obtain ⟨pO, z, hz, hin⟩ := hPs o (List.mem_of_getElem? ho2)
        refine ⟨rfl, yes_i ⟨_, rfl, _, rfl, x, dx, sb, D, l, ys, fo, bs, o, z, rfl, hF.same u1, pO, hz, hin, fun G3 u3 => ⟨_, u3 _ _ e1, ?_, sm_over (sm_trans u1 u3) na, ?_⟩⟩⟩
        · rw [List.length_map, List.length_map, List.length_map, List.length_take, sizeLine_eq]
          omega
        · rw [upd_same, List.take_add_one, ho2, List.map_append, List.map_append, List.map_append]
          rfl
      · rintro H1 ⟨s1, e1⟩
        rw [List.take_length] at e1
        exact q H1 Da s1 na e1
    · have wk := walk_tup (K := K) (a := a) (xs := (Ps.map tx).map V.str)
      rw [List.length_map, List.length_map] at wk
      refine ⟨_, rfl, a, rfl, .inr ⟨⟨_, hS⟩, fun Da na => ?_⟩⟩
      refine lc_it wk (fun i H' => Same H H' ∧ H' Da = some (.lst ((((Ps.take i).map (shT l fo)).map tx).map V.str))) ⟨same_upd na, upd_same⟩ (fun i H' _ h => sm_t h.1 hS) ?_ ?_
      · rintro u v G1 G2 hu ⟨u1, e1⟩ ⟨rfl, hx⟩
        rw [List.getElem?_map, List.getElem?_map] at hx
        obtain ⟨z2, hz2, rfl⟩ := Option.map_eq_some_iff.mp hx
        obtain ⟨o, ho2, rfl⟩ := Option.map_eq_some_iff.mp hz2
        obtain ⟨pO, z, hz, hin⟩ := hPs o (List.mem_of_getElem? ho2)
        refine ⟨rfl, yes_i ⟨_, rfl, _, rfl, x, dx, sb, D, l, ys, fo, bs, o, z, rfl, hF.same u1, pO, hz, hin, fun G3 u3 => ⟨_, u3 _ _ e1, ?_, sm_over (sm_trans u1 u3) na, ?_⟩⟩⟩
        · rw [List.length_map, List.length_map, List.length_map, List.length_take, sizeLine_eq]
          omega
        · rw [upd_same, List.take_add_one, ho2, List.map_append, List.map_append, List.map_append]
          rfl
      · rintro H1 ⟨s1, e1⟩
        rw [List.take_length] at e1
        exact q H1 Da s1 na e1
end
end NC
namespace NC
open PySem PySem.Spec PyProof.Rows L2
abbrev sLed : Stmt := topS 75
abbrev sMap : Stmt := topS 76
abbrev nLed : List Str := ["_law_rooms_here", "_law_shuts_here", "_law_steps", "_law_room", "_law_kind", "_law_text"]
abbrev nMap : List Str := ["_law_rooms_here", "_law_shuts_here", "_law_steps", "_law_found", "_law_room"]
theorem scLed : FnScope nLed ["_law_rooms_here", "_law_shuts_here", "_law_steps", "_law_room"] (defScope sLed) := ⟨rfl, rfl, rfl, by decide +kernel, rfl, by decide +kernel, by decide +kernel⟩
theorem scMap : FnScope nMap ["_law_rooms_here", "_law_shuts_here", "_law_steps"] (defScope sMap) := ⟨rfl, rfl, rfl, by decide +kernel, rfl, by decide +kernel, by decide +kernel⟩
/-- steps that are calls -/
def StepsAt (H : Hp) (s : Addr) (Ps : List (List Nat)) : Prop := ∃ es : List Addr, es.length = Ps.length ∧ H s = some (.lst (es.map V.ref)) ∧ ∀ (i : Nat) P, Ps[i]? = some P → ∃ e, es[i]? = some e ∧ H e = some (.tup [.str "call", .str (tx P)])
theorem StepsAt.same {H H' : Hp} {s : Addr} {Ps : List (List Nat)} (h : StepsAt H s Ps) (e : Same H H') : StepsAt H' s Ps := by
  obtain ⟨es, h1, h2, h3⟩ := h
  exact ⟨es, h1, e _ _ h2, fun i P hi => by obtain ⟨x, a, b⟩ := h3 i P hi; exact ⟨x, a, e _ _ b⟩⟩
/-- where calls lead -/
def ledP (fo : Nat → List Nat) (Ps : List (List Nat)) (r : List Nat) : List Nat := Ps.foldl (fun r P => wov (allFo fo P) r) r
/-- a room's room, by a map -/
def mapK (rs : List (List Nat)) (f : List Nat → List Nat) : List (Key × V) := rs.map fun r => (Sum.inr (tx r), V.str (tx (f r)))
theorem mapK_val {rs : List (List Nat)} {f : List Nat → List Nat} {r : List Nat} (h : r ∈ rs) : valV (mapK rs f) (Sum.inr (tx r)) = some (.str (tx (f r))) := by
  induction rs with
  | nil => cases h
  | cons t rest ih =>
    by_cases e : t = r
    · subst e
      exact valV_pos (p := (Sum.inr (tx t), V.str (tx (f t)))) rfl
    · have h2 : r ∈ rest := by
        rcases List.mem_cons.mp h with z | z
        · exact absurd z.symm e
        · exact z
      exact (valV_neg (p := (Sum.inr (tx t), V.str (tx (f t)))) (fun z => e (tx_inj (Sum.inr.inj z)))).trans (ih h2)
theorem mapK_no {rs : List (List Nat)} {f : List Nat → List Nat} {r : List Nat} (h : r ∉ rs) : valV (mapK rs f) (Sum.inr (tx r)) = none := by
  induction rs with
  | nil => rfl
  | cons t rest ih =>
    have e : ¬ t = r := fun z => h (by rw [z]; exact List.mem_cons_self ..)
    exact (valV_neg (p := (Sum.inr (tx t), V.str (tx (f t)))) (fun z => e (tx_inj (Sum.inr.inj z)))).trans (ih fun z => h (List.mem_cons_of_mem _ z))
theorem mapK_get {H : Hp} {d : Addr} {rs : List (List Nat)} {f : List Nat → List Nat} {r : List Nat} (e : H d = some (.dK (mapK rs f))) (h : r ∈ rs) : DGet H d (.str (tx r)) (some (.str (tx (f r)))) := by
  rw [← mapK_val (f := f) h]
  exact DGet.k (k := Sum.inr (tx r)) e
section
variable {P : Program} {w : World} {K : PySem.W.Frag} {mg : Str → Option Value} {base : Heap}
def spLed (K : PySem.W.Frag) : Sp := fun vs H Q _ => ∃ a s l bs fo r, ∃ (Ps : List (List Nat)), vs = [.ref a, .str (tx l), .ref s, .str (tx r)] ∧ GoodW l ∧ (∀ b ∈ bs, isBar l b = true) ∧ (∀ s ∈ sds l, ∀ t, t ∈ fo s ↔ Frc (adjOf bs) s t) ∧ SqL K H a (((rms l bs).map tx).map V.str) ∧ StepsAt H s Ps ∧ (∀ P ∈ Ps, Part l P ∧ ∃ z ∈ rms l bs, ∀ s ∈ P, s ∈ z) ∧ r ∈ rms l bs ∧ ∀ H', Same H H' → Q (.str (tx (ledP fo Ps r))) H'
theorem led_room {l : List Nat} (g : GoodW l) {bs : List (List Nat)} (hb : ∀ b ∈ bs, isBar l b = true) {fo : Nat → List Nat} (hf : ∀ s ∈ sds l, ∀ t, t ∈ fo s ↔ Frc (adjOf bs) s t) : ∀ {Ps : List (List Nat)}, (∀ P ∈ Ps, Part l P ∧ ∃ z ∈ rms l bs, ∀ s ∈ P, s ∈ z) → ∀ {r : List Nat}, r ∈ rms l bs → ledP fo Ps r ∈ rms l bs
  | [], _, _, hr => hr
  | P :: Ps, h, r, hr => by
    obtain ⟨pP, z, hz, hin⟩ := h P (List.mem_cons_self ..)
    exact led_room g hb hf (fun Q hQ => h Q (List.mem_cons_of_mem _ hQ)) (wov_room g hb hf pP.sd hz hin hr).1
theorem led_snoc (fo : Nat → List Nat) (Ps : List (List Nat)) (P r : List Nat) : ledP fo (Ps ++ [P]) r = wov (allFo fo P) (ledP fo Ps r) := by
  unfold ledP
  rw [List.foldl_append]
  rfl
set_option maxHeartbeats 1000000 in
theorem ok_led {f fN fW fA : Addr} {fd dN dW dA : FuncData} {k : Nat} (B : BM mg) (F : Fun K "_law_led" "_law_led" sLed f fd) (N : DF K mg "_law_near" sLNear ["_law_rooms_here", "_law_part_here", "_law_room"] fN dN) (W : DF K mg "_law_within" sWithin ["_law_sides_here", "_law_room"] fW dW) (Ap : DF K mg "_law_apart" sApart ["_law_one", "_law_two"] fA dA) :
    FnOk P w K mg base CX0 (k + 3) f fd ["_law_rooms_here", "_law_shuts_here", "_law_steps", "_law_room"] (spLed K) := by
  have GN : FnOk P w K mg base CX0 (k + 2) fN dN ["_law_rooms_here", "_law_part_here", "_law_room"] (spLNear K) := ok_lnear B N.F W Ap
  refine F.ok scLed (fun vs H Q E h => ?_) (fun cdv A outer st H vs Q E hr h => ?_)
  · obtain ⟨a, s, l, bs, fo, r, Ps, rfl, _⟩ := h
    rfl
  · obtain ⟨a, s, l, bs, fo, r, Ps, rfl, g, hb, hf, hS, hst, hPs, hm, q⟩ := h
    have nd := scLed.nd
    have hl12 := g.hi
    obtain ⟨es, el, es1, es2⟩ := hst
    refine ⟨_, pss_cons (ps_for PassesOwn.never rfl (pi_list (pv 2)) (pg_tup rfl (pgs_cons (pg_name (i := 4) nd rfl (.inl rfl)) (pgs_cons (pg_name (i := 5) nd rfl (.inl rfl)) pgs_nil)))
        (pss_one (ps_if (pt_cmpR op_eq (pv 4) pe_str (nomark _)) (pss_one (ps_set (i := 3) nd rfl (.inl rfl) (pe_call GN hr rfl N.g N.F.kp N.b .nil pass0 (pa_cons (pv 0) (pa_cons (pv 5) (pa_cons (pv 3) pa_nil)))))) (pss_one ps_dead))))
      (pss_one (ps_ret (pv 3))), ?_⟩
    have wk := walk_list (K := K) (a := s) (xs := es.map V.ref)
    rw [List.length_map, el] at wk
    refine ⟨_, rfl, s, rfl, ⟨_, SqL.of es1⟩, ?_⟩
    refine for_it wk (fun i σ H' => ∃ (y4 y5 : Option V), σ = [some (.ref a), some (.str (tx l)), some (.ref s), some (.str (tx (ledP fo (Ps.take i) r))), y4, y5] ∧ Same H H') ⟨_, _, rfl, L2.Same.refl _⟩ (fun i σ H' _ h => by obtain ⟨_, _, _, h⟩ := h; exact SqL.of (h _ _ es1)) ?_ ?_
    · rintro i v σ H1 H2 hi ⟨y4, y5, rfl, s1⟩ ⟨rfl, hx⟩
      have hP : Ps[i]? = some Ps[i] := List.getElem?_eq_getElem hi
      obtain ⟨e, he, eT⟩ := es2 i _ hP
      rw [List.getElem?_map, he] at hx
      cases hx
      have hPm := List.getElem_mem hi
      generalize Ps[i] = P0 at hP eT hPm
      obtain ⟨pP, z, hz, hin⟩ := hPs P0 hPm
      have pl := pP.len
      have hrm := led_room g hb hf (fun Q hQ => hPs Q (List.mem_of_mem_take hQ)) hm (Ps := Ps.take i)
      refine ⟨e, _, rfl, SqT.of (s1 _ _ eT), rfl, _, _, rfl, _, _, rfl, rfl, ?_⟩
      refine ⟨_, rfl, rfl, _, rfl, ?_⟩
      rw [show decide (V.str "call" = V.str "call") = true from decide_eq_true rfl]
      refine iteT ?_
      obtain ⟨hNm, hNin⟩ := wov_room g hb hf pP.sd hz hin hrm
      refine ⟨_, rfl, _, rfl, _, rfl, a, l, bs, P0, _, _, rfl, g, sm_l s1 hS, hrm, by omega, hNm, inR_iff.mpr hNin, fun q hq hi hle => wov_best g hb hf pP.sd hq (inR_iff.mp hi) hrm hle, fun H3 s3 => ?_⟩
      refine ⟨some (.str "call"), some (.str (tx P0)), ?_, sm_trans s1 s3⟩
      rw [List.take_add_one, hP]
      show _ = [_, _, _, some (V.str (tx (ledP fo (Ps.take i ++ [P0]) r))), _, _]
      rw [led_snoc]
      rfl
    · rintro σ H1 ⟨y4, y5, rfl, s1⟩
      rw [List.take_length]
      exact ⟨_, rfl, q H1 s1⟩
def spMap (K : PySem.W.Frag) : Sp := fun vs H Q _ => ∃ a s l bs fo, ∃ (Ps : List (List Nat)), vs = [.ref a, .str (tx l), .ref s] ∧ GoodW l ∧ (∀ b ∈ bs, isBar l b = true) ∧ (∀ s ∈ sds l, ∀ t, t ∈ fo s ↔ Frc (adjOf bs) s t) ∧ SqL K H a (((rms l bs).map tx).map V.str) ∧ StepsAt H s Ps ∧ (∀ P ∈ Ps, Part l P ∧ ∃ z ∈ rms l bs, ∀ s ∈ P, s ∈ z) ∧ ∀ H' p, Same H H' → H p = none → H' p = some (.dK (mapK (rms l bs) (ledP fo Ps))) → Q (.ref p) H'
set_option maxHeartbeats 1000000 in
theorem ok_map {f fL fN fW fA : Addr} {fd dL dN dW dA : FuncData} {k : Nat} (B : BM mg) (F : Fun K "_law_map" "_law_map" sMap f fd) (Ld : DF K mg "_law_led" sLed ["_law_rooms_here", "_law_shuts_here", "_law_steps", "_law_room"] fL dL) (N : DF K mg "_law_near" sLNear ["_law_rooms_here", "_law_part_here", "_law_room"] fN dN) (W : DF K mg "_law_within" sWithin ["_law_sides_here", "_law_room"] fW dW) (Ap : DF K mg "_law_apart" sApart ["_law_one", "_law_two"] fA dA) :
    FnOk P w K mg base CX0 (k + 4) f fd ["_law_rooms_here", "_law_shuts_here", "_law_steps"] (spMap K) := by
  have GL : FnOk P w K mg base CX0 (k + 3) fL dL ["_law_rooms_here", "_law_shuts_here", "_law_steps", "_law_room"] (spLed K) := ok_led B Ld.F N W Ap
  refine F.ok scMap (fun vs H Q E h => ?_) (fun cdv A outer st H vs Q E hr h => ?_)
  · obtain ⟨a, s, l, bs, fo, Ps, rfl, _⟩ := h
    rfl
  · obtain ⟨a, s, l, bs, fo, Ps, rfl, g, hb, hf, hS, hst, hPs, q⟩ := h
    have nd := scMap.nd
    have rlen := rms_len g (bs := bs)
    have rnd := rms_nd g (bs := bs)
    refine ⟨_, pss_cons (ps_set (i := 3) nd rfl (.inl rfl) pe_dnewK)
      (pss_cons (ps_for PassesOwn.never rfl (pi_list (pv 0)) (pg_name (i := 4) nd rfl (.inl rfl))
        (pss_one (ps_dput (hu_of hr) (pv 3) (pv 4) (pe_call GL hr rfl Ld.g Ld.F.kp Ld.b .nil pass0 (pa_cons (pv 0) (pa_cons (pv 1) (pa_cons (pv 2) (pa_cons (pv 4) pa_nil))))) rfl)))
      (pss_one (ps_ret (pv 3)))), ?_⟩
    refine fun p np => ?_
    have wk := walk_list (K := K) (a := a) (xs := ((rms l bs).map tx).map V.str)
    rw [List.length_map, List.length_map] at wk
    refine ⟨_, rfl, a, rfl, ⟨_, sm_l (same_upd np) hS⟩, ?_⟩
    refine for_it wk (fun i σ H' => ∃ (y4 : Option V), σ = [some (.ref a), some (.str (tx l)), some (.ref s), some (.ref p), y4] ∧ Same H H' ∧ H' p = some (.dK (mapK ((rms l bs).take i) (ledP fo Ps)))) ⟨_, rfl, same_upd np, upd_same⟩ (fun i σ H' _ h => by obtain ⟨_, _, h, _⟩ := h; exact sm_l h hS) ?_ ?_
    · rintro i v σ H1 H2 hi ⟨y4, rfl, s1, e1⟩ ⟨rfl, hx⟩
      rw [List.getElem?_map, List.getElem?_map] at hx
      obtain ⟨z2, hz2, rfl⟩ := Option.map_eq_some_iff.mp hx
      obtain ⟨r, hr2, rfl⟩ := Option.map_eq_some_iff.mp hz2
      have rm := List.mem_of_getElem? hr2
      have nin : r ∉ (rms l bs).take i := fun hm => by
        obtain ⟨j, hj⟩ := List.getElem?_of_mem hm
        have hji : j < i := by
          have := (List.getElem?_eq_some_iff.mp hj).1
          rw [List.length_take] at this
          omega
        rw [List.getElem?_take_of_lt hji] at hj
        exact absurd ((List.getElem?_inj (List.getElem?_eq_some_iff.mp hj).1 rnd).mp (hj.trans hr2.symm)) (Nat.ne_of_lt hji)
      refine ⟨_, rfl, _, rfl, _, rfl, _, rfl, a, s, l, bs, fo, r, Ps, rfl, g, hb, hf, sm_l s1 hS, StepsAt.same hst s1, hPs, rm, fun H3 s3 => ?_⟩
      have e3 := s3 _ _ e1
      refine ⟨_, rfl, _, rfl, p, _, rfl, DPut.k (k := Sum.inr (tx r)) e3 (by unfold mapK; rw [List.length_map, List.length_take, sizeLine_eq]; omega), ?_⟩
      refine ⟨_, rfl, sm_over (sm_trans s1 s3) np, ?_⟩
      rw [upd_same, putK_new _ (mapK_no nin), List.take_add_one, hr2]
      unfold mapK
      rw [List.map_append]
      rfl
    · rintro σ H1 ⟨y4, rfl, s1, e1⟩
      rw [List.take_length] at e1
      exact ⟨_, rfl, q H1 p s1 np e1⟩
end
end NC
namespace NC
open PySem PySem.Spec PyProof.Rows L2
/-- an entry of the wall w -/
def EntOk (l : List Nat) (w : Nat) (e : List Nat) : Prop := e = [61, w] ∨ e = [61, swp w] ∨ ∃ s ∈ sds l, e = [s]
/-- everybody, nobody, or those on a side -/
inductive Who
  | all
  | no
  | on (s : Nat)
def Who.has (r : List Nat) : Who → Prop
  | .all => True
  | .no => False
  | .on s => s ∈ r
/-- who stands on the side s behind the entry e of its wall -/
def whoE (s : Nat) (e : List Nat) : Who := match e with
  | [t] => .on (if 97 ≤ s ∧ s ≤ 122 then t else swp t)
  | [_, t] => if t = s then .all else .no
  | _ => .no
/-- the side of the wall w behind the entry e, from the room r -/
def goneE (w : Nat) (e r : List Nat) : Nat := match e with
  | [t] => if t ∈ r then w else swp w
  | [_, t] => if t = w then w else swp w
  | _ => swp w
def gone : List Nat → List (List Nat) → List Nat → List Nat
  | w :: l, e :: es, r => goneE w e r :: gone l es r
  | _, _, _ => []
def ent : List Nat → List (List Nat) → Nat → List Nat
  | c :: l, e :: es, w => if c = w then e else ent l es w
  | _, _, _ => []
theorem gone_map : ∀ {l : List Nat} {es : List (List Nat)} {r : List Nat}, es.length = l.length → l.Nodup → gone l es r = l.map fun w => goneE w (ent l es w) r
  | [], _, _, _, _ => by simp [gone]
  | _ :: l, [], _, h, _ => by simp at h
  | w :: l, e :: es, r, h, nd => by
    obtain ⟨n1, n2⟩ := List.nodup_cons.mp nd
    rw [List.map_cons]
    have e0 : ent (w :: l) (e :: es) w = e := by unfold ent; rw [if_pos rfl]
    rw [e0]
    show goneE w e r :: gone l es r = _
    rw [gone_map (by simpa using h) n2]
    congr 1
    refine List.map_congr_left fun x hx => ?_
    have : ent (w :: l) (e :: es) x = ent l es x := by
      conv => lhs; unfold ent
      rw [if_neg (show ¬ w = x from fun z => n1 (by rw [z]; exact hx))]
    rw [this]
theorem ent_at : ∀ {l : List Nat} {es : List (List Nat)}, l.Nodup → ∀ {i w : Nat} {e : List Nat}, l[i]? = some w → es[i]? = some e → ent l es w = e
  | [], _, _, i, w, e, h, _ => by simp at h
  | _ :: _, [], _, i, w, e, _, h => by simp at h
  | a :: l, b :: es, nd, i, w, e, h1, h2 => by
    obtain ⟨n1, n2⟩ := List.nodup_cons.mp nd
    unfold ent
    match i, h1, h2 with
    | 0, h1, h2 =>
      simp only [List.getElem?_cons_zero, Option.some.injEq] at h1 h2
      rw [if_pos h1]; exact h2
    | i + 1, h1, h2 =>
      rw [List.getElem?_cons_succ] at h1 h2
      rw [if_neg (show ¬ a = w from fun z => n1 (by rw [z]; exact List.mem_of_getElem? h1))]
      exact ent_at n2 h1 h2
/-- entries as a table asks them of these walls -/
structure EntsOk (l : List Nat) (es : List (List Nat)) : Prop where
  len : es.length = l.length
  ok : ∀ (i w : Nat) (e : List Nat), l[i]? = some w → es[i]? = some e → EntOk l w e
theorem EntsOk.ent {l : List Nat} {es : List (List Nat)} (h : EntsOk l es) (nd : l.Nodup) {w : Nat} (hw : w ∈ l) : EntOk l w (ent l es w) := by
  obtain ⟨i, hi, rfl⟩ := List.getElem_of_mem hw
  have h1 : l[i]? = some l[i] := List.getElem?_eq_getElem hi
  have h2 : es[i]? = some (es[i]'(by rw [h.len]; exact hi)) := List.getElem?_eq_getElem _
  rw [ent_at nd h1 h2]
  exact h.ok _ _ _ h1 h2
theorem goneE_two (w : Nat) (e r : List Nat) : goneE w e r = w ∨ goneE w e r = swp w := by
  unfold goneE
  split
  · split
    · exact .inl rfl
    · exact .inr rfl
  · split
    · exact .inl rfl
    · exact .inr rfl
  · exact .inr rfl
theorem gone_rm {l : List Nat} (g : GoodW l) {es : List (List Nat)} (h : es.length = l.length) (r : List Nat) : gone l es r = rmOf l fun w => decide (goneE w (ent l es w) r = w) := by
  rw [gone_map h g.nd]
  unfold rmOf
  refine List.map_congr_left fun w hw => ?_
  rcases goneE_two w (ent l es w) r with z | z
  · rw [if_pos (decide_eq_true z), z]
  · have sm := g.sm w hw
    rw [z, if_neg, upc_small sm, swp_small sm]
    rw [decide_eq_true_eq, z, swp_small sm]
    omega
section
variable {l : List Nat} (g : GoodW l) {bs : List (List Nat)} (hb : ∀ b ∈ bs, isBar l b = true)
include g hb
theorem room_other {r : List Nat} (hr : r ∈ rms l bs) {t : Nat} (ht : t ∈ sds l) : swp t ∈ r ↔ t ∉ r := by
  obtain ⟨p, rfl, hp⟩ := (rms_mem g hb r).mp hr
  rw [rm_mem g (sds_swp g ht), rm_mem g ht, val_swp (sds_lt g ht)]
  simp
theorem who_has {es : List (List Nat)} (h : EntsOk l es) {r : List Nat} (hr : r ∈ rms l bs) {s : Nat} (hs : s ∈ sds l) : s ∈ gone l es r ↔ (whoE s (ent l es (lwc s))).has r := by
  rw [gone_rm g h.len, rm_mem g hs]
  rcases sds_shape g hs with z | z
  · have e1 : lwc s = s := by unfold lwc; rw [if_neg (by omega)]
    rw [e1]
    have ev : val (fun w => decide (goneE w (ent l es w) r = w)) s = decide (goneE s (ent l es s) r = s) := by unfold val; rw [if_neg (by omega)]
    rw [ev, decide_eq_true_eq]
    have sne : swp s ≠ s := by rw [swp_small ⟨z.1, z.2.1⟩]; omega
    rcases h.ent g.nd z.2.2 with q | q | ⟨t, ht, q⟩
    · rw [q]; simp [goneE, whoE, Who.has]
    · rw [q]; simp [goneE, whoE, Who.has, sne]
    · rw [q]
      by_cases k : t ∈ r
      · simp [goneE, whoE, Who.has, k, z.1, z.2.1]
      · simp [goneE, whoE, Who.has, k, z.1, z.2.1, sne]
  · have e1 : lwc s = s + 32 := by unfold lwc; rw [if_pos (by omega)]
    rw [e1]
    have ev : val (fun w => decide (goneE w (ent l es w) r = w)) s = !decide (goneE (s + 32) (ent l es (s + 32)) r = s + 32) := by unfold val; rw [if_pos (by omega)]
    rw [ev, Bool.not_eq_true', decide_eq_false_iff_not]
    have sw : swp (s + 32) = s := by rw [swp_small (by omega)]; omega
    have ne : ¬ (97 ≤ s ∧ s ≤ 122) := by omega
    rcases h.ent g.nd z.2.2 with q | q | ⟨t, ht, q⟩
    · rw [q]; simp [goneE, whoE, Who.has]
    · rw [q]; simp [goneE, whoE, Who.has, sw]
    · rw [q]
      have ro := room_other g hb hr ht
      by_cases k : t ∈ r
      · have : swp t ∉ r := fun y => ro.mp y k
        simp [goneE, whoE, Who.has, k, ne, this]
      · have : swp t ∈ r := ro.mpr k
        simp [goneE, whoE, Who.has, k, ne, this, sw]
theorem gone_room {es : List (List Nat)} (h : EntsOk l es) {r : List Nat} (hr : r ∈ rms l bs) : gone l es r ∈ rms l bs ↔ ∀ x y, [x, y] ∈ bs → ¬ ((whoE x (ent l es (lwc x))).has r ∧ (whoE y (ent l es (lwc y))).has r) := by
  have gr := gone_rm g h.len r
  constructor
  · intro hg x y hxy
    obtain ⟨p, ep, hp⟩ := (rms_mem g hb _).mp hg
    obtain ⟨x', y', e, hx, hy, _⟩ := bar_two (hb _ hxy)
    obtain ⟨rfl, rfl⟩ : x = x' ∧ y = y' := by simpa using e
    rw [← who_has g hb h hr hx, ← who_has g hb h hr hy, ep, rm_mem g hx, rm_mem g hy]
    exact hp x y hxy
  · intro k
    refine (rms_mem g hb _).mpr ⟨_, gr, fun x y hxy => ?_⟩
    obtain ⟨x', y', e, hx, hy, _⟩ := bar_two (hb _ hxy)
    obtain ⟨rfl, rfl⟩ : x = x' ∧ y = y' := by simpa using e
    rw [← rm_mem g hx, ← rm_mem g hy, ← gr, who_has g hb h hr hx, who_has g hb h hr hy]
    exact k x y hxy
end
/-- may_meet -/
def meets (fo : Nat → List Nat) : Who → Who → Bool
  | .no, _ => false
  | _, .no => false
  | .all, _ => true
  | _, .all => true
  | .on s, .on t => !decide (swp t ∈ fo s)
def Who.sd (l : List Nat) : Who → Prop
  | .on s => s ∈ sds l
  | _ => True
section
variable {l : List Nat} (g : GoodW l) {bs : List (List Nat)} (hb : ∀ b ∈ bs, isBar l b = true) {fo : Nat → List Nat} (hf : ∀ s ∈ sds l, ∀ t, t ∈ fo s ↔ Frc (adjOf bs) s t) (ok : Okv l bs)
include g hb hf ok
theorem two_meet {s t : Nat} (hs : s ∈ sds l) (ht : t ∈ sds l) : (swp t ∉ fo s) ↔ ∃ z ∈ rms l bs, s ∈ z ∧ t ∈ z := by
  have hP : ∀ c ∈ [s, t], c ∈ sds l := fun c hc => by
    rcases List.mem_cons.mp hc with z | z
    · rw [z]; exact hs
    · rw [List.mem_singleton.mp z]; exact ht
  constructor
  · intro no
    obtain ⟨z, hz, h⟩ := (torn_iff g hb hf ok hP).mp (by
      unfold tornL
      rw [List.filter_eq_nil_iff]
      intro c hc h
      rw [Bool.and_eq_true, decide_eq_true_eq, decide_eq_true_eq] at h
      have cs : c ∈ sds l := sds_of_small hc
      obtain ⟨a1, h1, f1⟩ := (allFo_mem g hb hf hP).mp h.1
      obtain ⟨a2, h2, f2⟩ := (allFo_mem g hb hf hP).mp h.2
      have cross : ∀ {u : Nat}, u ∈ sds l → Frc (adjOf bs) s u → Frc (adjOf bs) t (swp u) → False := fun hu q1 q2 => by
        have b := Frc.back g hb ht q2
        rw [swp_swp (sds_lt g hu)] at b
        exact no ((hf s hs _).mpr (q1.trans b))
      rcases List.mem_cons.mp h1 with e1 | e1 <;> rcases List.mem_cons.mp h2 with e2 | e2
      · rw [e1] at f1; rw [e2] at f2
        exact no_self g hb hf ok hs (Frc.torn g hb hs f1 f2)
      · rw [e1] at f1; rw [List.mem_singleton.mp e2] at f2
        exact cross cs f1 f2
      · rw [List.mem_singleton.mp e1] at f1; rw [e2] at f2
        refine cross (sds_swp g cs) f2 ?_
        rw [swp_swp (sds_lt g cs)]
        exact f1
      · rw [List.mem_singleton.mp e1] at f1; rw [List.mem_singleton.mp e2] at f2
        exact no_self g hb hf ok ht (Frc.torn g hb ht f1 f2))
    exact ⟨z, hz, h s (List.mem_cons_self ..), h t (List.mem_cons_of_mem _ (List.mem_singleton.mpr rfl))⟩
  · rintro ⟨z, hz, h1, h2⟩ q
    have hin : ∀ c ∈ [s], c ∈ z := fun c hc => by rw [List.mem_singleton.mp hc]; exact h1
    have hP1 : ∀ c ∈ [s], c ∈ sds l := fun c hc => by rw [List.mem_singleton.mp hc]; exact hs
    have := allFo_in g hb hf hP1 hz hin (t := swp t) ((allFo_mem g hb hf hP1).mpr ⟨s, List.mem_singleton.mpr rfl, (hf s hs _).mp q⟩)
    exact room_one g hb hf hz ht h2 this
theorem meets_iff (ne : rms l bs ≠ []) {a b : Who} (ha : a.sd l) (hb' : b.sd l) : meets fo a b = true ↔ ∃ z ∈ rms l bs, a.has z ∧ b.has z := by
  obtain ⟨z0, h0⟩ := List.exists_mem_of_ne_nil _ ne
  match a, b, ha, hb' with
  | .no, b, _, _ => simp [meets, Who.has]
  | .all, .no, _, _ => simp [meets, Who.has]
  | .on s, .no, _, _ => simp [meets, Who.has]
  | .all, .all, _, _ => exact ⟨fun _ => ⟨z0, h0, trivial, trivial⟩, fun _ => rfl⟩
  | .all, .on t, _, h =>
    refine ⟨fun _ => ?_, fun _ => rfl⟩
    obtain ⟨z, hz, q⟩ := side_room g hb hf ok (s := t) h
    exact ⟨z, hz, trivial, q⟩
  | .on s, .all, h, _ =>
    refine ⟨fun _ => ?_, fun _ => rfl⟩
    obtain ⟨z, hz, q⟩ := side_room g hb hf ok (s := s) h
    exact ⟨z, hz, q, trivial⟩
  | .on s, .on t, h1, h2 =>
    show (!decide (swp t ∈ fo s)) = true ↔ _
    rw [Bool.not_eq_true', decide_eq_false_iff_not]
    exact two_meet g hb hf ok h1 h2
omit ok hf in
theorem who_sd {es : List (List Nat)} (h : EntsOk l es) {s : Nat} (hs : s ∈ sds l) : (whoE s (ent l es (lwc s))).sd l := by
  have hw : lwc s ∈ l := by
    rcases sds_shape g hs with z | z
    · rw [show lwc s = s by unfold lwc; rw [if_neg (by omega)]]; exact z.2.2
    · rw [show lwc s = s + 32 by unfold lwc; rw [if_pos (by omega)]]; exact z.2.2
  rcases h.ent g.nd hw with q | q | ⟨t, ht, q⟩
  · rw [q]; unfold whoE; simp only; split <;> trivial
  · rw [q]; unfold whoE; simp only; split <;> trivial
  · rw [q]
    show (if 97 ≤ s ∧ s ≤ 122 then t else swp t) ∈ sds l
    split
    · exact ht
    · exact sds_swp g ht
/-- leads_to_rooms -/
theorem leads_iff (ne : rms l bs ≠ []) {es : List (List Nat)} (h : EntsOk l es) : (∀ x y, [x, y] ∈ bs → meets fo (whoE x (ent l es (lwc x))) (whoE y (ent l es (lwc y))) = false) ↔ ∀ r ∈ rms l bs, gone l es r ∈ rms l bs := by
  constructor
  · intro k r hr
    refine (gone_room g hb h hr).mpr fun x y hxy q => ?_
    obtain ⟨x', y', e, hx, hy, _⟩ := bar_two (hb _ hxy)
    obtain ⟨rfl, rfl⟩ : x = x' ∧ y = y' := by simpa using e
    have := (meets_iff g hb hf ok ne (who_sd g hb h hx) (who_sd g hb h hy)).mpr ⟨r, hr, q⟩
    rw [k x y hxy] at this
    cases this
  · intro k x y hxy
    obtain ⟨x', y', e, hx, hy, _⟩ := bar_two (hb _ hxy)
    obtain ⟨rfl, rfl⟩ : x = x' ∧ y = y' := by simpa using e
    rw [Bool.eq_false_iff]
    intro q
    obtain ⟨r, hr, q'⟩ := (meets_iff g hb hf ok ne (who_sd g hb h hx) (who_sd g hb h hy)).mp q
    exact (gone_room g hb h hr).mp (k r hr) x y hxy q'
end
end NC
namespace NC
open PySem PySem.Spec PyProof.Rows L2
def ov : List Nat → List Nat → Nat → Nat
  | c :: l, s :: t, x => if x = c then s else if x = swp c then swp s else ov l t x
  | _, _, x => x
end NC
namespace NC
open PySem PySem.Spec PyProof.Rows L2
/-- one side of a wall at most, wall by wall -/
abbrev Ris (X : List Nat) : Prop := X.Pairwise fun a b => lwc a < lwc b
end NC
namespace NC
open PySem PySem.Spec PyProof.Rows L2
theorem wov_mem {l W r : List Nat} (g : GoodW l) (hr : ∀ s ∈ r, s ∈ sds l) {s : Nat} (hs : s ∈ sds l) : s ∈ wov W r ↔ (s ∈ r ∧ swp s ∉ W) ∨ (swp s ∈ r ∧ s ∈ W) := by
  unfold wov
  rw [List.mem_map]
  constructor
  · rintro ⟨u, hu, e⟩
    by_cases z : swp u ∈ W
    · rw [if_pos z] at e
      subst e
      rw [swp_swp (sds_lt g (hr u hu))]
      exact .inr ⟨hu, z⟩
    · rw [if_neg z] at e
      subst e
      exact .inl ⟨hu, z⟩
  · rintro (⟨a, b⟩ | ⟨a, b⟩)
    · exact ⟨s, a, by rw [if_neg b]⟩
    · refine ⟨swp s, a, ?_⟩
      rw [swp_swp (sds_lt g hs), if_pos b]
end NC
namespace NC
open PySem PySem.Spec PyProof.Rows L2
theorem ent_map : ∀ {l : List Nat} {h : Nat → List Nat} {w : Nat}, w ∈ l → ent l (l.map h) w = h w
  | c :: l, h, w, hw => by
    rw [List.map_cons]
    unfold ent
    by_cases z : c = w
    · rw [if_pos z, z]
    · rw [if_neg z]
      exact ent_map ((List.mem_cons.mp hw).elim (fun y => absurd y.symm z) id)
theorem ents_map {l : List Nat} (nd : l.Nodup) {h : Nat → List Nat} (ok : ∀ w ∈ l, EntOk l w (h w)) : EntsOk l (l.map h) := by
  refine ⟨List.length_map .., fun i w e h1 h2 => ?_⟩
  rw [List.getElem?_map, h1] at h2
  cases h2
  exact ok w (List.mem_of_getElem? h1)
section
variable {l : List Nat} (g : GoodW l) {bs : List (List Nat)} (hb : ∀ b ∈ bs, isBar l b = true)
include g hb
theorem room_map {z : List Nat} (hz : z ∈ rms l bs) : z = l.map fun w => if w ∈ z then w else swp w := by
  obtain ⟨p, rfl, _⟩ := (rms_mem g hb z).mp hz
  conv => lhs; unfold rmOf
  refine List.map_congr_left fun w hw => ?_
  have sm := g.sm w hw
  have hv : w ∈ rmOf l p ↔ p w = true := by
    rw [rm_mem g (sds_of_small hw)]
    unfold val
    rw [if_neg (by omega)]
  by_cases k : p w = true
  · rw [if_pos k, if_pos (hv.mpr k)]
  · rw [if_neg k, if_neg fun y => k (hv.mp y), upc_small sm, swp_small sm]
theorem gone_eq {h : Nat → List Nat} {r z : List Nat} (hz : z ∈ rms l bs) (k : ∀ w ∈ l, goneE w (h w) r = if w ∈ z then w else swp w) : gone l (l.map h) r = z := by
  rw [gone_map (List.length_map ..) g.nd]
  refine Eq.trans (List.map_congr_left fun w hw => ?_) (room_map g hb hz).symm
  rw [ent_map hw, k w hw]
theorem rms_sds {r : List Nat} (hr : r ∈ rms l bs) : ∀ s ∈ r, s ∈ sds l := fun s hs => by
  obtain ⟨p, rfl, _⟩ := (rms_mem g hb r).mp hr
  exact rm_asc g hs
end
/-- a call's entry -/
def callE (W : List Nat) (w : Nat) : List Nat := if w ∈ W ∨ swp w ∈ W then [61, if w ∈ W then w else swp w] else [w]
section
variable {l : List Nat} (g : GoodW l) {bs : List (List Nat)} (hb : ∀ b ∈ bs, isBar l b = true) {fo : Nat → List Nat} (hf : ∀ s ∈ sds l, ∀ t, t ∈ fo s ↔ Frc (adjOf bs) s t)
include g
theorem call_ok (W : List Nat) : EntsOk l (l.map (callE W)) := ents_map g.nd fun w hw => by
  unfold callE
  split
  · split
    · exact .inl rfl
    · exact .inr (.inl rfl)
  · exact .inr (.inr ⟨w, sds_of_small hw, rfl⟩)
include hb hf
theorem gone_call {P q r : List Nat} (hP : ∀ c ∈ P, c ∈ sds l) (hq : q ∈ rms l bs) (hin : ∀ s ∈ P, s ∈ q) (hr : r ∈ rms l bs) : gone l (l.map (callE (byWT l (allFo fo P)))) r = wov (allFo fo P) r := by
  refine gone_eq g hb (wov_room g hb hf hP hq hin hr).1 fun w hw => ?_
  have ws := sds_of_small hw
  have sm := g.sm w hw
  have m1 : w ∈ byWT l (allFo fo P) ↔ w ∈ allFo fo P := by rw [byWT_mem g]; exact ⟨fun z => z.2, fun z => ⟨ws, z⟩⟩
  have m2 : swp w ∈ byWT l (allFo fo P) ↔ swp w ∈ allFo fo P := by rw [byWT_mem g]; exact ⟨fun z => z.2, fun z => ⟨sds_swp g ws, z⟩⟩
  have cons : w ∈ allFo fo P → swp w ∉ allFo fo P := fun a b => room_one g hb hf hq ws (allFo_in g hb hf hP hq hin a) (allFo_in g hb hf hP hq hin b)
  have ne : swp w ≠ w := by rw [swp_small sm]; omega
  have wm := wov_mem (W := allFo fo P) g (rms_sds g hb hr) ws
  have ro := room_other g hb hr ws
  unfold callE
  by_cases a : w ∈ allFo fo P
  · have b := cons a
    have y : w ∈ wov (allFo fo P) r := wm.mpr (by
      by_cases k : w ∈ r
      · exact .inl ⟨k, b⟩
      · exact .inr ⟨ro.mpr k, a⟩)
    rw [if_pos (.inl (m1.mpr a)), if_pos (m1.mpr a), if_pos y]
    simp [goneE]
  · by_cases b : swp w ∈ allFo fo P
    · have y : w ∉ wov (allFo fo P) r := fun y => by
        rcases wm.mp y with z | z
        · exact z.2 b
        · exact a z.2
      rw [if_pos (.inr (m2.mpr b)), if_neg fun z => a (m1.mp z), if_neg y]
      simp [goneE, ne]
    · rw [if_neg fun z => z.elim (fun z => a (m1.mp z)) fun z => b (m2.mp z)]
      by_cases k : w ∈ r
      · have y : w ∈ wov (allFo fo P) r := wm.mpr (.inl ⟨k, b⟩)
        rw [if_pos y]
        simp [goneE, k]
      · have y : w ∉ wov (allFo fo P) r := fun y => by
          rcases wm.mp y with z | z
          · exact k z.1
          · exact a z.2
        rw [if_neg y]
        simp [goneE, k]
end
end NC
namespace NC
open PySem PySem.Spec PyProof.Rows L2
/-- rooms that can be come to -/
inductive Rch (n : Nat) (fs : Nat → List Nat → List Nat) (r : List Nat) : List Nat → Prop where
  | refl : Rch n fs r r
  | step {x : List Nat} {k : Nat} : Rch n fs r x → k < n → Rch n fs r (fs k x)
theorem rch_all {n : Nat} {fs : Nat → List Nat → List Nat} {r : List Nat} {ks : List (List Nat)} (h0 : r ∈ ks) (cl : ∀ x ∈ ks, ∀ k, k < n → fs k x ∈ ks) {x : List Nat} (h : Rch n fs r x) : x ∈ ks := by
  induction h with
  | refl => exact h0
  | step _ hk ih => exact cl _ ih _ hk
/-- a dict of rooms -/
def ahR (rs : List (List Nat × V)) : List (Key × V) := rs.map fun p => (Sum.inr (tx p.1), p.2)
def kyR (rs : List (List Nat × V)) : List (List Nat) := rs.map (·.1)
theorem kyR_snoc (rs : List (List Nat × V)) (m : List Nat) (v : V) : kyR (rs ++ [(m, v)]) = kyR rs ++ [m] := by simp [kyR]
theorem ahR_keys (rs : List (List Nat × V)) : (ahR rs).map (·.1) = ((kyR rs).map tx).map Sum.inr := by
  unfold ahR kyR
  rw [List.map_map, List.map_map, List.map_map]
  rfl
theorem ahR_no {rs : List (List Nat × V)} {s : List Nat} (h : s ∉ kyR rs) : valV (ahR rs) (Sum.inr (tx s)) = none := by
  induction rs with
  | nil => rfl
  | cons r t ih =>
    have e : ¬ r.1 = s := fun z => h (by show s ∈ r.1 :: kyR t; rw [z]; exact List.mem_cons_self ..)
    exact (valV_neg (p := (Sum.inr (tx r.1), r.2)) (fun z => e (tx_inj (Sum.inr.inj z)))).trans (ih fun z => h (List.mem_cons_of_mem _ z))
theorem ahR_some {rs : List (List Nat × V)} {s : List Nat} (h : s ∈ kyR rs) : ∃ (i : Nat) (v : V), rs[i]? = some (s, v) ∧ valV (ahR rs) (Sum.inr (tx s)) = some v := by
  induction rs with
  | nil => cases h
  | cons r t ih =>
    by_cases e : r.1 = s
    · exact ⟨0, r.2, by rw [← e]; rfl, by rw [← e]; exact valV_pos (p := (Sum.inr (tx r.1), r.2)) rfl⟩
    · have h2 : s ∈ kyR t := by
        rcases List.mem_cons.mp (show s ∈ r.1 :: kyR t from h) with z | z
        · exact absurd z.symm e
        · exact z
      obtain ⟨i, p, h3, h4⟩ := ih h2
      exact ⟨i + 1, p, h3, (valV_neg (p := (Sum.inr (tx r.1), r.2)) (fun z => e (tx_inj (Sum.inr.inj z)))).trans h4⟩
theorem ahR_snoc (rs : List (List Nat × V)) (m : List Nat) (v : V) (h : m ∉ kyR rs) : putK (ahR rs) (Sum.inr (tx m)) v = ahR (rs ++ [(m, v)]) := by
  rw [putK_new _ (ahR_no h)]
  unfold ahR
  rw [List.map_append]
  rfl
/-- each room but the first is told by the move and the room ahead of it -/
def ParOk (H : Hp) (n : Nat) (nm : Nat → Addr) (fs : Nat → List Nat → List Nat) (rs : List (List Nat × V)) : Prop := ∀ (i : Nat) (x : List Nat) (v : V), rs[i]? = some (x, v) →
  (i = 0 ∧ v = .non) ∨ ∃ (k : Nat) (p : List Nat) (j : Nat) (u : V) (T : Addr), v = .ref T ∧ H T = some (.tup [.ref (nm k), .str (tx p)]) ∧ k < n ∧ j < i ∧ rs[j]? = some (p, u) ∧ x = fs k p
theorem ParOk.keep {H H' : Hp} {n : Nat} {nm : Nat → Addr} {fs : Nat → List Nat → List Nat} {rs : List (List Nat × V)} (h : ParOk H n nm fs rs) (s : ∀ T a b, H T = some (.tup [a, b]) → H' T = some (.tup [a, b])) : ParOk H' n nm fs rs := fun i x v hi => by
  rcases h i x v hi with z | ⟨k, p, j, u, T, h1, h2, h3⟩
  · exact .inl z
  · exact .inr ⟨k, p, j, u, T, h1, s _ _ _ h2, h3⟩
theorem ParOk.snoc {H : Hp} {n : Nat} {nm : Nat → Addr} {fs : Nat → List Nat → List Nat} {rs : List (List Nat × V)} (h : ParOk H n nm fs rs) {k : Nat} {p : List Nat} {T : Addr} (hT : H T = some (.tup [.ref (nm k), .str (tx p)])) (hk : k < n) (hp : p ∈ kyR rs) : ParOk H n nm fs (rs ++ [(fs k p, .ref T)]) := fun i x v hi => by
  rcases Nat.lt_or_ge i rs.length with hl | hl
  · rw [List.getElem?_append_left hl] at hi
    rcases h i x v hi with z | ⟨k, p, j, u, T, h1, h2, h3, h4, h5, h6⟩
    · exact .inl z
    · exact .inr ⟨k, p, j, u, T, h1, h2, h3, h4, by rw [List.getElem?_append_left (by omega)]; exact h5, h6⟩
  · rw [List.getElem?_append_right hl] at hi
    have hi0 : i - rs.length = 0 := by
      have := (List.getElem?_eq_some_iff.mp hi).1
      simp at this
      omega
    rw [hi0] at hi
    cases hi
    obtain ⟨j, u, hj, _⟩ := ahR_some hp
    have hjl := (List.getElem?_eq_some_iff.mp hj).1
    exact .inr ⟨k, p, j, u, T, rfl, hT, hk, by omega, by rw [List.getElem?_append_left hjl]; exact hj, rfl⟩
/-- moves: pairs of a name and a table's entries -/
def MovesT (H : Hp) (m : Addr) (n : Nat) (nm : Nat → Addr) (ents : Nat → List (List Nat)) : Prop := ∃ es : List Addr, es.length = n ∧ H m = some (.lst (es.map V.ref)) ∧
  ∀ k, k < n → ∃ e tk, es[k]? = some e ∧ H e = some (.tup [.ref (nm k), .ref tk]) ∧ H tk = some (.tup (((ents k).map tx).map V.str))
theorem MovesT.same {H H' : Hp} {m : Addr} {n : Nat} {nm : Nat → Addr} {ents : Nat → List (List Nat)} (h : MovesT H m n nm ents) (s : Same H H') : MovesT H' m n nm ents := by
  obtain ⟨es, h1, h2, h3⟩ := h
  exact ⟨es, h1, s _ _ h2, fun k hk => by obtain ⟨e, tk, a, b, c⟩ := h3 k hk; exact ⟨e, tk, a, s _ _ b, s _ _ c⟩⟩
end NC
namespace NC
open PySem PySem.Spec PyProof.Rows L2
abbrev sReach : Stmt := topS 78
abbrev nReach : List Str := ["_law_rooms_here", "_law_moves", "_law_room", "_law_known", "_law_at", "_law_move", "_law_later"]
theorem scReach : FnScope nReach ["_law_rooms_here", "_law_moves", "_law_room"] (defScope sReach) := ⟨rfl, rfl, rfl, by decide +kernel, rfl, by decide +kernel, by decide +kernel⟩
/-- maps of rooms, by places -/
def MovesAt (H : Hp) (m : Addr) (n : Nat) (rs : List (List Nat)) (fs : Nat → List Nat → List Nat) : Prop := ∃ es : List Addr, es.length = n ∧ H m = some (.lst (es.map V.ref)) ∧ ∀ k, k < n → ∃ e, es[k]? = some e ∧ H e = some (.dK (mapK rs (fs k)))
theorem MovesAt.same {H H' : Hp} {m : Addr} {n : Nat} {rs : List (List Nat)} {fs : Nat → List Nat → List Nat} (h : MovesAt H m n rs fs) (s : Same H H') : MovesAt H' m n rs fs := by
  obtain ⟨es, h1, h2, h3⟩ := h
  exact ⟨es, h1, s _ _ h2, fun k hk => by obtain ⟨e, a, b⟩ := h3 k hk; exact ⟨e, a, s _ _ b⟩⟩
section
variable {P : Program} {w : World} {K : PySem.W.Frag} {mg : Str → Option Value} {base : Heap}
def spReach : Sp := fun vs H Q _ => ∃ a m n l bs r, ∃ fs : Nat → List Nat → List Nat, vs = [.ref a, .ref m, .str (tx r)] ∧ GoodW l ∧ MovesAt H m n (rms l bs) fs ∧ n ≤ 100 ∧ (∀ k, k < n → ∀ x ∈ rms l bs, fs k x ∈ rms l bs) ∧ r ∈ rms l bs ∧
  ∀ H' p, ∀ ks : List (List Nat), Same H H' → H p = none → H' p = some (.lst ((ks.map tx).map V.str)) → ks.Nodup → (∀ x, x ∈ ks ↔ Rch n fs r x) → Q (.ref p) H'
set_option maxHeartbeats 2000000 in
theorem ok_reach {f : Addr} {fd : FuncData} {k : Nat} (B : BM mg) (F : Fun K "_law_reach" "_law_reach" sReach f fd) : FnOk P w K mg base CX0 (k + 1) f fd ["_law_rooms_here", "_law_moves", "_law_room"] spReach := by
  refine F.ok scReach (fun vs H Q E h => ?_) (fun cdv A outer st H vs Q E hr h => ?_)
  · obtain ⟨a, m, n, l, bs, r, fs, rfl, _⟩ := h
    rfl
  · obtain ⟨a, m, n, l, bs, r, fs, rfl, g, hM, hn, hcl, hm, q⟩ := h
    have nd := scReach.nd
    have rlen := rms_len g (bs := bs)
    obtain ⟨es, el, em, ed⟩ := id hM
    refine ⟨_, pss_cons (ps_set (i := 3) nd rfl (.inl rfl) (pe_lst (pa_cons (pv 2) pa_nil)))
      (pss_cons (ps_set (i := 4) nd rfl (.inl rfl) pe_int)
      (pss_cons (ps_while PassesOwn.never (PW.pt (pw_and (pt_cmpR op_lt (pv 4) (pe_callB call_len_seq (by rfl) B.len PySem.boot_len (pa_cons (pv 3) pa_nil)) (nomark _)) (pw_and1 (pt_cmpR op_lt (pv 4) pe_int (nomark _)))))
        (pss_cons (ps_for PassesOwn.never rfl (pi_list (pv 1)) (pg_name (i := 5) nd rfl (.inl rfl))
          (pss_cons (ps_set (i := 6) nd rfl (.inl rfl) (pe_dget (hu_of hr) (pv 5) (pe_ix ix_list (pv 3) (pv 4) (fun _ _ => rfl)) (fun _ _ => rfl)))
          (pss_one (ps_if (pt_cmpR op_notIn_seq (pv 6) (pv 3) (by rfl)) (pss_one (ps_expr (pe_bm PySem.F.plainAttrs_list PySem.F.slot_list_append PySem.F.type_list_append mt_append (pv 3) (pa_cons (pv 6) pa_nil)))) pss_nil))))
        (pss_one (ps_set (i := 4) nd rfl (.inl rfl) (pe_op op_add (pv 4) pe_int)))))
      (pss_one (ps_ret (pv 3))))), ?_⟩
    refine ⟨_, rfl, by show 1 ≤ sizeLine; decide, fun p np => ?_⟩
    have bound : ∀ ks : List (List Nat), ks.Nodup → (∀ x ∈ ks, x ∈ rms l bs) → ks.length ≤ 4096 := fun ks nd' hs => Nat.le_trans (nd'.length_le_of_subset hs) rlen
    refine ⟨fun mm σ H' => ∃ (t : Nat) (ks : List (List Nat)) (y5 y6 : Option V), σ = [some (.ref a), some (.ref m), some (.str (tx r)), some (.ref p), some (.int (t : Int)), y5, y6] ∧ Same H H' ∧ H' p = some (.lst ((ks.map tx).map V.str)) ∧ ks.Nodup ∧ (∀ x ∈ ks, x ∈ rms l bs ∧ Rch n fs r x) ∧ r ∈ ks ∧ (∀ i, i < t → ∀ x, ks[i]? = some x → ∀ k, k < n → fs k x ∈ ks) ∧ t ≤ ks.length ∧ mm = 5000 - t,
      ⟨5000, 0, [r], _, _, rfl, same_upd np, upd_same, by simp, fun x hx => by rw [List.mem_singleton.mp hx]; exact ⟨hm, .refl⟩, List.mem_singleton.mpr rfl, fun i h => absurd h (Nat.not_lt_zero _), Nat.zero_le _, rfl⟩, ?_⟩
    rintro mm σ H1 ⟨t, ks, y5, y6, rfl, s1, e1, knd, kok, kr, kcl, kt, rfl⟩
    have kl := bound ks knd fun x hx => (kok x hx).1
    refine ⟨_, rfl, _, rfl, p, _, rfl, .inl (SqL.of e1), _, _, rfl, rfl, _, rfl, ?_⟩
    rw [List.length_map, List.length_map]
    refine ite2 (fun t1 => ?_) (fun t1 => ?_)
    · have tlt : t < ks.length := by
        have := of_decide_eq_true t1
        omega
      refine ⟨_, rfl, _, _, rfl, rfl, _, rfl, ?_⟩
      rw [decide_eq_true (by omega : (t : Int) < 5000)]
      refine iteT ?_
      refine ⟨fun σ' H' => ∃ m', m' < 5000 - t ∧ ∃ (t : Nat) (ks : List (List Nat)) (y5 y6 : Option V), σ' = [some (.ref a), some (.ref m), some (.str (tx r)), some (.ref p), some (.int (t : Int)), y5, y6] ∧ Same H H' ∧ H' p = some (.lst ((ks.map tx).map V.str)) ∧ ks.Nodup ∧ (∀ x ∈ ks, x ∈ rms l bs ∧ Rch n fs r x) ∧ r ∈ ks ∧ (∀ i, i < t → ∀ x, ks[i]? = some x → ∀ k, k < n → fs k x ∈ ks) ∧ t ≤ ks.length ∧ m' = 5000 - t, fun _ _ h => h, ?_⟩
      have hx0 : ks[t]? = some ks[t] := List.getElem?_eq_getElem tlt
      obtain ⟨x0m, x0r⟩ := kok _ (List.getElem_mem tlt)
      generalize ks[t] = x0 at hx0 x0m x0r
      have wk := walk_list (K := K) (a := m) (xs := es.map V.ref)
      rw [List.length_map, el] at wk
      refine ⟨_, rfl, m, rfl, ⟨_, SqL.of (s1 _ _ em)⟩, ?_⟩
      refine for_it wk (fun i σ H' => ∃ (ext : List (List Nat)) (y5 y6 : Option V), σ = [some (.ref a), some (.ref m), some (.str (tx r)), some (.ref p), some (.int (t : Int)), y5, y6] ∧ Same H H' ∧ H' p = some (.lst (((ks ++ ext).map tx).map V.str)) ∧ (ks ++ ext).Nodup ∧ (∀ x ∈ ks ++ ext, x ∈ rms l bs ∧ Rch n fs r x) ∧ ∀ k, k < i → fs k x0 ∈ ks ++ ext) ⟨[], _, _, rfl, s1, by rw [List.append_nil]; exact e1, by rw [List.append_nil]; exact knd, by rw [List.append_nil]; exact kok, fun k h => absurd h (Nat.not_lt_zero _)⟩ (fun i σ H' _ h => by obtain ⟨_, _, _, _, h, _⟩ := h; exact SqL.of (h _ _ em)) ?_ ?_
      · rintro i v σ G1 G2 hi ⟨ext, y5', y6', rfl, u1, g1, gnd, gok, gcl⟩ ⟨rfl, hx⟩
        obtain ⟨e, he, eD⟩ := ed i hi
        rw [List.getElem?_map, he] at hx
        cases hx
        have gl := bound _ gnd fun x hx => (gok x hx).1
        have ax : atI (((ks ++ ext).map tx).map V.str) ((t : Nat) : Int) = some (.str (tx x0)) := atI_nat (by rw [List.getElem?_map, List.getElem?_map, List.getElem?_append_left tlt, hx0]; rfl)
        refine ⟨_, rfl, _, rfl, _, rfl, p, _, _, _, rfl, rfl, SqL.of g1, ax, e, _, rfl, mapK_get (u1 _ _ eD) x0m, ?_⟩
        refine ⟨_, rfl, _, rfl, p, _, rfl, .inl (SqL.of g1), rfl, flat_str _, _, rfl, ?_⟩
        show if (!inV (.str (tx (fs i x0))) (((ks ++ ext).map tx).map V.str)) = true then _ else _
        rw [inV_tx]
        refine ite2 (fun t2 => ?_) (fun t2 => ?_)
        · have ni : fs i x0 ∉ ks ++ ext := of_decide_eq_false (by simpa using t2)
          refine ⟨_, rfl, .inl ⟨rfl, _, SqL.of g1⟩, _, rfl, p, _, _, rfl, rfl, g1, by rw [List.length_map, List.length_map, sizeLine_eq]; omega, ?_⟩
          refine ⟨ext ++ [fs i x0], _, _, rfl, sm_over u1 np, ?_, ?_, fun x hx => ?_, fun k hk => ?_⟩
          · rw [upd_same]
            simp
          · rw [← List.append_assoc, List.nodup_append]
            exact ⟨gnd, by simp, fun a ha b hb e => ni (by rw [List.mem_singleton.mp hb] at e; rw [← e]; exact ha)⟩
          · rw [← List.append_assoc] at hx
            rcases List.mem_append.mp hx with z | z
            · exact gok x z
            · rw [List.mem_singleton.mp z]; exact ⟨hcl i hi x0 x0m, x0r.step hi⟩
          · rw [← List.append_assoc]
            rcases Nat.lt_or_ge k i with z | z
            · exact List.mem_append_left _ (gcl k z)
            · rw [show k = i by omega]; exact List.mem_append_right _ (List.mem_singleton.mpr rfl)
        · have yi : fs i x0 ∈ ks ++ ext := Decidable.byContradiction fun z => t2 (by rw [decide_eq_false z]; rfl)
          refine ⟨ext, _, _, rfl, u1, g1, gnd, gok, fun k hk => ?_⟩
          rcases Nat.lt_or_ge k i with z | z
          · exact gcl k z
          · rw [show k = i by omega]; exact yi
      · rintro σ G1 ⟨ext, y5', y6', rfl, u1, g1, gnd, gok, gcl⟩
        refine ⟨_, rfl, _, _, rfl, rfl, ?_⟩
        refine ⟨5000 - (t + 1), by omega, t + 1, ks ++ ext, _, _, rfl, u1, g1, gnd, gok, List.mem_append_left _ kr, fun i hi x hx k hk => ?_, by rw [List.length_append]; omega, rfl⟩
        rcases Nat.lt_or_ge i t with z | z
        · rw [List.getElem?_append_left (by omega)] at hx
          exact List.mem_append_left _ (kcl i z x hx k hk)
        · rw [show i = t by omega, List.getElem?_append_left tlt, hx0] at hx
          cases hx
          exact gcl k hk
    · have te : t = ks.length := by
        have : ¬ (t : Int) < ((ks.length : Nat) : Int) := fun z => t1 (decide_eq_true z)
        omega
      refine iteF ?_
      refine ⟨_, rfl, q H1 p ks s1 np e1 knd fun x => ⟨fun hx => (kok x hx).2, fun hx => rch_all kr (fun y hy k hk => ?_) hx⟩⟩
      obtain ⟨i, hi⟩ := List.getElem?_of_mem hy
      exact kcl i (by have := (List.getElem?_eq_some_iff.mp hi).1; omega) y hi k hk
end
end NC
namespace NC
open PySem PySem.Spec PyProof.Rows L2
def FnO (f : Addr) (o : Obj) : HO := .ext fun h => h.get? f = some o
theorem fnO_ne {f : Addr} {o : Obj} (ps : Array Value) : FnO f o ≠ .tbl ps := fun z => by unfold FnO at z; cases z
section
variable {X : Cx} {pins : List (Addr × Obj)} {σ : L2.St} {H : Hp} {s : Shared} {T : List (Addr × Str)} {c P : Addr} {params : Arguments} {body : Expr} {scope : Scope} {pos : Pos}
abbrev lamO (X : Cx) (params : Arguments) (body : Expr) (scope : Scope) (pm : Value) (c' : Addr) (ctv : Value) : Obj := PySem.W.kla_obj "<lambda>" (X.env.qual ++ "<lambda>") params body scope (cloFrom X.env.cells scope.names []) pm c' ctv
/-- what a kept lambda does when it is called: t, read in the maker's slots as they are then -/
def LamOk (X : Cx) (k : Nat) (G : Hp) (f : Addr) (t : XK → TE) : Prop := ∃ (params : Arguments) (body : Expr) (scope : Scope) (pm : Value) (c' : Addr) (ctv : Value), LamX.LamS X.env.scope scope ∧ G f = some (FnO f (lamO X params body scope pm c' ctv)) ∧ G c' = some (LamX.CodeO c' (X.env.qual ++ "<lambda>")) ∧
  bindArgs (PySem.W.kla_fn "<lambda>" (X.env.qual ++ "<lambda>") params body scope (cloFrom X.env.cells scope.names []) pm (.ref c') ctv) ⟨[], []⟩ = pure [] ∧
  ∀ (A : Around) (out : List Env) (s : Shared) (H : Hp) (E : XK), Room k (A.deeper (LamX.lamEnv X scope s.heap.objs.size f c')) → PE (LamX.lamCx X A out s H E scope f c') body (t E)
theorem LamOk.ext {k : Nat} {G G1 : Hp} {f : Addr} {t : XK → TE} (h : LamOk X k G f t) (e : LamX.ExtN G G1) : LamOk X k G1 f t := by
  obtain ⟨params, body, scope, pm, c', ctv, a, b, c, d, r⟩ := h
  exact ⟨params, body, scope, pm, c', ctv, a, e _ _ b fnO_ne, e _ _ c LamX.codeO_ne, d, r⟩
end
end NC
namespace NC
open PySem PySem.Spec PyProof.Rows L2
abbrev sTold : Stmt := topS 79
abbrev nTold : List Str := ["_law_ask", "_law_found", "e"]
theorem scTold : FnScope nTold ["_law_ask"] (defScope sTold) := ⟨rfl, rfl, rfl, by decide +kernel, rfl, by decide +kernel, by decide +kernel⟩
/-- e.f in a suite, the class told by the reading -/
def tXfG (K : PySem.W.Frag) (a : Addr) (cls : Value) (d : Option Addr) (f : Str) (te : TE) : TE := fun σ H Q => te σ H fun x H1 => x = .ref a ∧ ∃ (C dd : Addr) (fs : List (Str × V)) (v : V), cls = .ref C ∧ XfC K C ∧ PySem.W.findIn K (.ref C) f = some none ∧ d = some dd ∧ H1 dd = some (.xd fs) ∧ fs.lookup f = some v ∧ Q v H1
theorem pe_xfG {X : Cx} {a : Addr} {oe : Obj} {cls : Value} {d : Option Addr} {pn : List (Addr × Obj)} {e : Expr} {i : Nat} {pos : Pos} {n : Str} (hz : Zc cls d oe) (hf : ∃ vs, oe.data = .fields vs) (at_ : PE (X.suite a ((a, oe) :: pn)) e (tVar i))
    (hb : attributeBase e n X.env (eval e X.env) = eval e X.env := by rfl) : PE (X.suite a ((a, oe) :: pn)) (.Attribute e n pos) (tXfG X.K a cls d n (tVar i)) :=
  ⟨fun ps s σ H Q I ⟨v, sv, ev, C, dd, fs, u, ec, T, no, ed, ea, lu, q⟩ => (pe_xf (C := C) T no hz hf at_ hb).run ps s σ H Q I ⟨v, sv, ev, ec, dd, fs, u, ed, ea, lu, q⟩⟩
theorem takes_len {X : Cx} {W : WX} (t : Takes X W) : Takes X (fun c d σ H => σ.length = X.N.length → W c d σ H) := fun u s' ⟨a, B, sI, pins, σ, H, cls, d, e, I, nb, up, sky, na, os, ag, w⟩ =>
  t u s' ⟨a, B, sI, pins, σ, H, cls, d, e, I, nb, up, sky, na, os, ag, w I.len⟩
def FldAt (K : PySem.W.Frag) (cls : Value) (d : Option Addr) (f : Str) (H : Hp) (q : V → Prop) : Prop := ∃ (C dd : Addr) (fs : List (Str × V)) (v : V), cls = .ref C ∧ XfC K C ∧ PySem.W.findIn K (.ref C) f = some none ∧ d = some dd ∧ H dd = some (.xd fs) ∧ fs.lookup f = some v ∧ q v
/-- what _law_told makes of TooMany -/
def EchM (K : PySem.W.Frag) (CT_ : Addr) (Q : VK) : XK := fun cls d H' => PySem.W.exmOne K cls (.ref CT_) = some true ∧ FldAt K cls d "most" H' fun v => ∀ p, H' p = none → Q (.ref p) (upd H' p (.tup [.str "toomany", v]))
def spTold (K : PySem.W.Frag) (CT_ : Addr) : Addr → (XK → Hp → VK → Prop) → List V → Hp → VK → Prop := fun f tl vs H Q => vs = [.ref f] ∧ tl (EchM K CT_ Q) H fun x H1 => ∃ v, some (some x) = some (some v) ∧ Q v H1
section
variable {P : Program} {w : World} {K : PySem.W.Frag} {mg : Str → Option Value} {base : Heap}
set_option maxHeartbeats 1000000 in
theorem ok_told {g CT_ : Addr} {fd : FuncData} {k : Nat} (F : Fun K "_law_told" "_law_told" sTold g fd) (hT : mg "TooMany" = some (.ref CT_)) : Uses P w K mg base k (k + 2) g fd ["_law_ask"] (spTold K CT_) := by
  refine uses_of F scTold fun cdv A out s H vs Q f J tl hr a jH h => ?_
  obtain ⟨rfl, h⟩ := h
  have nd := scTold.nd
  refine ⟨_, pss_cons (ps_try_manyA (X := (cxOf C8.CX0 P w K mg base nTold "_law_told" (defScope sTold) g cdv A out s H C8.E0).nox)
      (tb := fun W D σ G => ∃ Ech : XK, (∀ cls d σ' H', Ech cls d H' → σ'.length = 3 → W cls d σ' H') ∧ (σ[0]? = some (some (.ref f)) ∧ J G ∧ tl Ech G fun x H1 => D.nx (σ.set 1 (some x)) H1))
      (l := [(.ref CT_, 2, fun a cls d => tAsg (tTup (tCons (tC (.str "toomany")) (tCons (tXfG K a cls d "most" (tVar 2)) tNil))) (gName 1))])
      rfl rfl nd LamX.takes0 (fun W pn xe tk => ?_)
      (.cons ⟨rfl, rfl, ⟨rfl, by decide, .inl hT⟩, fun a oe cls d pn hz hf => pss_one (ps_set (i := 1) nd rfl (.inl rfl) (pe_tup (pa_cons pe_str (pa_cons (pe_xfG hz hf (pv 2)) pa_nil))))⟩ .nil))
    (pss_one (ps_ret (pv 1))), ?_⟩
  · refine ⟨fun pins s' σ G D I h' => ?_⟩
    obtain ⟨Ech, hW, h3⟩ := h'
    exact (pss_one (ps_set (X := (cxOf C8.CX0 P w K mg base nTold "_law_told" (defScope sTold) g cdv A out s H C8.E0).nox.tr pn xe) (i := 1) nd rfl (.inl rfl) (pe_thunk (E := Ech) a rfl (passes_call (takes_len tk) hW) hr (pv 0)))).run pins s' σ G D I h3
  · refine ⟨EchM K CT_ Q, fun cls d σ' H' he hl => ?_, rfl, jH, ?_⟩
    · obtain ⟨y0, y1, y2, rfl⟩ : ∃ y0 y1 y2, σ' = [y0, y1, y2] := by
        match σ', hl with
        | [a, b, c], _ => exact ⟨a, b, c, rfl⟩
      obtain ⟨hm, C, dd, fs, v, e1, e2, e3, e4, e5, e6, e7⟩ := he
      exact ⟨true, hm, fun _ a na => ⟨_, rfl, rfl, C, dd, fs, v, e1, e2, e3, e4, e5, e6, by show 2 ≤ sizeLine; decide, fun p np => ⟨_, rfl, e7 p np⟩⟩, fun z => by cases z⟩
    · exact h
end
end NC
namespace NC
open PySem PySem.Spec PyProof.Rows L2
theorem tabs_smx {T : List (Addr × Str)} {H H' : Hp} {d : Addr} (t : LamX.Tabs T H) (D : Dr H d) (s : SmX d H H') : LamX.Tabs T H' := fun p hp => by
  obtain ⟨ps, h1, h2, h3⟩ := t p hp
  obtain ⟨c0, ns, i, a, b, e, hd, _⟩ := D
  refine ⟨ps, s _ _ (ne_of h1 hd fun z => by cases z) h1, h2, fun pos cv hc => ?_⟩
  obtain ⟨c, e1, e2⟩ := h3 pos cv hc
  exact ⟨c, e1, s _ _ (ne_of e2 hd fun z => by unfold LamX.CodeO at z; cases z) e2⟩
theorem Dr.ext {H H' : Hp} {d : Addr} (h : Dr H d) (e : LamX.ExtN H H') : Dr H' d := by
  obtain ⟨c, ns, i, a, b, f, h1, h2, h3⟩ := h
  exact ⟨c, ns, i, a, b, f, e _ _ h1 (fun _ z => by cases z), e _ _ h2 (fun _ z => by cases z), h3⟩
theorem tabs_upd {T : List (Addr × Str)} {H : Hp} {b : Addr} {xs ys : List V} (t : LamX.Tabs T H) (h : H b = some (.lst xs)) : LamX.Tabs T (L2.upd H b (.lst ys)) := fun p hp => by
  obtain ⟨ps, h1, h2, h3⟩ := t p hp
  refine ⟨ps, by rw [upd_ne (ne_of h1 h fun z => by cases z)]; exact h1, h2, fun pos cv hc => ?_⟩
  obtain ⟨c, e1, e2⟩ := h3 pos cv hc
  exact ⟨c, e1, by rw [upd_ne (ne_of e2 h fun z => by unfold LamX.CodeO at z; cases z)]; exact e2⟩
section
variable {d c rA C x dx sb D : Addr} {R : List V} {l : List Nat} {ys : List Str} {fo : Nat → List Nat} {H H' : Hp} {T : List (Addr × Str)}
theorem St6.ext (s : St6 d c rA R C x dx sb D l ys fo H) (e : LamX.ExtN H H') : St6 d c rA R C x dx sb D l ys fo H' :=
  ⟨s.dr.ext e, let ⟨r, h⟩ := s.hc; ⟨r, e _ _ h (fun _ z => by cases z)⟩, e _ _ s.rA (fun _ z => by cases z), ⟨e _ _ s.hA.x (fun _ z => by cases z), e _ _ s.hA.sb (fun _ z => by cases z), e _ _ s.hA.D (fun _ z => by cases z)⟩⟩
/-- and the table of the law's lambdas -/
structure St7 (T : List (Addr × Str)) (d c rA : Addr) (R : List V) (C x dx sb D : Addr) (l : List Nat) (ys : List Str) (fo : Nat → List Nat) (H : Hp) : Prop where
  S : St6 d c rA R C x dx sb D l ys fo H
  T : LamX.Tabs T H
theorem St7.same (s : St7 T d c rA R C x dx sb D l ys fo H) (e : Same H H') : St7 T d c rA R C x dx sb D l ys fo H' := ⟨s.S.same e, s.T.ext e⟩
theorem St7.ext (s : St7 T d c rA R C x dx sb D l ys fo H) (e : LamX.ExtN H H') (t : LamX.Tabs T H') : St7 T d c rA R C x dx sb D l ys fo H' := ⟨s.S.ext e, t⟩
theorem St7.smd (s : St7 T d c rA R C x dx sb D l ys fo H) (nr : rA ≠ d) (ns : sb ≠ d) (e : SmD d H H') (D' : Dr H' d) : St7 T d c rA R C x dx sb D l ys fo H' := ⟨s.S.smd nr ns e D', tabs_smx s.T s.S.dr e.1⟩
theorem St7.put (s : St7 T d c rA R C x dx sb D l ys fo H) {p : Addr} (n : H p = none) (s' : St7 T d c rA R C x dx sb D l ys fo H') {xs zs : List V} (e : H' p = some (.lst xs)) : St7 T d c rA R C x dx sb D l ys fo (L2.upd H' p (.lst zs)) := ⟨s.S.new n s'.S, tabs_upd s'.T e⟩
end
/-- the refusal's class -/
structure EX (K : PySem.W.Frag) (CT_ : Addr) : Prop where
  t : XfC K CT_
  tt : PySem.W.exmOne K (.ref CT_) (.ref CT_) = some true
/-- TooMany, let by the law's own try -/
theorem ech_t {K : PySem.W.Frag} {CT_ : Addr} {n : Int} (X : EX K CT_) (hf : PySem.W.findIn K (.ref CT_) "most" = some none) {G : Hp} {Q : VK} (q : ∀ G' p, Same G G' → G' p = none → Q (.ref p) (upd G' p (.tup [.str "toomany", .int n]))) :
    ∀ H' d, Same G H' → H' d = some (.xd [("most", .int n), ("word", .str "toomany")]) → EchM K CT_ Q (.ref CT_) (some d) H' := fun H' d s e =>
  ⟨X.tt, CT_, d, _, _, rfl, X.t, hf, rfl, e, rfl, fun p np => q H' p s np⟩
end NC
namespace NC
open PySem PySem.Spec PyProof.Rows L2
abbrev sLCalls : Stmt := topS 77
abbrev nLCalls : List Str := ["_law_d", "_law_shuts_here", "_law_rooms_here", "_law_most_it", "_law_k"]
theorem scLCalls : FnScope nLCalls ["_law_d", "_law_shuts_here", "_law_rooms_here", "_law_most_it"] (defScope sLCalls) := ⟨rfl, rfl, rfl, by decide +kernel, rfl, by decide +kernel, by decide +kernel⟩
section
variable {P : Program} {w : World} {K : PySem.W.Frag} {mg : Str → Option Value} {base : Heap}
def spLCalls : Sp := fun vs H Q _ => ∃ d l bs rA, ∃ n : Nat, vs = [.ref d, .str (tx l), .ref rA, .int (n : Int)] ∧ n ≤ 100 ∧ Dr H d ∧ GoodW l ∧ (∀ b ∈ bs, isBar l b = true) ∧ rA ≠ d ∧ H rA = some (.lst (((rms l bs).map tx).map V.str)) ∧ rms l bs ≠ [] ∧ (rms l bs).length ≤ 1000 ∧
  ∀ H' p, ∀ Ps : List (List Nat), SmD d H H' → Dr H' d → H p = none → H' p = some (.lst ((Ps.map tx).map V.str)) → Ps.length ≤ n → (∀ P ∈ Ps, Part l P ∧ ∃ z ∈ rms l bs, ∀ s ∈ P, s ∈ z) → Q (.ref p) H'
set_option maxHeartbeats 1000000 in
theorem ok_lcalls {f fD fO fS fW fP : Addr} {fd dD dO dS dW dP : FuncData} {k : Nat} (B : BM mg) (hany : mg "any" = none) (F : Fun K "_law_calls" "_law_calls" sLCalls f fd) (D : DF K mg "_law_draw" sDraw ["_law_d", "_law_many"] fD dD) (Of : DF K mg "_law_of" sOf ["_law_d", "_law_some"] fO dO) (Sd : DF K mg "_law_sides" sLSides ["_law_d", "_law_shuts_here"] fS dS) (W : DF K mg "_law_within" sWithin ["_law_sides_here", "_law_room"] fW dW) (Pt : DF K mg "_law_part" sLPart ["_law_d", "_law_shuts_here", "_law_rooms_here"] fP dP) :
    FnOk P w K mg base CX0 (k + 5) f fd ["_law_d", "_law_shuts_here", "_law_rooms_here", "_law_most_it"] spLCalls := by
  have GD : FnOk P w K mg base CX0 (k + 1) fD dD ["_law_d", "_law_many"] spDraw := ok_draw B D.F
  have GP : FnOk P w K mg base CX0 (k + 4) fP dP ["_law_d", "_law_shuts_here", "_law_rooms_here"] spLPart := ok_lpart B hany Pt.F D Of Sd W
  refine F.ok scLCalls (fun vs H Q E h => ?_) (fun cdv A0 outer st H vs Q E hr h => ?_)
  · obtain ⟨d, l, bs, rA, n, rfl, _⟩ := h
    rfl
  · obtain ⟨d, l, bs, rA, n, rfl, hn, hD, g, hb, nrd, er, rne, rlen, q⟩ := h
    have nd := scLCalls.nd
    have r1 : Room (k + 1) _ := hr.mono (by omega)
    refine ⟨_, pss_one (ps_ret (pe_lc (own := [("_law_k", 4)]) (g := gName 4) (tt := tYes) (te := tCall spLPart [] E0 (tCons (tVar 0) (tCons (tVar 1) (tCons (tVar 2) tNil)))) rfl nd (pi_range1 (by rfl) B.range (pa_cons (pe_call GD r1 rfl D.g D.F.kp D.b .nil pass0 (pa_cons (pv 0) (pa_cons (pe_op op_add (pv 3) pe_int) pa_nil))) pa_nil)) (blkOk_by (N := nLCalls) (sc := defScope sLCalls) (by decide +kernel)) (fun _ _ _ _ _ => pg_name (i := 4) nd rfl (Or.inl rfl)) (fun _ _ _ _ _ => pts_nil)
      (fun _ _ _ _ _ => pe_call GP hr rfl Pt.g Pt.F.kp Pt.b .nil pass0 (pa_cons (pv 0) (pa_cons (pv 1) (pa_cons (pv 2) pa_nil)))))), ?_⟩
    refine ⟨_, rfl, _, rfl, _, _, rfl, rfl, d, _, rfl, hD, by omega, by omega, fun H1 v s1 D1 v0 v1 => ?_⟩
    obtain ⟨m, rfl⟩ := Int.eq_ofNat_of_zero_le v0
    refine ⟨_, rfl, by omega, by omega, ?_⟩
    rw [show ((m : Nat) : Int).toNat = m from Int.toNat_natCast _]
    intro Da na
    have nDd : Da ≠ d := D1.ne na
    have naH : H Da = none := by
      cases hz : H Da with
      | none => rfl
      | some o => rw [s1.1 _ _ nDd hz] at na; cases na
    refine lc_it walk_range (fun i H' => SmD d H1 H' ∧ Dr H' d ∧ ∃ Ps : List (List Nat), H' Da = some (.lst ((Ps.map tx).map V.str)) ∧ Ps.length = i ∧ ∀ P ∈ Ps, Part l P ∧ ∃ z ∈ rms l bs, ∀ s ∈ P, s ∈ z) ⟨SmD.of (same_upd na), D1.same (same_upd na), [], upd_same, rfl, by simp⟩ (fun _ _ _ _ => trivial) ?_ ?_
    · rintro i v G1 G2 hi ⟨u1, DG, Ps, e1, pl, hPs⟩ ⟨rfl, rfl⟩
      have er2 := u1.1 _ _ nrd (s1.1 _ _ nrd er)
      refine ⟨rfl, yes_i ⟨_, rfl, _, rfl, _, rfl, d, l, bs, rA, rfl, DG, g, hb, nrd, er2, rne, rlen, fun G3 S z u3 DG3 pS hz hin => ?_⟩⟩
      have e3 := u3.1 _ _ nDd e1
      obtain ⟨c0, hc0⟩ := DG3.head
      obtain ⟨nsx, hcell⟩ := DG3.cell hc0
      have nDc : Da ≠ c0 := by
        obtain ⟨c1, hc1⟩ := D1.head
        obtain ⟨ns1, hcell1⟩ := D1.cell hc1
        have hcc : HeadC G3 d c1 := u3.2 _ (u1.2 _ hc1)
        have : c1 = c0 := by
          obtain ⟨r1', h1'⟩ := hcc
          obtain ⟨r2', h2'⟩ := hc0
          rw [h1'] at h2'
          injection h2' with h2'
          injection h2' with h2'
          injection h2' with h2' _
          injection h2' with h2'
        rw [← this]
        exact Ne.symm (ne_of_none hcell1 na)
      refine ⟨_, e3, by rw [List.length_map, List.length_map, sizeLine_eq]; omega, ?_, DG3.upd hc0 nDd nDc, Ps ++ [S], ?_, by rw [List.length_append, pl]; rfl, fun P hP => ?_⟩
      · have u13 := u1.trans u3
        refine ⟨fun b o nb hb => ?_, fun c hc => (u13.2 c hc).upd nDd⟩
        rw [upd_ne (ne_of_none hb na)]
        exact u13.1 b o nb hb
      · rw [upd_same]
        simp
      · rcases List.mem_append.mp hP with z1 | z1
        · exact hPs P z1
        · rw [List.mem_singleton.mp z1]; exact ⟨pS, z, hz, hin⟩
    · rintro G1 ⟨u1, DG, Ps, e1, pl, hPs⟩
      exact q G1 Da Ps (s1.trans u1) DG naH e1 (by omega) hPs
end
end NC
namespace NC
open PySem PySem.Spec PyProof.Rows L2
/-- zip of a text and a tuple -/
def ItZT (K : PySem.W.Frag) (x : Str) (b : Addr) : It :=
  ⟨fun i H => i < x.cps.size ∧ ∃ (ys : List V) (y : V), SqT K H b ys ∧ ys[i]? = some y, fun i H v H' => ∃ T s u, v = .ref T ∧ H T = none ∧ H' = upd H T (.tup [s, u]) ∧ SgAt x i s ∧ ∀ ys, SqT K H b ys → ys[i]? = some u,
    fun i H => ∃ ys : List V, SqT K H b ys ∧ i ≤ x.cps.size ∧ i ≤ ys.length ∧ (i = x.cps.size ∨ i = ys.length)⟩
def AtZT (x : Str) (t1 : Tok) (b z TI TO i1 i2 : Addr) (i : Nat) (h : Heap) : Prop := IsZip h z TI TO .none ∧ IsTupOf2 h TI (.ref i1) (.ref i2) ∧ (∃ a b, IsTupOf2 h TO a b) ∧ h.IsStrIter i1 (strIterType x) x t1 i ∧ h.IsTupleIter i2 b i
theorem AtZT.olds {x : Str} {t1 : Tok} {q z TI TO i1 i2 : Addr} {i : Nat} {h : Heap} (st : AtZT x t1 q z TI TO i1 i2 i h) : ∀ b ∈ [z, TI, TO, i1, i2], ∃ o, h.get? b = some o ∧ ∀ v, o.data ≠ .cell v := by
  obtain ⟨hz, hI, ⟨a, b, hO⟩, ⟨o1, e1, _, d1⟩, ⟨o2, e2, _, d2⟩⟩ := st
  simp only [List.mem_cons, List.not_mem_nil, or_false, forall_eq_or_imp, forall_eq]
  exact ⟨⟨_, hz, nofun⟩, ⟨_, hI, nofun⟩, ⟨_, hO, nofun⟩, ⟨o1, e1, fun v q => nomatch d1.symm.trans q⟩, ⟨o2, e2, fun v q => nomatch d2.symm.trans q⟩⟩
theorem turn_zipT {P : Program} {w : World} {K : PySem.W.Frag} {elts : List Expr} {kk : Nat} {tpos : Pos} (x : Str) (t1 : Tok) {b z TI TO i1 i2 : Addr} (S : ZipSep2 z TI TO i1 i2 [i1] [i2, b]) (nb : b ≠ i2) :
    Turn P w K (.Tuple elts kk tpos) (ItZT K x b) [z, TI, TO, i1, i2] z (AtZT x t1 b z TI TO i1 i2) where
  mem := .head _
  obj := fun i h st b m => st.olds b m
  keep := fun i h h' st k => by
    obtain ⟨hz, hI, ⟨a, b, hO⟩, ⟨o1, e1, r1⟩, s2⟩ := st
    exact ⟨k z (by simp) _ hz, k TI (by simp) _ hI, ⟨a, b, k TO (by simp) _ hO⟩, ⟨o1, k i1 (by simp) _ e1, r1⟩, s2.at fun o q => k i2 (by simp) o q⟩
  item := by
    rintro X rfl rfl rfl calm i ps t σ H E I fre st ⟨l1, ys, y, hq, hy⟩
    have olds := st.olds
    obtain ⟨hz, hI, ⟨a, b', hO⟩, s1, s2⟩ := st
    have old : z < t.heap.objs.size := Heap.lt_size hz
    obtain ⟨its, rv, p, _⟩ := I.tuple hq
    obtain ⟨u0, hu0, ru0⟩ := rv.get hy
    have l2 : i < its.toArray.size := by
      have := (List.getElem?_eq_some_iff.mp hu0).1
      simpa using this
    refine wpAny_pyNext_zipD2_item S (Draws.text (prog := X.prog) (w := X.w) (A := X.A.in1) (I.ok.hd calm) i1 x t1) (Draws.tuple (prog := X.prog) (w := X.w) (A := X.A.in1) (I.ok.hd calm) i2 b nb its.toArray) hz hI hO s1 ⟨s2, p⟩ l1 l2 fun v1 v2 g tk p1 p2 hz' hO' s1' s2' pair _ stay => ?_
    obtain ⟨c1, u1, h1, rfl⟩ := p1
    have e2 : v2 = u0 := by
      have : its[i]? = some v2 := by simpa using p2
      rw [hu0] at this
      exact (Option.some.inj this).symm
    subst e2
    refine ⟨_, rfl, wpAny_letOwnedTupleGo_zip (s := { t with heap := g, toks := tk }) hz' fun g2 hz2 but => ?_⟩
    have pair2 : g2.get? t.heap.objs.size = some { cls := .type "tuple", data := .seq #[.str ⟨#[c1]⟩ u1, v2] } := (but.2 _ (Nat.ne_of_gt old)).trans pair
    have lts : ∀ b ∈ [z, TI, TO, i1, i2], b < t.heap.objs.size := fun b m => let ⟨_, g, _⟩ := olds b m; Heap.lt_size g
    refine ⟨.ref t.heap.objs.size, upd H t.heap.objs.size (.tup [.str ⟨#[c1]⟩, y]), I.turnedNew (ch := [z, TI, TO, i1, i2]) (fun b o nb q => (but.2 b fun e => nb (by simp [e])).trans (stay b o (fun e => nb (by simp [e])) (fun e => nb (by simp [e])) (fun e => nb (by simp [e])) (fun e => nb (by simp [e])) q)) fre (Nat.le_refl _)
        ⟨by show 2 ≤ sizeLine; decide, [.str ⟨#[c1]⟩ u1, v2], .cons ⟨_, rfl⟩ (.cons ru0 .nil), ⟨_, pair2, rfl, _, rfl⟩⟩, rfl, ⟨_, _, _, rfl, I.hok.fresh (Nat.le_refl _), rfl, ⟨c1, h1, rfl⟩, fun zs hz => by rw [I.tuple_inj hz hq]; exact hy⟩, ⟨hz2, ?_, ⟨_, _, (but.2 _ S.TOz).trans hO'⟩, ?_, ?_⟩, fun b m => ?_⟩
    · exact (but.2 _ S.TIz).trans (stay _ _ S.TIz S.TITO S.TIi1 S.TIi2 hI)
    · obtain ⟨o, ho, r⟩ := s1'
      exact ⟨o, (but.2 _ (Ne.symm S.zi1)).trans ho, r⟩
    · exact s2'.1.at fun o q => (but.2 _ (Ne.symm S.zi2)).trans q
    · exact (upd_ne (Nat.ne_of_lt (lts b m))).trans (fre b m).1
  done := by
    rintro X rfl rfl rfl calm i ps t σ H E I fre st ⟨ys, hq, le1, le2, fin⟩
    obtain ⟨hz, hI, ⟨a, b', hO⟩, s1, s2⟩ := st
    obtain ⟨its, rv, p, _⟩ := I.tuple hq
    have ln : its.toArray.size = ys.length := by
      have := rv.length
      simp
      omega
    refine wpAny_pyNext_zipD2_end S (Draws.text (prog := X.prog) (w := X.w) (A := X.A.in1) (I.ok.hd calm) i1 x t1) (Draws.tuple (prog := X.prog) (w := X.w) (A := X.A.in1) (I.ok.hd calm) i2 b nb its.toArray) hz hI hO s1 ⟨s2, p⟩ le1 (by omega) (by omega) fun g tk stay => ?_
    exact ⟨rfl, I.turnedL (t' := tk) (ch := [z, TI, TO, i1, i2]) (fun b o nb q => stay b o (fun e => nb (by simp [e])) (fun e => nb (by simp [e])) (fun e => nb (by simp [e])) (fun e => nb (by simp [e])) q) fre⟩
  self := fun _ _ _ _ _ st h => wpAny_pyIter_zip st.1 h
theorem walk_zipT {K : PySem.W.Frag} {x : Str} {b : Addr} {ys : List V} {n : Nat} (hn : n = min x.cps.size ys.length) : Walk (ItZT K x b) n (fun H => SqT K H b ys) (YPair (fun i => (x.cps[i]?).map fun c => V.str ⟨#[c]⟩) (fun i => ys[i]?)) := by
  subst hn
  refine ⟨fun i _ hi q => ⟨by omega, ys, ys[i]'(by omega), q, List.getElem?_eq_getElem (by omega)⟩, fun _ q => ⟨ys, q, by omega, by omega, by omega⟩, fun i H v H' _ q y => ?_⟩
  obtain ⟨T, s, u, h1, h2, h3, ⟨c, hc, rfl⟩, h5⟩ := y
  exact ⟨T, _, u, h1, h2, h3, by show Option.map _ x.cps[i]? = _; rw [hc]; rfl, h5 ys q⟩
/-- zip of a text and a list -/
def ItZL (K : PySem.W.Frag) (x : Str) (b : Addr) : It :=
  ⟨fun i H => i < x.cps.size ∧ ∃ (ys : List V) (y : V), SqL K H b ys ∧ ys[i]? = some y, fun i H v H' => ∃ T s u, v = .ref T ∧ H T = none ∧ H' = upd H T (.tup [s, u]) ∧ SgAt x i s ∧ ∀ ys, SqL K H b ys → ys[i]? = some u,
    fun i H => ∃ ys : List V, SqL K H b ys ∧ i ≤ x.cps.size ∧ i ≤ ys.length ∧ (i = x.cps.size ∨ i = ys.length)⟩
def AtZL (x : Str) (t1 : Tok) (b z TI TO i1 i2 : Addr) (i : Nat) (h : Heap) : Prop := IsZip h z TI TO .none ∧ IsTupOf2 h TI (.ref i1) (.ref i2) ∧ (∃ a b, IsTupOf2 h TO a b) ∧ h.IsStrIter i1 (strIterType x) x t1 i ∧ h.IsListIter i2 b i
theorem AtZL.olds {x : Str} {t1 : Tok} {q z TI TO i1 i2 : Addr} {i : Nat} {h : Heap} (st : AtZL x t1 q z TI TO i1 i2 i h) : ∀ b ∈ [z, TI, TO, i1, i2], ∃ o, h.get? b = some o ∧ ∀ v, o.data ≠ .cell v := by
  obtain ⟨hz, hI, ⟨a, b, hO⟩, ⟨o1, e1, _, d1⟩, ⟨o2, e2, _, d2⟩⟩ := st
  simp only [List.mem_cons, List.not_mem_nil, or_false, forall_eq_or_imp, forall_eq]
  exact ⟨⟨_, hz, nofun⟩, ⟨_, hI, nofun⟩, ⟨_, hO, nofun⟩, ⟨o1, e1, fun v q => nomatch d1.symm.trans q⟩, ⟨o2, e2, fun v q => nomatch d2.symm.trans q⟩⟩
theorem turn_zipL {P : Program} {w : World} {K : PySem.W.Frag} {elts : List Expr} {kk : Nat} {tpos : Pos} (x : Str) (t1 : Tok) {b z TI TO i1 i2 : Addr} (S : ZipSep2 z TI TO i1 i2 [i1] [i2, b]) (nb : b ≠ i2) :
    Turn P w K (.Tuple elts kk tpos) (ItZL K x b) [z, TI, TO, i1, i2] z (AtZL x t1 b z TI TO i1 i2) where
  mem := .head _
  obj := fun i h st b m => st.olds b m
  keep := fun i h h' st k => by
    obtain ⟨hz, hI, ⟨a, b, hO⟩, ⟨o1, e1, r1⟩, s2⟩ := st
    exact ⟨k z (by simp) _ hz, k TI (by simp) _ hI, ⟨a, b, k TO (by simp) _ hO⟩, ⟨o1, k i1 (by simp) _ e1, r1⟩, s2.at fun o q => k i2 (by simp) o q⟩
  item := by
    rintro X rfl rfl rfl calm i ps t σ H E I fre st ⟨l1, ys, y, hq, hy⟩
    have olds := st.olds
    obtain ⟨hz, hI, ⟨a, b', hO⟩, s1, s2⟩ := st
    have old : z < t.heap.objs.size := Heap.lt_size hz
    obtain ⟨its, rv, p, _⟩ := I.list hq
    obtain ⟨u0, hu0, ru0⟩ := rv.get hy
    have l2 : i < its.toArray.size := by
      have := (List.getElem?_eq_some_iff.mp hu0).1
      simpa using this
    refine wpAny_pyNext_zipD2_item S (Draws.text (prog := X.prog) (w := X.w) (A := X.A.in1) (I.ok.hd calm) i1 x t1) (Draws.list (prog := X.prog) (w := X.w) (A := X.A.in1) (I.ok.hd calm) i2 b nb its.toArray) hz hI hO s1 ⟨s2, p.isList⟩ l1 l2 fun v1 v2 g tk p1 p2 hz' hO' s1' s2' pair _ stay => ?_
    obtain ⟨c1, u1, h1, rfl⟩ := p1
    have e2 : v2 = u0 := by
      have : its[i]? = some v2 := by simpa using p2
      rw [hu0] at this
      exact (Option.some.inj this).symm
    subst e2
    refine ⟨_, rfl, wpAny_letOwnedTupleGo_zip (s := { t with heap := g, toks := tk }) hz' fun g2 hz2 but => ?_⟩
    have pair2 : g2.get? t.heap.objs.size = some { cls := .type "tuple", data := .seq #[.str ⟨#[c1]⟩ u1, v2] } := (but.2 _ (Nat.ne_of_gt old)).trans pair
    have lts : ∀ b ∈ [z, TI, TO, i1, i2], b < t.heap.objs.size := fun b m => let ⟨_, g, _⟩ := olds b m; Heap.lt_size g
    refine ⟨.ref t.heap.objs.size, upd H t.heap.objs.size (.tup [.str ⟨#[c1]⟩, y]), I.turnedNew (ch := [z, TI, TO, i1, i2]) (fun b o nb q => (but.2 b fun e => nb (by simp [e])).trans (stay b o (fun e => nb (by simp [e])) (fun e => nb (by simp [e])) (fun e => nb (by simp [e])) (fun e => nb (by simp [e])) q)) fre (Nat.le_refl _)
        ⟨by show 2 ≤ sizeLine; decide, [.str ⟨#[c1]⟩ u1, v2], .cons ⟨_, rfl⟩ (.cons ru0 .nil), ⟨_, pair2, rfl, _, rfl⟩⟩, rfl, ⟨_, _, _, rfl, I.hok.fresh (Nat.le_refl _), rfl, ⟨c1, h1, rfl⟩, fun zs hz => by rw [I.list_inj hz hq]; exact hy⟩, ⟨hz2, ?_, ⟨_, _, (but.2 _ S.TOz).trans hO'⟩, ?_, ?_⟩, fun b m => ?_⟩
    · exact (but.2 _ S.TIz).trans (stay _ _ S.TIz S.TITO S.TIi1 S.TIi2 hI)
    · obtain ⟨o, ho, r⟩ := s1'
      exact ⟨o, (but.2 _ (Ne.symm S.zi1)).trans ho, r⟩
    · exact s2'.1.at fun o q => (but.2 _ (Ne.symm S.zi2)).trans q
    · exact (upd_ne (Nat.ne_of_lt (lts b m))).trans (fre b m).1
  done := by
    rintro X rfl rfl rfl calm i ps t σ H E I fre st ⟨ys, hq, le1, le2, fin⟩
    obtain ⟨hz, hI, ⟨a, b', hO⟩, s1, s2⟩ := st
    obtain ⟨its, rv, p, _⟩ := I.list hq
    have ln : its.toArray.size = ys.length := by
      have := rv.length
      simp
      omega
    refine wpAny_pyNext_zipD2_end S (Draws.text (prog := X.prog) (w := X.w) (A := X.A.in1) (I.ok.hd calm) i1 x t1) (Draws.list (prog := X.prog) (w := X.w) (A := X.A.in1) (I.ok.hd calm) i2 b nb its.toArray) hz hI hO s1 ⟨s2, p.isList⟩ le1 (by omega) (by omega) fun g tk stay => ?_
    exact ⟨rfl, I.turnedL (t' := tk) (ch := [z, TI, TO, i1, i2]) (fun b o nb q => stay b o (fun e => nb (by simp [e])) (fun e => nb (by simp [e])) (fun e => nb (by simp [e])) (fun e => nb (by simp [e])) q) fre⟩
  self := fun _ _ _ _ _ st h => wpAny_pyIter_zip st.1 h
theorem walk_zipL {K : PySem.W.Frag} {x : Str} {b : Addr} {ys : List V} {n : Nat} (hn : n = min x.cps.size ys.length) : Walk (ItZL K x b) n (fun H => SqL K H b ys) (YPair (fun i => (x.cps[i]?).map fun c => V.str ⟨#[c]⟩) (fun i => ys[i]?)) := by
  subst hn
  refine ⟨fun i _ hi q => ⟨by omega, ys, ys[i]'(by omega), q, List.getElem?_eq_getElem (by omega)⟩, fun _ q => ⟨ys, q, by omega, by omega, by omega⟩, fun i H v H' _ q y => ?_⟩
  obtain ⟨T, s, u, h1, h2, h3, ⟨c, hc, rfl⟩, h5⟩ := y
  exact ⟨T, _, u, h1, h2, h3, by show Option.map _ x.cps[i]? = _; rw [hc]; rfl, h5 ys q⟩
/-- zip of a text and a list or a tuple, whichever it is -/
def ZipOr (K : PySem.W.Frag) (x : Str) (b : Addr) (R : It → Hp → Prop) (H : Hp) : Prop := (∃ ys, SqL K H b ys) ∧ R (ItZL K x b) H ∨ (∃ ys, SqT K H b ys) ∧ R (ItZT K x b) H
def iZipSQ (K : PySem.W.Frag) (ta : TA) : TI := fun σ H R => ta σ H fun vs H1 => ∃ x b, vs = [.str x, .ref b] ∧ ZipOr K x b R H1
theorem pi_zipSQ {X : Cx} {e e2 : Expr} {ta : TA} {p pos tpos : Pos} {elts : List Expr} {kk : Nat} (gl : Gl X "zip") (bi : X.mg "zip" = none) (arg : PA X [e, e2] ta)
    (st : starEach [e, e2] X.env = (false, eval e X.env) :: starEach [e2] X.env := by rfl) (pl : (backTo pos (starEach [e2] X.env)).any (·.1) = false := by rfl) :
    PI X (.Tuple elts kk tpos) (.Call (.Name "zip" p) [e, e2] [] pos) (iZipSQ X.K ta) := by
  refine ⟨fun ps t σ H R I h => Call_ (ld_blt I gl bi PyProof.Rows.boot_zip (PyProof.Rows.callWith_type1 (thn (arg.run pos ps t σ H _ I h) fun us v r => ?_) st pl))⟩
  obtain ⟨vs, G, J, rv, x, b, rfl, r⟩ := r
  cases rv with
  | cons r1 rr =>
    cases rr with
    | cons r2 rr =>
      cases rr
      obtain ⟨t1, rfl⟩ := r1
      cases r2
      have new : ∀ b ∈ [v.heap.objs.size + 4, v.heap.objs.size + 2, v.heap.objs.size + 3, v.heap.objs.size, v.heap.objs.size + 1], FpOk X ps G b := fun b m => by
        have up : v.heap.objs.size ≤ b := by
          simp at m
          omega
        exact J.fpOk up (J.hok.fresh up)
      rcases r with ⟨⟨ys, hq⟩, r⟩ | ⟨⟨ys, hq⟩, r⟩
      · obtain ⟨its, rv, p, _⟩ := J.list hq
        refine zip_begins2 (begins_text x t1) (begins_list b its.toArray) trivial p.isList fun g hz hI hO g1 g2 _ stay => wpAny_pyIter_zip hz ?_
        exact ⟨_, _, _, _, G, rfl, J.kept (t' := v.toks) stay, turn_zipL x t1 (zip_sep2 (fp1 := []) (fp2 := [b]) (fun _ h => nomatch h) (fun c h => by rw [List.mem_singleton.mp h]; exact p.lt)) (Nat.ne_of_lt (Nat.lt_succ_of_lt p.lt)), ⟨hz, hI, ⟨_, _, hO⟩, ⟨_, g1, rfl, rfl⟩, ⟨_, g2, rfl, rfl⟩⟩, new, r⟩
      · obtain ⟨its, rv, p, _⟩ := J.tuple hq
        have pt : v.heap.IsTuple b its.toArray := p
        obtain ⟨o2, ho2, _⟩ := id pt
        refine zip_begins2 (begins_text x t1) (begins_tuple b its.toArray) trivial pt fun g hz hI hO g1 g2 _ stay => wpAny_pyIter_zip hz ?_
        exact ⟨_, _, _, _, G, rfl, J.kept (t' := v.toks) stay, turn_zipT x t1 (zip_sep2 (fp1 := []) (fp2 := [b]) (fun _ h => nomatch h) (fun c h => by rw [List.mem_singleton.mp h]; exact Heap.lt_size ho2)) (Nat.ne_of_lt (Nat.lt_succ_of_lt (Heap.lt_size ho2))), ⟨hz, hI, ⟨_, _, hO⟩, ⟨_, g1, rfl, rfl⟩, ⟨_, g2, rfl, rfl⟩⟩, new, r⟩
/-- a list or a tuple -/
def Sq (K : PySem.W.Frag) (H : Hp) (b : Addr) (ys : List V) : Prop := SqL K H b ys ∨ SqT K H b ys
theorem Sq.same {K : PySem.W.Frag} {H H' : Hp} {b : Addr} {ys : List V} (h : Sq K H b ys) (s : Same H H') : Sq K H' b ys := h.imp (fun z => sm_l s z) (fun z => sm_t s z)
/-- a walk over zip(text, seq), whichever it is -/
theorem Sq.zip {K : PySem.W.Frag} {H : Hp} {b : Addr} {ys : List V} {x : Str} {R : It → Hp → Prop} (h : Sq K H b ys)
    (r : ∀ (J : It) (Gd : Hp → Prop), Walk J (min x.cps.size ys.length) Gd (YPair (fun i => (x.cps[i]?).map fun c => V.str ⟨#[c]⟩) (fun i => ys[i]?)) → (∀ H', Same H H' → Gd H') → R J H) : ZipOr K x b R H := h.elim
  (fun z => .inl ⟨⟨_, z⟩, r _ _ (walk_zipL rfl) fun _ s => sm_l s z⟩) (fun z => .inr ⟨⟨_, z⟩, r _ _ (walk_zipT rfl) fun _ s => sm_t s z⟩)
theorem walk_enumET {K : PySem.W.Frag} {a : Addr} {xs : List V} : Walk (ItET K a) xs.length (fun H => SqT K H a xs) (YPair (fun i => some (.int (i : Nat))) (fun i => xs[i]?)) := by
  refine ⟨fun i _ hi q => ⟨xs, xs[i], q, by simp [hi]⟩, fun _ q => ⟨xs, q, Nat.le_refl _⟩, fun i H v H' _ q y => ?_⟩
  obtain ⟨T, x, h1, h2, h3, h4⟩ := y
  exact ⟨T, .int (i : Nat), x, h1, h2, h3, rfl, h4 xs q⟩
/-- enumerate of a list or a tuple, a walk over one -/
def EnumOr (K : PySem.W.Frag) (b : Addr) (R : It → Hp → Prop) (H : Hp) : Prop := (∃ ys, SqL K H b ys) ∧ R (Ite K b) H ∨ (∃ ys, SqT K H b ys) ∧ R (ItET K b) H
def iEnumQ (K : PySem.W.Frag) (ta : TA) : TI := fun σ H R => ta σ H fun vs H1 => ∃ a, vs = [.ref a] ∧ EnumOr K a R H1
theorem pi_enumQ {X : Cx} {e : Expr} {ta : TA} {p pos tpos : Pos} {elts : List Expr} {kk : Nat} (gl : Gl X "enumerate") (bi : X.mg "enumerate" = none) (arg : PA X [e] ta) (one : starEach [e] X.env = [(false, eval e X.env)] := by rfl) :
    PI X (.Tuple elts kk tpos) (.Call (.Name "enumerate" p) [e] [] pos) (iEnumQ X.K ta) := pi_enumT gl bi arg one
/-- a walk over enumerate(seq) -/
theorem Sq.enum {K : PySem.W.Frag} {H : Hp} {b : Addr} {ys : List V} {R : It → Hp → Prop} (h : Sq K H b ys)
    (r : ∀ (J : It) (Gd : Hp → Prop), Walk J ys.length Gd (YPair (fun i => some (.int (i : Nat))) (fun i => ys[i]?)) → (∀ H', Same H H' → Gd H') → R J H) : EnumOr K b R H := h.elim
  (fun z => .inl ⟨⟨_, z⟩, r _ _ walk_enum fun _ s => sm_l s z⟩) (fun z => .inr ⟨⟨_, z⟩, r _ _ walk_enumET fun _ s => sm_t s z⟩)
end NC
namespace NC
open PySem PySem.Spec PyProof.Rows L2
def rIsBS : R2 := fun x y H Q => ∃ b : Bool, y = .bl b ∧ ((∃ a : Bool, x = .bl a ∧ Q (.bl (decide (a = b))) H) ∨ (∃ z, x = .str z ∧ Q (.bl false) H))
theorem op_isBS {X : Cx} : OpR X (compareOp .Is) rIsBS := by
  intro pins s σ H x y v u Q I rx ry h
  obtain ⟨b, rfl, h⟩ := h
  rcases h with ⟨a, rfl, q⟩ | ⟨z, rfl, q⟩
  · exact op_isBl pins s σ H _ _ v u Q I rx ry ⟨a, b, rfl, rfl, q⟩
  · cases (show u = Value.bool b from ry)
    obtain ⟨t, rfl⟩ := (show ∃ t, v = Value.str z t from rx)
    exact wpAny_is_other rfl (fun z => nomatch z) ⟨.bl false, H, I, rfl, q⟩
end NC
namespace NC
open PySem PySem.Spec PyProof.Rows L2
abbrev sIsFix : Stmt := topS 39
abbrev sStandOn : Stmt := topS 40
abbrev sIsEntry : Stmt := topS 41
abbrev sMayMeet : Stmt := topS 44
abbrev sStood : Stmt := topS 45
abbrev sHforces : Stmt := inClass (topS 29) 4
theorem scHforces : FnScope ["self", "one", "two"] ["self", "one", "two"] (defScope sHforces) := ⟨rfl, rfl, rfl, by decide +kernel, rfl, by decide +kernel, by decide +kernel⟩
structure HPf (K : PySem.W.Frag) (C ff : Addr) (df : FuncData) : Prop where
  mf : Meth K C "forces" ff
  Ff : Fun K "forces" "Hall.forces" sHforces ff df
  bf : Binds K df ["self", "one", "two"] []
theorem scIsFix : FnScope ["entry"] ["entry"] (defScope sIsFix) := ⟨rfl, rfl, rfl, by decide +kernel, rfl, by decide +kernel, by decide +kernel⟩
theorem scStandOn : FnScope ["wall", "small"] ["wall", "small"] (defScope sStandOn) := ⟨rfl, rfl, rfl, by decide +kernel, rfl, by decide +kernel, by decide +kernel⟩
theorem scIsEntry : FnScope ["walls", "wall", "entry"] ["walls", "wall", "entry"] (defScope sIsEntry) := ⟨rfl, rfl, rfl, by decide +kernel, rfl, by decide +kernel, by decide +kernel⟩
theorem scMayMeet : FnScope ["hall", "one", "two"] ["hall", "one", "two"] (defScope sMayMeet) := ⟨rfl, rfl, rfl, by decide +kernel, rfl, by decide +kernel, by decide +kernel⟩
theorem scStood : FnScope ["side", "entry"] ["side", "entry"] (defScope sStood) := ⟨rfl, rfl, rfl, by decide +kernel, rfl, by decide +kernel, by decide +kernel⟩
theorem eq_sg : (Str.ofString "=") = tx [61] := by decide +kernel
theorem starts_eq (e : List Nat) : Txt.startswith (tx e) (Str.ofString "=") = decide (e.head? = some 61) := by
  rw [eq_sg]
  unfold Txt.startswith PySem.Builtin.Str.subAt
  match e with
  | [] => simp [tx]
  | a :: r =>
    have e1 : ((tx (a :: r)).cps.extract 0 (0 + (tx [61]).length)) = #[a] := by
      rw [tx_len]
      simp [tx]
    rw [e1, tx_len, tx_len]
    simp [tx]
    rfl
theorem islo_sg : ∀ c : Nat, c < 128 → Txt.islower (sg c) = decide (97 ≤ c ∧ c ≤ 122) := by
  have h : ∀ c : Fin 128, Txt.islower (sg c.val) = decide (97 ≤ c.val ∧ c.val ≤ 122) := by decide +kernel
  exact fun c hc => h ⟨c, hc⟩
def whoV : Who → V
  | .all => .bl true
  | .no => .bl false
  | .on s => .str (sg s)
section
variable {P : Program} {w : World} {K : PySem.W.Frag} {mg : Str → Option Value} {base : Heap} {C fi fb fm fr fg fw ff : Addr} {di db dm dr dg dw df : FuncData} {f0 : Addr} {d0 : FuncData}
def spHforces (C : Addr) : Sp := fun vs H Q _ => ∃ x dx sb D l ys fo s t, vs = [.ref x, .str (sg s), .str (sg t)] ∧ HallAt C H x dx sb D l ys fo ∧ GoodW l ∧ s ∈ sds l ∧ t ∈ sds l ∧ ∀ H', Same H H' → Q (.bl (decide (t ∈ fo s))) H'
theorem ok_Hforces {fC fS : Addr} {dC dS : FuncData} {k : Nat} (B : BM mg) (Z : HC K mg C fi fb di db) (Y : HP K C fw f0 dw d0) (Yf : HPf K C ff df) (Cs : DF K mg "check_side" sChkSide ["walls", "side"] fC dC) (S : DF K mg "sides_of" sSides ["walls"] fS dS) : FnOk P w K mg base CX0 (k + 3) ff df ["self", "one", "two"] (spHforces C) := by
  have GS := ok_chkSide (P := P) (w := w) (base := base) (k := k) B Cs.F S
  refine Yf.Ff.ok scHforces (fun vs H Q E h => ?_) (fun cdv A outer st H vs Q E hr h => ?_)
  · obtain ⟨x, dx, sb, D, l, ys, fo, s, t, rfl, _⟩ := h
    rfl
  · obtain ⟨x, dx, sb, D, l, ys, fo, s, t, rfl, hA, g, hs, ht, q⟩ := h
    refine ⟨_, pss_cons (ps_expr (pe_call GS hr rfl Cs.g Cs.F.kp Cs.b .nil pass0 (pa_cons (pe_fld (pv 0) rfl) (pa_cons (pv 1) pa_nil))))
      (pss_cons (ps_expr (pe_call GS hr rfl Cs.g Cs.F.kp Cs.b .nil pass0 (pa_cons (pe_fld (pv 0) rfl) (pa_cons (pv 2) pa_nil))))
      (pss_one (ps_ret (pe_cmpR op_in_sign (pv 2) (pe_dget (hu_of hr) (pe_fld (pv 0) rfl) (pv 1) (fun _ _ => rfl)) (by rfl))))), ?_⟩
    refine ⟨_, rfl, x, C, dx, _, .str (tx l), rfl, hA.x, Z.cl, Z.n1, rfl, _, rfl, l, s, rfl, g, hs, fun H1 s1 => ?_⟩
    have hA1 := hA.same s1
    refine ⟨_, rfl, x, C, dx, _, .str (tx l), rfl, hA1.x, Z.cl, Z.n1, rfl, _, rfl, l, t, rfl, g, ht, fun H2 s2 => ?_⟩
    have hA2 := hA1.same s2
    refine ⟨_, rfl, _, rfl, x, C, dx, _, .ref D, rfl, hA2.x, Z.cl, Z.n3, rfl, _, rfl, D, _, rfl, foK_get hA2.D hs, t, tx (fo s), rfl, rfl, ?_⟩
    rw [tx_list]
    exact q H2 (sm_trans s1 s2)
def spIsFix : Sp := fun vs H Q _ => ∃ e, vs = [.str (tx e)] ∧ Q (.bl (decide (e.head? = some 61))) H
theorem ok_isFix {f : Addr} {fd : FuncData} {k : Nat} (F : Fun K "is_fixed" "is_fixed" sIsFix f fd) : FnOk P w K mg base CX0 (k + 1) f fd ["entry"] spIsFix := by
  refine F.ok scIsFix (fun vs H Q E h => ?_) (fun cdv A outer st H vs Q E hr h => ?_)
  · obtain ⟨e, rfl, _⟩ := h
    rfl
  · obtain ⟨e, rfl, q⟩ := h
    refine ⟨_, pss_one (ps_ret (pe_m1 PySem.F.slot_str_startswith PySem.F.type_str_startswith mt_startswith (pv 0) pe_str)), ?_⟩
    refine ⟨_, rfl, ⟨_, rfl⟩, _, _, rfl, rfl, ?_⟩
    rw [starts_eq]
    exact q
def spStandOn : Sp := fun vs H Q _ => ∃ c b, vs = [.str (sg c), .bl b] ∧ c < 128 ∧ Q (.str (tx [61, if b = true then c else swp c])) H
theorem ok_standOn {f fO : Addr} {fd dO : FuncData} {k : Nat} (O : DF K mg "other" sOther ["side"] fO dO) (F : Fun K "stand_on" "stand_on" sStandOn f fd) : FnOk P w K mg base CX0 (k + 2) f fd ["wall", "small"] spStandOn := by
  have GO : FnOk P w K mg base CX0 (k + 1) fO dO ["side"] spOther := ok_other O.F
  refine F.ok scStandOn (fun vs H Q E h => ?_) (fun cdv A outer st H vs Q E hr h => ?_)
  · obtain ⟨c, b, rfl, _⟩ := h
    rfl
  · obtain ⟨c, b, rfl, hc, q⟩ := h
    refine ⟨_, pss_one (ps_ret (pe_ifExp (pt_val (pv 1)) (pe_op op_add_str pe_str (pv 0)) (pe_op op_add_str pe_str (pe_call GO hr rfl O.g O.F.kp O.b .nil pass0 (pa_cons (pv 0) pa_nil))))), ?_⟩
    refine ⟨_, rfl, _, rfl, ?_⟩
    cases b with
    | true =>
      refine iteT ⟨_, rfl, _, _, rfl, rfl, by show 1 + 1 ≤ sizeLine; decide, ?_⟩
      rw [eq_sg, sg_tx, tx_app]
      exact q
    | false =>
      refine iteF ⟨_, rfl, c, rfl, hc, _, _, rfl, rfl, by show 1 + 1 ≤ sizeLine; decide, ?_⟩
      rw [eq_sg, sg_tx, tx_app]
      exact q
def spIsEntry : Sp := fun vs H Q _ => ∃ l c e, vs = [.str (tx l), .str (sg c), .str (tx e)] ∧ GoodW l ∧ c ∈ l ∧ ∀ H' b, Same H H' → (b = true ↔ EntOk l c e) → Q (.bl b) H'
theorem ok_isEntry {f fO fSt fS : Addr} {fd dO dSt dS : FuncData} {k : Nat} (B : BM mg) (O : DF K mg "other" sOther ["side"] fO dO) (St : DF K mg "stand_on" sStandOn ["wall", "small"] fSt dSt) (S : DF K mg "sides_of" sSides ["walls"] fS dS) (F : Fun K "is_entry" "is_entry" sIsEntry f fd) : FnOk P w K mg base CX0 (k + 3) f fd ["walls", "wall", "entry"] spIsEntry := by
  have GT : FnOk P w K mg base CX0 (k + 2) fSt dSt ["wall", "small"] spStandOn := ok_standOn O St.F
  have GS : FnOk P w K mg base CX0 (k + 1) fS dS ["walls"] spSides := ok_sides B S.F
  refine F.ok scIsEntry (fun vs H Q E h => ?_) (fun cdv A outer st H vs Q E hr h => ?_)
  · obtain ⟨l, c, e, rfl, _⟩ := h
    rfl
  · obtain ⟨l, c, e, rfl, g, hc, q⟩ := h
    have c1 : c < 128 := g.asc c hc
    refine ⟨_, pss_one (ps_ret (pe_or (pe_cmpR op_in_seq (pv 2) (pe_tup (pa_cons (pe_call GT (hr.mono (by omega)) rfl St.g St.F.kp St.b .nil pass0 (pa_cons (pv 1) (pa_cons pe_bl pa_nil))) (pa_cons (pe_call GT (hr.mono (by omega)) rfl St.g St.F.kp St.b .nil pass0 (pa_cons (pv 1) (pa_cons pe_bl pa_nil))) pa_nil))) (by rfl))
      (pe_one (pe_cmpR op_in_seq (pv 2) (pe_call GS (hr.mono (by omega)) rfl S.g S.F.kp S.b .nil pass0 (pa_cons (pv 0) pa_nil)) (by rfl))))), ?_⟩
    refine ⟨_, rfl, _, rfl, c, true, rfl, c1, _, rfl, c, false, rfl, c1, by show 2 ≤ sizeLine; decide, fun T nT => ?_⟩
    have s1 : Same H (upd H T (.tup [.str (tx [61, c]), .str (tx [61, swp c])])) := same_upd nT
    refine ⟨T, _, rfl, .inr (SqT.of upd_same), rfl, rfl, ?_⟩
    have e2 : inV (.str (tx e)) [.str (tx [61, c]), .str (tx [61, swp c])] = decide (e = [61, c] ∨ e = [61, swp c]) := by
      rw [show [V.str (tx [61, c]), V.str (tx [61, swp c])] = [tx [61, c], tx [61, swp c]].map V.str from rfl, inV_str]
      refine decide_eq_decide.mpr ?_
      rw [List.mem_cons, List.mem_singleton]
      exact ⟨fun z => z.imp tx_inj tx_inj, fun z => z.imp (fun y => by rw [y]) (fun y => by rw [y])⟩
    refine ⟨decide (e = [61, c] ∨ e = [61, swp c]), congrArg V.bl e2, ite2 (fun t => q _ _ s1 ⟨fun _ => (of_decide_eq_true t).imp id .inl, fun _ => rfl⟩) (fun t => ?_)⟩
    have t2 : ¬ (e = [61, c] ∨ e = [61, swp c]) := of_decide_eq_false (by simpa using t)
    refine ⟨_, rfl, _, rfl, l, rfl, g.asc, by have := g.hi; omega, fun p np => ⟨p, _, rfl, .inl (SqL.of upd_same), rfl, flat_str _, ?_⟩⟩
    refine q _ (inV (.str (tx e)) (((sds l).map sg).map V.str)) (sm_upd s1 np) ?_
    rw [inV_str, decide_eq_true_eq, List.mem_map]
    constructor
    · rintro ⟨s, hs, es⟩
      exact .inr (.inr ⟨s, hs, (tx_inj es).symm⟩)
    · rintro (z | z | ⟨s, hs, rfl⟩)
      · exact absurd (.inl z) t2
      · exact absurd (.inr z) t2
      · exact ⟨s, hs, rfl⟩
def spStood : Sp := fun vs H Q _ => ∃ s e, vs = [.str (sg s), .str (tx e)] ∧ isLt s ∧ ((∃ t, e = [61, t]) ∨ ∃ t, e = [t] ∧ isLt t) ∧ Q (whoV (whoE s e)) H
theorem ok_stood {f fI fO : Addr} {fd dI dO : FuncData} {k : Nat} (O : DF K mg "other" sOther ["side"] fO dO) (I : DF K mg "is_fixed" sIsFix ["entry"] fI dI) (F : Fun K "stood_ahead" "stood_ahead" sStood f fd) : FnOk P w K mg base CX0 (k + 2) f fd ["side", "entry"] spStood := by
  have GO : FnOk P w K mg base CX0 (k + 1) fO dO ["side"] spOther := ok_other O.F
  have GI : FnOk P w K mg base CX0 (k + 1) fI dI ["entry"] spIsFix := ok_isFix I.F
  refine F.ok scStood (fun vs H Q E h => ?_) (fun cdv A outer st H vs Q E hr h => ?_)
  · obtain ⟨s, e, rfl, _⟩ := h
    rfl
  · obtain ⟨s, e, rfl, hs, he, q⟩ := h
    refine ⟨_, pss_cons (ps_if (pt_val (pe_call GI hr rfl I.g I.F.kp I.b .nil pass0 (pa_cons (pv 1) pa_nil))) (pss_one (ps_ret (pe_cmpR op_eq (pe_ix ix_str (pv 1) pe_int (fun _ _ => rfl)) (pv 0) (nomark _)))) pss_nil)
      (pss_one (ps_ret (pe_ifExp (pt_val (pe_m0 PySem.F.slot_str_islower PySem.F.type_str_islower mt_islower (pv 0))) (pv 1) (pe_call GO hr rfl O.g O.F.kp O.b .nil pass0 (pa_cons (pv 1) pa_nil))))), ?_⟩
    refine ⟨_, rfl, e, rfl, ?_⟩
    rcases he with ⟨t, rfl⟩ | ⟨t, rfl, ht⟩
    · refine ⟨_, rfl, iteT ⟨_, rfl, _, _, t, rfl, rfl, by show 2 ≤ sizeLine; decide, rfl, _, rfl, ?_⟩⟩
      have e1 : (V.bl (decide (V.str ⟨#[t]⟩ = V.str (sg s)))) = whoV (whoE s [61, t]) := by
        show V.bl (decide (V.str (sg t) = V.str (sg s))) = whoV (if t = s then .all else .no)
        by_cases z : t = s
        · rw [z, if_pos rfl, decide_eq_true rfl]; rfl
        · rw [if_neg z, decide_eq_false fun y => z (sg_inj (V.str.inj y))]; rfl
      refine ⟨rfl, ?_⟩
      rw [e1]
      exact q
    · have n61 : t ≠ 61 := fun z => by unfold isLt at ht; omega
      refine ⟨_, rfl, ?_⟩
      rw [show decide (([t] : List Nat).head? = some 61) = false from decide_eq_false fun z => n61 (Option.some.inj z)]
      refine iteF ⟨_, rfl, ⟨_, rfl⟩, _, rfl, rfl, trivial, _, rfl, ?_⟩
      rw [islo_sg s hs.asc]
      by_cases z : 97 ≤ s ∧ s ≤ 122
      · rw [decide_eq_true z]
        refine iteT ⟨_, rfl, ?_⟩
        have e1 : V.str (tx [t]) = whoV (whoE s [t]) := by show _ = V.str (sg (if 97 ≤ s ∧ s ≤ 122 then t else swp t)); rw [if_pos z]; rfl
        rw [e1]
        exact q
      · rw [decide_eq_false z]
        refine iteF ⟨_, rfl, t, rfl, ht.asc, ?_⟩
        have e1 : V.str (sg (swp t)) = whoV (whoE s [t]) := by show _ = V.str (sg (if 97 ≤ s ∧ s ≤ 122 then t else swp t)); rw [if_neg z]
        rw [e1]
        exact q
def spMayMeet (C : Addr) : Sp := fun vs H Q _ => ∃ x dx sb D l ys fo a b, vs = [.ref x, whoV a, whoV b] ∧ HallAt C H x dx sb D l ys fo ∧ GoodW l ∧ a.sd l ∧ b.sd l ∧ ∀ H', Same H H' → Q (.bl (meets fo a b)) H'
theorem ok_mayMeet {f fO fC fS : Addr} {fd dO dC dS : FuncData} {k : Nat} (B : BM mg) (Z : HC K mg C fi fb di db) (Y : HP K C fw f0 dw d0) (Yf : HPf K C ff df) (Cs : DF K mg "check_side" sChkSide ["walls", "side"] fC dC) (S : DF K mg "sides_of" sSides ["walls"] fS dS) (O : DF K mg "other" sOther ["side"] fO dO) (F : Fun K "may_meet" "may_meet" sMayMeet f fd) : FnOk P w K mg base CX0 (k + 4) f fd ["hall", "one", "two"] (spMayMeet C) := by
  have GF : FnOk P w K mg base CX0 (k + 3) ff df ["self", "one", "two"] (spHforces C) := ok_Hforces B Z Y Yf Cs S
  have GO : FnOk P w K mg base CX0 (k + 1) fO dO ["side"] spOther := ok_other O.F
  refine F.ok scMayMeet (fun vs H Q E h => ?_) (fun cdv A outer st H vs Q E hr h => ?_)
  · obtain ⟨x, dx, sb, D, l, ys, fo, a, b, rfl, _⟩ := h
    rfl
  · obtain ⟨x, dx, sb, D, l, ys, fo, a, b, rfl, hA, g, ha, hb, q⟩ := h
    refine ⟨_, pss_cons (ps_if (PW.pt (pw_or (pt_cmpR op_isBS (pv 1) pe_bl (by rfl)) (pw_or1 (pt_cmpR op_isBS (pv 2) pe_bl (by rfl))))) (pss_one (ps_ret pe_bl)) pss_nil)
      (pss_cons (ps_if (PW.pt (pw_or (pt_cmpR op_isBS (pv 1) pe_bl (by rfl)) (pw_or1 (pt_cmpR op_isBS (pv 2) pe_bl (by rfl))))) (pss_one (ps_ret pe_bl)) pss_nil)
      (pss_one (ps_ret (pe_not (pe_meth (pv 0) Z.cl Yf.mf GF hr Yf.bf .nil pass0 (pa_cons (pv 1) (pa_cons (pe_call GO (hr.mono (by omega)) rfl O.g O.F.kp O.b .nil pass0 (pa_cons (pv 2) pa_nil)) pa_nil))))))), ?_⟩
    have fin2 : (a = .no ∨ b = .no) → Q (.bl (meets fo a b)) H → Q (.bl false) H := fun h z => by
      have : meets fo a b = false := by
        rcases h with rfl | rfl
        · rfl
        · cases a <;> rfl
      rw [this] at z
      exact z
    cases a with
    | no => exact ⟨_, rfl, false, rfl, .inl ⟨false, rfl, _, rfl, iteT (fin2 (.inl rfl) (q H (L2.Same.refl _)))⟩⟩
    | all =>
      cases b with
      | no => exact ⟨_, rfl, false, rfl, .inl ⟨true, rfl, _, rfl, iteF ⟨_, rfl, false, rfl, .inl ⟨false, rfl, _, rfl, iteT (fin2 (.inr rfl) (q H (L2.Same.refl _)))⟩⟩⟩⟩
      | all => exact ⟨_, rfl, false, rfl, .inl ⟨true, rfl, _, rfl, iteF ⟨_, rfl, false, rfl, .inl ⟨true, rfl, _, rfl, iteF ⟨_, rfl, true, rfl, .inl ⟨true, rfl, _, rfl, iteT (q H (L2.Same.refl _))⟩⟩⟩⟩⟩⟩
      | on t => exact ⟨_, rfl, false, rfl, .inl ⟨true, rfl, _, rfl, iteF ⟨_, rfl, false, rfl, .inr ⟨_, rfl, _, rfl, iteF ⟨_, rfl, true, rfl, .inl ⟨true, rfl, _, rfl, iteT (q H (L2.Same.refl _))⟩⟩⟩⟩⟩⟩
    | on s =>
      cases b with
      | no => exact ⟨_, rfl, false, rfl, .inr ⟨_, rfl, _, rfl, iteF ⟨_, rfl, false, rfl, .inl ⟨false, rfl, _, rfl, iteT (fin2 (.inr rfl) (q H (L2.Same.refl _)))⟩⟩⟩⟩
      | all => exact ⟨_, rfl, false, rfl, .inr ⟨_, rfl, _, rfl, iteF ⟨_, rfl, false, rfl, .inl ⟨true, rfl, _, rfl, iteF ⟨_, rfl, true, rfl, .inr ⟨_, rfl, _, rfl, iteF ⟨_, rfl, true, rfl, .inl ⟨true, rfl, _, rfl, iteT (q H (L2.Same.refl _))⟩⟩⟩⟩⟩⟩⟩⟩
      | on t =>
        have hs : s ∈ sds l := ha
        have ht : t ∈ sds l := hb
        refine ⟨_, rfl, false, rfl, .inr ⟨_, rfl, _, rfl, iteF ⟨_, rfl, false, rfl, .inr ⟨_, rfl, _, rfl, iteF ⟨_, rfl, true, rfl, .inr ⟨_, rfl, _, rfl, iteF ⟨_, rfl, true, rfl, .inr ⟨_, rfl, _, rfl, iteF ?_⟩⟩⟩⟩⟩⟩⟩⟩
        exact ⟨_, rfl, x, dx, _, rfl, hA.x, rfl, _, rfl, _, rfl, t, rfl, sds_asc g ht, x, dx, sb, D, l, ys, fo, s, swp t, rfl, hA, g, hs, sds_swp g ht, fun H1 s1 => ⟨_, rfl, q H1 s1⟩⟩
end
end NC
namespace NC
open PySem PySem.Spec PyProof.Rows L2
abbrev sLeads : Stmt := topS 46
abbrev nLeads : List Str := ["hall", "entries", "entry_of", "bar", "one", "two", "wall", "entry"]
theorem scLeads : FnScope nLeads ["hall", "entries"] (defScope sLeads) := ⟨rfl, rfl, rfl, by decide +kernel, rfl, by decide +kernel, by decide +kernel⟩
theorem low_sg1 {c : Nat} (h : c < 128) : Txt.lower (sg c) = sg (lwc c) := lower_tx (l := [c]) fun d hd => by rw [List.mem_singleton.mp hd]; exact h
theorem sd_wall {l : List Nat} (g : GoodW l) {s : Nat} (hs : s ∈ sds l) : lwc s ∈ l := by
  rcases sds_shape g hs with z | z
  · rw [show lwc s = s by unfold lwc; rw [if_neg (by omega)]]; exact z.2.2
  · rw [show lwc s = s + 32 by unfold lwc; rw [if_pos (by omega)]]; exact z.2.2
theorem EntOk.two {l : List Nat} (g : GoodW l) {c : Nat} {e : List Nat} (h : EntOk l c e) : (∃ t, e = [61, t]) ∨ ∃ t, e = [t] ∧ isLt t := by
  rcases h with q | q | ⟨t, ht, q⟩
  · exact .inl ⟨_, q⟩
  · exact .inl ⟨_, q⟩
  · exact .inr ⟨t, q, sds_lt g ht⟩
section
variable {P : Program} {w : World} {K : PySem.W.Frag} {mg : Str → Option Value} {base : Heap} {C fi fb fm fr fg fw ff : Addr} {di db dm dr dg dw df : FuncData} {f0 : Addr} {d0 : FuncData}
def spLeads (K : PySem.W.Frag) (C : Addr) : Sp := fun vs H Q _ => ∃ x dx sb D l ys fo a, ∃ (bs es : List (List Nat)), vs = [.ref x, .ref a] ∧ HallAt C H x dx sb D l ys fo ∧ GoodW l ∧ (∀ b ∈ bs, isBar l b = true) ∧ ys.Perm (bs.map tx) ∧ Sq K H a ((es.map tx).map V.str) ∧ EntsOk l es ∧
  ∀ H' b, Same H H' → (b = true ↔ ∀ x y, [x, y] ∈ bs → meets fo (whoE x (ent l es (lwc x))) (whoE y (ent l es (lwc y))) = false) → Q (.bl b) H'
set_option maxHeartbeats 1000000 in
theorem ok_leads {f fO fC fS fI fSt fM : Addr} {fd dO dC dS dI dSt dM : FuncData} {k : Nat} (B : BM mg) (hz : mg "zip" = none) (Z : HC K mg C fi fb di db) (Y : HP K C fw f0 dw d0) (Yf : HPf K C ff df) (Cs : DF K mg "check_side" sChkSide ["walls", "side"] fC dC) (S : DF K mg "sides_of" sSides ["walls"] fS dS) (O : DF K mg "other" sOther ["side"] fO dO)
    (I : DF K mg "is_fixed" sIsFix ["entry"] fI dI) (St : DF K mg "stood_ahead" sStood ["side", "entry"] fSt dSt) (Mm : DF K mg "may_meet" sMayMeet ["hall", "one", "two"] fM dM) (F : Fun K "leads_to_rooms" "leads_to_rooms" sLeads f fd) : FnOk P w K mg base CX0 (k + 5) f fd ["hall", "entries"] (spLeads K C) := by
  have GW : FnOk P w K mg base CX0 (k + 1) fw dw ["self"] (spHwalls C) := ok_Hwalls Z Y
  have GB : FnOk P w K mg base CX0 (k + 1) fb db ["self"] (spHbars C) := ok_Hbars B Z
  have GS : FnOk P w K mg base CX0 (k + 2) fSt dSt ["side", "entry"] spStood := ok_stood O I St.F
  have GM : FnOk P w K mg base CX0 (k + 4) fM dM ["hall", "one", "two"] (spMayMeet C) := ok_mayMeet B Z Y Yf Cs S O Mm.F
  refine F.ok scLeads (fun vs H Q E h => ?_) (fun cdv A outer st H vs Q E hr h => ?_)
  · obtain ⟨x, dx, sb, D, l, ys, fo, a, bs, es, rfl, _⟩ := h
    rfl
  · obtain ⟨x, dx, sb, D, l, ys, fo, a, bs, es, rfl, hA, g, hb, hp, hS, he, q⟩ := h
    have nd := scLeads.nd
    have r1 : Room (k + 1) _ := hr.mono (by omega)
    have r2 : Room (k + 2) _ := hr.mono (by omega)
    have hl12 := g.hi
    refine ⟨_, pss_cons (ps_setDc (i := 2) (own := [("wall", 6), ("entry", 7)]) (g := gTup K 2 (gCons (gName 6) (gCons (gName 7) gNil))) (tt := tYes) rfl nd rfl rfl (sw_dict rfl rfl rfl (by decide +kernel)) (pi_zipSQ (by rfl) hz (pa_cons (pe_meth0 (pv 0) Z.cl Y.mw GW r1 Y.bw .nil pass0) (pa_cons (pv 1) pa_nil)))
        (blkOk_by (N := nLeads) (sc := defScope sLeads) (by decide +kernel)) (fun _ _ _ _ _ => pg_tup rfl (pgs_cons (pg_name (i := 6) nd rfl (Or.inl rfl)) (pgs_cons (pg_name (i := 7) nd rfl (Or.inl rfl)) pgs_nil))) (fun _ _ _ _ _ => pts_nil) (fun _ _ _ _ _ => pv 6) (fun _ _ _ _ _ => pv 7))
      (pss_cons (ps_for PassesOwn.never rfl (pi_list (pe_meth0 (pv 0) Z.cl Z.mb GB r1 Z.bb .nil pass0)) (pg_name (i := 3) nd rfl (Or.inl rfl))
        (pss_cons (ps_set (i := 4) nd rfl (.inl rfl) (pe_call GS r2 rfl St.g St.F.kp St.b .nil pass0 (pa_cons (pe_ix ix_str (pv 3) pe_int (fun _ _ => rfl)) (pa_cons (pe_dget (hu_of hr) (pv 2) (pe_lower (pe_ix ix_str (pv 3) pe_int (fun _ _ => rfl))) (fun _ _ => rfl)) pa_nil))))
        (pss_cons (ps_set (i := 5) nd rfl (.inl rfl) (pe_call GS r2 rfl St.g St.F.kp St.b .nil pass0 (pa_cons (pe_ix ix_str (pv 3) pe_int (fun _ _ => rfl)) (pa_cons (pe_dget (hu_of hr) (pv 2) (pe_lower (pe_ix ix_str (pv 3) pe_int (fun _ _ => rfl))) (fun _ _ => rfl)) pa_nil))))
        (pss_one (ps_if (pt_val (pe_call GM hr rfl Mm.g Mm.F.kp Mm.b .nil pass0 (pa_cons (pv 0) (pa_cons (pv 4) (pa_cons (pv 5) pa_nil))))) (pss_one (ps_ret pe_bl)) pss_nil)))))
      (pss_one (ps_ret pe_bl))), ?_⟩
    refine ⟨_, rfl, x, dx, _, rfl, hA.x, rfl, x, dx, sb, D, l, ys, fo, rfl, hA, _, rfl, _, _, rfl, ?_⟩
    refine hS.zip (x := tx l) fun J Gd wk sm0 => ?_
    intro D2 nD2
    have l1 : (tx l).cps.size = l.length := tx_len _
    have l2 : ((es.map tx).map V.str).length = l.length := by rw [List.length_map, List.length_map, he.len]
    rw [l1, l2, Nat.min_self] at wk
    refine dc_it wk (fun i H' => Same H H' ∧ H' D2 = some (.dK (foK (l.take i) (ent l es)))) ⟨same_upd nD2, upd_same⟩ (fun i H' _ h => sm0 _ h.1) ?_ ?_
    · rintro i v H1 H2 hi ⟨s1, e1⟩ ⟨T, v1, v2, rfl, nT, rfl, hc, hu⟩
      have hc' : ∃ c, l[i]? = some c ∧ v1 = .str (sg c) := by
        have hc : Option.map _ (tx l).cps[i]? = some v1 := hc
        obtain ⟨c, h1, h2⟩ := Option.map_eq_some_iff.mp hc
        rw [← Array.getElem?_toList, tx_list] at h1
        exact ⟨c, h1, h2.symm⟩
      obtain ⟨c, h1, rfl⟩ := hc'
      have hu : ((es.map tx).map V.str)[i]? = some v2 := hu
      rw [List.getElem?_map, List.getElem?_map] at hu
      obtain ⟨z, hz', rfl⟩ := Option.map_eq_some_iff.mp hu
      obtain ⟨e, h2, rfl⟩ := Option.map_eq_some_iff.mp hz'
      have eE : ent l es c = e := ent_at g.nd h1 h2
      have nDT : D2 ≠ T := ne_of_none e1 nT
      have hnc : c ∉ l.take i := fun hm => by
        obtain ⟨j, hj⟩ := List.getElem?_of_mem hm
        have hji : j < i := by
          have := (List.getElem?_eq_some_iff.mp hj).1
          rw [List.length_take] at this
          omega
        rw [List.getElem?_take_of_lt hji] at hj
        exact absurd ((List.getElem?_inj (List.getElem?_eq_some_iff.mp hj).1 g.nd).mp (hj.trans h1.symm)) (Nat.ne_of_lt hji)
      refine ⟨T, _, rfl, SqT.of upd_same, rfl, _, _, rfl, _, _, rfl, rfl, rfl, yes_i ⟨_, rfl, _, rfl, foK (l.take i) (ent l es), Sum.inr (sg c), rfl, ?_, ?_, ?_, ?_⟩⟩
      · rw [upd_ne nDT]; exact e1
      · unfold foK; rw [List.length_map, List.length_take, sizeLine_eq]; omega
      · exact sm_over (sm_upd s1 nT) nD2
      · rw [upd_same, putK_new _ (foK_no hnc), List.take_add_one, h1, ← eE]
        unfold foK
        rw [List.map_append]
        rfl
    · rintro H1 ⟨s1, e1⟩
      rw [List.take_length] at e1
      have hA1 := hA.same s1
      refine ⟨_, rfl, x, dx, _, rfl, hA1.x, rfl, x, dx, sb, D, l, ys, fo, rfl, hA1, fun p np => ⟨p, rfl, ⟨_, SqL.of upd_same⟩, ?_⟩⟩
      have s2 : Same H (upd H1 p (.lst (ys.map V.str))) := sm_upd s1 np
      have e2 : (upd H1 p (.lst (ys.map V.str))) D2 = some (.dK (foK l (ent l es))) := by rw [upd_ne (ne_of_none e1 np)]; exact e1
      have ep : (upd H1 p (.lst (ys.map V.str))) p = some (.lst (ys.map V.str)) := upd_same
      generalize (upd H1 p (.lst (ys.map V.str))) = H2 at s2 e2 ep ⊢
      have wk2 := walk_list (K := K) (a := p) (xs := ys.map V.str)
      rw [List.length_map] at wk2
      refine for_it wk2 (fun i σ H' => ∃ (y3 y4 y5 : Option V), σ = [some (.ref x), some (.ref a), some (.ref D2), y3, y4, y5, none, none] ∧ Same H2 H' ∧ ∀ j x y, j < i → ys[j]? = some (tx [x, y]) → meets fo (whoE x (ent l es (lwc x))) (whoE y (ent l es (lwc y))) = false)
        ⟨_, _, _, rfl, L2.Same.refl _, fun _ _ _ h => absurd h (Nat.not_lt_zero _)⟩ (fun i σ H' _ h => by obtain ⟨_, _, _, _, s, _⟩ := h; exact SqL.of (s _ _ ep)) ?_ ?_
      · rintro i v σ H3 H4 hi ⟨y3, y4, y5, rfl, s3, all⟩ ⟨rfl, hv⟩
        rw [List.getElem?_map] at hv
        obtain ⟨z, hz', rfl⟩ := Option.map_eq_some_iff.mp hv
        obtain ⟨b, hbm, rfl⟩ := List.mem_map.mp (hp.mem_iff.mp (List.mem_of_getElem? hz'))
        obtain ⟨u, t, rfl, hu, ht, lt⟩ := bar_two (hb b hbm)
        have hA3 := (hA.same s2).same s3
        have e3 := s3 _ _ e2
        have us := sds_asc g hu
        have tas := sds_asc g ht
        have b2 : (tx [u, t]).length ≤ sizeLine := by show 2 ≤ sizeLine; decide
        refine ⟨_, rfl, _, _, u, rfl, rfl, b2, rfl, ?_⟩
        have wu := sd_wall g hu
        have wt := sd_wall g ht
        refine ⟨_, rfl, _, rfl, _, _, u, rfl, rfl, b2, rfl, ⟨_, rfl⟩, _, rfl, rfl, by show 1 ≤ 5592405; decide, ?_⟩
        rw [show Txt.lower ⟨#[u]⟩ = sg (lwc u) from low_sg1 us]
        refine ⟨D2, _, rfl, foK_get e3 wu, u, _, rfl, sds_lt g hu, (he.ent g.nd wu).two g, ?_⟩
        refine ⟨_, rfl, _, _, t, rfl, rfl, b2, rfl, _, rfl, _, rfl, _, _, t, rfl, rfl, b2, rfl, ⟨_, rfl⟩, _, rfl, rfl, by show 1 ≤ 5592405; decide, ?_⟩
        rw [show Txt.lower ⟨#[t]⟩ = sg (lwc t) from low_sg1 tas]
        refine ⟨D2, _, rfl, foK_get e3 wt, t, _, rfl, sds_lt g ht, (he.ent g.nd wt).two g, ?_⟩
        refine ⟨_, rfl, _, rfl, _, rfl, x, dx, sb, D, l, ys, fo, _, _, rfl, hA3, g, who_sd g hb he hu, who_sd g hb he ht, fun H5 s5 => ⟨_, rfl, ite2 (fun m => ?_) (fun m => ?_)⟩⟩
        · refine q H5 false (sm_trans (sm_trans s2 s3) s5) ⟨fun z => (by cases z), fun z => ?_⟩
          rw [z u t hbm] at m
          cases m
        · refine ⟨_, _, _, rfl, sm_trans s3 s5, fun j x' y' hj hxy => ?_⟩
          rcases Nat.lt_or_eq_of_le (Nat.le_of_lt_succ hj) with h1 | rfl
          · exact all j x' y' h1 hxy
          · rw [hz'] at hxy
            have e5 := tx_inj (Option.some.inj hxy)
            obtain ⟨rfl, rfl⟩ : u = x' ∧ t = y' := by simpa using e5
            simpa using m
      · rintro σ H3 ⟨y3, y4, y5, rfl, s3, all⟩
        refine q H3 true (sm_trans s2 s3) ⟨fun _ x y hxy => ?_, fun _ => rfl⟩
        obtain ⟨j, hj⟩ := List.getElem?_of_mem (hp.mem_iff.mpr (List.mem_map.mpr ⟨_, hxy, rfl⟩))
        exact all j x y (List.getElem?_eq_some_iff.mp hj).1 hj
end
end NC
namespace NC
open PySem PySem.Spec PyProof.Rows L2
abbrev sBTinit : Stmt := inClass (topS 11) 0
abbrev sChkEnt : Stmt := topS 47
abbrev sTabI : Stmt := inClass (topS 48) 0
abbrev sTabE : Stmt := inClass (topS 48) 2
abbrev nChkEnt : List Str := ["hall", "entries", "walls", "at", "entry"]
theorem scBTab : FnScope ["self", "at"] ["self", "at"] (defScope sBTinit) := ⟨rfl, rfl, rfl, by decide +kernel, rfl, by decide +kernel, by decide +kernel⟩
theorem scChkEnt : FnScope nChkEnt ["hall", "entries"] (defScope sChkEnt) := ⟨rfl, rfl, rfl, by decide +kernel, rfl, by decide +kernel, by decide +kernel⟩
theorem scTabI : FnScope ["self", "hall", "entries"] ["self", "hall", "entries"] (defScope sTabI) := ⟨rfl, rfl, rfl, by decide +kernel, rfl, by decide +kernel, by decide +kernel⟩
theorem scTabE : FnScope ["self"] ["self"] (defScope sTabE) := ⟨rfl, rfl, rfl, by decide +kernel, rfl, by decide +kernel, by decide +kernel⟩
instance (l : List Nat) (c : Nat) (e : List Nat) : Decidable (EntOk l c e) := by unfold EntOk; infer_instance
/-- the first entry that is none -/
def firstBadE (l : List Nat) (es : List (List Nat)) : Option Nat := (List.range l.length).find? fun k => !decide (EntOk l (l.getD k 0) (es.getD k []))
def leadsB (l : List Nat) (bs es : List (List Nat)) : Bool := (rms l bs).all fun r => decide (gone l es r ∈ rms l bs)
/-- what is told of entries: nothing, or a place -/
def dueT (l : List Nat) (bs es : List (List Nat)) : Option Int := if es.length ≠ l.length then some (-1) else match firstBadE l es with
  | some k => some (k : Int)
  | none => if leadsB l bs es = true then none else some (-1)
theorem getD_at1 {α : Type} {l : List α} {i : Nat} {x d : α} (h : l[i]? = some x) : l.getD i d = x := by rw [List.getD_eq_getElem?_getD, h]; rfl
theorem fbe_some {l : List Nat} {es : List (List Nat)} {k w : Nat} {e : List Nat} (h1 : l[k]? = some w) (h2 : es[k]? = some e) (no : ¬ EntOk l w e) (ok : ∀ j w e, j < k → l[j]? = some w → es[j]? = some e → EntOk l w e) (hl : es.length = l.length) : firstBadE l es = some k := by
  have kl := (List.getElem?_eq_some_iff.mp h1).1
  unfold firstBadE
  refine find_at (i := k) (by rw [List.getElem?_range kl]) (fun j t hj ht => ?_) (by rw [getD_at1 h1, getD_at1 h2]; simp [no])
  have jl : j < l.length := by omega
  rw [List.getElem?_range jl] at ht
  cases ht
  have e1 : l[j]? = some l[j] := List.getElem?_eq_getElem jl
  have e2 : es[j]? = some (es[j]'(by omega)) := List.getElem?_eq_getElem _
  rw [getD_at1 e1, getD_at1 e2]
  simp [ok j _ _ hj e1 e2]
theorem fbe_none {l : List Nat} {es : List (List Nat)} (h : EntsOk l es) : firstBadE l es = none := by
  unfold firstBadE
  refine find_no fun j t hj ht => ?_
  rw [List.length_range] at hj
  rw [List.getElem?_range hj] at ht
  cases ht
  have e1 : l[j]? = some l[j] := List.getElem?_eq_getElem hj
  have e2 : es[j]? = some (es[j]'(by rw [h.len]; exact hj)) := List.getElem?_eq_getElem _
  rw [getD_at1 e1, getD_at1 e2]
  simp [h.ok j _ _ e1 e2]
theorem leadsB_iff {l : List Nat} {bs es : List (List Nat)} : leadsB l bs es = true ↔ ∀ r ∈ rms l bs, gone l es r ∈ rms l bs := by
  unfold leadsB
  rw [List.all_eq_true]
  exact ⟨fun h r hr => of_decide_eq_true (h r hr), fun h r hr => decide_eq_true (h r hr)⟩
section
variable {P : Program} {w : World} {K : PySem.W.Frag} {mg : Str → Option Value} {base : Heap} {C fi fb fm fr fg fw ff : Addr} {di db dm dr dg dw df : FuncData} {f0 : Addr} {d0 : FuncData}
theorem ok_BTab {CH fH f : Addr} {fd fdH : FuncData} {k : Nat} (T : HE K mg CH fH fdH) (F : Fun K "__init__" "BadTable.__init__" sBTinit f fd) : FnOk P w K mg base CX0 (k + 2) f fd ["self", "at"] (sp1 K "at" "badtable") := by
  have GH : FnOk P w K mg base CX0 (k + 1) fH fdH ["self", "word"] (spHE K) := ok_HE T
  obtain ⟨mc, rd, fc⟩ := T.rd
  refine F.ok scBTab (fun vs H Q E h => ?_) (fun cdv A outer s H vs Q E hr h => ?_)
  · obtain ⟨a, C, v, rfl, _⟩ := h
    rfl
  · obtain ⟨a, C, v, rfl, hO, hw, hf, ha, q⟩ := h
    refine ⟨_, pss_cons (ps_expr (pe_clsfn (by rfl) T.gC rd fc GH hr T.F.kp T.b .nil pass0 (pa_cons (pv 0) (pa_cons pe_str pa_nil)))) (pss_one (ps_ost (pv 0) (pv 1))), ?_⟩
    refine ⟨_, rfl, a, C, _, rfl, hO, hw, ha, fun dx n ne => ?_⟩
    refine ⟨_, rfl, _, rfl, a, C, rfl, hO, hf, .inr ⟨dx, _, upd_same, by rw [upd_ne ne, upd_same], by show 1 ≤ 900; decide, q dx _ n ne (fun b h1 h2 => ?_) ?_ ?_⟩⟩
    · rw [upd_ne h1, upd_ne h2, upd_ne h1]
    · rw [upd_ne (Ne.symm ne), upd_same]
    · rw [upd_same]
/-- what the making of a table asks in the text -/
structure TB_ (K : PySem.W.Frag) (mg : Str → Option Value) (fFx fSo fIe fMm fSt fLd fCe : Addr) (dFx dSo dIe dMm dSt dLd dCe : FuncData) : Prop where
  fx : DF K mg "is_fixed" sIsFix ["entry"] fFx dFx
  so : DF K mg "stand_on" sStandOn ["wall", "small"] fSo dSo
  ie : DF K mg "is_entry" sIsEntry ["walls", "wall", "entry"] fIe dIe
  mm : DF K mg "may_meet" sMayMeet ["hall", "one", "two"] fMm dMm
  st : DF K mg "stood_ahead" sStood ["side", "entry"] fSt dSt
  ld : DF K mg "leads_to_rooms" sLeads ["hall", "entries"] fLd dLd
  ce : DF K mg "check_entries" sChkEnt ["hall", "entries"] fCe dCe
  mz : mg "zip" = none
variable {fFx fSo fIe fMm fSt fLd fCe fC fS fO CT iT CH fH : Addr} {dFx dSo dIe dMm dSt dLd dCe dC dS dO eT fdH : FuncData}
def spChkEnt (K : PySem.W.Frag) (C CT : Addr) : Sp := fun vs H Q E => ∃ x dx sb D l ys fo a, ∃ (bs es : List (List Nat)), vs = [.ref x, .ref a] ∧ HallF C H x dx sb D l ys fo bs ∧ rms l bs ≠ [] ∧ Sq K H a ((es.map tx).map V.str) ∧ es.length ≤ 100 ∧
  match dueT l bs es with
  | none => ∀ H', Same H H' → Q .non H'
  | some i => ∀ H' d, Same H H' → H d = none → H' d = some (.xd [("at", .int i), ("word", .str "badtable")]) → E (.ref CT) (some d) H'
set_option maxHeartbeats 1000000 in
theorem ok_chkEnt {k : Nat} (B : BM mg) (Z : HC K mg C fi fb di db) (Y : HP K C fw f0 dw d0) (Yf : HPf K C ff df) (Cs : DF K mg "check_side" sChkSide ["walls", "side"] fC dC) (S : DF K mg "sides_of" sSides ["walls"] fS dS) (O : DF K mg "other" sOther ["side"] fO dO)
    (Tb : TB_ K mg fFx fSo fIe fMm fSt fLd fCe dFx dSo dIe dMm dSt dLd dCe) (T : HE K mg CH fH fdH) (X : XC K mg "BadTable" "BadTable.__init__" sBTinit "at" CT iT eT) : FnOk P w K mg base (L2.CX P w) (k + 6) fCe dCe ["hall", "entries"] (spChkEnt K C CT) := by
  have GW : FnOk P w K mg base CX0 (k + 1) fw dw ["self"] (spHwalls C) := ok_Hwalls Z Y
  have GI : FnOk P w K mg base CX0 (k + 3) fIe dIe ["walls", "wall", "entry"] spIsEntry := ok_isEntry B O Tb.so S Tb.ie.F
  have GL : FnOk P w K mg base CX0 (k + 5) fLd dLd ["hall", "entries"] (spLeads K C) := ok_leads B Tb.mz Z Y Yf Cs S O Tb.fx Tb.st Tb.mm Tb.ld.F
  have GB : FnOk P w K mg base CX0 (k + 2) iT eT ["self", "at"] (sp1 K "at" "badtable") := ok_BTab T X.F
  refine Tb.ce.F.okX scChkEnt (fun vs H Q E h => ?_) (fun cdv A outer st H vs Q E hr h => ?_)
  · obtain ⟨x, dx, sb, D, l, ys, fo, a, bs, es, rfl, _⟩ := h
    rfl
  · obtain ⟨x, dx, sb, D, l, ys, fo, a, bs, es, rfl, hF, ne, hS, hel, q⟩ := h
    have nd := scChkEnt.nd
    have r1 : Room (k + 1) _ := hr.mono (by omega)
    have r2 : Room (k + 2) _ := hr.mono (by omega)
    have r3 : Room (k + 3) _ := hr.mono (by omega)
    have g := hF.G.g
    have hl12 := g.hi
    have hA := hF.G.hA
    refine ⟨_, pss_cons (ps_set (i := 2) nd rfl (.inl rfl) (pe_meth0 (pv 0) Z.cl Y.mw GW r1 Y.bw .nil pass0))
      (pss_cons (ps_if (pt_cmpR op_ne (pe_callB call_len_seq (by rfl) B.len PySem.boot_len (pa_cons (pv 1) pa_nil)) (pe_callB call_len_str (by rfl) B.len PySem.boot_len (pa_cons (pv 2) pa_nil)) (nomark _))
        (pss_one (ps_raise rfl (takes_of rfl rfl rfl rfl) (pmk_oex X.O X.iC X.tI GB r3 X.b .nil pass0 (by rfl) X.gC (pa_cons (pe_un un_neg pe_int) pa_nil)))) pss_nil)
      (pss_cons (ps_for (passes_of rfl) rfl (pi_enumQ (by rfl) B.enumerate (pa_cons (pv 1) pa_nil)) (pg_tup rfl (pgs_cons (pg_name (i := 3) nd rfl (.inl rfl)) (pgs_cons (pg_name (i := 4) nd rfl (.inl rfl)) pgs_nil)))
        (pss_one (ps_if (pt_not (pt_val (pe_call GI r3 rfl Tb.ie.g Tb.ie.F.kp Tb.ie.b .nil pass0 (pa_cons (pv 2) (pa_cons (pe_ix ix_str (pv 2) (pv 3) (fun _ _ => rfl)) (pa_cons (pv 4) pa_nil))))))
          (pss_one (ps_raise rfl (takes_of rfl rfl rfl rfl) (pmk_oex X.O X.iC X.tI GB r3 X.b .nil pass0 (by rfl) X.gC (pa_cons (pv 3) pa_nil)))) pss_nil)))
      (pss_one (ps_if (pt_not (pt_val (pe_call GL hr rfl Tb.ld.g Tb.ld.F.kp Tb.ld.b .nil pass0 (pa_cons (pv 0) (pa_cons (pv 1) pa_nil)))))
        (pss_one (ps_raise rfl (takes_of rfl rfl rfl rfl) (pmk_oex X.O X.iC X.tI GB r3 X.b .nil pass0 (by rfl) X.gC (pa_cons (pe_un un_neg pe_int) pa_nil)))) pss_nil)))), ?_⟩
    refine ⟨_, rfl, x, dx, _, rfl, hA.x, rfl, x, dx, sb, D, l, ys, fo, rfl, hA, ?_⟩
    have hls : (tx l).length ≤ sizeLine := by rw [tx_len, sizeLine_eq]; omega
    have ll : ((es.map tx).map V.str).length = es.length := by rw [List.length_map, List.length_map]
    refine ⟨_, rfl, a, _, rfl, hS, _, rfl, _, rfl, hls, rfl, _, rfl, ite2 (fun t => ?_) (fun t => ?_)⟩
    · have hn : es.length ≠ l.length := fun z => by
        rw [ll, tx_len, z, decide_eq_true rfl] at t
        cases t
      unfold dueT at q
      rw [if_pos hn] at q
      refine ⟨_, rfl, by show 1 ≤ 1000; decide, mk1 X.O X.hw X.hf fun d H4 s4 n4 e4 => ?_⟩
      exact q H4 d s4 n4 e4
    · have hn : es.length = l.length := by
        rw [ll, tx_len] at t
        have t2 : decide (V.int (es.length : Nat) = V.int (l.length : Nat)) = true := by simpa using t
        have := V.int.inj (of_decide_eq_true t2)
        omega
      unfold dueT at q
      rw [if_neg (fun z => z hn)] at q
      refine ⟨_, rfl, a, rfl, hS.enum fun J Gd wk sm0 => ?_⟩
      rw [ll] at wk
      refine for_it wk (fun i σ H' => ∃ (y3 y4 : Option V), σ = [some (.ref x), some (.ref a), some (.str (tx l)), y3, y4] ∧ Same H H' ∧ ∀ j w e, j < i → l[j]? = some w → es[j]? = some e → EntOk l w e)
        ⟨_, _, rfl, L2.Same.refl _, fun _ _ _ h => absurd h (Nat.not_lt_zero _)⟩ (fun i σ H' _ h => by obtain ⟨_, _, _, s, _⟩ := h; exact sm0 _ s) ?_ ?_
      · rintro i v σ H1 H2 hi ⟨y3, y4, rfl, s1, all⟩ ⟨T, v1, v2, rfl, nT, rfl, e1, hu⟩
        obtain rfl : V.int (i : Nat) = v1 := Option.some.inj e1
        have hu : ((es.map tx).map V.str)[i]? = some v2 := hu
        rw [List.getElem?_map, List.getElem?_map] at hu
        obtain ⟨z, hz', rfl⟩ := Option.map_eq_some_iff.mp hu
        obtain ⟨e, h2, rfl⟩ := Option.map_eq_some_iff.mp hz'
        have il : i < l.length := by omega
        have h1 : l[i]? = some l[i] := List.getElem?_eq_getElem il
        have sT : Same H (upd H1 T (.tup [.int (i : Nat), .str (tx e)])) := sm_upd s1 nT
        have ha1 : (tx l).cps[i]? = some l[i] := by rw [← Array.getElem?_toList, tx_list]; exact h1
        refine ⟨T, _, rfl, SqT.of upd_same, rfl, _, _, rfl, _, _, rfl, rfl, ?_⟩
        refine ⟨_, rfl, _, rfl, _, rfl, ?_⟩
        refine ⟨tx l, _, l[i], rfl, rfl, hls, by rw [tx_list]; exact atI_nat h1, _, rfl, l, l[i], e, rfl, g, List.getElem_mem il, fun H3 b s3 hb => ⟨_, rfl, ite2 (fun t1 => ?_) (fun t1 => ?_)⟩⟩
        · have no : ¬ EntOk l l[i] e := fun z => by
            rw [hb.mpr z] at t1
            cases t1
          rw [fbe_some h1 h2 no (fun j w e' hj a1 a2 => all j w e' hj a1 a2) hn] at q
          refine ⟨_, rfl, by show 1 ≤ 1000; decide, mk1 X.O X.hw X.hf fun d H4 s4 n4 e4 => ?_⟩
          exact q H4 d (sm_trans (sm_trans sT s3) s4) (L2.Same.free (sm_trans sT s3) n4) e4
        · have yes : EntOk l l[i] e := hb.mp (by simpa using t1)
          refine ⟨_, _, rfl, sm_trans sT s3, fun j w e' hj a1 a2 => ?_⟩
          rcases Nat.lt_or_eq_of_le (Nat.le_of_lt_succ hj) with z | rfl
          · exact all j w e' z a1 a2
          · rw [h1] at a1
            rw [h2] at a2
            cases a1
            cases a2
            exact yes
      · rintro σ H1 ⟨y3, y4, rfl, s1, all⟩
        have he : EntsOk l es := ⟨hn, fun j w e a1 a2 => all j w e (by rw [hn]; exact (List.getElem?_eq_some_iff.mp a1).1) a1 a2⟩
        rw [fbe_none he] at q
        refine ⟨_, rfl, _, rfl, x, dx, sb, D, l, ys, fo, a, bs, es, rfl, hA.same s1, g, hF.G.bar, hF.G.perm, hS.same s1, he, fun H3 b s3 hb => ⟨_, rfl, ite2 (fun t1 => ?_) (fun t1 => ?_)⟩⟩
        · have no : ¬ leadsB l bs es = true := fun z => by
            rw [hb.mpr ((leads_iff g hF.G.bar hF.hf hF.G.ok ne he).mpr (leadsB_iff.mp z))] at t1
            cases t1
          rw [show leadsB l bs es = false by simpa using no] at q
          refine ⟨_, rfl, by show 1 ≤ 1000; decide, mk1 X.O X.hw X.hf fun d H4 s4 n4 e4 => ?_⟩
          exact q H4 d (sm_trans (sm_trans s1 s3) s4) (L2.Same.free (sm_trans s1 s3) n4) e4
        · have yes : leadsB l bs es = true := leadsB_iff.mpr ((leads_iff g hF.G.bar hF.hf hF.G.ok ne he).mp (hb.mp (by simpa using t1)))
          rw [yes] at q
          exact q H3 (sm_trans s1 s3)
/-- a table at t of the hall at x -/
structure TabAt (K : PySem.W.Frag) (CB : Addr) (H : Hp) (t dt x tp : Addr) (es : List (List Nat)) : Prop where
  t : H t = some (.ins CB dt [("place", .ref x), ("entry_texts", .ref tp)])
  e : SqT K H tp ((es.map tx).map V.str)
theorem TabAt.same {CB : Addr} {H H' : Hp} {t dt x tp : Addr} {es : List (List Nat)} (h : TabAt K CB H t dt x tp es) (s : Same H H') : TabAt K CB H' t dt x tp es := ⟨s _ _ h.t, sm_t s h.e⟩
/-- the class Table -/
structure TC (K : PySem.W.Frag) (mg : Str → Option Value) (CB fI fE : Addr) (dI dE : FuncData) : Prop where
  gC : mg "Table" = some (.ref CB)
  cl : Cls K CB
  mks : Mk K CB fI
  n1 : NoAttr K CB "place"
  n2 : NoAttr K CB "entry_texts"
  I : Fun K "__init__" "Table.__init__" sTabI fI dI
  bI : Binds K dI ["self", "hall", "entries"] []
  mE : Meth K CB "entries" fE
  E : Fun K "entries" "Table.entries" sTabE fE dE
  bE : Binds K dE ["self"] []
variable {CB fI fE : Addr} {dI dE : FuncData}
def spTabI (K : PySem.W.Frag) (CB C CT : Addr) : Sp := fun vs H Q E => ∃ t dt x dx sb D l ys fo a, ∃ (bs es : List (List Nat)), vs = [.ref t, .ref x, .ref a] ∧ H t = some (.ins CB dt []) ∧ HallF C H x dx sb D l ys fo bs ∧ rms l bs ≠ [] ∧ Sq K H a ((es.map tx).map V.str) ∧ es.length ≤ 100 ∧
  match dueT l bs es with
  | none => (SqL K H a ((es.map tx).map V.str) ∧ ∀ H' tp, SmX t H H' → TabAt K CB H' t dt x tp es → H' tp = some (.tup ((es.map tx).map V.str)) → Q .non H') ∨ (SqT K H a ((es.map tx).map V.str) ∧ ∀ H', SmX t H H' → TabAt K CB H' t dt x a es → Q .non H')
  | some i => ∀ H' d, Same H H' → H d = none → H' d = some (.xd [("at", .int i), ("word", .str "badtable")]) → E (.ref CT) (some d) H'
set_option maxHeartbeats 1000000 in
theorem ok_tabI {k : Nat} (B : BM mg) (Z : HC K mg C fi fb di db) (Y : HP K C fw f0 dw d0) (Yf : HPf K C ff df) (Cs : DF K mg "check_side" sChkSide ["walls", "side"] fC dC) (S : DF K mg "sides_of" sSides ["walls"] fS dS) (O : DF K mg "other" sOther ["side"] fO dO)
    (Tb : TB_ K mg fFx fSo fIe fMm fSt fLd fCe dFx dSo dIe dMm dSt dLd dCe) (T : HE K mg CH fH fdH) (X : XC K mg "BadTable" "BadTable.__init__" sBTinit "at" CT iT eT) (G : TC K mg CB fI fE dI dE) : FnOk P w K mg base (L2.CX P w) (k + 7) fI dI ["self", "hall", "entries"] (spTabI K CB C CT) := by
  have GE : FnOk P w K mg base (L2.CX P w) (k + 6) fCe dCe ["hall", "entries"] (spChkEnt K C CT) := ok_chkEnt B Z Y Yf Cs S O Tb T X
  refine G.I.okX scTabI (fun vs H Q E h => ?_) (fun cdv A outer st H vs Q E hr h => ?_)
  · obtain ⟨t, dt, x, dx, sb, D, l, ys, fo, a, bs, es, rfl, _⟩ := h
    rfl
  · obtain ⟨t, dt, x, dx, sb, D, l, ys, fo, a, bs, es, rfl, ht, hF, ne, hS, hel, q⟩ := h
    refine ⟨_, pss_cons (ps_expr (pe_call (E := E) GE hr rfl Tb.ce.g Tb.ce.F.kp Tb.ce.b .nil (passes_call (takes_of rfl rfl rfl rfl) (fun _ _ _ _ h => h)) (pa_cons (pv 1) (pa_cons (pv 2) pa_nil))))
      (pss_cons (ps_fld (pv 0) (pv 1) rfl) (pss_one (ps_fld (pv 0) (pe_callTy call_tuple_of (by rfl) B.tuple (by decide +kernel) (pa_cons (pv 2) pa_nil)) rfl))), ?_⟩
    refine ⟨_, rfl, _, rfl, x, dx, sb, D, l, ys, fo, a, bs, es, rfl, hF, ne, hS, hel, ?_⟩
    cases hd : dueT l bs es with
    | some i =>
      rw [hd] at q
      exact fun H' d sm n e => q H' d sm n e
    | none =>
      rw [hd] at q
      intro H1 s1
      have ht1 := s1 _ _ ht
      refine ⟨_, rfl, _, rfl, t, CB, dt, _, rfl, ht1, G.cl, G.n1, by decide, ?_⟩
      have keepT : ∀ {p : Addr} {xs : List V} {o : HO}, SqT K H1 p xs → SqT K (upd H1 t o) p xs := fun {p xs o} z => by
        rcases z with (z | ⟨ob, z⟩) | z
        · exact .inl (.inl (by rw [upd_ne (ne_of z ht1 fun e => by cases e)]; exact z))
        · exact .inl (.inr ⟨ob, by rw [upd_ne (ne_of z ht1 fun e => by cases e)]; exact z⟩)
        · exact .inr z
      have keepL : ∀ {p : Addr} {xs : List V} {o : HO}, SqL K H1 p xs → SqL K (upd H1 t o) p xs := fun {p xs o} z => by
        rcases z with (z | ⟨ob, z⟩) | z
        · exact .inl (.inl (by rw [upd_ne (ne_of z ht1 fun e => by cases e)]; exact z))
        · exact .inl (.inr ⟨ob, by rw [upd_ne (ne_of z ht1 fun e => by cases e)]; exact z⟩)
        · exact .inr z
      have upd2 : ∀ o o' : HO, upd (upd H1 t o) t o' = upd H1 t o' := fun o o' => by
        funext b
        by_cases e : b = t
        · rw [e, upd_same, upd_same]
        · rw [upd_ne e, upd_ne e, upd_ne e]
      refine ⟨_, rfl, ?_⟩
      rcases q with ⟨hS, qL⟩ | ⟨hS, qT⟩
      · refine ⟨a, _, rfl, .inl ⟨keepL (sm_l s1 hS), fun p np => ?_⟩⟩
        have npt : t ≠ p := ne_of_none upd_same np
        have np1 : H1 p = none := by
          rw [upd_ne (Ne.symm npt)] at np
          exact np
        refine ⟨_, rfl, t, CB, dt, _, rfl, by rw [upd_ne npt, upd_same], G.cl, G.n2, by show 1 < 1000; decide, ?_⟩
        refine qL _ p (fun b o hb e => ?_) ⟨upd_same, SqT.of (by rw [upd_ne (Ne.symm npt), upd_same])⟩ (by rw [upd_ne (Ne.symm npt), upd_same])
        have e1 := s1 _ _ e
        rw [upd_ne hb, upd_ne (ne_of_none e1 np1), upd_ne hb]
        exact e1
      · refine ⟨a, _, rfl, .inr ⟨keepT (sm_t s1 hS), ?_⟩⟩
        refine ⟨_, rfl, t, CB, dt, _, rfl, upd_same, G.cl, G.n2, by show 1 < 1000; decide, ?_⟩
        refine qT _ (fun b o hb e => ?_) ⟨upd_same, by rw [upd2]; exact keepT (sm_t s1 hS)⟩
        have e1 := s1 _ _ e
        rw [upd_ne hb, upd_ne hb]
        exact e1
def spTabE (K : PySem.W.Frag) (CB : Addr) : Sp := fun vs H Q _ => ∃ t dt x tp es, vs = [.ref t] ∧ TabAt K CB H t dt x tp es ∧ Q (.ref tp) H
theorem ok_tabE {k : Nat} (G : TC K mg CB fI fE dI dE) : FnOk P w K mg base CX0 (k + 1) fE dE ["self"] (spTabE K CB) := by
  refine G.E.ok scTabE (fun vs H Q E h => ?_) (fun cdv A outer st H vs Q E hr h => ?_)
  · obtain ⟨t, dt, x, tp, es, rfl, _⟩ := h
    rfl
  · obtain ⟨t, dt, x, tp, es, rfl, hT, q⟩ := h
    refine ⟨_, pss_one (ps_ret (pe_fld (pv 0) rfl)), ?_⟩
    exact ⟨_, rfl, t, CB, dt, _, .ref tp, rfl, hT.t, G.cl, G.n2, rfl, q⟩
end
end NC
namespace NC
open PySem PySem.Spec PyProof.Rows L2
abbrev sOfCall : Stmt := topS 49
abbrev nOfCall : List Str := ["hall", "part", "written", "wall"]
theorem scOfCall : FnScope nOfCall ["hall", "part"] (defScope sOfCall) := ⟨rfl, rfl, rfl, by decide +kernel, rfl, by decide +kernel, by decide +kernel⟩
theorem passE0 {X : Cx} : Passes (L2.CX X.prog X.w) X E0 := fun _ _ _ _ _ _ _ h => by
  obtain ⟨_, _, _, _, _, _, _, _, _, _, _, _, z⟩ := h
  exact z.elim
theorem same_made {H H' : Hp} {t dt : Addr} {CB : Addr} (nt : H t = none) (nd : H dt = none) (ne : t ≠ dt) (s : SmX t (upd (upd H dt (.own t)) t (.ins CB dt [])) H') : Same H H' := fun b o hb =>
  s b o (ne_of_none hb nt) (by rw [upd_ne (ne_of_none hb nt), upd_ne (ne_of_none hb nd)]; exact hb)
theorem lower_mem {l W : List Nat} (g : GoodW l) {c : Nat} (hc : c ∈ l) : c ∈ (byWT l W).map lwc ↔ (c ∈ byWT l W ∨ swp c ∈ byWT l W) := by
  have sm := g.sm c hc
  rw [List.mem_map]
  constructor
  · rintro ⟨y, hy, e⟩
    have ys := sds_lt g ((byWT_mem g).mp hy).1
    have : y = c ∨ y = swp c := by
      rw [swp_small sm]
      unfold lwc at e
      unfold isLt at ys
      split at e <;> omega
    rcases this with rfl | rfl
    · exact .inl hy
    · exact .inr hy
  · rintro (z | z)
    · exact ⟨c, z, by unfold lwc; rw [if_neg (by omega)]⟩
    · exact ⟨_, z, by rw [swp_small sm]; unfold lwc; rw [if_pos (by omega)]; omega⟩
theorem due_none {l : List Nat} {bs es : List (List Nat)} (he : EntsOk l es) (h : ∀ r ∈ rms l bs, gone l es r ∈ rms l bs) : dueT l bs es = none := by
  unfold dueT
  rw [if_neg (show ¬ (es.length ≠ l.length) from fun z => z he.len), fbe_none he, leadsB_iff.mpr h]
  rfl
section
variable {P : Program} {w : World} {K : PySem.W.Frag} {mg : Str → Option Value} {base : Heap} {C fi fb fm fr fg fw ff : Addr} {di db dm dr dg dw df : FuncData} {f0 : Addr} {d0 : FuncData}
variable {fFx fSo fIe fMm fSt fLd fCe fC fS fO fBy CT iT CH fH CB fI fE : Addr} {dFx dSo dIe dMm dSt dLd dCe dC dS dO dBy eT fdH dI dE : FuncData}
/-- what is told of a table that is made -/
def TabN (K : PySem.W.Frag) (CB x : Addr) (es : List (List Nat)) (H : Hp) (Q : VK) : Prop := ∀ H' t dt tp, Same H H' → H t = none → TabAt K CB H' t dt x tp es → H' tp = some (.tup ((es.map tx).map V.str)) → Q (.ref t) H'
def spOfCall (K : PySem.W.Frag) (CB C : Addr) : Sp := fun vs H Q _ => ∃ x dx sb D l ys fo bs P z, vs = [.ref x, .str (tx P)] ∧ HallF C H x dx sb D l ys fo bs ∧ Part l P ∧ z ∈ rms l bs ∧ (∀ s ∈ P, s ∈ z) ∧ TabN K CB x (l.map (callE (byWT l (allFo fo P)))) H Q
/-- all that the making of tables asks in the text -/
structure MK (K : PySem.W.Frag) (mg : Str → Option Value) (C fi fb fw f0 ff : Addr) (di db dw d0 df : FuncData) (fC fS fO : Addr) (dC dS dO : FuncData) (fFx fSo fIe fMm fSt fLd fCe : Addr) (dFx dSo dIe dMm dSt dLd dCe : FuncData) (CH fH CT iT : Addr) (fdH eT : FuncData) (CB fI fE : Addr) (dI dE : FuncData) : Prop where
  B : BM mg
  Z : HC K mg C fi fb di db
  Y : HP K C fw f0 dw d0
  Yf : HPf K C ff df
  Cs : DF K mg "check_side" sChkSide ["walls", "side"] fC dC
  S : DF K mg "sides_of" sSides ["walls"] fS dS
  O : DF K mg "other" sOther ["side"] fO dO
  Tb : TB_ K mg fFx fSo fIe fMm fSt fLd fCe dFx dSo dIe dMm dSt dLd dCe
  T : HE K mg CH fH fdH
  X : XC K mg "BadTable" "BadTable.__init__" sBTinit "at" CT iT eT
  G : TC K mg CB fI fE dI dE
section
variable (M : MK K mg C fi fb fw f0 ff di db dw d0 df fC fS fO dC dS dO fFx fSo fIe fMm fSt fLd fCe dFx dSo dIe dMm dSt dLd dCe CH fH CT iT fdH eT CB fI fE dI dE)
include M
theorem ok_tabM {k : Nat} : FnOk P w K mg base (L2.CX P w) (k + 7) fI dI ["self", "hall", "entries"] (spTabI K CB C CT) := ok_tabI M.B M.Z M.Y M.Yf M.Cs M.S M.O M.Tb M.T M.X M.G
/-- a table made of entries that are let by -/
theorem tab_new {H : Hp} {x dx sb D a : Addr} {l : List Nat} {ys : List Str} {fo : Nat → List Nat} {bs es : List (List Nat)} {Q : VK} (hF : HallF C H x dx sb D l ys fo bs) (ne : rms l bs ≠ []) (hS : H a = some (.lst ((es.map tx).map V.str)) ∨ H a = some (.tup ((es.map tx).map V.str))) (he : EntsOk l es) (hg : ∀ r ∈ rms l bs, gone l es r ∈ rms l bs) (q : TabN K CB x es H Q) :
    ∀ t dt, H t = none → H dt = none → dt ≠ t → spTabI K CB C CT (.ref t :: ([.ref x, .ref a] ++ [])) (upd (upd H dt (.own t)) t (.ins CB dt [])) (fun u H' => u = .non ∧ Q (.ref t) H') E0 := fun t dt nt nd ne' => by
  have s8 : Same H (upd (upd H dt (.own t)) t (.ins CB dt [])) := sm_upd (same_upd nd) (by rw [upd_ne (Ne.symm ne')]; exact nt)
  have hl := hF.G.g.hi
  have ll : es.length = l.length := he.len
  rcases hS with hS | hS
  · refine ⟨t, dt, x, dx, sb, D, l, ys, fo, a, bs, es, rfl, upd_same, hF.same s8, ne, .inl (SqL.of (s8 _ _ hS)), by omega, ?_⟩
    rw [due_none he hg]
    refine .inl ⟨SqL.of (s8 _ _ hS), fun H' tp sx hT htp => ?_⟩
    have sH := same_made nt nd (Ne.symm ne') sx
    exact ⟨rfl, q H' t dt tp sH nt hT htp⟩
  · refine ⟨t, dt, x, dx, sb, D, l, ys, fo, a, bs, es, rfl, upd_same, hF.same s8, ne, .inr (SqT.of (s8 _ _ hS)), by omega, ?_⟩
    rw [due_none he hg]
    refine .inr ⟨SqT.of (s8 _ _ hS), fun H' sx hT => ?_⟩
    have sH := same_made nt nd (Ne.symm ne') sx
    exact ⟨rfl, q H' t dt a sH nt hT (sH _ _ hS)⟩
theorem ok_ofCall {f fBy fIsP fChP fAFB fTo fSh : Addr} {fd dBy dIsP dChP dAFB dTo dSh : FuncData} {k : Nat} (By : DF K mg "by_walls" sByWalls ["walls", "sides"] fBy dBy) (T : PT K mg C fw f0 dw d0 fIsP fChP fAFB fTo dIsP dChP dAFB dTo) (Sh : DF K mg "shut" sShut ["hall", "part"] fSh dSh) (F : Fun K "of_call" "of_call" sOfCall f fd) : FnOk P w K mg base CX0 (k + 9) f fd ["hall", "part"] (spOfCall K CB C) := by
  have GI : FnOk P w K mg base (L2.CX P w) (k + 7) fI dI ["self", "hall", "entries"] (spTabI K CB C CT) := ok_tabM M
  have GS : FnOk P w K mg base CX0 (k + 6) fSh dSh ["hall", "part"] (spShut C) := ok_shut M.B M.Z T M.Cs M.S M.O By Sh.F
  have GW : FnOk P w K mg base CX0 (k + 1) fw dw ["self"] (spHwalls C) := ok_Hwalls M.Z M.Y
  have GT : FnOk P w K mg base CX0 (k + 2) fSo dSo ["wall", "small"] spStandOn := ok_standOn M.O M.Tb.so.F
  refine F.ok scOfCall (fun vs H Q E h => ?_) (fun cdv A outer st H vs Q E hr h => ?_)
  · obtain ⟨x, dx, sb, D, l, ys, fo, bs, p, z, rfl, _⟩ := h
    rfl
  · obtain ⟨x, dx, sb, D, l, ys, fo, bs, p, z, rfl, hF, hP, hz, hin, q⟩ := h
    have nd := scOfCall.nd
    have g := hF.G.g
    have hl := g.hi
    refine ⟨_, pss_cons (ps_set (i := 2) nd rfl (.inr rfl) (pe_call GS (hr.mono (by omega)) rfl Sh.g Sh.F.kp Sh.b .nil pass0 (pa_cons (pv 0) (pa_cons (pv 1) pa_nil))))
      (pss_one (ps_ret (pe_make (E := E0) M.G.mks GI hr rfl M.G.gC M.G.bI .nil passE0 (pa_cons (pv 0) (pa_cons
        (pe_lc (own := [("wall", 3)]) (g := gName 3) (tt := tYes) (te := tIf (tTest (tOp rSgn2 (tVar 3) (tM0 (fun x xs H Q => ∃ a, x = .str a ∧ xs = [] ∧ a.length ≤ 5592405 ∧ Q (.str (Txt.lower a)) H) (tVar 2)))) (tCall spStandOn [] E0 (tCons (tVar 3) (tCons (tOp rSgn2 (tVar 3) (tVar 2)) tNil))) (tVar 3)) rfl nd (pi_str (pe_meth0 (pv 0) M.Z.cl M.Y.mw GW (hr.mono (by omega)) M.Y.bw .nil pass0)) (blkOk_by (N := nOfCall) (sc := defScope sOfCall) (by decide +kernel)) (fun _ _ _ _ _ => pg_name (i := 3) nd rfl (Or.inl rfl)) (fun _ _ _ _ _ => pts_nil)
          (fun _ _ _ _ _ => pe_ifExp (pt_cmpR op_in_sign (pv 3) (pe_lower (pv 2)) (by rfl)) (pe_call GT (hr.mono (by omega)) rfl M.Tb.so.g M.Tb.so.F.kp M.Tb.so.b .nil pass0 (pa_cons (pv 3) (pa_cons (pe_cmpR op_in_sign (pv 3) (pv 2) (by rfl)) pa_nil))) (pv 3))) pa_nil))))), ?_⟩
    refine ⟨_, rfl, _, rfl, x, dx, sb, D, l, ys, fo, bs, p, z, rfl, hF, hP, hz, hin, fun H1 s1 => ?_⟩
    have hF1 := hF.same s1
    have hA1 := hF1.G.hA
    have bl := byWT_len l (allFo fo p)
    have ba : ∀ c ∈ byWT l (allFo fo p), c < 128 := fun c hc => sds_asc g ((byWT_mem g).mp hc).1
    have ml : ∀ c ∈ l, (c ∈ (byWT l (allFo fo p)).map lwc ↔ (c ∈ byWT l (allFo fo p) ∨ swp c ∈ byWT l (allFo fo p))) := fun c hc => lower_mem g hc
    have he := call_ok g (byWT l (allFo fo p))
    have hgo : ∀ r ∈ rms l bs, gone l (l.map (callE (byWT l (allFo fo p)))) r ∈ rms l bs := fun r hr => by
      rw [gone_call g hF.G.bar hF.hf hP.sd hz hin hr]
      exact (wov_room g hF.G.bar hF.hf hP.sd hz hin hr).1
    have ne : rms l bs ≠ [] := List.ne_nil_of_mem hz
    generalize byWT l (allFo fo p) = W at *
    refine ⟨_, rfl, _, rfl, x, dx, _, rfl, hA1.x, rfl, x, dx, sb, D, l, ys, fo, rfl, hA1, tx l, rfl, fun Da na => ?_⟩
    have lz : (tx l).cps.size = l.length := tx_len _
    have wk := walk_str (z := tx l)
    rw [lz] at wk
    refine lc_it wk (fun i H' => Same H1 H' ∧ H' Da = some (.lst ((((l.take i).map (callE W)).map tx).map V.str))) ⟨same_upd na, upd_same⟩ (fun _ _ _ _ => trivial) ?_ ?_
    · rintro i v H2 H3 hi ⟨s2, e2⟩ ⟨rfl, c, hc, rfl⟩
      have hc : l[i]? = some c := by
        rw [← Array.getElem?_toList, tx_list] at hc
        exact hc
      have cl := List.mem_of_getElem? hc
      have ca : c < 128 := g.asc c cl
      have et : (l.take (i + 1)).map (callE W) = (l.take i).map (callE W) ++ [callE W c] := by
        rw [List.take_add_one, hc, List.map_append]
        rfl
      have sz : ((((l.take i).map (callE W)).map tx).map V.str).length < sizeLine := by
        rw [List.length_map, List.length_map, List.length_map, List.length_take, sizeLine_eq]
        omega
      refine ⟨rfl, yes_i ⟨_, rfl, _, rfl, ⟨_, rfl⟩, _, rfl, rfl, by show W.toArray.size ≤ 5592405; rw [List.size_toArray]; omega, c, _, rfl, rfl, _, rfl, ?_⟩⟩
      rw [lower_tx ba, tx_list]
      refine ite2 (fun t => ?_) (fun t => ?_)
      · have t1 := (ml c cl).mp (of_decide_eq_true t)
        refine ⟨_, rfl, _, rfl, _, rfl, c, tx W, rfl, rfl, c, _, rfl, ca, _, e2, sz, sm_over s2 na, ?_⟩
        rw [upd_same, et, tx_list]
        have ce : callE W c = [61, if c ∈ W then c else swp c] := by unfold callE; rw [if_pos t1]
        rw [ce]
        simp
      · have t1 : ¬ (c ∈ W ∨ swp c ∈ W) := fun y => t (decide_eq_true ((ml c cl).mpr y))
        refine ⟨_, rfl, _, e2, sz, sm_over s2 na, ?_⟩
        rw [upd_same, et]
        have ce : callE W c = [c] := by unfold callE; rw [if_neg t1]
        rw [ce]
        simp
        rfl
    · rintro H2 ⟨s2, e2⟩
      rw [List.take_length] at e2
      have s12 := sm_trans s1 s2
      exact tab_new M (hF.same s12) ne (.inl e2) he hgo fun H' t dt tp s n hT e => q H' t dt tp (sm_trans s12 s) (L2.Same.free s12 n) hT e
end
end
end NC
namespace NC
open PySem PySem.Spec PyProof.Rows L2
abbrev sSideB : Stmt := topS 42
abbrev sRoomB : Stmt := topS 43
abbrev nRoomB : List Str := ["walls", "entries", "room", "wall", "entry"]
theorem scSideB : FnScope ["wall", "entry", "room"] ["wall", "entry", "room"] (defScope sSideB) := ⟨rfl, rfl, rfl, by decide +kernel, rfl, by decide +kernel, by decide +kernel⟩
theorem scRoomB : FnScope nRoomB ["walls", "entries", "room"] (defScope sRoomB) := ⟨rfl, rfl, rfl, by decide +kernel, rfl, by decide +kernel, by decide +kernel⟩
theorem zip_at {l : List Nat} {es : List (List Nat)} {i : Nat} {v1 v2 : V} (hc : Option.map (fun c => V.str ⟨#[c]⟩) (tx l).cps[i]? = some v1) (hu : ((es.map tx).map V.str)[i]? = some v2) : ∃ c e, l[i]? = some c ∧ es[i]? = some e ∧ v1 = .str (sg c) ∧ v2 = .str (tx e) := by
  obtain ⟨c, h1, h2⟩ := Option.map_eq_some_iff.mp hc
  rw [← Array.getElem?_toList, tx_list] at h1
  rw [List.getElem?_map, List.getElem?_map] at hu
  obtain ⟨z, hz', rfl⟩ := Option.map_eq_some_iff.mp hu
  obtain ⟨e, h3, rfl⟩ := Option.map_eq_some_iff.mp hz'
  exact ⟨c, e, h1, h3, h2.symm, rfl⟩
section
variable {P : Program} {w : World} {K : PySem.W.Frag} {mg : Str → Option Value} {base : Heap} {C fi fb fm fr fg fw ff : Addr} {di db dm dr dg dw df : FuncData} {f0 : Addr} {d0 : FuncData}
def spSideB : Sp := fun vs H Q _ => ∃ l c e r, vs = [.str (sg c), .str (tx e), .str (tx r)] ∧ GoodW l ∧ c ∈ l ∧ EntOk l c e ∧ Q (.str (sg (goneE c e r))) H
theorem ok_sideB {f fI fO : Addr} {fd dI dO : FuncData} {k : Nat} (O : DF K mg "other" sOther ["side"] fO dO) (I : DF K mg "is_fixed" sIsFix ["entry"] fI dI) (F : Fun K "side_behind" "side_behind" sSideB f fd) : FnOk P w K mg base CX0 (k + 2) f fd ["wall", "entry", "room"] spSideB := by
  have GO : FnOk P w K mg base CX0 (k + 1) fO dO ["side"] spOther := ok_other O.F
  have GI : FnOk P w K mg base CX0 (k + 1) fI dI ["entry"] spIsFix := ok_isFix I.F
  refine F.ok scSideB (fun vs H Q E h => ?_) (fun cdv A outer st H vs Q E hr h => ?_)
  · obtain ⟨l, c, e, r, rfl, _⟩ := h
    rfl
  · obtain ⟨l, c, e, r, rfl, g, hc, he, q⟩ := h
    have sm := g.sm c hc
    have ne : swp c ≠ c := by rw [swp_small sm]; omega
    refine ⟨_, pss_cons (ps_if (pt_val (pe_call GI hr rfl I.g I.F.kp I.b .nil pass0 (pa_cons (pv 1) pa_nil))) (pss_one (ps_ret (pe_ix ix_str (pv 1) pe_int (fun _ _ => rfl)))) pss_nil)
      (pss_one (ps_ret (pe_ifExp (pt_cmpR op_in_sign (pv 1) (pv 2) (by rfl)) (pv 0) (pe_call GO hr rfl O.g O.F.kp O.b .nil pass0 (pa_cons (pv 0) pa_nil))))), ?_⟩
    have fix : ∀ t, (t = c ∨ t = swp c) → e = [61, t] → tIf (tB (tCall spIsFix [] E0 (tCons (tVar 1) tNil))) (tVar 1) (tVar 1) [some (.str (sg c)), some (.str (tx e)), some (.str (tx r))] H (fun _ _ => True) → True := fun _ _ _ _ => trivial
    refine ⟨_, rfl, e, rfl, _, rfl, ?_⟩
    have fx : ∀ t, e = [61, t] → goneE c e r = t → ∃ t, e = [61, t] ∧ goneE c e r = t := fun t h1 h2 => ⟨t, h1, h2⟩
    rcases (show (∃ t, e = [61, t] ∧ goneE c e r = t) ∨ ∃ s ∈ sds l, e = [s] from by
      rcases he with h | h | ⟨s, hs, h⟩
      · exact .inl ⟨c, h, by rw [h]; simp [goneE]⟩
      · exact .inl ⟨swp c, h, by rw [h]; simp [goneE, ne]⟩
      · exact .inr ⟨s, hs, h⟩) with ⟨t, rfl, eq⟩ | ⟨s, hs, rfl⟩
    · rw [show decide (([61, t] : List Nat).head? = some 61) = true from rfl]
      rw [eq] at q
      exact iteT ⟨_, rfl, _, _, t, rfl, rfl, by show 2 ≤ sizeLine; decide, rfl, q⟩
    · have n61 : s ≠ 61 := fun z => by have := sds_lt g hs; unfold isLt at this; omega
      rw [show decide (([s] : List Nat).head? = some 61) = false from decide_eq_false fun z => n61 (Option.some.inj z)]
      refine iteF ⟨_, rfl, _, rfl, s, tx r, rfl, rfl, _, rfl, ?_⟩
      rw [tx_list]
      have eg : goneE c [s] r = if s ∈ r then c else swp c := rfl
      rw [eg] at q
      refine ite2 (fun t => ?_) (fun t => ?_)
      · rw [if_pos (of_decide_eq_true t)] at q
        exact ⟨_, rfl, q⟩
      · rw [if_neg (fun z => t (decide_eq_true z))] at q
        exact ⟨_, rfl, c, rfl, g.asc c hc, q⟩
def spRoomB (K : PySem.W.Frag) : Sp := fun vs H Q _ => ∃ l a r, ∃ es : List (List Nat), vs = [.str (tx l), .ref a, .str (tx r)] ∧ GoodW l ∧ Sq K H a ((es.map tx).map V.str) ∧ EntsOk l es ∧ ∀ H', Same H H' → Q (.str (tx (gone l es r))) H'
set_option maxHeartbeats 1000000 in
theorem ok_roomB {f fI fO fS : Addr} {fd dI dO dS : FuncData} {k : Nat} (hz : mg "zip" = none) (O : DF K mg "other" sOther ["side"] fO dO) (I : DF K mg "is_fixed" sIsFix ["entry"] fI dI) (Sb : DF K mg "side_behind" sSideB ["wall", "entry", "room"] fS dS) (F : Fun K "room_behind" "room_behind" sRoomB f fd) : FnOk P w K mg base CX0 (k + 3) f fd ["walls", "entries", "room"] (spRoomB K) := by
  have GS : FnOk P w K mg base CX0 (k + 2) fS dS ["wall", "entry", "room"] spSideB := ok_sideB O I Sb.F
  refine F.ok scRoomB (fun vs H Q E h => ?_) (fun cdv A outer st H vs Q E hr h => ?_)
  · obtain ⟨l, a, r, es, rfl, _⟩ := h
    rfl
  · obtain ⟨l, a, r, es, rfl, g, hS, he, q⟩ := h
    have nd := scRoomB.nd
    have hl12 := g.hi
    refine ⟨_, pss_one (ps_ret (pe_join pe_str (pe_lc (own := [("wall", 3), ("entry", 4)]) (g := gTup K 2 (gCons (gName 3) (gCons (gName 4) gNil))) (tt := tYes) (te := tCall spSideB [] E0 (tCons (tVar 3) (tCons (tVar 4) (tCons (tVar 2) tNil)))) rfl nd (pi_zipSQ (by rfl) hz (pa_cons (pv 0) (pa_cons (pv 1) pa_nil)))
      (blkOk_by (N := nRoomB) (sc := defScope sRoomB) (by decide +kernel)) (fun _ _ _ _ _ => pg_tup rfl (pgs_cons (pg_name (i := 3) nd rfl (Or.inl rfl)) (pgs_cons (pg_name (i := 4) nd rfl (Or.inl rfl)) pgs_nil))) (fun _ _ _ _ _ => pts_nil)
      (fun _ _ _ _ _ => pe_call GS hr rfl Sb.g Sb.F.kp Sb.b .nil pass0 (pa_cons (pv 3) (pa_cons (pv 4) (pa_cons (pv 2) pa_nil))))))), ?_⟩
    refine ⟨⟨_, rfl⟩, _, rfl, _, rfl, _, _, rfl, ?_⟩
    refine hS.zip (x := tx l) fun J Gd wk sm0 => ?_
    intro Da na
    have l1 : (tx l).cps.size = l.length := tx_len _
    have l2 : ((es.map tx).map V.str).length = l.length := by rw [List.length_map, List.length_map, he.len]
    rw [l1, l2, Nat.min_self] at wk
    refine lc_it wk (fun i H' => Same H H' ∧ H' Da = some (.lst ((((l.take i).map fun w => goneE w (ent l es w) r).map sg).map V.str))) ⟨same_upd na, upd_same⟩ (fun i H' _ h => sm0 _ h.1) ?_ ?_
    · rintro i v H1 H2 hi ⟨s1, e1⟩ ⟨T, v1, v2, rfl, nT, rfl, hc, hu⟩
      obtain ⟨c, e, h1, h2, rfl, rfl⟩ := zip_at hc hu
      have eE : ent l es c = e := ent_at g.nd h1 h2
      have nDT : Da ≠ T := ne_of_none e1 nT
      refine ⟨T, _, rfl, SqT.of upd_same, rfl, _, _, rfl, _, _, rfl, rfl, rfl, yes_i ⟨_, rfl, _, rfl, _, rfl, l, c, e, r, rfl, g, List.mem_of_getElem? h1, he.ok i c e h1 h2, _, by rw [upd_ne nDT]; exact e1, ?_, sm_over (sm_upd s1 nT) na, ?_⟩⟩
      · rw [List.length_map, List.length_map, List.length_map, List.length_take, sizeLine_eq]
        omega
      · rw [upd_same, List.take_add_one, h1, ← eE]
        simp only [List.map_append]
        rfl
    rintro H1 ⟨s1, e1⟩
    rw [List.take_length] at e1
    refine ⟨_, _, (l.map fun w => goneE w (ent l es w) r).map sg, rfl, rfl, .inl (SqL.of e1), ?_, ?_⟩
    · rw [sum_sgs, List.length_map, List.length_map, show (Str.ofString "").length = 0 by decide +kernel]
      omega
    rw [join_sg, ← gone_map he.len g.nd]
    exact q _ s1
end
end NC
namespace NC
open PySem PySem.Spec PyProof.Rows L2
def rSortedSA (K : PySem.W.Frag) : List V → Hp → VK → Prop := fun vs H Q => ∃ (a : Addr) (xs : List Str), vs = [V.ref a] ∧ SqL K H a (xs.map V.str) ∧
  ∀ (ys : List Str) (p : Addr), ys.Perm xs → sortedS ys = true → H p = none → Q (.ref p) (upd H p (.lst (ys.map V.str)))
theorem cr_sortedSA {X : Cx} : CallR X (.builtin "sorted") (rSortedSA X.K) := by
  intro pins s σ H vs us Q I r h
  obtain ⟨a, xs, rfl, hs, q⟩ := h
  obtain ⟨its, rv, hl, hz⟩ := I.list hs
  rw [Vals.ref1 r]
  have hlen0 := rv.length
  rw [List.length_map] at hlen0 hz
  refine PyProof.Rows.sorted_strsAny hl.isList rv.strs (by rw [← hlen0]; exact hz) fun out ys h1 h2 h3 => ?_
  obtain ⟨ep, he'⟩ := PyProof.Rows.sortedAll_at s.heap its out
  have hlen : (ys.map V.str).length ≤ sizeLine := by rw [List.length_map, h2.length_eq]; exact hz
  exact ⟨.ref _, upd H (s.heap.objs.size + 1) (.lst (ys.map V.str)), I.laid (t' := s.toks) (fun _ _ => PyProof.Rows.sortedAll_old) (Nat.le_succ _) ⟨hlen, out.toList, ep, vals_of_strs h1, he'⟩, rfl, q ys _ h2 h3 (I.hok.fresh (Nat.le_succ _))⟩
def rSortedDA : List V → Hp → VK → Prop := fun xs H Q => ∃ (a : Addr) (kvs : List (Key × V)) (ks : List Str), xs = [.ref a] ∧ Rd H a (.dK kvs) ∧ kvs.map (·.1) = ks.map Sum.inr ∧ ks.length ≤ sizeLine ∧
    ∀ ys p, ys.Perm ks → sortedS ys = true → H p = none → Q (.ref p) (upd H p (.lst (ys.map V.str)))
theorem cr_sortedDA {X : Cx} (hcalm : X.calm = true) : CallR X (.builtin "sorted") rSortedDA := by
  intro pins s σ H xs us Q I r q
  obtain ⟨a, kvs, ks, ex, hd, hks, h64, q⟩ := q
  subst ex
  obtain ⟨u, eu, rx⟩ := vals1 r
  subst eu
  cases rx
  obtain ⟨z, lo, vs, rel, dd⟩ := dk_rd I.hok hd
  obtain ⟨ep, hat⟩ := dd.dictAt
  have hkeys : vs.map (·.1) = ks.map Sum.inr := rel.keys.symm.trans hks
  have hl : vs.length = ks.length := by
    have e := congrArg List.length hkeys
    rw [List.length_map, List.length_map] at e
    exact e
  have h16 : vs.length ≤ sizeLine := by rw [hl]; exact h64
  refine Calls.call_function_entry PyProof.Rows.kind_sorted PyProof.Rows.plain_sorted PyProof.Rows.entry_sorted (PyProof.Rows.args_sorted1 _) ?_
  unfold Builtin.«sorted»
  refine wpAny_bind (m := checkCount "sorted" 1 1 _) (wpAny_pure ?_)
  refine wpAny_bind (PySem.W.kdu_collect (A := X.A.in1) (PySem.W.kdl_dict (knd := mixKind X.prog X.w) (kvs := vs) (ep := ep) lo) (I.ok.hd hcalm) hat h16 fun h' tk acc hk hacc => ?_)
  have hal : acc.toList.length = ks.length := by rw [Array.length_toList, hacc.1, hl]
  have hS : StrsAre acc.toList ks := strs_at hal fun j v e => by
    obtain ⟨k, x, e1, e2⟩ := hacc.2 j v (by rw [← Array.getElem?_toList]; exact e)
    have e3 : (vs.map (·.1))[j]? = some k := by rw [List.getElem?_map, e1]; all_goals rfl
    rw [hkeys, List.getElem?_map] at e3
    cases e4 : ks[j]? with
    | none => rw [e4] at e3; cases e3
    | some y =>
      rw [e4] at e3
      have e5 : Sum.inr y = k := Option.some.inj e3
      subst e5
      obtain ⟨t, ev⟩ := Value.isStrOf_shape (x := y) (v := v) e2
      exact ⟨y, t, rfl, ev⟩
  have I1 : Inv X pins σ H { s with heap := h', toks := tk } := I.kept hk
  refine wpAny_bind (wpAny_newList ?_ (by rw [hal]; exact h64))
  have hoL : (h'.push (seqObj "list" acc.toList.toArray 0)).get? h'.objs.size = some (seqObj "list" acc.toList.toArray 0) := Heap.get?_push_size _ rfl
  show wpAny _ _ _ _ _ { s with heap := h'.push (seqObj "list" acc.toList.toArray 0), toks := tk }
  refine wpAny_bind (wpAny_holding (wpAny_call_entry PyProof.Rows.slot_list_sort ⟨_, hoL, rfl⟩ PyProof.Rows.entry_list_sort
    (list_sort_treeKAny strKind_oneLt (s := { s with heap := h'.push (seqObj "list" acc.toList.toArray 0), toks := tk }) hoL hS.keysOf (fun v₁ v₂ rest e => keyKind_strs (by rw [← e]; exact hS)) (by rw [hal]; exact h64) fun st' hp hs => ⟨_, rfl, ?_⟩)
    (PyProof.Rows.args_list_sort _)))
  obtain ⟨ys, g1, g2, g3⟩ := sorted_out_str hS hp hs
  obtain ⟨e', he'⟩ := PyProof.Rows.sortedHeap_at (vs := acc.toList) (out := (arrOf st').map (·.2)) hoL
  have hlen : (ys.map V.str).length ≤ sizeLine := by
    rw [List.length_map, g2.length_eq]
    exact h64
  refine wpAny_pure ⟨_, rfl, .ref h'.objs.size, upd H h'.objs.size (.lst (ys.map V.str)), I1.laid (t' := tk) (fun b u e => ?_) (Nat.le_refl _)
    (show ObjOk X.prog X.w _ _ _ (.lst (ys.map V.str)) from ⟨hlen, ((arrOf st').map (·.2)).toList, e', vals_of_strs g1, by rw [Array.toArray_toList]; exact he'⟩), rfl, q ys _ g2 g3 (I1.hok.fresh (Nat.le_refl _))⟩
  have hb : b < h'.objs.size := Heap.lt_size e
  rw [PyProof.Rows.sortedHeap_old (Nat.ne_of_lt hb) (by rw [size_push']; exact Nat.lt_succ_of_lt hb)]
  exact Heap.get?_push_of_some _ e
end NC
namespace NC
open PySem PySem.Spec PyProof.Rows L2
abbrev sRMet : Stmt := topS 52
abbrev sCMov : Stmt := topS 53
abbrev sCome : Stmt := topS 54
abbrev nRMet : List Str := ["hall", "moves", "room", "ahead", "wave", "later", "stood", "name", "entries", "met"]
abbrev nCMov : List Str := ["hall", "calls", "place", "part"]
theorem scRMet : FnScope nRMet ["hall", "moves", "room"] (defScope sRMet) := ⟨rfl, rfl, rfl, by decide +kernel, rfl, by decide +kernel, by decide +kernel⟩
theorem scCMov : FnScope nCMov ["hall", "calls"] (defScope sCMov) := ⟨rfl, rfl, rfl, by decide +kernel, rfl, by decide +kernel, by decide +kernel⟩
theorem scCome : FnScope ["hall", "calls", "room", "most"] ["hall", "calls", "room", "most"] (defScope sCome) := ⟨rfl, rfl, rfl, by decide +kernel, rfl, by decide +kernel, by decide +kernel⟩
section
variable {P : Program} {w : World} {K : PySem.W.Frag} {mg : Str → Option Value} {base : Heap} {C fi fb fm fr fg fw ff : Addr} {di db dm dr dg dw df : FuncData} {f0 : Addr} {d0 : FuncData}
def spRMet (K : PySem.W.Frag) (C : Addr) : Sp := fun vs H Q _ => ∃ x dx sb D l ys fo, ∃ (bs : List (List Nat)) (m : Addr) (n : Nat) (nm : Nat → Addr) (ents : Nat → List (List Nat)) (r : List Nat), vs = [.ref x, .ref m, .str (tx r)] ∧ HallAt C H x dx sb D l ys fo ∧ GoodW l ∧ MovesT H m n nm ents ∧ (∀ k, k < n → EntsOk l (ents k) ∧ ∀ y ∈ rms l bs, gone l (ents k) y ∈ rms l bs) ∧ r ∈ rms l bs ∧
  ∀ H' a rs, Same H H' → H a = none → H' a = some (.dK (ahR rs)) → (kyR rs).Nodup → (∀ y, y ∈ kyR rs ↔ Rch n (fun k => gone l (ents k)) r y) → (∀ y ∈ kyR rs, y ∈ rms l bs) → ParOk H' n nm (fun k => gone l (ents k)) rs → Q (.ref a) H'
set_option maxHeartbeats 4000000 in
theorem ok_rmet {f fO fI fSb fRb : Addr} {fd dO dI dSb dRb : FuncData} {k : Nat} (hz : mg "zip" = none) (Z : HC K mg C fi fb di db) (Y : HP K C fw f0 dw d0) (O : DF K mg "other" sOther ["side"] fO dO) (I : DF K mg "is_fixed" sIsFix ["entry"] fI dI) (Sb : DF K mg "side_behind" sSideB ["wall", "entry", "room"] fSb dSb) (Rb : DF K mg "room_behind" sRoomB ["walls", "entries", "room"] fRb dRb) (F : Fun K "rooms_met" "rooms_met" sRMet f fd) :
    FnOk P w K mg base CX0 (k + 4) f fd ["hall", "moves", "room"] (spRMet K C) := by
  have GR : FnOk P w K mg base CX0 (k + 3) fRb dRb ["walls", "entries", "room"] (spRoomB K) := ok_roomB hz O I Sb Rb.F
  have GW : FnOk P w K mg base CX0 (k + 1) fw dw ["self"] (spHwalls C) := ok_Hwalls Z Y
  refine F.ok scRMet (fun vs H Q E h => ?_) (fun cdv A outer s H vs Q E hr h => ?_)
  · obtain ⟨x, dx, sb, D, l, ys, fo, bs, m, n, nm, ents, r, rfl, _⟩ := h
    rfl
  · obtain ⟨x, dx, sb, D, l, ys, fo, bs, m, n, nm, ents, r, rfl, hA, g, hM, hE, hm, q⟩ := h
    have nd := scRMet.nd
    have r1 : Room (k + 1) _ := hr.mono (by omega)
    have rlen := rms_len0 g (bs := bs)
    obtain ⟨es, el, em, ed⟩ := id hM
    refine ⟨_, pss_cons (ps_set (i := 3) nd rfl (.inl rfl) (pe_disp (pps_cons (pv 2) pe_non pps_nil) (by rfl) (by rfl) (fun z => by cases z) (by decide)))
      (pss_cons (ps_set (i := 4) nd rfl (.inl rfl) (pe_lst (pa_cons (pv 2) pa_nil)))
      (pss_cons (ps_while PassesOwn.never (pt_truth (pv 4) (by intro _; rfl))
        (pss_cons (ps_set (i := 5) nd rfl (.inl rfl) (pe_lst pa_nil))
        (pss_cons (ps_for PassesOwn.never rfl (pi_list (pv 4)) (pg_name (i := 6) nd rfl (Or.inl rfl))
          (pss_one (ps_for PassesOwn.never rfl (pi_list (pv 1)) (pg_tup rfl (pgs_cons (pg_name (i := 7) nd rfl (.inl rfl)) (pgs_cons (pg_name (i := 8) nd rfl (.inl rfl)) pgs_nil)))
            (pss_cons (ps_set (i := 9) nd rfl (.inl rfl) (pe_call GR hr rfl Rb.g Rb.F.kp Rb.b .nil pass0 (pa_cons (pe_meth0 (pv 0) Z.cl Y.mw GW r1 Y.bw .nil pass0) (pa_cons (pv 8) (pa_cons (pv 6) pa_nil)))))
            (pss_one (ps_if (pt_cmp (pc_dnotin (hu_of hr) (pv 9) (pv 3)))
              (pss_cons (ps_dput (hu_of hr) (pv 3) (pv 9) (pe_tup (pa_cons (pv 7) (pa_cons (pv 6) pa_nil))) rfl)
              (pss_one (ps_expr (pe_bm PySem.F.plainAttrs_list PySem.F.slot_list_append PySem.F.type_list_append mt_append (pv 5) (pa_cons (pv 9) pa_nil))))) pss_nil))))))
        (pss_one (ps_set (i := 4) nd rfl (.inl rfl) (pv 5))))))
      (pss_one (ps_ret (pv 3))))), ?_⟩
    refine fun A0 nA => ⟨_, rfl, upd_same, [(Sum.inr (tx r), .non)], rfl, by show 1 ≤ 15; decide, ?_⟩
    have eA : upd (upd H A0 (.dK [])) A0 (.dK (mergeK [] [(Sum.inr (tx r), .non)])) = upd H A0 (.dK (ahR [(r, .non)])) := by
      rw [L2.upd_upd]
      rfl
    rw [eA]
    refine ⟨_, rfl, by show 1 ≤ sizeLine; decide, fun W0 nW => ?_⟩
    have nAW : A0 ≠ W0 := ne_of_none upd_same nW
    have nW0 : H W0 = none := by
      rw [upd_ne (Ne.symm nAW)] at nW
      exact nW
    have bound : ∀ rs : List (List Nat × V), (kyR rs).Nodup → (∀ y ∈ kyR rs, y ∈ rms l bs) → rs.length ≤ 4096 := fun rs nd' hs => by
      have := nd'.length_le_of_subset hs
      unfold kyR at this
      rw [List.length_map] at this
      omega
    have kr0 : ∀ {t : List Nat}, t ∈ kyR [(r, V.non)] ↔ t = r := fun {t} => by simp [kyR]
    -- the while
    refine ⟨fun mm σ H' => ∃ rs wv Wd y5 y6 y7 y8 y9, σ = [some (.ref x), some (.ref m), some (.str (tx r)), some (.ref A0), some (.ref Wd), y5, y6, y7, y8, y9] ∧ Same H H' ∧ H Wd = none ∧ H' A0 = some (.dK (ahR rs)) ∧ H' Wd = some (.lst ((wv.map tx).map V.str)) ∧
      (kyR rs).Nodup ∧ (∀ y ∈ kyR rs, y ∈ rms l bs ∧ Rch n (fun k => gone l (ents k)) r y) ∧ r ∈ kyR rs ∧ (∀ t ∈ wv, t ∈ kyR rs) ∧ wv.length ≤ 4096 ∧ (∀ t ∈ kyR rs, t ∉ wv → ∀ k, k < n → gone l (ents k) t ∈ kyR rs) ∧ ParOk H' n nm (fun k => gone l (ents k)) rs ∧ mm = 2 * (4096 - rs.length) + (if wv = [] then 0 else 1), ?_, ?_⟩
    · refine ⟨_, [(r, .non)], [r], W0, _, _, _, _, _, rfl, sm_upd (same_upd nA) nW, nW0, ?_, upd_same, by simp [kyR], fun t ht => ?_, kr0.mpr rfl, fun t ht => kr0.mpr (List.mem_singleton.mp ht), by show 1 ≤ 4096; decide, fun t ht hn => ?_, fun i y v hi => ?_, rfl⟩
      · rw [upd_ne nAW, upd_same]
      · rw [kr0.mp ht]; exact ⟨hm, .refl⟩
      · exact absurd (by rw [kr0.mp ht]; exact List.mem_singleton.mpr rfl) hn
      · have hi0 : i = 0 := by
          have := (List.getElem?_eq_some_iff.mp hi).1
          simp at this
          omega
        subst hi0
        cases hi
        exact .inl ⟨rfl, rfl⟩
    · rintro mm σ H1 ⟨rs, wv, Wd, y5, y6, y7, y8, y9, rfl, sm, nWd, eA1, eW, knd, kok, kr, hwv, hwl, hdone, hpar, rfl⟩
      refine ⟨_, rfl, _, .inl ⟨_, SqL.of eW, rfl⟩, ite2 (fun hne => ?_) (fun he => ?_)⟩
      · -- a turn of the while
        have hw0 : wv ≠ [] := fun z => by
          rw [z] at hne
          exact absurd hne (by decide)
        refine ⟨fun σ' H' => ∃ (rs2 : List (List Nat × V)) (lt : List (List Nat)) (Wd2 : Addr) (y5 y6 y7 y8 y9 : Option V), σ' = [some (.ref x), some (.ref m), some (.str (tx r)), some (.ref A0), some (.ref Wd2), y5, y6, y7, y8, y9] ∧ Same H H' ∧ H Wd2 = none ∧ H' A0 = some (.dK (ahR rs2)) ∧ H' Wd2 = some (.lst ((lt.map tx).map V.str)) ∧
          (kyR rs2).Nodup ∧ (∀ y ∈ kyR rs2, y ∈ rms l bs ∧ Rch n (fun k => gone l (ents k)) r y) ∧ r ∈ kyR rs2 ∧ (∀ t ∈ lt, t ∈ kyR rs2) ∧ lt.length ≤ 4096 ∧ (∀ t ∈ kyR rs2, t ∉ lt → ∀ k, k < n → gone l (ents k) t ∈ kyR rs2) ∧ ParOk H' n nm (fun k => gone l (ents k)) rs2 ∧ rs2.length = rs.length + lt.length, ?_, ?_⟩
        · rintro σ' H' ⟨rs2, lt, Wd2, y5, y6, y7, y8, y9, h1, h2, h3, h4, h5, h6, h7, h8, h9, h10, h11, h12, h13⟩
          refine ⟨_, ?_, rs2, lt, Wd2, y5, y6, y7, y8, y9, h1, h2, h3, h4, h5, h6, h7, h8, h9, h10, h11, h12, rfl⟩
          have l2 := bound rs2 h6 fun y hy => (h7 y hy).1
          rw [if_neg hw0]
          by_cases e : lt = []
          · rw [if_pos e, h13, e]
            simp
          · rw [if_neg e, h13]
            have : 0 < lt.length := List.length_pos_iff.mpr e
            omega
        · refine ⟨Nat.zero_le _, fun T nT => ?_⟩
          have nTA : A0 ≠ T := ne_of_none eA1 nT
          have nTW : Wd ≠ T := ne_of_none eW nT
          have nTH : H T = none := L2.Same.free sm nT
          have wk := walk_list (K := K) (a := Wd) (xs := (wv.map tx).map V.str)
          rw [List.length_map, List.length_map] at wk
          refine ⟨_, rfl, Wd, rfl, ⟨_, SqL.of (by rw [upd_ne nTW]; exact eW)⟩, for_it wk (fun i σ H' => ∃ (rs2 : List (List Nat × V)) (lt : List (List Nat)) (y6 y7 y8 y9 : Option V), σ = [some (.ref x), some (.ref m), some (.str (tx r)), some (.ref A0), some (.ref Wd), some (.ref T), y6, y7, y8, y9] ∧ Same H H' ∧ H' A0 = some (.dK (ahR rs2)) ∧
            H' Wd = some (.lst ((wv.map tx).map V.str)) ∧ H' T = some (.lst ((lt.map tx).map V.str)) ∧ (kyR rs2).Nodup ∧ (∀ y ∈ kyR rs2, y ∈ rms l bs ∧ Rch n (fun k => gone l (ents k)) r y) ∧ rs2.length = rs.length + lt.length ∧ (∀ t ∈ kyR rs, t ∈ kyR rs2) ∧ (∀ t ∈ lt, t ∈ kyR rs2) ∧
            (∀ t ∈ kyR rs2, t ∉ lt → t ∉ wv.drop i → ∀ k, k < n → gone l (ents k) t ∈ kyR rs2) ∧ ParOk H' n nm (fun k => gone l (ents k)) rs2)
            ⟨rs, [], _, _, _, _, rfl, sm_upd sm nT, by rw [upd_ne nTA]; exact eA1, by rw [upd_ne nTW]; exact eW, upd_same, knd, kok, rfl, fun _ h => h, (fun t h => absurd h (by simp)), (fun t h1 _ h2 => hdone t h1 h2), hpar.keep fun T' a b h => by rw [upd_ne (ne_of_none h nT)]; exact h⟩
            (fun i σ H' _ p => by obtain ⟨_, _, _, _, _, _, _, _, _, h, _⟩ := p; exact SqL.of h) ?_ ?_⟩
          · rintro i v σ H2 H3 hi ⟨rs2, lt, y6, y7, y8, y9, rfl, s2, a2, w2, t2, nd2, ok2, len2, k2, lk2, dn2, par2⟩ ⟨rfl, hx⟩
            rw [List.getElem?_map, List.getElem?_map] at hx
            obtain ⟨z, hz, rfl⟩ := Option.map_eq_some_iff.mp hx
            obtain ⟨t, ht, rfl⟩ := Option.map_eq_some_iff.mp hz
            have htk : t ∈ kyR rs2 := k2 t (hwv t (List.mem_of_getElem? ht))
            obtain ⟨htm, htr⟩ := ok2 t htk
            have wk3 := walk_list (K := K) (a := m) (xs := es.map V.ref)
            rw [List.length_map, el] at wk3
            refine ⟨_, rfl, m, rfl, ⟨_, SqL.of (s2 _ _ em)⟩, for_it wk3 (fun j σ H' => ∃ (rs3 : List (List Nat × V)) (lt3 : List (List Nat)) (y7 y8 y9 : Option V), σ = [some (.ref x), some (.ref m), some (.str (tx r)), some (.ref A0), some (.ref Wd), some (.ref T), some (.str (tx t)), y7, y8, y9] ∧ Same H H' ∧
              H' A0 = some (.dK (ahR rs3)) ∧ H' Wd = some (.lst ((wv.map tx).map V.str)) ∧ H' T = some (.lst ((lt3.map tx).map V.str)) ∧ (kyR rs3).Nodup ∧ (∀ y ∈ kyR rs3, y ∈ rms l bs ∧ Rch n (fun k => gone l (ents k)) r y) ∧ rs3.length = rs.length + lt3.length ∧ (∀ u ∈ kyR rs2, u ∈ kyR rs3) ∧ (∀ u ∈ lt3, u ∈ kyR rs3) ∧
              (∀ u ∈ kyR rs3, u ∉ lt3 → u ∉ wv.drop i → ∀ k, k < n → gone l (ents k) u ∈ kyR rs3) ∧ (∀ k, k < j → gone l (ents k) t ∈ kyR rs3) ∧ ParOk H' n nm (fun k => gone l (ents k)) rs3)
              ⟨rs2, lt, _, _, _, rfl, s2, a2, w2, t2, nd2, ok2, len2, fun _ h => h, lk2, dn2, (fun _ h => absurd h (Nat.not_lt_zero _)), par2⟩
              (fun j σ H' _ p => by obtain ⟨_, _, _, _, _, _, s3, _⟩ := p; exact SqL.of (s3 _ _ em)) ?_ ?_⟩
            · rintro j v σ H4 H5 hj ⟨rs3, lt3, y7, y8, y9, rfl, s3, a3, w3, t3, nd3, ok3, len3, k3, lk3, dn3, tk3, par3⟩ ⟨rfl, hx⟩
              obtain ⟨e, tk, he, e1, e2⟩ := ed j hj
              obtain ⟨hEo, hEr⟩ := hE j hj
              rw [List.getElem?_map, he] at hx
              cases hx
              have l3 := bound rs3 nd3 fun y hy => (ok3 y hy).1
              have hA3 := hA.same s3
              refine ⟨e, _, rfl, SqT.of (s3 _ _ e1), rfl, _, _, rfl, _, _, rfl, rfl, ?_⟩
              refine ⟨_, rfl, x, dx, _, rfl, hA3.x, rfl, x, dx, sb, D, l, ys, fo, rfl, hA3, _, rfl, _, rfl, l, tk, t, ents j, rfl, g, .inr (SqT.of (s3 _ _ e2)), hEo, fun H6 s6 => ?_⟩
              have s36 := sm_trans s3 s6
              have a6 := s6 _ _ a3
              have t6 := s6 _ _ t3
              have w6 := s6 _ _ w3
              have p6 : ParOk H6 n nm (fun k => gone l (ents k)) rs3 := par3.keep fun T' a b h => s6 _ _ h
              have hmr := hEr t htm
              refine ⟨_, rfl, _, rfl, A0, _, rfl, DGet.k (k := Sum.inr (tx (gone l (ents j) t))) a6, _, rfl, ite2 (fun hn => ?_) (fun hn => ?_)⟩
              · have hmn : gone l (ents j) t ∉ kyR rs3 := fun z => by
                  obtain ⟨_, p, _, e⟩ := ahR_some z
                  rw [e] at hn
                  exact absurd hn Bool.false_ne_true
                refine ⟨_, rfl, _, rfl, by show 2 ≤ sizeLine; decide, fun T7 nT7 => ?_⟩
                have s7 := same_upd nT7 (o := .tup [V.ref (nm j), .str (tx t)])
                have a7 := s7 _ _ a6
                have t7 := s7 _ _ t6
                have w7 := s7 _ _ w6
                have p7 : ParOk (upd H6 T7 (.tup [V.ref (nm j), .str (tx t)])) n nm (fun k => gone l (ents k)) rs3 := p6.keep fun T' a b h => s7 _ _ h
                have q7 := p7.snoc (k := j) (p := t) (T := T7) upd_same hj (k3 t htk)
                have s37 := sm_trans s36 s7
                generalize upd H6 T7 (.tup [V.ref (nm j), .str (tx t)]) = H7 at a7 t7 w7 q7 s37 ⊢
                have nd4 : (kyR (rs3 ++ [(gone l (ents j) t, V.ref T7)])).Nodup := by
                  rw [kyR_snoc]
                  exact nd_snoc nd3 hmn
                have ok4 : ∀ y ∈ kyR (rs3 ++ [(gone l (ents j) t, V.ref T7)]), y ∈ rms l bs ∧ Rch n (fun k => gone l (ents k)) r y := fun y hy => by
                  rw [kyR_snoc] at hy
                  rcases List.mem_append.mp hy with z | z
                  · exact ok3 y z
                  · rw [List.mem_singleton.mp z]
                    exact ⟨hmr, .step htr hj⟩
                have l4 := bound _ nd4 fun y hy => (ok4 y hy).1
                rw [List.length_append] at l4
                have l4 : rs3.length + 1 ≤ 4096 := l4
                refine ⟨_, rfl, _, rfl, A0, _, rfl, DPut.k (k := Sum.inr (tx (gone l (ents j) t))) a7 (by unfold ahR; rw [List.length_map, sizeLine_eq]; omega), ?_⟩
                rw [ahR_snoc rs3 _ _ hmn]
                have eT : (upd H7 A0 (.dK (ahR (rs3 ++ [(gone l (ents j) t, V.ref T7)])))) T = some (.lst ((lt3.map tx).map V.str)) := by rw [upd_ne (Ne.symm nTA)]; exact t7
                refine ⟨_, rfl, .inl ⟨rfl, _, SqL.of eT⟩, _, rfl, T, _, _, rfl, rfl, eT, by rw [List.length_map, List.length_map, sizeLine_eq]; omega, ?_⟩
                refine ⟨rs3 ++ [(gone l (ents j) t, V.ref T7)], lt3 ++ [gone l (ents j) t], _, _, _, rfl, sm_over (sm_over s37 nA) nTH, ?_, ?_, ?_, nd4, ok4, ?_, fun u hu => ?_, fun u hu => ?_, fun u h1 h2 h3 k hk => ?_, fun k hk => ?_, ?_⟩
                · rw [upd_ne nTA, upd_same]
                · rw [upd_ne nTW, upd_ne (ne_of w7 a7 fun z => by cases z)]
                  exact w7
                · rw [upd_same, List.map_append, List.map_append]
                  rfl
                · rw [List.length_append, List.length_append, len3]
                  rfl
                · rw [kyR_snoc]; exact List.mem_append_left _ (k3 u hu)
                · rw [kyR_snoc]
                  rcases List.mem_append.mp hu with z | z
                  · exact List.mem_append_left _ (lk3 u z)
                  · exact List.mem_append_right _ z
                · rw [kyR_snoc] at h1 ⊢
                  have h4 : u ∉ lt3 := fun z => h2 (List.mem_append_left _ z)
                  have h5 : u ∈ kyR rs3 := by
                    rcases List.mem_append.mp h1 with z | z
                    · exact z
                    · exact absurd (List.mem_append_right _ z) h2
                  exact List.mem_append_left _ (dn3 u h5 h4 h3 k hk)
                · rw [kyR_snoc]
                  rcases Nat.lt_or_ge k j with z | z
                  · exact List.mem_append_left _ (tk3 k z)
                  · rw [show k = j by omega]
                    exact List.mem_append_right _ (List.mem_singleton.mpr rfl)
                · refine q7.keep fun T' a b h => ?_
                  have h2 : T' ≠ A0 := ne_of h a7 fun z => by cases z
                  have h3 : T' ≠ T := ne_of h t7 fun z => by cases z
                  rw [upd_ne h3, upd_ne h2]
                  exact h
              · have hmi : gone l (ents j) t ∈ kyR rs3 := by
                  refine Classical.byContradiction fun z => hn ?_
                  rw [ahR_no z]
                  rfl
                refine ⟨rs3, lt3, _, _, _, rfl, s36, a6, w6, t6, nd3, ok3, len3, k3, lk3, dn3, fun k hk => ?_, p6⟩
                rcases Nat.lt_or_ge k j with z | z
                · exact tk3 k z
                · rw [show k = j by omega]; exact hmi
            · rintro σ H4 ⟨rs3, lt3, y7, y8, y9, rfl, s3, a3, w3, t3, nd3, ok3, len3, k3, lk3, dn3, tk3, par3⟩
              refine ⟨rs3, lt3, _, _, _, _, rfl, s3, a3, w3, t3, nd3, ok3, len3, fun u hu => k3 u (k2 u hu), lk3, fun u h1 h2 h3 k hk => ?_, par3⟩
              by_cases e : u = t
              · rw [e]
                exact tk3 k hk
              · refine dn3 u h1 h2 (fun z => h3 ?_) k hk
                rw [List.drop_eq_getElem_cons hi] at z
                rcases List.mem_cons.mp z with z | z
                · have e2 : wv[i] = t := by
                    rw [List.getElem?_eq_getElem hi] at ht
                    exact Option.some.inj ht
                  exact absurd (z.trans e2) e
                · exact z
          · rintro σ H4 ⟨rs2, lt, y6, y7, y8, y9, rfl, s2, a2, w2, t2, nd2, ok2, len2, k2, lk2, dn2, par2⟩
            have l2 := bound rs2 nd2 fun y hy => (ok2 y hy).1
            exact ⟨_, rfl, rs2, lt, T, _, _, _, _, _, rfl, s2, nTH, a2, t2, nd2, ok2, k2 r kr, lk2, by omega, fun u h1 h2 => dn2 u h1 h2 (by simp), par2, len2⟩
      · have e : wv = [] := by
          cases wv with
          | nil => rfl
          | cons x r => exact absurd rfl he
        refine ⟨_, rfl, q H1 A0 rs sm nA eA1 knd (fun y => ⟨fun hy => (kok y hy).2, fun hy => rch_all kr (fun u hu k hk => hdone u hu (by rw [e]; simp) k hk) hy⟩) (fun y hy => (kok y hy).1) hpar⟩
variable {fFx fSo fIe fMm fSt fLd fCe fC fS fO fBy CT iT CH fH CB fI fE : Addr} {dFx dSo dIe dMm dSt dLd dCe dC dS dO dBy eT fdH dI dE : FuncData}
/-- parts with rooms -/
def PartsOk (l : List Nat) (bs Ps : List (List Nat)) : Prop := ∀ P ∈ Ps, Part l P ∧ ∃ z ∈ rms l bs, ∀ s ∈ P, s ∈ z
/-- the entries of a call's table -/
def entsOf (l : List Nat) (fo : Nat → List Nat) (Ps : List (List Nat)) (k : Nat) : List (List Nat) := l.map (callE (byWT l (allFo fo (Ps.getD k []))))
theorem entsOf_ok {l : List Nat} (g : GoodW l) {bs : List (List Nat)} (hb : ∀ b ∈ bs, isBar l b = true) {fo : Nat → List Nat} (hf : ∀ s ∈ sds l, ∀ t, t ∈ fo s ↔ Frc (adjOf bs) s t) {Ps : List (List Nat)} (h : PartsOk l bs Ps) {k : Nat} (hk : k < Ps.length) :
    EntsOk l (entsOf l fo Ps k) ∧ ∀ y ∈ rms l bs, gone l (entsOf l fo Ps k) y = wov (allFo fo (Ps.getD k [])) y ∧ gone l (entsOf l fo Ps k) y ∈ rms l bs := by
  have hm : Ps.getD k [] ∈ Ps := by
    rw [List.getD_eq_getElem?_getD, List.getElem?_eq_getElem hk]
    exact List.getElem_mem hk
  obtain ⟨pP, z, hz, hin⟩ := h _ hm
  refine ⟨call_ok g _, fun y hy => ?_⟩
  have e : gone l (entsOf l fo Ps k) y = wov (allFo fo (Ps.getD k [])) y := gone_call g hb hf pP.sd hz hin hy
  exact ⟨e, by rw [e]; exact (wov_room g hb hf pP.sd hz hin hy).1⟩
def spCMov (K : PySem.W.Frag) (C : Addr) : Sp := fun vs H Q _ => ∃ x dx sb D l ys fo bs a, ∃ Ps : List (List Nat), vs = [.ref x, .ref a] ∧ HallF C H x dx sb D l ys fo bs ∧ Sq K H a ((Ps.map tx).map V.str) ∧ Ps.length ≤ 100 ∧ PartsOk l bs Ps ∧
  ∀ H' m nm, Same H H' → H m = none → MovesT H' m Ps.length nm (entsOf l fo Ps) → (∀ k, k < Ps.length → H' (nm k) = some (.tup [.str "call", .int (k : Nat)])) → Q (.ref m) H'
set_option maxHeartbeats 1000000 in
theorem ok_cmov {f fIsP fChP fAFB fTo fSh fOc : Addr} {fd dIsP dChP dAFB dTo dSh dOc : FuncData} {k : Nat} (M : MK K mg C fi fb fw f0 ff di db dw d0 df fC fS fO dC dS dO fFx fSo fIe fMm fSt fLd fCe dFx dSo dIe dMm dSt dLd dCe CH fH CT iT fdH eT CB fI fE dI dE)
    (By : DF K mg "by_walls" sByWalls ["walls", "sides"] fBy dBy) (T : PT K mg C fw f0 dw d0 fIsP fChP fAFB fTo dIsP dChP dAFB dTo) (Sh : DF K mg "shut" sShut ["hall", "part"] fSh dSh) (Oc : DF K mg "of_call" sOfCall ["hall", "part"] fOc dOc) (F : Fun K "call_moves" "call_moves" sCMov f fd) :
    FnOk P w K mg base CX0 (k + 10) f fd ["hall", "calls"] (spCMov K C) := by
  have GOc : FnOk P w K mg base CX0 (k + 9) fOc dOc ["hall", "part"] (spOfCall K CB C) := ok_ofCall M By T Sh Oc.F
  have GE : FnOk P w K mg base CX0 (k + 1) fE dE ["self"] (spTabE K CB) := ok_tabE M.G
  refine F.ok scCMov (fun vs H Q E h => ?_) (fun cdv A outer st H vs Q E hr h => ?_)
  · obtain ⟨x, dx, sb, D, l, ys, fo, bs, a, Ps, rfl, _⟩ := h
    rfl
  · obtain ⟨x, dx, sb, D, l, ys, fo, bs, a, Ps, rfl, hF, hS, hn, hPs, q⟩ := h
    have nd := scCMov.nd
    have r1 : Room (k + 1) _ := hr.mono (by omega)
    refine ⟨_, pss_one (ps_ret (pe_lc (own := [("place", 2), ("part", 3)]) (g := gTup K 2 (gCons (gName 2) (gCons (gName 3) gNil))) (tt := tYes) (te := tTup (tCons (tTup (tCons (tC (.str "call")) (tCons (tVar 2) tNil))) (tCons (tMeth CB "entries" (spTabE K CB) [] E0 (tCall (spOfCall K CB C) [] E0 (tCons (tVar 0) (tCons (tVar 3) tNil))) tNil) tNil))) rfl nd (pi_enumQ (by rfl) M.B.enumerate (pa_cons (pv 1) pa_nil))
      (blkOk_by (N := nCMov) (sc := defScope sCMov) (by decide +kernel)) (fun _ _ _ _ _ => pg_tup rfl (pgs_cons (pg_name (i := 2) nd rfl (Or.inl rfl)) (pgs_cons (pg_name (i := 3) nd rfl (Or.inl rfl)) pgs_nil))) (fun _ _ _ _ _ => pts_nil)
      (fun _ _ _ _ _ => pe_tup (pa_cons (pe_tup (pa_cons pe_str (pa_cons (pv 2) pa_nil))) (pa_cons (pe_meth0 (pe_call GOc hr rfl Oc.g Oc.F.kp Oc.b .nil pass0 (pa_cons (pv 0) (pa_cons (pv 3) pa_nil))) M.G.cl M.G.mE GE r1 M.G.bE .nil pass0) pa_nil))))), ?_⟩
    refine ⟨_, rfl, a, rfl, hS.enum fun J Gd wk keep => ?_⟩
    rw [List.length_map, List.length_map] at wk
    intro Da na
    refine lc_it wk (fun i H' => Same H H' ∧ ∃ (es : List Addr) (nm : Nat → Addr), es.length = i ∧ H' Da = some (.lst (es.map V.ref)) ∧ ∀ k, k < i → ∃ e tk, es[k]? = some e ∧ H' e = some (.tup [.ref (nm k), .ref tk]) ∧ H' tk = some (.tup (((entsOf l fo Ps k).map tx).map V.str)) ∧ H' (nm k) = some (.tup [.str "call", .int (k : Nat)])) ⟨same_upd na, [], fun _ => 0, rfl, upd_same, fun k hk => absurd hk (Nat.not_lt_zero _)⟩ (fun i H' _ h => keep _ h.1) ?_ ?_
    · rintro i v H1 H2 hi ⟨s1, es, nm, el, em, ed⟩ ⟨T, v1, v2, rfl, nT, rfl, hc, hu⟩
      obtain rfl : V.int (i : Nat) = v1 := Option.some.inj hc
      have hu : ((Ps.map tx).map V.str)[i]? = some v2 := hu
      rw [List.getElem?_map, List.getElem?_map] at hu
      obtain ⟨z, hz', rfl⟩ := Option.map_eq_some_iff.mp hu
      obtain ⟨P0, hP0, rfl⟩ := Option.map_eq_some_iff.mp hz'
      obtain ⟨pP, z0, hz0, hin⟩ := hPs P0 (List.mem_of_getElem? hP0)
      have eP : Ps.getD i [] = P0 := by rw [List.getD_eq_getElem?_getD, hP0]; rfl
      have sT := same_upd nT (o := .tup [V.int (i : Nat), .str (tx P0)])
      refine ⟨T, _, rfl, SqT.of upd_same, rfl, _, _, rfl, _, _, rfl, rfl, rfl, yes_i ⟨_, rfl, by show 2 ≤ sizeLine; decide, fun N1 nN1 => ?_⟩⟩
      have sN := same_upd nN1 (o := .tup [V.str "call", .int (i : Nat)])
      have s2 := sm_trans (sm_trans s1 sT) sN
      refine ⟨_, rfl, _, rfl, x, dx, sb, D, l, ys, fo, bs, P0, z0, rfl, hF.same s2, pP, hz0, hin, fun H3 t1 dt1 tp1 s3 nt1 hT1 et1 => ?_⟩
      refine ⟨t1, dt1, _, rfl, hT1.t, rfl, t1, dt1, x, tp1, _, rfl, hT1, by show 2 ≤ sizeLine; decide, fun E1 nE1 => ?_⟩
      have s4 := same_upd nE1 (o := .tup [V.ref N1, .ref tp1])
      have sAll := sm_trans (sm_trans sT sN) (sm_trans s3 s4)
      have eD := sAll _ _ em
      refine ⟨_, eD, by rw [List.length_map, el, sizeLine_eq]; omega, sm_over (sm_trans s1 sAll) na, es ++ [E1], fun k => if k = i then N1 else nm k, by rw [List.length_append, el]; rfl, by rw [upd_same, List.map_append]; rfl, fun k hk => ?_⟩
      rcases Nat.lt_or_ge k i with z | z
      · obtain ⟨e, tk, a1, b1, c1, d1⟩ := ed k z
        have ki : k ≠ i := by omega
        refine ⟨e, tk, by rw [List.getElem?_append_left (by omega)]; exact a1, ?_, ?_, ?_⟩
        · dsimp only
          rw [if_neg ki, upd_ne (ne_of b1 em fun z => by cases z)]; exact sAll _ _ b1
        · rw [upd_ne (ne_of c1 em fun z => by cases z)]; exact sAll _ _ c1
        · dsimp only
          rw [if_neg ki, upd_ne (ne_of d1 em fun z => by cases z)]; exact sAll _ _ d1
      · have ek : k = i := by omega
        subst ek
        have eN := sm_trans s3 s4 _ _ (upd_same (H := upd H1 T (.tup [V.int (k : Nat), .str (tx P0)])) (a := N1) (o := .tup [V.str "call", .int (k : Nat)]))
        have eTp := s4 _ _ et1
        refine ⟨E1, tp1, by rw [List.getElem?_append_right (by omega), el, Nat.sub_self]; rfl, ?_, ?_, ?_⟩
        · dsimp only
          rw [if_pos rfl, upd_ne (ne_of upd_same eD fun z => by cases z), upd_same]
        · rw [upd_ne (ne_of eTp eD fun z => by cases z), eTp]
          unfold entsOf
          rw [eP]
        · dsimp only
          rw [if_pos rfl, upd_ne (ne_of eN eD fun z => by cases z)]
          exact eN
    · rintro H1 ⟨s1, es, nm, el, em, ed⟩
      refine q H1 Da nm s1 na ⟨es, el, em, fun k hk => ?_⟩ fun k hk => ?_
      · obtain ⟨e, tk, a1, b1, c1, _⟩ := ed k hk
        exact ⟨e, tk, a1, b1, c1⟩
      · obtain ⟨e, tk, a1, b1, c1, d1⟩ := ed k hk
        exact d1
/-- what the functions of steering ask for in the text -/
structure CS (K : PySem.W.Frag) (mg : Str → Option Value) (tc : Tok) (fSc fCR fRm fCm fSb fRb : Addr) (dSc dCR dRm dCm dSb dRb : FuncData) : Prop where
  sc : DF K mg "shut_calls" sShCalls ["hall", "calls", "most"] fSc dSc
  cr : DF K mg "check_room" sChkRoom ["hall", "room"] fCR dCR
  rm : DF K mg "rooms_met" sRMet ["hall", "moves", "room"] fRm dRm
  cm : DF K mg "call_moves" sCMov ["hall", "calls"] fCm dCm
  sb : DF K mg "side_behind" sSideB ["wall", "entry", "room"] fSb dSb
  rb : DF K mg "room_behind" sRoomB ["walls", "entries", "room"] fRb dRb
  mC : mg "MOST_CALLS" = some (.int 12 tc)
  mz : mg "zip" = none
abbrev sTMinit : Stmt := inClass (topS 12) 0
theorem scTM : FnScope ["self", "most"] ["self", "most"] (defScope sTMinit) := ⟨rfl, rfl, rfl, by decide +kernel, rfl, by decide +kernel, by decide +kernel⟩
theorem ok_TM {CH fH f : Addr} {fd fdH : FuncData} {k : Nat} (T : HE K mg CH fH fdH) (F : Fun K "__init__" "TooMany.__init__" sTMinit f fd) : FnOk P w K mg base CX0 (k + 2) f fd ["self", "most"] (sp1 K "most" "toomany") := by
  have GH : FnOk P w K mg base CX0 (k + 1) fH fdH ["self", "word"] (spHE K) := ok_HE T
  obtain ⟨mc, rd, fc⟩ := T.rd
  refine F.ok scTM (fun vs H Q E h => ?_) (fun cdv A outer s H vs Q E hr h => ?_)
  · obtain ⟨a, C, v, rfl, _⟩ := h
    rfl
  · obtain ⟨a, C, v, rfl, hO, hw, hf, ha, q⟩ := h
    refine ⟨_, pss_cons (ps_expr (pe_clsfn (by rfl) T.gC rd fc GH hr T.F.kp T.b .nil pass0 (pa_cons (pv 0) (pa_cons pe_str pa_nil)))) (pss_one (ps_ost (pv 0) (pv 1))), ?_⟩
    refine ⟨_, rfl, a, C, _, rfl, hO, hw, ha, fun dx n ne => ?_⟩
    refine ⟨_, rfl, _, rfl, a, C, rfl, hO, hf, .inr ⟨dx, _, upd_same, by rw [upd_ne ne, upd_same], by show 1 ≤ 900; decide, q dx _ n ne (fun b h1 h2 => ?_) ?_ ?_⟩⟩
    · rw [upd_ne h1, upd_ne h2, upd_ne h1]
    · rw [upd_ne (Ne.symm ne), upd_same]
    · rw [upd_same]
/-- what a call of these does with a room -/
def fsP (fo : Nat → List Nat) (Ps : List (List Nat)) (k : Nat) : List Nat → List Nat := wov (allFo fo (Ps.getD k []))
theorem rch_ents {l : List Nat} (g : GoodW l) {bs : List (List Nat)} (hb : ∀ b ∈ bs, isBar l b = true) {fo : Nat → List Nat} (hf : ∀ s ∈ sds l, ∀ t, t ∈ fo s ↔ Frc (adjOf bs) s t) {Ps : List (List Nat)} (h : PartsOk l bs Ps) {r : List Nat} (hr : r ∈ rms l bs) {y : List Nat} :
    Rch Ps.length (fun k => gone l (entsOf l fo Ps k)) r y ↔ Rch Ps.length (fsP fo Ps) r y := by
  have e : ∀ k, k < Ps.length → ∀ z ∈ rms l bs, gone l (entsOf l fo Ps k) z = fsP fo Ps k z ∧ gone l (entsOf l fo Ps k) z ∈ rms l bs := fun k hk z hz => (entsOf_ok g hb hf h hk).2 z hz
  constructor
  · intro q
    have : Rch Ps.length (fsP fo Ps) r y ∧ y ∈ rms l bs := by
      induction q with
      | refl => exact ⟨.refl, hr⟩
      | @step z k _ hk ih =>
        obtain ⟨e1, e2⟩ := e k hk z ih.2
        exact ⟨by show Rch _ _ _ (gone l (entsOf l fo Ps k) z); rw [e1]; exact ih.1.step hk, e2⟩
    exact this.1
  · intro q
    have : Rch Ps.length (fun k => gone l (entsOf l fo Ps k)) r y ∧ y ∈ rms l bs := by
      induction q with
      | refl => exact ⟨.refl, hr⟩
      | @step z k _ hk ih =>
        obtain ⟨e1, e2⟩ := e k hk z ih.2
        rw [← e1]
        exact ⟨ih.1.step hk, e2⟩
    exact this.1
def spCome (K : PySem.W.Frag) (C CM : Addr) : Sp := fun vs H Q E => ∃ x dx sb D l ys fo bs a, ∃ (Ps : List (List Nat)) (room : List Nat) (most : Int), vs = [.ref x, .ref a, .str (tx room), .int most] ∧ HallF C H x dx sb D l ys fo bs ∧ SqL K H a ((Ps.map tx).map V.str) ∧ Ps.length ≤ 12 ∧ PartsOk l bs Ps ∧ room ∈ rms l bs ∧
  ((((rms l bs).length : Int) ≤ most ∧ ∀ H' p (zs : List Str) (ks : List (List Nat)), Same H H' → H p = none → H' p = some (.lst (zs.map V.str)) → zs.Perm (ks.map tx) → sortedS zs = true → ks.Nodup → (∀ y, y ∈ ks ↔ Rch Ps.length (fsP fo Ps) room y) → Q (.ref p) H') ∨
   (most < ((rms l bs).length : Int) ∧ ∀ H' d, Same H H' → H d = none → H' d = some (.xd [("most", .int most), ("word", .str "toomany")]) → E (.ref CM) (some d) H'))
set_option maxHeartbeats 2000000 in
theorem ok_come {CM iM f fIsP fChP fAFB fTo fSh fOc fSc fCR fRm fCm fSb fRb : Addr} {eM fd dIsP dChP dAFB dTo dSh dOc dSc dCR dRm dCm dSb dRb : FuncData} {tc : Tok} {kws : List (Str × V)} {k : Nat} (M : MK K mg C fi fb fw f0 ff di db dw d0 df fC fS fO dC dS dO fFx fSo fIe fMm fSt fLd fCe dFx dSo dIe dMm dSt dLd dCe CH fH CT iT fdH eT CB fI fE dI dE) (Mh : HM K C fm fr fg dm dr dg) (hany : mg "any" = none)
    (By : DF K mg "by_walls" sByWalls ["walls", "sides"] fBy dBy) (T : PT K mg C fw f0 dw d0 fIsP fChP fAFB fTo dIsP dChP dAFB dTo) (Sh : DF K mg "shut" sShut ["hall", "part"] fSh dSh) (Oc : DF K mg "of_call" sOfCall ["hall", "part"] fOc dOc) (U : CS K mg tc fSc fCR fRm fCm fSb fRb dSc dCR dRm dCm dSb dRb)
    (X : XC K mg "TooMany" "TooMany.__init__" sTMinit "most" CM iM eM) (F : FunD K "come_to" "come_to" (defArgs sCome) (defBody sCome) (defScope sCome) [] kws f fd) :
    FnOk P w K mg base (L2.CX P w) (k + 11) f fd ["hall", "calls", "room", "most"] (spCome K C CM) := by
  have GSc : FnOk P w K mg base CX0 (k + 7) fSc dSc ["hall", "calls", "most"] (spShCalls K C) := ok_shCalls M.B M.Z T M.Cs M.S M.O By Sh U.sc.F
  have GCR : FnOk P w K mg base CX0 (k + 2) fCR dCR ["hall", "room"] (spChkRoom C) := ok_chkRoom hany M.Z Mh U.cr.F
  have GR : FnOk P w K mg base CX0 (k + 3) fr dr ["self"] (spHrooms C) := ok_Hrooms hany M.Z Mh M.O
  have GRm : FnOk P w K mg base CX0 (k + 4) fRm dRm ["hall", "moves", "room"] (spRMet K C) := ok_rmet U.mz M.Z M.Y M.O M.Tb.fx U.sb U.rb U.rm.F
  have GCm : FnOk P w K mg base CX0 (k + 10) fCm dCm ["hall", "calls"] (spCMov K C) := ok_cmov M By T Sh Oc U.cm.F
  have GTM : FnOk P w K mg base CX0 (k + 2) iM eM ["self", "most"] (sp1 K "most" "toomany") := ok_TM M.T X.F
  refine F.ok scCome (fun vs H Q E h => ?_) (fun cdv A outer st H vs Q E hr h => ?_)
  · obtain ⟨x, dx, sb, D, l, ys, fo, bs, a, Ps, room, most, rfl, _⟩ := h
    rfl
  · obtain ⟨x, dx, sb, D, l, ys, fo, bs, a, Ps, room, most, rfl, hF, hS, hn, hPs, hm, h⟩ := h
    have nd := scCome.nd
    have r2 : Room (k + 2) _ := hr.mono (by omega)
    have r3 : Room (k + 3) _ := hr.mono (by omega)
    have r4 : Room (k + 4) _ := hr.mono (by omega)
    have r7 : Room (k + 7) _ := hr.mono (by omega)
    have g := hF.G.g
    refine ⟨_, pss_cons (ps_expr (pe_call GSc r7 rfl U.sc.g U.sc.F.kp U.sc.b .nil pass0 (pa_cons (pv 0) (pa_cons (pv 1) (pa_cons (pe_glob (v := .int 12) rfl U.mC ⟨_, rfl⟩) pa_nil)))))
      (pss_cons (ps_expr (pe_call GCR r2 rfl U.cr.g U.cr.F.kp U.cr.b .nil pass0 (pa_cons (pv 0) (pa_cons (pv 2) pa_nil))))
      (pss_cons (ps_if (pt_cmpR op_gt (pe_callB call_len_seq (by rfl) M.B.len PySem.boot_len (pa_cons (pe_meth0 (pv 0) M.Z.cl Mh.mr GR r3 Mh.br .nil pass0) pa_nil)) (pv 3) (nomark _))
        (pss_one (ps_raise rfl (takes_of rfl rfl rfl rfl) (pmk_oex X.O X.iC X.tI GTM r3 X.b .nil pass0 (by rfl) X.gC (pa_cons (pv 3) pa_nil)))) pss_nil)
      (pss_one (ps_ret (pe_callB (cr_sortedDA rfl) (by rfl) M.B.sorted (by decide +kernel) (pa_cons (pe_call GRm r4 rfl U.rm.g U.rm.F.kp U.rm.b .nil pass0 (pa_cons (pv 0) (pa_cons (pe_call GCm hr rfl U.cm.g U.cm.F.kp U.cm.b .nil pass0 (pa_cons (pv 0) (pa_cons (pv 1) pa_nil))) (pa_cons (pv 2) pa_nil)))) pa_nil)))))), ?_⟩
    refine ⟨_, rfl, _, rfl, x, dx, sb, D, l, ys, fo, bs, a, Ps, _, rfl, by decide, hF, .inl hS, hn, hPs, fun H1 p1 s1 _ _ => ?_⟩
    have hF1 := hF.same s1
    refine ⟨_, rfl, _, rfl, x, dx, sb, D, l, ys, fo, bs, room, rfl, hF1.G, hm, fun H2 s2 => ?_⟩
    have s12 := sm_trans s1 s2
    have hF2 := hF.same s12
    refine ⟨_, rfl, x, dx, _, rfl, hF2.G.hA.x, rfl, x, dx, sb, D, l, ys, fo, rfl, hF2.G.hA, g, fun H3 pr s3 npr epr => ?_⟩
    rw [prT_rms g hF.G.bar hF.hf] at epr
    have s13 := sm_trans s12 s3
    refine ⟨pr, _, rfl, .inl (SqL.of epr), _, rfl, _, _, rfl, rfl, _, rfl, ?_⟩
    rw [List.length_map, List.length_map]
    rcases h with ⟨hle, q⟩ | ⟨hlt, q⟩
    · rw [decide_eq_false (by omega : ¬ most < ((rms l bs).length : Int))]
      refine iteF ?_
      refine ⟨_, rfl, _, rfl, _, rfl, x, dx, sb, D, l, ys, fo, bs, a, Ps, rfl, hF.same s13, .inl (sm_l s13 hS), by omega, hPs, fun H4 m nm s4 nm4 hM hnm => ?_⟩
      have s14 := sm_trans s13 s4
      refine ⟨_, rfl, x, dx, sb, D, l, ys, fo, bs, m, Ps.length, nm, entsOf l fo Ps, room, rfl, hF.G.hA.same s14, g, hM, fun k hk => ?_, hm, fun H5 ad rs s5 na ea knd kiff krm _ => ?_⟩
      · obtain ⟨e1, e2⟩ := entsOf_ok g hF.G.bar hF.hf hPs hk
        exact ⟨e1, fun y hy => (e2 y hy).2⟩
      have s15 := sm_trans s14 s5
      have kl : (kyR rs).length ≤ 4096 := Nat.le_trans (knd.length_le_of_subset krm) (rms_len0 g)
      refine ⟨ad, ahR rs, (kyR rs).map tx, rfl, .inl ea, ahR_keys rs, by rw [List.length_map, sizeLine_eq]; omega, fun zs p pz sz np => ?_⟩
      exact q _ p zs (kyR rs) (sm_upd s15 np) (L2.Same.free s15 np) upd_same pz sz knd fun y => (kiff y).trans (rch_ents g hF.G.bar hF.hf hPs hm)
    · rw [decide_eq_true hlt]
      exact iteT ⟨_, rfl, by show 1 ≤ 1000; decide, mk1 X.O X.hw X.hf fun d H4 s4 n4 e4 => q H4 d (sm_trans s13 s4) (L2.Same.free s13 n4) e4⟩
end
end NC
namespace NC
open PySem PySem.Spec PyProof.Rows L2
def rSortedA (K : PySem.W.Frag) : List V → Hp → VK → Prop := fun vs H Q => ∃ (a : Addr) (xs : List Str), vs = [V.ref a] ∧ (SqL K H a (xs.map V.str) ∨ SqT K H a (xs.map V.str)) ∧ xs.length < 64 ∧
  ∀ (ys : List Str) (p : Addr), ys.Perm xs → sortedS ys = true → H p = none → Q (.ref p) (upd H p (.lst (ys.map V.str)))
theorem cr_sortedA {X : Cx} : CallR X (.builtin "sorted") (rSortedA X.K) := by
  intro pins s σ H vs us Q I r h
  obtain ⟨a, xs, rfl, hs | hs, h64, q⟩ := h
  · exact cr_sortedS pins s σ H [.ref a] us Q I r ⟨a, xs, rfl, hs, h64, q⟩
  · obtain ⟨its, rv, ⟨o, e, c, n, d⟩, hz⟩ := I.tuple hs
    rw [Vals.ref1 r]
    have hl := rv.length
    rw [List.length_map] at hl
    refine srt_str I (.ref a) xs h64 (fun E Q' hQ => ?_) q
    refine PySem.wpAny_collect_seq a (.inr rfl) e c d (fun h' k => hQ _ its xs rfl rfl k rv.strs (List.Perm.refl _)) ?_
    rw [List.size_toArray, sizeLine_eq]
    omega
end NC
namespace NC
open PySem PySem.Spec PyProof.Rows L2
/-- a list or a tuple -/
def SqA (K : PySem.W.Frag) (H : Hp) (a : Addr) (xs : List V) : Prop := SqL K H a xs ∨ SqT K H a xs
theorem sm_a {K : PySem.W.Frag} {H H' : Hp} {a : Addr} {xs : List V} (s : Same H H') (h : SqA K H a xs) : SqA K H' a xs := h.imp (sm_l s) (sm_t s)
section
variable {P : Program} {w : World} {K : PySem.W.Frag} {mg : Str → Option Value} {base : Heap} {tw : Tok} {fOther fSides fByW fIsW fIsB fCW fCB fCS fSt fRe fAF fCF fCA : Addr} {dOther dSides dByW dIsW dIsB dCW dCB dCS dSt dRe dAF dCF dCA : FuncData}
    {CH iH CB iB CF iF CA iA : Addr} {eH eB eF eA : FuncData} {C fi fb : Addr} {di db : FuncData}
def spHinitA (K : PySem.W.Frag) (C CB CF CA : Addr) : Sp := fun vs H Q E => ∃ x dx l a bs, vs = [.ref x, .str (tx l), .ref a] ∧ H x = some (.ins C dx []) ∧ GoodW l ∧ BarsOk bs ∧ bs.length < 64 ∧ SqA K H a ((bs.map tx).map V.str) ∧
  match firstBad l bs with
  | some i => ∀ H' d, Same H H' → H d = none → H' d = some (.xd [("at", .int (i : Nat)), ("word", .str "badbar")]) → E (.ref CB) (some d) H'
  | none => ∀ fo, FoOk l (adjOf bs) (sds l) fo → match vdOf (sds l) (fxP fo) (alP fo) with
    | .fixed s => ∀ H' d, Same H H' → H d = none → H' d = some (.xd [("side", .str (sg s)), ("word", .str "fixed")]) → E (.ref CF) (some d) H'
    | .alike s m => ∀ H' d, Same H H' → H d = none → H' d = some (.xd [("other", .str (sg m)), ("one", .str (sg s)), ("word", .str "alike")]) → E (.ref CA) (some d) H'
    | .ok => ∀ H' sb D ys, SmX x H H' → H sb = none → H D = none → HallAt C H' x dx sb D l ys fo → ys.Perm (bs.map tx) → sortedS ys = true → Q .non H'
set_option maxHeartbeats 1000000 in
theorem ok_HinitA {k : Nat} (Z : HC K mg C fi fb di db) (T : Txt8 K mg tw fOther fSides fByW fIsW fIsB fCW fCB fCS fSt fRe fAF fCF fCA dOther dSides dByW dIsW dIsB dCW dCB dCS dSt dRe dAF dCF dCA CH iH CB iB CF iF CA iA eH eB eF eA) :
    FnOk P w K mg base (L2.CX P w) (k + 5) fi di ["self", "walls", "bars"] (spHinitA K C CB CF CA) := by
  have GW := ok_chkWalls (P := P) (w := w) (base := base) (k := k) T.B T.mW T.cw.F T.W
  have GB : FnOk P w K mg base (L2.CX P w) (k + 4) fCB dCB ["walls", "bars"] (spChkBars K CB) := ok_chkBars T.B T.cb.F T.I T.S T.he T.xb
  have GA : FnOk P w K mg base CX0 (k + 3) fAF dAF ["walls", "bars"] (spAllF K) := ok_allF T.B T.af.F T.st T.re T.Y T.S T.O
  have GF : FnOk P w K mg base (L2.CX P w) (k + 4) fCF dCF ["forced_by"] (spChkFix CF) := ok_chkFix T.B T.cf.F T.O T.he T.xf
  have GL : FnOk P w K mg base (L2.CX P w) (k + 4) fCA dCA ["forced_by"] (spChkAl CA) := ok_chkAl T.B T.ca.F T.he T.xa
  obtain ⟨dvs, ZF⟩ := Z.F
  refine ZF.ok scHinit (fun vs H Q E h => ?_) (fun cdv A outer s H vs Q E hr h => ?_)
  · obtain ⟨x, dx, l, a, bs, rfl, _⟩ := h
    rfl
  · obtain ⟨x, dx, l, a, bs, rfl, hx, g, hbs, hbl, hS, q⟩ := h
    have r2 : Room (k + 2) _ := hr.mono (by omega)
    have r3 : Room (k + 3) _ := hr.mono (by omega)
    refine ⟨_, pss_cons (ps_expr (pe_call GW r2 rfl T.cw.g T.cw.F.kp T.cw.b .nil pass0 (pa_cons (pv 1) pa_nil)))
      (pss_cons (ps_expr (pe_call (E := E) GB hr rfl T.cb.g T.cb.F.kp T.cb.b .nil (passes_call (takes_of rfl rfl rfl rfl) (fun _ _ _ _ h => h)) (pa_cons (pv 1) (pa_cons (pv 2) pa_nil))))
      (pss_cons (ps_set (i := 3) scHinit.nd rfl (.inl rfl) (pe_call GA r3 rfl T.af.g T.af.F.kp T.af.b .nil pass0 (pa_cons (pv 1) (pa_cons (pv 2) pa_nil))))
      (pss_cons (ps_expr (pe_call (E := E) GF hr rfl T.cf.g T.cf.F.kp T.cf.b .nil (passes_call (takes_of rfl rfl rfl rfl) (fun _ _ _ _ h => h)) (pa_cons (pv 3) pa_nil)))
      (pss_cons (ps_expr (pe_call (E := E) GL hr rfl T.ca.g T.ca.F.kp T.ca.b .nil (passes_call (takes_of rfl rfl rfl rfl) (fun _ _ _ _ h => h)) (pa_cons (pv 3) pa_nil)))
      (pss_cons (ps_fld (pv 0) (pv 1) rfl)
      (pss_cons (ps_fld (pv 0) (pe_callB cr_sortedA (by rfl) T.B.sorted (by decide +kernel) (pa_cons (pv 2) pa_nil)) rfl)
      (pss_one (ps_fld (pv 0) (pv 3) rfl)))))))), ?_⟩
    refine ⟨_, rfl, l, rfl, g, fun H1 s1 => ⟨_, rfl, _, rfl, l, a, bs, rfl, g, hbs, by omega, sm_a s1 hS, ?_⟩⟩
    cases fbd : firstBad l bs with
    | some i =>
      rw [fbd] at q
      intro H' d sm nd e
      exact q H' d (sm_trans s1 sm) (L2.Same.free s1 nd) e
    | none =>
      rw [fbd] at q
      have hbar := first_none fbd
      intro H2 s2
      have s12 := sm_trans s1 s2
      refine ⟨_, rfl, _, rfl, l, a, bs, rfl, g, hbar, by omega, sm_a s12 hS, fun H3 D fo s3 nD eD ok => ?_⟩
      have s13 := sm_trans s12 s3
      have q := q fo ok
      unfold vdOf at q
      refine ⟨_, rfl, l, D, adjOf bs, fo, rfl, g, eD, ok, ?_⟩
      cases h1 : (sds l).find? (fxP fo) with
      | some s0 =>
        rw [h1] at q
        exact fun H' d sm nd e => q H' d (sm_trans s13 sm) (L2.Same.free s13 nd) e
      | none =>
      rw [h1] at q
      intro H4 s4
      have s14 := sm_trans s13 s4
      refine ⟨_, rfl, l, D, adjOf bs, fo, rfl, g, s4 _ _ eD, ok, ?_⟩
      cases h2 : (sds l).findSome? fun s => ((sds l).find? (alP fo s)).map fun t => (s, t) with
      | some v =>
        rw [h2] at q
        exact fun H' d sm nd e => q H' d (sm_trans s14 sm) (L2.Same.free s14 nd) e
      | none =>
      rw [h2] at q
      intro H5 s5
      have s15 := sm_trans s14 s5
      have nxa : ∀ o, Same H H5 → SqA K (upd H5 x o) a ((bs.map tx).map V.str) := fun o sm => by
        have hS5 := sm_a sm hS
        have ex := sm _ _ hx
        rcases hS5 with ((z | ⟨ob, z⟩) | z) | ((z | ⟨ob, z⟩) | z)
        · exact .inl (.inl (.inl (by rw [upd_ne (ne_of z ex fun e => by cases e)]; exact z)))
        · exact .inl (.inl (.inr ⟨ob, by rw [upd_ne (ne_of z ex fun e => by cases e)]; exact z⟩))
        · exact .inl (.inr z)
        · exact .inr (.inl (.inl (by rw [upd_ne (ne_of z ex fun e => by cases e)]; exact z)))
        · exact .inr (.inl (.inr ⟨ob, by rw [upd_ne (ne_of z ex fun e => by cases e)]; exact z⟩))
        · exact .inr (.inr z)
      refine ⟨_, rfl, _, rfl, x, C, dx, _, rfl, s15 _ _ hx, Z.cl, Z.n1, by decide, ?_⟩
      refine ⟨_, rfl, a, bs.map tx, rfl, nxa _ s15, by rw [List.length_map]; exact hbl, fun ys p hp hs np => ?_⟩
      have npx : x ≠ p := ne_of_none upd_same np
      refine ⟨_, rfl, x, C, dx, _, rfl, by rw [upd_ne npx, upd_same], Z.cl, Z.n2, by show 1 < 1000; decide, ?_⟩
      refine ⟨_, rfl, _, rfl, x, C, dx, _, rfl, upd_same, Z.cl, Z.n3, by show 2 < 1000; decide, ?_⟩
      have np5 : H5 p = none := by
        rw [upd_ne (Ne.symm npx)] at np
        exact np
      have eD5 : H5 D = some (.dK (foK (sds l) fo)) := s5 _ _ (s4 _ _ eD)
      have nDx : D ≠ x := ne_of eD5 (s15 _ _ hx) fun z => by cases z
      have nDp : D ≠ p := ne_of_none eD5 np5
      refine q _ p D ys (fun b o hb e => ?_) (L2.Same.free s15 np5) (L2.Same.free s12 nD) ⟨upd_same, ?_, by rw [upd_ne nDx, upd_ne nDx, upd_ne nDp, upd_ne nDx]; exact eD5⟩ hp hs
      · have e5 := s15 _ _ e
        rw [upd_ne hb, upd_ne hb, upd_ne (ne_of_none e5 np5), upd_ne hb]
        exact e5
      · rw [upd_ne (Ne.symm npx), upd_ne (Ne.symm npx), upd_same]
end
end NC
namespace NC
open PySem PySem.Spec PyProof.Rows L2
def l9 : List Nat := [97, 98, 99, 100, 101, 102, 103, 104, 105]
def b9 : List (List Nat) := [[97, 98]]
theorem g9 : GoodW l9 := ⟨by decide, by decide, by decide, by decide⟩
theorem bar9 : ∀ b ∈ b9, isBar l9 b = true := by decide
theorem sat9 {p : Nat → Bool} (h : ¬ (p 97 = true ∧ p 98 = true)) : Sat b9 p := fun x y hxy z => by
  have e : [x, y] = [97, 98] := List.mem_singleton.mp hxy
  injection e with e1 e2
  injection e2 with e2 _
  subst e1 e2
  exact h z
theorem fine9 : Fine l9 (rms l9 b9) := by
  have mr := rms_mem g9 bar9
  refine ⟨fun c hc => ⟨⟨rmOf l9 fun x => decide (x = c), (mr _).mpr ⟨_, rfl, sat9 fun z => ?_⟩, (rm_mem g9 (sds_of_small hc)).mpr ?_⟩, ⟨rmOf l9 fun _ => false, (mr _).mpr ⟨_, rfl, sat9 fun z => by cases z.1⟩, fun z => ?_⟩⟩, fun x y hxy => ?_⟩
  · have a := of_decide_eq_true z.1
    have b := of_decide_eq_true z.2
    omega
  · have := g9.sm c hc
    unfold val
    rw [if_neg (by omega)]
    exact decide_eq_true rfl
  · have := (rm_mem g9 (sds_of_small hc)).mp z
    have h2 := g9.sm c hc
    unfold val at this
    rw [if_neg (by omega)] at this
    cases this
  · obtain ⟨x', y', e, hx, hy, lt⟩ := bar_two hxy
    cases e
    by_cases h : x = 97 ∧ y = 98
    · obtain ⟨rfl, rfl⟩ := h
      refine ⟨rmOf l9 fun _ => false, (mr _).mpr ⟨_, rfl, sat9 fun z => by cases z.1⟩, .inr (by decide)⟩
    · have lx := sds_lt g9 hx
      have ly := sds_lt g9 hy
      have vx : ∀ {s : Nat}, isLt s → s = x ∨ s = y → val (fun z => decide (z = x ∨ z = y)) s = true := fun {s} hs he => by
        unfold val
        unfold lwc at lt
        unfold isLt at hs lx ly
        split
        · next h1 =>
          rw [Bool.not_eq_true', decide_eq_false_iff_not]
          rintro (z | z) <;> rcases he with rfl | rfl <;> (first | omega | (split at lt <;> split at lt <;> omega))
        · exact decide_eq_true he
      refine ⟨rmOf l9 fun z => decide (z = x ∨ z = y), (mr _).mpr ⟨_, rfl, sat9 fun z => h ?_⟩, .inl (inR_iff.mpr fun s hs => ?_)⟩
      · have a := of_decide_eq_true z.1
        have b := of_decide_eq_true z.2
        unfold lwc at lt
        split at lt <;> split at lt <;> omega
      · rcases List.mem_cons.mp hs with rfl | hs
        · exact (rm_mem g9 hx).mpr (vx lx (.inl rfl))
        · rw [List.mem_singleton.mp hs]
          exact (rm_mem g9 hy).mpr (vx ly (.inr rfl))
theorem ok9 : Okv l9 b9 := Fine.ok g9 bar9 fine9
theorem many9 : 256 < (rms l9 b9).length := by decide +kernel
def rm9 : List Nat := [65, 66, 67, 68, 69, 70, 71, 72, 73]
theorem room9 : rm9 ∈ rms l9 b9 := (rms_mem g9 bar9 rm9).mpr ⟨fun _ => false, by decide, sat9 fun z => by cases z.1⟩
def l8 : List Nat := [97, 98, 99, 100, 101, 102, 103, 104]
theorem g8 : GoodW l8 := ⟨by decide, by decide, by decide, by decide⟩
theorem many8 : (rms l8 []).length ≤ 256 := by
  unfold rms
  refine Nat.le_trans (List.length_filter_le _ _) ?_
  rw [allT_len]
  decide
theorem room8 : l8 ∈ rms l8 [] := (rms_mem g8 (fun b hb => by cases hb) l8).mpr ⟨fun _ => true, by decide, fun x y h => by cases h⟩
theorem part8 : Part l8 [97] := ⟨by decide, by decide⟩
/-- a room of the part stays -/
theorem wov_stay {l : List Nat} (g : GoodW l) {bs : List (List Nat)} (hb : ∀ b ∈ bs, isBar l b = true) {fo : Nat → List Nat} (hf : ∀ s ∈ sds l, ∀ t, t ∈ fo s ↔ Frc (adjOf bs) s t) {P r : List Nat} (hP : ∀ c ∈ P, c ∈ sds l) (hr : r ∈ rms l bs) (hin : ∀ s ∈ P, s ∈ r) : wov (allFo fo P) r = r := by
  unfold wov
  refine Eq.trans (List.map_congr_left fun s hs => ?_) (List.map_id r)
  have sd : s ∈ sds l := by
    obtain ⟨p, rfl, _⟩ := (rms_mem g hb r).mp hr
    exact rm_asc g hs
  show (if swp s ∈ allFo fo P then swp s else s) = s
  rw [if_neg fun z => room_one g hb hf hr sd hs (allFo_in g hb hf hP hr hin z)]
end NC
namespace NC
open PySem PySem.Spec PyProof.Rows L2
abbrev sLaw : Stmt := topS 80
abbrev nLaw : List Str := ["_law_script", "_law_d", "_law_shuts_here", "_law_bars", "_law_rooms_here", "_law_moves", "_law_turn", "_law_due", "_law_told_here", "_law_want", "_law_cap", "_law_hall_here", "_law_parts", "_law_room", "_law_wide", "_law_part_here"]
theorem scLaw : FnScope nLaw ["_law_script"] (defScope sLaw) := ⟨rfl, rfl, rfl, by decide +kernel, rfl, by decide +kernel, by decide +kernel⟩
def gApp {α : Type} (us ws : List α) : List α := us ++ ws
/-- the name of the law's lambdas -/
def lamN (c : Value) : Str := (envOfC "law" (defScope sLaw) 0 0 c).qual ++ "<lambda>"
def spLawT (K : PySem.W.Frag) (T : List (Addr × Str)) : Sp := fun vs H Q _ => ∃ (a : Addr) (ns : List Int), vs = [.ref a] ∧ SqL K H a (ns.map V.int) ∧ LamX.Tabs T H ∧ ∀ H', Q (.bl true) H'
def tUp (te : TE) : TE := tM0 (fun x xs H Q => ∃ a, x = .str a ∧ xs = [] ∧ a.length ≤ 5592405 ∧ Q (.str (Txt.upper a)) H) te
theorem MovesAt.smd {H H' : Hp} {m d : Addr} {n : Nat} {rs : List (List Nat)} {fs : Nat → List Nat → List Nat} (h : MovesAt H m n rs fs) (D : Dr H d) (nm : m ≠ d) (s : SmD d H H') : MovesAt H' m n rs fs := by
  obtain ⟨c, r, hd⟩ := D.head
  obtain ⟨es, h1, h2, h3⟩ := h
  refine ⟨es, h1, s.1 _ _ nm h2, fun k hk => ?_⟩
  obtain ⟨e, a, b⟩ := h3 k hk
  exact ⟨e, a, s.1 _ _ (ne_of b hd fun z => by cases z) b⟩
theorem MovesAt.upd {H : Hp} {m p : Addr} {n : Nat} {rs : List (List Nat)} {fs : Nat → List Nat → List Nat} {xs : List V} {o : HO} (h : MovesAt H m n rs fs) (e : H p = some (.lst xs)) (ne : m ≠ p) : MovesAt (upd H p o) m n rs fs := by
  obtain ⟨es, h1, h2, h3⟩ := h
  refine ⟨es, h1, by rw [upd_ne ne]; exact h2, fun k hk => ?_⟩
  obtain ⟨e', a, b⟩ := h3 k hk
  exact ⟨e', a, by rw [upd_ne (ne_of b e fun z => by cases z)]; exact b⟩
theorem getm {L : List (List Nat)} {i : Nat} {v : V} (hx : ((L.map tx).map V.str)[i]? = some v) : ∃ r, L[i]? = some r ∧ v = .str (tx r) := by
  rw [List.getElem?_map, List.getElem?_map] at hx
  obtain ⟨z, hz, rfl⟩ := Option.map_eq_some_iff.mp hx
  obtain ⟨r, hr, rfl⟩ := Option.map_eq_some_iff.mp hz
  exact ⟨r, hr, rfl⟩
/-- two sorted rows of the same texts -/
theorem sorted_same {zs zs2 : List Str} {ks ks2 : List (List Nat)} (p : zs.Perm (ks.map tx)) (s : sortedS zs = true) (p2 : zs2.Perm (ks2.map tx)) (s2 : sortedS zs2 = true) (n : ks.Nodup) (n2 : ks2.Nodup) (h : ∀ y, y ∈ ks ↔ y ∈ ks2) : zs2 = zs := by
  have q : ks2.Perm ks := (List.perm_ext_iff_of_nodup n2 n).mpr fun y => (h y).symm
  exact sortedS_eq s2 (p2.trans ((q.map tx).trans p.symm)) (sortedS_pw zs s)
theorem MovesAt.ext {H H' : Hp} {m : Addr} {n : Nat} {rs : List (List Nat)} {fs : Nat → List Nat → List Nat} (h : MovesAt H m n rs fs) (x : LamX.ExtN H H') : MovesAt H' m n rs fs := by
  obtain ⟨es, h1, h2, h3⟩ := h
  refine ⟨es, h1, x _ _ h2 (fun _ z => by cases z), fun k hk => ?_⟩
  obtain ⟨e, a, b⟩ := h3 k hk
  exact ⟨e, a, x _ _ b (fun _ z => by cases z)⟩
theorem alk_tm {H : Hp} {p q : Addr} {n : Int} (h1 : H p = some (.tup [.str "toomany", .int n])) (h2 : H q = some (.tup [.str "toomany", .int n])) : Alk H 2 (.ref p) (.ref q) :=
  .tup h1 h2 rfl (by show 2 ≤ 5000; decide) fun i a b ha hb => by
    rw [ha] at hb
    cases hb
    match i, ha with
    | 0, ha => cases ha; exact .str _
    | 1, ha => cases ha; exact .int _
def tmD : PyData := .tuple [.str "toomany", .int 256]
theorem okTM : okS "toomany" := by
  rw [show (Str.ofString "toomany") = tx [116, 111, 111, 109, 97, 110, 121] by decide +kernel]
  exact okS_tx (by decide)
theorem sh_tm : SeqAt.shaped tmD = true := by
  have q := strOk_of okTM
  show (PyData.canLay0 _ && decide (PyData.depth _ ≤ 64)) = true
  simp [tmD, PyData.canLay0, PyData.canLayAll0, PyData.depth, PyData.depthAll, q]
theorem ev_tm : PyData.eqv tmD tmD = true := by simp [tmD, PyData.eqv, PyData.eqvAll]
theorem e9 : (Str.ofString "abcdefghi") = tx l9 := by decide +kernel
theorem e9u : Txt.upper (Str.ofString "abcdefghi") = tx rm9 := by decide +kernel
theorem e8 : (Str.ofString "abcdefgh") = tx l8 := by decide +kernel
theorem eab : (Str.ofString "ab") = tx [97, 98] := by decide +kernel
theorem ea : (Str.ofString "a") = tx [97] := by decide +kernel
/-- the law's own helpers -/
structure Hlp (K : PySem.W.Frag) (mg : Str → Option Value) (f_same f_start f_draw f_of f_letters f_shuts f_oth f_wit f_pairs f_all f_rms f_fine f_hall f_lsi f_lpa f_apart f_lne f_led f_map f_lca f_rea f_told f_sh f_oc f_co : Addr) (d_same d_start d_draw d_of d_letters d_shuts d_oth d_wit d_pairs d_all d_rms d_fine d_hall d_lsi d_lpa d_apart d_lne d_led d_map d_lca d_rea d_told d_sh d_oc d_co : FuncData) (v_co : Value) : Prop where
  same : DF K mg "_law_same" sSame ["_law_x", "_law_due"] f_same d_same
  start : DF K mg "_law_start" sStart ["_law_script"] f_start d_start
  draw : DF K mg "_law_draw" sDraw ["_law_d", "_law_many"] f_draw d_draw
  of : DF K mg "_law_of" sOf ["_law_d", "_law_some"] f_of d_of
  letters : DF K mg "_law_letters" sLetters [] f_letters d_letters
  shuts : DF K mg "_law_shuts" sShuts ["_law_d", "_law_most_it"] f_shuts d_shuts
  oth : DF K mg "_law_other" sOth ["_law_side"] f_oth d_oth
  wit : DF K mg "_law_within" sWithin ["_law_sides_here", "_law_room"] f_wit d_wit
  pairs : DF K mg "_law_pairs" sPairs ["_law_shuts_here"] f_pairs d_pairs
  all : DF K mg "_law_all" sAll ["_law_shuts_here"] f_all d_all
  rms : DF K mg "_law_rooms" sRooms ["_law_shuts_here", "_law_bars"] f_rms d_rms
  fine : DF K mg "_law_fine" sFine ["_law_shuts_here", "_law_rooms_here"] f_fine d_fine
  hall : DF K mg "_law_hall" sHall ["_law_d", "_law_most_it"] f_hall d_hall
  lsi : DF K mg "_law_sides" sLSides ["_law_d", "_law_shuts_here"] f_lsi d_lsi
  lpa : DF K mg "_law_part" sLPart ["_law_d", "_law_shuts_here", "_law_rooms_here"] f_lpa d_lpa
  apart : DF K mg "_law_apart" sApart ["_law_one", "_law_two"] f_apart d_apart
  lne : DF K mg "_law_near" sLNear ["_law_rooms_here", "_law_part_here", "_law_room"] f_lne d_lne
  led : DF K mg "_law_led" sLed ["_law_rooms_here", "_law_shuts_here", "_law_steps", "_law_room"] f_led d_led
  map : DF K mg "_law_map" sMap ["_law_rooms_here", "_law_shuts_here", "_law_steps"] f_map d_map
  lca : DF K mg "_law_calls" sLCalls ["_law_d", "_law_shuts_here", "_law_rooms_here", "_law_most_it"] f_lca d_lca
  rea : DF K mg "_law_reach" sReach ["_law_rooms_here", "_law_moves", "_law_room"] f_rea d_rea
  told : DF K mg "_law_told" sTold ["_law_ask"] f_told d_told
  sh : DF K mg "shut" sShut ["hall", "part"] f_sh d_sh
  oc : DF K mg "of_call" sOfCall ["hall", "part"] f_oc d_oc
  coF : FunD K "come_to" "come_to" (defArgs sCome) (defBody sCome) (defScope sCome) [] [("most", .int 256)] f_co d_co
  coG : mg "come_to" = some (.ref f_co)
  coB : Binds K d_co ["hall", "calls", "room", "most"] [v_co]
  coV : RelV (.int 256) v_co
  coN : KBn K d_co ["hall", "calls", "room", "most"] 3 ["most"] gApp gApp
  mx : mg "max" = none
  many : mg "any" = none
  mb : mg "bool" = none
  ms : mg "str" = none
section
variable {P : Program} {w : World} {K : PySem.W.Frag} {mg : Str → Option Value} {base : Heap} {tw tc : Tok} {fOther fSides fByW fIsW fIsB fCW fCB fCS fStr fRe fAF fCF fCA : Addr} {dOther dSides dByW dIsW dIsB dCW dCB dCS dStr dRe dAF dCF dCA : FuncData}
    {CH iH CBb iB CF iF CA iA CM iM e : Addr} {eH eB eF eA eM : FuncData} {C fi fb fw f0 ff fm fr fg : Addr} {di db dw d0 df dm dr dg : FuncData} {fIsP fChP fAFB fTw : Addr} {dIsP dChP dAFB dTw : FuncData}
    {fFx fSoo fIe fMm fSt fLd fCe : Addr} {dFx dSoo dIe dMm dSt dLd dCe : FuncData} {CT iT CB fI fE : Addr} {eT dI dE : FuncData} {fSc fCR fRm fCm fSb fRb : Addr} {dSc dCR dRm dCm dSb dRb : FuncData}
    {f_same f_start f_draw f_of f_letters f_shuts f_oth f_wit f_pairs f_all f_rms f_fine f_hall f_lsi f_lpa f_apart f_lne f_led f_map f_lca f_rea f_told f_sh f_oc f_co : Addr} {d_same d_start d_draw d_of d_letters d_shuts d_oth d_wit d_pairs d_all d_rms d_fine d_hall d_lsi d_lpa d_apart d_lne d_led d_map d_lca d_rea d_told d_sh d_oc d_co : FuncData} {v_co : Value}
set_option maxHeartbeats 16000000 in
theorem ok_law {f c PT_ : Addr} {kV doc pm ct oc : Value} {an od : Option Addr} {osl : Array (Option Value)} {k : Nat}
    (lk : K.lookup f = some ⟨oc, od, .func (PySem.W.fnOf "law" "law" (defArgs sLaw) (defBody sLaw) (defScope sLaw) .none kV doc pm an (.ref c) ct), osl⟩) (hcd : PySem.W.codeIn K (.ref c) "law" = true) (TB : LamX.TabB base mg c PT_) (EE : EX K CM) (XM : XC K mg "TooMany" "TooMany.__init__" sTMinit "most" CM iM eM)
    (M : MK K mg C fi fb fw f0 ff di db dw d0 df fCS fSides fOther dCS dSides dOther fFx fSoo fIe fMm fSt fLd fCe dFx dSoo dIe dMm dSt dLd dCe CH iH CT iT eH eT CB fI fE dI dE) (Mh : HM K C fm fr fg dm dr dg) (Y : PT K mg C fw f0 dw d0 fIsP fChP fAFB fTw dIsP dChP dAFB dTw) (US : CS K mg tc fSc fCR fRm fCm fSb fRb dSc dCR dRm dCm dSb dRb)
    (T : Txt8 K mg tw fOther fSides fByW fIsW fIsB fCW fCB fCS fStr fRe fAF fCF fCA dOther dSides dByW dIsW dIsB dCW dCB dCS dStr dRe dAF dCF dCA CH iH CBb iB CF iF CA iA eH eB eF eA)
    (ZD : Binds K di ["self", "walls", "bars"] [.ref e]) (eTu : ∃ (oe : Obj) (ne : Nat), K.lookup e = some oe ∧ oe.cls = .type "tuple" ∧ oe.data = .seq #[] ne)
    (L : Hlp K mg f_same f_start f_draw f_of f_letters f_shuts f_oth f_wit f_pairs f_all f_rms f_fine f_hall f_lsi f_lpa f_apart f_lne f_led f_map f_lca f_rea f_told f_sh f_oc f_co d_same d_start d_draw d_of d_letters d_shuts d_oth d_wit d_pairs d_all d_rms d_fine d_hall d_lsi d_lpa d_apart d_lne d_led d_map d_lca d_rea d_told d_sh d_oc d_co v_co) :
    FnOk P w K mg base CX0 (k + 14) f (PySem.W.fnOf "law" "law" (defArgs sLaw) (defBody sLaw) (defScope sLaw) .none kV doc pm an (.ref c) ct) ["_law_script"] (spLawT K [(PT_, lamN (.ref c))]) := by
  have B := T.B
  have GSt : FnOk P w K mg base CX0 (k + 1) f_start d_start ["_law_script"] (spStart K) := ok_start T.B L.start.F
  have GD : FnOk P w K mg base CX0 (k + 1) f_draw d_draw ["_law_d", "_law_many"] spDraw := ok_draw T.B L.draw.F
  have GO : FnOk P w K mg base CX0 (k + 2) f_of d_of ["_law_d", "_law_some"] (spOf K) := ok_of T.B L.of.F L.draw
  have GHl : FnOk P w K mg base CX0 (k + 3) f_hall d_hall ["_law_d", "_law_most_it"] spHall := ok_hall T.B L.many L.hall.F L.draw L.of L.letters L.shuts L.oth L.wit L.pairs L.all L.rms L.fine
  have GC : FnOk P w K mg base CX0 (k + 5) f_lca d_lca ["_law_d", "_law_shuts_here", "_law_rooms_here", "_law_most_it"] spLCalls := ok_lcalls T.B L.many L.lca.F L.draw L.of L.lsi L.wit L.lpa
  have GM : FnOk P w K mg base CX0 (k + 4) f_map d_map ["_law_rooms_here", "_law_shuts_here", "_law_steps"] (spMap K) := ok_map T.B L.map.F L.led L.lne L.wit L.apart
  have GRe : FnOk P w K mg base CX0 (k + 1) f_rea d_rea ["_law_rooms_here", "_law_moves", "_law_room"] spReach := ok_reach T.B L.rea.F
  have GS : FnOk P w K mg base CX0 (k + 4) f_same d_same ["_law_x", "_law_due"] (spYes 2) := ok_yes T.B L.mb L.ms L.same 2
  have GH : FnOk P w K mg base (L2.CX P w) (k + 5) fi di ["self", "walls", "bars"] (spHinit K C CBb CF CA) := ok_Hinit M.Z T
  have GHA : FnOk P w K mg base (L2.CX P w) (k + 5) fi di ["self", "walls", "bars"] (spHinitA K C CBb CF CA) := ok_HinitA M.Z T
  have GCo : FnOk P w K mg base (L2.CX P w) (k + 11) f_co d_co ["hall", "calls", "room", "most"] (spCome K C CM) := ok_come M Mh L.many T.Y Y L.sh L.oc US XM L.coF
  have UT : Uses P w K mg base (k + 11) (k + 13) f_told d_told ["_law_ask"] (spTold K CM) := ok_told L.told.F XM.gC
  refine fn_of lk hcd scLaw (fun vs H Q E h => ?_) (fun A outer st H vs Q E hr h => ?_)
  · obtain ⟨a, ns, rfl, _⟩ := h
    rfl
  · obtain ⟨a, ns, rfl, hS, hT, q⟩ := h
    have r1 : Room (k + 1) _ := hr.mono (by omega)
    have r2 : Room (k + 2) _ := hr.mono (by omega)
    have r3 : Room (k + 3) _ := hr.mono (by omega)
    have r4 : Room (k + 4) _ := hr.mono (by omega)
    have r5 : Room (k + 5) _ := hr.mono (by omega)
    have r6 : Room (k + 6) _ := hr.mono (by omega)
    have r7 : Room (k + 7) _ := hr.mono (by omega)
    have r8 : Room (k + 8) _ := hr.mono (by omega)
    have r9 : Room (k + 9) _ := hr.mono (by omega)
    have r10 : Room (k + 10) _ := hr.mono (by omega)
    have r11 : Room (k + 11) _ := hr.mono (by omega)
    have r12 : Room (k + 12) _ := hr.mono (by omega)
    have r13 : Room (k + 13) _ := hr.mono (by omega)
    have nd := scLaw.nd
    have hu := hr.units
    refine ⟨_, PSs.nox (pss_cons (ps_set (i := 1) nd rfl (.inl rfl) (pe_call GSt r1 rfl L.start.g L.start.F.kp L.start.b .nil pass0 (pa_cons (pv 0) pa_nil)))
      (pss_cons (ps_asg (pe_call GHl r3 rfl L.hall.g L.hall.F.kp L.hall.b .nil pass0 (pa_cons (pv 1) (pa_cons pe_int pa_nil))) (pg_lst rfl (pgs_cons (pg_name (i := 2) nd rfl (.inr rfl)) (pgs_cons (pg_name (i := 3) nd rfl (.inl rfl)) (pgs_cons (pg_name (i := 4) nd rfl (.inr rfl)) pgs_nil)))))
      (pss_cons (ps_set (i := 11) nd rfl (.inr rfl) (pe_make (E := E0) M.Z.mks GH r6 rfl M.Z.gC M.Z.b .nil passF (pa_cons (pv 2) (pa_cons (pv 3) pa_nil))))
      (pss_cons (ps_set (i := 12) nd rfl (.inr rfl) (pe_call GC r5 rfl L.lca.g L.lca.F.kp L.lca.b .nil pass0 (pa_cons (pv 1) (pa_cons (pv 2) (pa_cons (pv 4) (pa_cons pe_int pa_nil))))))
      (pss_cons (ps_setLc (i := 5) (own := [("_law_part_here", 15)]) (g := gName 15) (tt := tYes) (te := tCall (spMap K) [] E0 (tCons (tVar 4) (tCons (tVar 2) (tCons (tLst (tCons (tTup (tCons (tC (.str "call")) (tCons (tVar 15) tNil))) tNil)) tNil)))) rfl nd rfl rfl (sw_true rfl rfl rfl (by decide +kernel)) (pi_list (pv 12)) (blkOk_by (N := nLaw) (sc := defScope sLaw) (by decide +kernel)) (fun _ _ _ _ _ => pg_name (i := 15) nd rfl (Or.inl rfl)) (fun _ _ _ _ _ => pts_nil) (fun _ _ _ _ _ => (pe_call GM r4 rfl L.map.g L.map.F.kp L.map.b .nil pass0 (pa_cons (pv 4) (pa_cons (pv 2) (pa_cons (pe_lst (pa_cons (pe_tup (pa_cons pe_str (pa_cons (pv 15) pa_nil))) pa_nil)) pa_nil))))))
      (C8.pss_cut (ps_for PassesOwn.never rfl (pi_range1 (by rfl) B.range (pa_cons pe_int pa_nil)) (pg_name (i := 6) nd rfl (.inl rfl))
      (pss_cons (ps_set (i := 13) nd rfl (.inr rfl) (pe_call GO r2 rfl L.of.g L.of.F.kp L.of.b .nil pass0 (pa_cons (pv 1) (pa_cons (pv 4) pa_nil))))
      (pss_cons (ps_set (i := 7) nd rfl (.inl rfl) (pe_callB cr_sortedSA (by rfl) B.sorted (by decide +kernel) (pa_cons (pe_call GRe r1 rfl L.rea.g L.rea.F.kp L.rea.b .nil pass0 (pa_cons (pv 4) (pa_cons (pv 5) (pa_cons (pv 13) pa_nil)))) pa_nil)))
      (pss_cons (ps_set (i := 8) nd rfl (.inl rfl) (pe_call (E := E0) GCo r11 rfl L.coG L.coF.kp L.coB (.cons L.coV .nil) passF (pa_cons (pv 11) (pa_cons (pv 12) (pa_cons (pv 13) pa_nil)))))
      (C8.pss_cut (ps_if (pt_not (pt_val (pe_call GS r4 rfl L.same.g L.same.F.kp L.same.b .nil pass0 (pa_cons (pv 8) (pa_cons (pv 7) pa_nil))))) (pss_one (ps_ret pe_bl)) pss_nil)
      (pss_cons (ps_expr (pe_bm0 PySem.F.plainAttrs_list PySem.F.slot_list_clear PySem.F.type_list_clear mt_clear (pv 8)))
      (C8.pss_cut (ps_if (pt_not (pt_val (pe_call GS r4 rfl L.same.g L.same.F.kp L.same.b .nil pass0 (pa_cons (pe_callN (E := E0) (ks := ["most"]) GCo r11 rfl L.coG L.coF.kp L.coN passF (pa_cons (pv 11) (pa_cons (pv 12) (pa_cons (pv 13) pa_nil))) (pk_cons (pe_op op_pow pe_int pe_int) pk_nil)) (pa_cons (pv 7) pa_nil))))) (pss_one (ps_ret pe_bl)) pss_nil)
      (pss_cons (ps_set (i := 10) nd rfl (.inr rfl) (pe_callB (call_max2 rfl) (by rfl) L.mx (by decide +kernel) (pa_cons pe_int (pa_cons (pe_op op_sub (pe_op op_add (pe_callB call_len_seq (by rfl) B.len PySem.boot_len (pa_cons (pv 4) pa_nil)) (pe_call GD r1 rfl L.draw.g L.draw.F.kp L.draw.b .nil pass0 (pa_cons (pv 1) (pa_cons pe_int pa_nil)))) pe_int) pa_nil))))
      (C8.pss_cut (ps_set (i := 9) nd rfl (.inl rfl) (pe_ifExp (pt_cmpR op_le (pe_callB call_len_seq (by rfl) B.len PySem.boot_len (pa_cons (pv 4) pa_nil)) (pv 10) (nomark _)) (pv 7) (pe_tup (pa_cons pe_str (pa_cons (pv 10) pa_nil)))))
      (pss_one (ps_if (pt_not (pt_val (pe_call GS r4 rfl L.same.g L.same.F.kp L.same.b .nil pass0 (pa_cons (pe_lamU (T := [(PT_, lamN (.ref c))]) (vs0 := []) (t := fun E => tCallN 3 1 (spCome K C CM) gApp E (tCons (tVar 11) (tCons (tVar 12) (tCons (tVar 13) tNil))) (tCons (tVar 10) tNil)) UT r13 rfl L.told.g L.told.F.kp L.told.b rfl pa_nil TB rfl (List.mem_cons_self ..) (fun p hp _ => by rw [List.mem_singleton.mp hp]; rfl)
            (LamX.lamS_by (sc := defScope sLaw) (by decide +kernel)) rfl (fun _ _ _ _ _ => rfl)
            (fun A out s H E f c' hr2 => (pe_callN (E := E) (ks := ["most"]) GCo hr2 rfl L.coG L.coF.kp L.coN (passes_call (takes_of rfl rfl rfl rfl) (fun _ _ _ _ h => h)) (pa_cons (pv 11) (pa_cons (pv 12) (pa_cons (pv 13) pa_nil))) (pk_cons (pv 10) pk_nil))) rfl) (pa_cons (pv 9) pa_nil))))) (pss_one (ps_ret pe_bl)) pss_nil)))))))))))
      (pss_cons (ps_set (i := 14) nd rfl (.inr rfl) (pe_make (E := E0) M.Z.mks GHA r6 rfl M.Z.gC M.Z.b .nil passF (pa_cons pe_str (pa_cons (pe_lst (pa_cons pe_str pa_nil)) pa_nil))))
      (C8.pss_cut (ps_if (pt_cmpR (op_neD hu) (pe_lamU (T := [(PT_, lamN (.ref c))]) (vs0 := []) (t := fun E => tCall (spCome K C CM) [.int 256] E (tCons (tVar 14) (tCons (tLst tNil) (tCons (tUp (tC (.str "abcdefghi"))) tNil)))) UT r13 rfl L.told.g L.told.F.kp L.told.b rfl pa_nil TB rfl (List.mem_cons_self ..) (fun p hp _ => by rw [List.mem_singleton.mp hp]; rfl)
            (LamX.lamS_by (sc := defScope sLaw) (by decide +kernel)) rfl (fun _ _ _ _ _ => rfl)
            (fun A out s H E f c' hr2 => (pe_call (E := E) GCo hr2 rfl L.coG L.coF.kp L.coB (.cons L.coV .nil) (passes_call (takes_of rfl rfl rfl rfl) (fun _ _ _ _ h => h)) (pa_cons (pv 14) (pa_cons (pe_lst pa_nil) (pa_cons (pe_upper pe_str) pa_nil))))) rfl) (pe_tup (pa_cons pe_str (pa_cons pe_int pa_nil))) (nomark _)) (pss_one (ps_ret pe_bl)) pss_nil)
      (pss_one (ps_ret (pe_cmpR op_eq (pe_callB call_len_seq (by rfl) B.len PySem.boot_len (pa_cons (pe_call (E := E0) GCo r11 rfl L.coG L.coF.kp L.coB (.cons L.coV .nil) passF (pa_cons (pe_make (E := E0) M.Z.mks GHA r6 rfl M.Z.gC ZD (.cons (show L2.RelV (V.ref e) (Value.ref e) from rfl) .nil) passF (pa_cons pe_str pa_nil)) (pa_cons (pe_lst (pa_cons pe_str pa_nil)) (pa_cons pe_str pa_nil)))) pa_nil)) pe_int (nomark _)))))))))))), ?_⟩
    refine ⟨_, rfl, a, ns, rfl, hS, fun H0 d s0 nd0 D0 => ?_⟩
    refine ⟨_, rfl, d, 6, rfl, D0, by decide, by decide, fun H1 l bs Tl bA rA s1 D1 ho hln nbd nrd eT eb er => ?_⟩
    have T1 := tabs_smx (hT.ext s0) D0 s1.1
    have g := ho.g
    have hl6 : l.length ≤ 6 := by omega
    refine ⟨Tl, _, rfl, SqL.of eT, rfl, _, _, rfl, _, _, rfl, _, _, rfl, rfl, ?_⟩
    have fok := first_ok ho.bar ho.nd
    have bok := bars_ok g ho.bar
    obtain ⟨c0, hc0⟩ := D1.head
    obtain ⟨rr, hd1⟩ := id hc0
    refine ⟨_, rfl, _, rfl, fun x dx nx ndx nne => ?_⟩
    have s8 : Same H1 (upd (upd H1 dx (.own x)) x (.ins C dx [])) := sm_upd (same_upd ndx) (by rw [upd_ne (Ne.symm nne)]; exact nx)
    refine ⟨x, dx, l, bA, bs, rfl, upd_same, g, bok, by have := ho.len; omega, sm_l s8 (SqL.of eb), ?_⟩
    rw [fok]
    intro fo hfo
    have foI := hfo.iff g ho.bar
    rw [ho.ok fo foI]
    intro H2 sb D ys s9 nsb nD hat hp hso
    refine ⟨rfl, ?_⟩
    have s2 : Same H1 H2 := fun b o hb => s9 b o (ne_of_none hb nx) (s8 b o hb)
    have nsd : sb ≠ d := Ne.symm (ne_of_none (s8 _ _ hd1) nsb)
    have S2 : St7 [(PT_, lamN (.ref c))] d c0 rA (((rms l bs).map tx).map V.str) C x dx sb D l ys fo H2 := ⟨⟨D1.same s2, ⟨rr, s2 _ _ hd1⟩, s2 _ _ er, hat⟩, T1.ext s2⟩
    have hgo : ∀ {H'}, St7 [(PT_, lamN (.ref c))] d c0 rA (((rms l bs).map tx).map V.str) C x dx sb D l ys fo H' → HallF C H' x dx sb D l ys fo bs := fun S => ⟨⟨S.S.hA, g, ho.bar, hp, by have := ho.len; omega, ho.ok⟩, foI, fun s hs => hfo.len g hs⟩
    have rl64 : (rms l bs).length ≤ 64 := by
      unfold rms
      refine Nat.le_trans (List.length_filter_le _ _) ?_
      rw [allT_len]
      exact Nat.le_trans (Nat.pow_le_pow_right (by decide) hl6) (by decide)
    have ll : (((rms l bs).map tx).map V.str).length = (rms l bs).length := by rw [List.length_map, List.length_map]
    clear s9 s8 hd1 hfo eT eb er
    refine ⟨_, rfl, _, rfl, _, rfl, d, l, bs, rA, 8, rfl, by decide, S2.S.dr, g, ho.bar, nrd, S2.S.rA, ho.ne, by omega, fun H3 pA Ps s3 D3 npA epA pl hPs => ?_⟩
    have S3 := S2.smd nrd nsd s3 D3
    have nPd : pA ≠ d := S2.S.dr.ne npA
    have fcl : ∀ k, k < Ps.length → ∀ y ∈ rms l bs, fsP fo Ps k y ∈ rms l bs := fun k hk y hy => by
      have := (entsOf_ok g ho.bar foI hPs hk).2 y hy
      show wov (allFo fo (Ps.getD k [])) y ∈ rms l bs
      rw [← this.1]
      exact this.2
    have rchr : ∀ {room y : List Nat}, room ∈ rms l bs → Rch Ps.length (fsP fo Ps) room y → y ∈ rms l bs := fun {room y} hr h => by
      induction h with
      | refl => exact hr
      | step _ hk ih => exact fcl _ hk _ ih
    -- the maps
    have wkp := walk_list (K := K) (a := pA) (xs := (Ps.map tx).map V.str)
    rw [List.length_map, List.length_map] at wkp
    refine ⟨_, rfl, pA, rfl, ⟨_, SqL.of epA⟩, fun mA na => ?_⟩
    refine lc_it wkp (fun i H' => Same H3 H' ∧ MovesAt H' mA i (rms l bs) (fsP fo Ps)) ⟨same_upd na, [], rfl, upd_same, fun k hk => absurd hk (Nat.not_lt_zero _)⟩ (fun i H' _ h => SqL.of (h.1 _ _ epA)) ?_ ?_
    · rintro u v G1 G2 hu2 ⟨u1, es, el, em, ed⟩ ⟨rfl, hx⟩
      obtain ⟨o, ho2, rfl⟩ := getm hx
      refine ⟨rfl, yes_i ⟨_, rfl, _, rfl, _, rfl, by show 2 ≤ sizeLine; decide, fun T1 nT1 => ⟨by show 1 ≤ sizeLine; decide, fun L1 nL1 => ?_⟩⟩⟩
      have nTL : T1 ≠ L1 := ne_of_none upd_same nL1
      have sg2 : Same G2 (upd (upd G2 T1 (.tup [.str "call", .str (tx o)])) L1 (.lst [.ref T1])) := sm_upd (same_upd nT1) nL1
      have st1 : StepsAt (upd (upd G2 T1 (.tup [.str "call", .str (tx o)])) L1 (.lst [.ref T1])) L1 [o] := ⟨[T1], rfl, upd_same, fun j P0 hj => by
        match j, hj with
        | 0, hj => cases hj; exact ⟨T1, rfl, by rw [upd_ne nTL, upd_same]⟩⟩
      generalize (upd (upd G2 T1 (.tup [.str "call", .str (tx o)])) L1 (.lst [.ref T1])) = G3 at sg2 st1 ⊢
      have u13 := sm_trans u1 sg2
      refine ⟨rA, L1, l, bs, fo, [o], rfl, g, ho.bar, foI, SqL.of (u13 _ _ S3.S.rA), st1, fun P0 hP0 => by rw [List.mem_singleton.mp hP0]; exact hPs o (List.mem_of_getElem? ho2), fun G4 pd u4 npd epd => ?_⟩
      have em4 := u4 _ _ (sg2 _ _ em)
      have nmp : mA ≠ pd := ne_of_none (sg2 _ _ em) npd
      refine ⟨_, em4, by rw [List.length_map, el, sizeLine_eq]; omega, sm_over (sm_trans u13 u4) na, es ++ [pd], by rw [List.length_append, el]; rfl, by rw [upd_same, List.map_append]; rfl, fun k' hk' => ?_⟩
      rcases Nat.lt_or_ge k' u with z | z
      · obtain ⟨e, a1, b1⟩ := ed k' z
        refine ⟨e, by rw [List.getElem?_append_left (by omega)]; exact a1, ?_⟩
        have n1 : e ≠ mA := ne_of b1 em (fun z => by cases z)
        rw [upd_ne n1]
        exact u4 _ _ (sg2 _ _ b1)
      · have ek : k' = u := by omega
        subst ek
        refine ⟨pd, by rw [List.getElem?_append_right (by omega), el, Nat.sub_self]; rfl, ?_⟩
        rw [upd_ne (Ne.symm nmp), epd]
        have : Ps.getD k' [] = o := by rw [List.getD_eq_getElem?_getD, ho2]; rfl
        unfold fsP
        rw [this]
        rfl
    rintro H4 ⟨s4, hM4⟩
    have S4 := S3.same s4
    have epA4 := s4 _ _ epA
    have nmd : mA ≠ d := S3.S.dr.ne na
    have npm : pA ≠ mA := ne_of_none epA na
    have draw : ∀ {H3}, St7 [(PT_, lamN (.ref c))] d c0 rA (((rms l bs).map tx).map V.str) C x dx sb D l ys fo H3 → H3 pA = some (.lst ((Ps.map tx).map V.str)) → MovesAt H3 mA Ps.length (rms l bs) (fsP fo Ps) → ∀ (Q3 : VK), (∀ H4 r, St7 [(PT_, lamN (.ref c))] d c0 rA (((rms l bs).map tx).map V.str) C x dx sb D l ys fo H4 → H4 pA = some (.lst ((Ps.map tx).map V.str)) → MovesAt H4 mA Ps.length (rms l bs) (fsP fo Ps) → r ∈ rms l bs → Q3 (.str (tx r)) H4) → Dr H3 d ∧ ((∃ a xs, V.ref rA = .ref a ∧ a ≠ d ∧ SqL K H3 a xs ∧ 1 ≤ xs.length ∧ xs.length ≤ 1000 ∧ ∀ H' v (i : Nat), SmD d H3 H' → Dr H' d → xs[i]? = some v → Q3 v H') ∨
        ∃ l : List Nat, V.ref rA = .str (tx l) ∧ 1 ≤ l.length ∧ l.length ≤ 1000 ∧ ∀ H' c, SmD d H3 H' → Dr H' d → c ∈ l → Q3 (.str (sg c)) H') := fun {H3} S3 e3 m3 Q3 k3 =>
      ⟨S3.S.dr, .inl ⟨rA, _, rfl, nrd, SqL.of S3.S.rA, by rw [ll]; exact List.length_pos_iff.mpr ho.ne, by rw [ll]; omega, fun H4 v j s4 D4 hv => by
        obtain ⟨r, hr1, rfl⟩ := getm hv
        exact k3 H4 r (S3.smd nrd nsd s4 D4) (s4.1 _ _ nPd e3) (m3.smd S3.S.dr nmd s4) (List.mem_of_getElem? hr1)⟩⟩
    refine ⟨fun σ' H' => ∃ y6 y7 y8 y9 y10 y13, σ' = [some (.ref a), some (.ref d), some (.str (tx l)), some (.ref bA), some (.ref rA), some (.ref mA), y6, y7, y8, y9, y10, some (.ref x), some (.ref pA), y13, none, none] ∧ St7 [(PT_, lamN (.ref c))] d c0 rA (((rms l bs).map tx).map V.str) C x dx sb D l ys fo H', ?_, ?_⟩
    · refine ⟨2, rfl, by decide, by decide, ?_⟩
      rw [show (2 : Int).toNat = 2 from rfl]
      refine for_it walk_range (fun i σ H' => ∃ y6 y7 y8 y9 y10 y13, σ = [some (.ref a), some (.ref d), some (.str (tx l)), some (.ref bA), some (.ref rA), some (.ref mA), y6, y7, y8, y9, y10, some (.ref x), some (.ref pA), y13, none, none] ∧ St7 [(PT_, lamN (.ref c))] d c0 rA (((rms l bs).map tx).map V.str) C x dx sb D l ys fo H' ∧ H' pA = some (.lst ((Ps.map tx).map V.str)) ∧ MovesAt H' mA Ps.length (rms l bs) (fsP fo Ps))
        ⟨_, _, _, _, _, _, rfl, S4, epA4, hM4⟩ (fun _ _ _ _ _ => trivial) ?_ ?_
      · rintro i v σ Ha Hb hi ⟨y6, y7, y8, y9, y10, y13, rfl, Sa, epa, hMa⟩ ⟨rfl, rfl⟩
        refine ⟨_, rfl, _, rfl, d, _, rfl, draw Sa epa hMa _ fun H5 room S5 ep5 hM5 hroom => ?_⟩
        refine ⟨_, rfl, _, rfl, _, rfl, rA, mA, Ps.length, l, bs, room, fsP fo Ps, rfl, g, hM5, by omega, fcl, hroom, fun H6 pk ks s6 npk epk knd kiff => ?_⟩
        refine ⟨pk, ks.map tx, rfl, SqL.of epk, fun zs pd pz sz npd => ?_⟩
        have s67 := sm_upd s6 npd (o := .lst (zs.map V.str))
        have S7 := S5.same s67
        have ep7 := s67 _ _ ep5
        have hM7 := hM5.same s67
        have epd7 : upd H6 pd (.lst (zs.map V.str)) pd = some (.lst (zs.map V.str)) := upd_same
        have npd5 : H5 pd = none := L2.Same.free s6 npd
        generalize upd H6 pd (.lst (zs.map V.str)) = H7 at S7 ep7 hM7 epd7 ⊢
        -- all that can be come to
        refine ⟨_, rfl, _, rfl, _, rfl, x, dx, sb, D, l, ys, fo, bs, pA, Ps, room, 256, rfl, hgo S7, SqL.of ep7, by omega, hPs, hroom, .inl ⟨by omega, fun H8 pt zs2 ks2 s8 npt ept pz2 sz2 knd2 kiff2 => ?_⟩⟩
        rw [sorted_same pz sz pz2 sz2 knd knd2 fun y => (kiff y).trans (kiff2 y).symm] at ept
        have zl : zs.length ≤ 5000 := by
          rw [pz.length_eq, List.length_map]
          have : ks.length ≤ (rms l bs).length := knd.length_le_of_subset fun y hy => rchr hroom ((kiff y).mp hy)
          omega
        have S8 := S7.same s8
        have ep8 := s8 _ _ ep7
        have hM8 := hM7.same s8
        have epd8 := s8 _ _ epd7
        have ned : pd ≠ pt := ne_of_none epd7 npt
        have npat : pA ≠ pt := ne_of_none ep7 npt
        have nmt : mA ≠ pt := by
          obtain ⟨_, _, em, _⟩ := hM7
          exact ne_of_none em npt
        refine ⟨fun σ' H' => σ' = [some (.ref a), some (.ref d), some (.str (tx l)), some (.ref bA), some (.ref rA), some (.ref mA), some (.int (0 + (i : Int))), some (.ref pd), some (.ref pt), y9, y10, some (.ref x), some (.ref pA), some (.str (tx room)), none, none] ∧ St7 [(PT_, lamN (.ref c))] d c0 rA (((rms l bs).map tx).map V.str) C x dx sb D l ys fo H' ∧ H' pA = some (.lst ((Ps.map tx).map V.str)) ∧ MovesAt H' mA Ps.length (rms l bs) (fsP fo Ps) ∧ H' pd = some (.lst (zs.map V.str)) ∧ H' pt = some (.lst (zs.map V.str)), ?_, ?_⟩
        · refine ⟨_, rfl, _, rfl, .ref pt, .ref pd, rfl, Alk.strs ept epd8 zl, fun H9 s9 => ⟨_, rfl, ?_⟩⟩
          exact iteF ⟨rfl, S8.same s9, s9 _ _ ep8, hM8.same s9, s9 _ _ epd8, s9 _ _ ept⟩
        rintro _ H9 ⟨rfl, S9, ep9, hM9, epd9, ept9⟩
        refine ⟨_, rfl, .inl ⟨rfl, _, SqL.of ept9⟩, pt, _, rfl, rfl, ept9, ?_⟩
        have S10 : St7 [(PT_, lamN (.ref c))] d c0 rA (((rms l bs).map tx).map V.str) C x dx sb D l ys fo (upd H9 pt (.lst [])) := S7.put npt S9 ept9 (zs := [])
        have ep10 : (upd H9 pt (.lst [])) pA = some (.lst ((Ps.map tx).map V.str)) := by rw [upd_ne npat]; exact ep9
        have hM10 : MovesAt (upd H9 pt (.lst [])) mA Ps.length (rms l bs) (fsP fo Ps) := hM9.upd ept9 nmt
        have epd10 : (upd H9 pt (.lst [])) pd = some (.lst (zs.map V.str)) := by rw [upd_ne ned]; exact epd9
        generalize upd H9 pt (.lst []) = H10 at S10 ep10 hM10 epd10 ⊢
        -- with a most that is never met
        refine ⟨fun σ' H' => σ' = [some (.ref a), some (.ref d), some (.str (tx l)), some (.ref bA), some (.ref rA), some (.ref mA), some (.int (0 + (i : Int))), some (.ref pd), some (.ref pt), y9, y10, some (.ref x), some (.ref pA), some (.str (tx room)), none, none] ∧ St7 [(PT_, lamN (.ref c))] d c0 rA (((rms l bs).map tx).map V.str) C x dx sb D l ys fo H' ∧ H' pA = some (.lst ((Ps.map tx).map V.str)) ∧ MovesAt H' mA Ps.length (rms l bs) (fsP fo Ps) ∧ H' pd = some (.lst (zs.map V.str)), ?_, ?_⟩
        · refine ⟨_, rfl, _, rfl, _, rfl, _, _, rfl, rfl, ⟨by decide, by decide, by decide⟩, rfl, rfl, ?_⟩
          refine ⟨x, dx, sb, D, l, ys, fo, bs, pA, Ps, room, _, rfl, hgo S10, SqL.of ep10, by omega, hPs, hroom, .inl ⟨?_, fun H11 p3 zs3 ks3 s11 np3 ep3 pz3 sz3 knd3 kiff3 => ?_⟩⟩
          · have : (64 : Int) ≤ (10 : Int) ^ (39 : Int).toNat := by decide
            omega
          · rw [sorted_same pz sz pz3 sz3 knd knd3 fun y => (kiff y).trans (kiff3 y).symm] at ep3
            refine ⟨_, rfl, .ref p3, .ref pd, rfl, Alk.strs ep3 (s11 _ _ epd10) zl, fun H12 s12 => ⟨_, rfl, ?_⟩⟩
            have s := sm_trans s11 s12
            exact iteF ⟨rfl, S10.same s, s _ _ ep10, hM10.same s, s _ _ epd10⟩
        rintro _ H11 ⟨rfl, S11, ep11, hM11, epd11⟩
        -- the cap
        refine ⟨_, rfl, rA, _, rfl, .inl (SqL.of S11.S.rA), _, rfl, d, 3, rfl, S11.S.dr, by decide, by decide, fun H12 v12 s12 D12 v0 v1 => ?_⟩
        have S12 := S11.smd nrd nsd s12 D12
        have ep12 := s12.1 _ _ nPd ep11
        have hM12 := hM11.smd S11.S.dr nmd s12
        have npdd : pd ≠ d := S5.S.dr.ne npd5
        have epd12 := s12.1 _ _ npdd epd11
        refine ⟨_, _, rfl, rfl, _, _, rfl, rfl, _, _, rfl, ?_⟩
        rw [ll]
        generalize (if ((rms l bs).length : Int) + v12 - 1 > 0 then ((rms l bs).length : Int) + v12 - 1 else 0) = cap
        refine ⟨fun σ' H' => ∃ v9 : Addr, σ' = [some (.ref a), some (.ref d), some (.str (tx l)), some (.ref bA), some (.ref rA), some (.ref mA), some (.int (0 + (i : Int))), some (.ref pd), some (.ref pt), some (.ref v9), some (.int cap), some (.ref x), some (.ref pA), some (.str (tx room)), none, none] ∧ St7 [(PT_, lamN (.ref c))] d c0 rA (((rms l bs).map tx).map V.str) C x dx sb D l ys fo H' ∧ H' pA = some (.lst ((Ps.map tx).map V.str)) ∧ MovesAt H' mA Ps.length (rms l bs) (fsP fo Ps) ∧ H' pd = some (.lst (zs.map V.str)) ∧ ((((rms l bs).length : Int) ≤ cap ∧ v9 = pd) ∨ (cap < ((rms l bs).length : Int) ∧ H' v9 = some (.tup [.str "toomany", .int cap]))), ?_, ?_⟩
        · refine ⟨_, rfl, rA, _, rfl, .inl (SqL.of S12.S.rA), _, rfl, _, _, rfl, rfl, _, rfl, ?_⟩
          rw [ll]
          refine ite2 (fun t => ?_) (fun t => ?_)
          · exact ⟨_, rfl, pd, rfl, S12, ep12, hM12, epd12, .inl ⟨of_decide_eq_true t, rfl⟩⟩
          · refine ⟨_, rfl, by show 2 ≤ sizeLine; decide, fun Tw nTw => ?_⟩
            have sw := same_upd nTw (o := .tup [V.str "toomany", .int cap])
            have t' : ¬ ((rms l bs).length : Int) ≤ cap := fun z => t (decide_eq_true z)
            exact ⟨Tw, rfl, S12.same sw, sw _ _ ep12, hM12.same sw, sw _ _ epd12, .inr ⟨by omega, upd_same⟩⟩
        rintro _ H13 ⟨v9, rfl, S13, ep13, hM13, epd13, hw⟩
        refine ⟨S13.T, fun f3 G1 x1 t1 => ⟨rfl, ?_⟩⟩
        have Sx := S13.ext x1 t1
        have epx := x1 _ _ ep13 (fun _ z => by cases z)
        have hMx := hM13.ext x1
        have epdx := x1 _ _ epd13 (fun _ z => by cases z)
        refine ⟨_, rfl, _, rfl, _, rfl, _, rfl, rfl, rfl, x, dx, sb, D, l, ys, fo, bs, pA, Ps, room, cap, rfl, hgo Sx, SqL.of epx, by omega, hPs, hroom, ?_⟩
        rcases hw with ⟨hle, rfl⟩ | ⟨hlt, ew⟩
        · refine .inl ⟨hle, fun H14 p3 zs3 ks3 s14 np3 ep3 pz3 sz3 knd3 kiff3 => ⟨_, rfl, ?_⟩⟩
          rw [sorted_same pz sz pz3 sz3 knd knd3 fun y => (kiff y).trans (kiff3 y).symm] at ep3
          refine ⟨_, rfl, .ref p3, .ref v9, rfl, Alk.strs ep3 (s14 _ _ epdx) zl, fun H15 s15 => ⟨_, rfl, ?_⟩⟩
          have s := sm_trans s14 s15
          exact iteF ⟨_, _, _, _, _, _, rfl, Sx.same s, s _ _ epx, hMx.same s⟩
        · have ewx := x1 _ _ ew (fun _ z => by cases z)
          refine .inr ⟨hlt, fun H' dd s' nd' e' => ech_t EE XM.hf (fun G' p s3' np => ?_) H' dd s' e'⟩
          have sp := sm_trans s3' (same_upd np (o := .tup [.str "toomany", .int cap]))
          refine ⟨_, rfl, .ref p, .ref v9, rfl, alk_tm upd_same (sp _ _ ewx), fun H15 s15 => ⟨_, rfl, ?_⟩⟩
          have s := sm_trans sp s15
          exact iteF ⟨_, _, _, _, _, _, rfl, Sx.same s, s _ _ epx, hMx.same s⟩
      · rintro σ Ha ⟨y6, y7, y8, y9, y10, y13, rfl, Sa, epa, hMa⟩
        exact ⟨_, _, _, _, _, _, rfl, Sa⟩
    rintro _ HA ⟨y6, y7, y8, y9, y10, y13, rfl, SA⟩
    -- a hall of nine walls
    refine ⟨by show 1 ≤ sizeLine; decide, fun pb npb xW dxW nxW ndxW nneW => ?_⟩
    have sb1 := same_upd npb (o := .lst [V.str "ab"])
    have s10 : Same (upd HA pb (.lst [V.str "ab"])) (upd (upd (upd HA pb (.lst [V.str "ab"])) dxW (.own xW)) xW (.ins C dxW [])) := sm_upd (same_upd ndxW) (by rw [upd_ne (Ne.symm nneW)]; exact nxW)
    refine ⟨xW, dxW, l9, pb, b9, by rw [← e9]; rfl, upd_same, g9, bars_ok g9 bar9, by decide, .inl (SqL.of (s10 _ _ (by rw [upd_same, eab]; rfl))), ?_⟩
    rw [show firstBad l9 b9 = none from by decide]
    intro foW hfoW
    have foIW := hfoW.iff g9 bar9
    rw [ok9 foW foIW]
    intro HB sbW DW ysW s11 nsbW nDW hatW hpW hsoW
    refine ⟨rfl, ?_⟩
    have sAB : Same HA HB := sm_trans sb1 fun b o hb => s11 b o (ne_of_none hb nxW) (s10 b o hb)
    have hW : HallF C HB xW dxW sbW DW l9 ysW foW b9 := ⟨⟨hatW, g9, bar9, hpW, by decide, ok9⟩, foIW, fun s hs => hfoW.len g9 hs⟩
    refine ⟨fun σ' H' => ∃ y6 y7 y8 y9 y10 y13, σ' = [some (.ref a), some (.ref d), some (.str (tx l)), some (.ref bA), some (.ref rA), some (.ref mA), y6, y7, y8, y9, y10, some (.ref x), some (.ref pA), y13, some (.ref xW), none], ?_, ?_⟩
    · refine ⟨SA.T.ext sAB, fun f3 G1 x1 t1 => ⟨rfl, ?_⟩⟩
      have hWx : HallF C G1 xW dxW sbW DW l9 ysW foW b9 := ⟨⟨⟨x1 _ _ hatW.x (fun _ z => by cases z), x1 _ _ hatW.sb (fun _ z => by cases z), x1 _ _ hatW.D (fun _ z => by cases z)⟩, g9, bar9, hpW, by decide, ok9⟩, foIW, fun s hs => hfoW.len g9 hs⟩
      refine ⟨_, rfl, Nat.zero_le _, fun pe ne => ⟨⟨_, rfl⟩, _, rfl, rfl, by show 9 ≤ 5592405; decide, xW, dxW, sbW, DW, l9, ysW, foW, b9, pe, [], rm9, 256, by rw [← e9u]; rfl, hWx.same (same_upd ne), SqL.of upd_same, by decide, (fun P hP => by cases hP), room9, .inr ⟨by have := many9; omega, fun H' dd s' nd' e' => ech_t EE XM.hf (fun G' p s3' np => ?_) H' dd s' e'⟩⟩⟩
      refine ⟨by show 2 ≤ sizeLine; decide, fun p2 np2 => ?_⟩
      refine ⟨tmD, tmD, .tup (SqT.of ((same_upd np2) _ _ upd_same)) (.cons (.str _) (.cons (.int _) .nil)), .tup (SqT.of upd_same) (.cons (.str _) (.cons (.int _) .nil)), sh_tm, sh_tm, _, rfl, ?_⟩
      rw [ev_tm]
      exact iteF ⟨_, _, _, _, _, _, rfl⟩
    rintro _ HC ⟨y6, y7, y8, y9, y10, y13, rfl⟩
    -- a hall of eight walls, no bars
    obtain ⟨oe, ne, ke, ce, de⟩ := eTu
    have hE : ∀ {H' : Hp}, SqA K H' e ((([] : List (List Nat)).map tx).map V.str) := .inr (.inr ⟨oe, #[], ne, ke, ce, de, by decide, .nil⟩)
    have bar0 : ∀ b ∈ ([] : List (List Nat)), isBar l8 b = true := fun b hb => by cases hb
    refine fun x8 dx8 nx8 ndx8 nne8 => ?_
    have s12 : Same HC (upd (upd HC dx8 (.own x8)) x8 (.ins C dx8 [])) := sm_upd (same_upd ndx8) (by rw [upd_ne (Ne.symm nne8)]; exact nx8)
    refine ⟨x8, dx8, l8, e, [], by rw [← e8]; rfl, upd_same, g8, fun b hb => (by cases hb), by decide, hE, ?_⟩
    rw [show firstBad l8 [] = none from rfl]
    intro fo8 hfo8
    have foI8 := hfo8.iff g8 bar0
    rw [okv_nil g8 fo8 foI8]
    intro HD sb8 D8 ys8 s13 nsb8 nD8 hat8 hp8 hso8
    refine ⟨rfl, ?_⟩
    have h8 : HallF C HD x8 dx8 sb8 D8 l8 ys8 fo8 [] := ⟨⟨hat8, g8, bar0, hp8, by decide, okv_nil g8⟩, foI8, fun s hs => hfo8.len g8 hs⟩
    have in8 : ∀ s ∈ ([97] : List Nat), s ∈ l8 := by decide
    refine ⟨by show 1 ≤ sizeLine; decide, fun pq npq => ?_⟩
    refine ⟨x8, dx8, sb8, D8, l8, ys8, fo8, [], pq, [[97]], l8, 256, by rw [← e8]; rfl, h8.same (same_upd npq), SqL.of (by rw [upd_same, ea]; rfl), by decide, fun P hP => ?_, room8, .inl ⟨by have := many8; omega, fun H' p zs ks s np ep pz sz knd kiff => ?_⟩⟩
    · rw [List.mem_singleton.mp hP]
      exact ⟨part8, l8, room8, in8⟩
    · have only : ∀ y, Rch 1 (fsP fo8 [[97]]) l8 y → y = l8 := fun y h => by
        induction h with
        | refl => rfl
        | @step z k _ hk ih =>
          have k0 : k = 0 := by omega
          subst k0
          rw [ih]
          exact wov_stay g8 bar0 foI8 part8.sd room8 in8
      have pk : ks.Perm [l8] := (List.perm_ext_iff_of_nodup knd (by simp)).mpr fun y => by
        rw [kiff, List.mem_singleton]
        exact ⟨only y, fun h => by rw [h]; exact .refl⟩
      have l1 : (zs.map V.str).length = 1 := by
        rw [List.length_map, pz.length_eq, List.length_map, pk.length_eq]
        rfl
      refine ⟨p, _, rfl, .inl (SqL.of ep), rfl, ?_⟩
      rw [l1]
      exact q _
end
end NC
namespace NC
open PySem PySem.Spec PyProof.Rows L2
theorem exm_of {K : PySem.W.Frag} {R S : Addr} {b : Bool} (h1 : PySem.W.subIn K (.ref S) (.type "BaseException") = some true) (h2 : PySem.W.isClsIn K S = true) (h3 : PySem.W.typeIn K (.ref S) = some (.type "type")) (h4 : PySem.W.subIn K (.ref R) (.ref S) = some b) :
    PySem.W.exmOne K (.ref R) (.ref S) = some b := by
  have e1 : (PySem.W.subIn K (.ref S) (.type "BaseException") == some true) = true := by rw [h1] <;> rfl
  have e2 : ((PySem.W.clsIn K S).isSome && PySem.W.typeIn K (.ref S) == some (.type "type")) = true := by
    have h2' : (PySem.W.clsIn K S).isSome = true := h2
    rw [h2', h3] <;> rfl
  show (if (PySem.W.subIn K (.ref S) (.type "BaseException") == some true) = true then (if ((PySem.W.clsIn K S).isSome && PySem.W.typeIn K (.ref S) == some (.type "type")) = true then PySem.W.subIn K (.ref R) (.ref S) else none) else none) = some b
  rw [if_pos e1, if_pos e2]
  exact h4
theorem kw_e {K : PySem.W.Frag} {fd : FuncData} (h : ∀ a b c d : Value, bindArgs fd ⟨[a, b, c], [("most", d)]⟩ = (pure ((["hall", "calls", "room", "most"] : List Str).zip [a, b, c, d]) : Sem (List (Str × Value)))) : KBn K fd ["hall", "calls", "room", "most"] 3 ["most"] gApp gApp where
  to := fun s us ws _ l1 l2 => match us, ws, l1, l2 with
    | [a, b, c], [d], _, _ => .of_eq (h a b c d)
  rel := fun r1 r2 => Vals.append r1 r2
set_option maxHeartbeats 4000000 in
theorem all_mk {l : PySem.W.OpenLaw} {w : World} {K : PySem.W.Frag} {h : Heap} {mg : Str → Option Value} {fa : Addr} {PT : Addr} (X : K.In h) (G : h.Ns mainGlobals mg) (hfa : mg "law" = some (.ref fa)) (hPT : h.get? PT = some { cls := .none, data := .fields #[] }) (nPT : K.lookup PT = none)
    {f_O : Addr} {oc_O kV_O dc_O pm_O cd_O ct_O : Value} {od_O an_O : Option Addr} {sl_O : Array (Option Value)}
    {f_S : Addr} {oc_S kV_S dc_S pm_S cd_S ct_S : Value} {od_S an_S : Option Addr} {sl_S : Array (Option Value)}
    {f_Y : Addr} {oc_Y kV_Y dc_Y pm_Y cd_Y ct_Y : Value} {od_Y an_Y : Option Addr} {sl_Y : Array (Option Value)}
    {f_W : Addr} {oc_W kV_W dc_W pm_W cd_W ct_W : Value} {od_W an_W : Option Addr} {sl_W : Array (Option Value)}
    {f_I : Addr} {oc_I kV_I dc_I pm_I cd_I ct_I : Value} {od_I an_I : Option Addr} {sl_I : Array (Option Value)}
    {f_cw : Addr} {oc_cw kV_cw dc_cw pm_cw cd_cw ct_cw : Value} {od_cw an_cw : Option Addr} {sl_cw : Array (Option Value)}
    {f_cb : Addr} {oc_cb kV_cb dc_cb pm_cb cd_cb ct_cb : Value} {od_cb an_cb : Option Addr} {sl_cb : Array (Option Value)}
    {f_cs : Addr} {oc_cs kV_cs dc_cs pm_cs cd_cs ct_cs : Value} {od_cs an_cs : Option Addr} {sl_cs : Array (Option Value)}
    {f_st : Addr} {oc_st kV_st dc_st pm_st cd_st ct_st : Value} {od_st an_st : Option Addr} {sl_st : Array (Option Value)}
    {f_re : Addr} {oc_re kV_re dc_re pm_re cd_re ct_re : Value} {od_re an_re : Option Addr} {sl_re : Array (Option Value)}
    {f_af : Addr} {oc_af kV_af dc_af pm_af cd_af ct_af : Value} {od_af an_af : Option Addr} {sl_af : Array (Option Value)}
    {f_cf : Addr} {oc_cf kV_cf dc_cf pm_cf cd_cf ct_cf : Value} {od_cf an_cf : Option Addr} {sl_cf : Array (Option Value)}
    {f_ca : Addr} {oc_ca kV_ca dc_ca pm_ca cd_ca ct_ca : Value} {od_ca an_ca : Option Addr} {sl_ca : Array (Option Value)}
    {f_same : Addr} {oc_same kV_same dc_same pm_same cd_same ct_same : Value} {od_same an_same : Option Addr} {sl_same : Array (Option Value)}
    {f_start : Addr} {oc_start kV_start dc_start pm_start cd_start ct_start : Value} {od_start an_start : Option Addr} {sl_start : Array (Option Value)}
    {f_draw : Addr} {oc_draw kV_draw dc_draw pm_draw cd_draw ct_draw : Value} {od_draw an_draw : Option Addr} {sl_draw : Array (Option Value)}
    {f_of : Addr} {oc_of kV_of dc_of pm_of cd_of ct_of : Value} {od_of an_of : Option Addr} {sl_of : Array (Option Value)}
    {f_letters : Addr} {oc_letters kV_letters dc_letters pm_letters cd_letters ct_letters : Value} {od_letters an_letters : Option Addr} {sl_letters : Array (Option Value)}
    {f_shuts : Addr} {oc_shuts kV_shuts dc_shuts pm_shuts cd_shuts ct_shuts : Value} {od_shuts an_shuts : Option Addr} {sl_shuts : Array (Option Value)}
    {f_oth : Addr} {oc_oth kV_oth dc_oth pm_oth cd_oth ct_oth : Value} {od_oth an_oth : Option Addr} {sl_oth : Array (Option Value)}
    {f_wit : Addr} {oc_wit kV_wit dc_wit pm_wit cd_wit ct_wit : Value} {od_wit an_wit : Option Addr} {sl_wit : Array (Option Value)}
    {f_pairs : Addr} {oc_pairs kV_pairs dc_pairs pm_pairs cd_pairs ct_pairs : Value} {od_pairs an_pairs : Option Addr} {sl_pairs : Array (Option Value)}
    {f_all : Addr} {oc_all kV_all dc_all pm_all cd_all ct_all : Value} {od_all an_all : Option Addr} {sl_all : Array (Option Value)}
    {f_rms : Addr} {oc_rms kV_rms dc_rms pm_rms cd_rms ct_rms : Value} {od_rms an_rms : Option Addr} {sl_rms : Array (Option Value)}
    {f_fine : Addr} {oc_fine kV_fine dc_fine pm_fine cd_fine ct_fine : Value} {od_fine an_fine : Option Addr} {sl_fine : Array (Option Value)}
    {f_hall : Addr} {oc_hall kV_hall dc_hall pm_hall cd_hall ct_hall : Value} {od_hall an_hall : Option Addr} {sl_hall : Array (Option Value)}
    {f_lsi : Addr} {oc_lsi kV_lsi dc_lsi pm_lsi cd_lsi ct_lsi : Value} {od_lsi an_lsi : Option Addr} {sl_lsi : Array (Option Value)}
    {f_lpa : Addr} {oc_lpa kV_lpa dc_lpa pm_lpa cd_lpa ct_lpa : Value} {od_lpa an_lpa : Option Addr} {sl_lpa : Array (Option Value)}
    {f_apart : Addr} {oc_apart kV_apart dc_apart pm_apart cd_apart ct_apart : Value} {od_apart an_apart : Option Addr} {sl_apart : Array (Option Value)}
    {f_lne : Addr} {oc_lne kV_lne dc_lne pm_lne cd_lne ct_lne : Value} {od_lne an_lne : Option Addr} {sl_lne : Array (Option Value)}
    {f_led : Addr} {oc_led kV_led dc_led pm_led cd_led ct_led : Value} {od_led an_led : Option Addr} {sl_led : Array (Option Value)}
    {f_map : Addr} {oc_map kV_map dc_map pm_map cd_map ct_map : Value} {od_map an_map : Option Addr} {sl_map : Array (Option Value)}
    {f_lca : Addr} {oc_lca kV_lca dc_lca pm_lca cd_lca ct_lca : Value} {od_lca an_lca : Option Addr} {sl_lca : Array (Option Value)}
    {f_rea : Addr} {oc_rea kV_rea dc_rea pm_rea cd_rea ct_rea : Value} {od_rea an_rea : Option Addr} {sl_rea : Array (Option Value)}
    {f_told : Addr} {oc_told kV_told dc_told pm_told cd_told ct_told : Value} {od_told an_told : Option Addr} {sl_told : Array (Option Value)}
    {f_sh : Addr} {oc_sh kV_sh dc_sh pm_sh cd_sh ct_sh : Value} {od_sh an_sh : Option Addr} {sl_sh : Array (Option Value)}
    {f_oc : Addr} {oc_oc kV_oc dc_oc pm_oc cd_oc ct_oc : Value} {od_oc an_oc : Option Addr} {sl_oc : Array (Option Value)}
    {f_isP : Addr} {oc_isP kV_isP dc_isP pm_isP cd_isP ct_isP : Value} {od_isP an_isP : Option Addr} {sl_isP : Array (Option Value)}
    {f_chP : Addr} {oc_chP kV_chP dc_chP pm_chP cd_chP ct_chP : Value} {od_chP an_chP : Option Addr} {sl_chP : Array (Option Value)}
    {f_afb : Addr} {oc_afb kV_afb dc_afb pm_afb cd_afb ct_afb : Value} {od_afb an_afb : Option Addr} {sl_afb : Array (Option Value)}
    {f_to : Addr} {oc_to kV_to dc_to pm_to cd_to ct_to : Value} {od_to an_to : Option Addr} {sl_to : Array (Option Value)}
    {f_fx : Addr} {oc_fx kV_fx dc_fx pm_fx cd_fx ct_fx : Value} {od_fx an_fx : Option Addr} {sl_fx : Array (Option Value)}
    {f_so : Addr} {oc_so kV_so dc_so pm_so cd_so ct_so : Value} {od_so an_so : Option Addr} {sl_so : Array (Option Value)}
    {f_ie : Addr} {oc_ie kV_ie dc_ie pm_ie cd_ie ct_ie : Value} {od_ie an_ie : Option Addr} {sl_ie : Array (Option Value)}
    {f_mm : Addr} {oc_mm kV_mm dc_mm pm_mm cd_mm ct_mm : Value} {od_mm an_mm : Option Addr} {sl_mm : Array (Option Value)}
    {f_sd : Addr} {oc_sd kV_sd dc_sd pm_sd cd_sd ct_sd : Value} {od_sd an_sd : Option Addr} {sl_sd : Array (Option Value)}
    {f_ld : Addr} {oc_ld kV_ld dc_ld pm_ld cd_ld ct_ld : Value} {od_ld an_ld : Option Addr} {sl_ld : Array (Option Value)}
    {f_ce : Addr} {oc_ce kV_ce dc_ce pm_ce cd_ce ct_ce : Value} {od_ce an_ce : Option Addr} {sl_ce : Array (Option Value)}
    {f_sb : Addr} {oc_sb kV_sb dc_sb pm_sb cd_sb ct_sb : Value} {od_sb an_sb : Option Addr} {sl_sb : Array (Option Value)}
    {f_rb : Addr} {oc_rb kV_rb dc_rb pm_rb cd_rb ct_rb : Value} {od_rb an_rb : Option Addr} {sl_rb : Array (Option Value)}
    {f_chk : Addr} {oc_chk kV_chk dc_chk pm_chk cd_chk ct_chk : Value} {od_chk an_chk : Option Addr} {sl_chk : Array (Option Value)}
    {f_sc : Addr} {oc_sc kV_sc dc_sc pm_sc cd_sc ct_sc : Value} {od_sc an_sc : Option Addr} {sl_sc : Array (Option Value)}
    {f_rmt : Addr} {oc_rmt kV_rmt dc_rmt pm_rmt cd_rmt ct_rmt : Value} {od_rmt an_rmt : Option Addr} {sl_rmt : Array (Option Value)}
    {f_cmv : Addr} {oc_cmv kV_cmv dc_cmv pm_cmv cd_cmv ct_cmv : Value} {od_cmv an_cmv : Option Addr} {sl_cmv : Array (Option Value)}
    {f_co : Addr} {oc_co dc_co pm_co cd_co ct_co : Value} {od_co an_co : Option Addr} {sl_co : Array (Option Value)}
    {CH : Addr}
    {CB : Addr}
    {CF : Addr}
    {CA : Addr}
    {CT : Addr}
    {CTm : Addr}
    {nm_CB q_CB : Str} {N_CB : Addr} {bs_CB bm_CB sub_CB : List Value} {sn_CB : List Str} {ab_CB : Bool} {col_CB : Option Bool} {dd_CB : Option Addr} {m0_CB m1_CB m2_CB m3_CB m5_CB : Option Value}
    {nm_CF q_CF : Str} {N_CF : Addr} {bs_CF bm_CF sub_CF : List Value} {sn_CF : List Str} {ab_CF : Bool} {col_CF : Option Bool} {dd_CF : Option Addr} {m0_CF m1_CF m2_CF m3_CF m5_CF : Option Value}
    {nm_CA q_CA : Str} {N_CA : Addr} {bs_CA bm_CA sub_CA : List Value} {sn_CA : List Str} {ab_CA : Bool} {col_CA : Option Bool} {dd_CA : Option Addr} {m0_CA m1_CA m2_CA m3_CA m5_CA : Option Value}
    {nm_CT q_CT : Str} {N_CT : Addr} {bs_CT bm_CT sub_CT : List Value} {sn_CT : List Str} {ab_CT : Bool} {col_CT : Option Bool} {dd_CT : Option Addr} {m0_CT m1_CT m2_CT m3_CT m5_CT : Option Value}
    {nm_CTm q_CTm : Str} {N_CTm : Addr} {bs_CTm bm_CTm sub_CTm : List Value} {sn_CTm : List Str} {ab_CTm : Bool} {col_CTm : Option Bool} {dd_CTm : Option Addr} {m0_CTm m1_CTm m2_CTm m3_CTm m5_CTm : Option Value}
    {f_iH : Addr} {oc_iH kV_iH dc_iH pm_iH cd_iH ct_iH : Value} {od_iH an_iH : Option Addr} {sl_iH : Array (Option Value)}
    {f_iB : Addr} {oc_iB kV_iB dc_iB pm_iB cd_iB ct_iB : Value} {od_iB an_iB : Option Addr} {sl_iB : Array (Option Value)}
    {f_iF : Addr} {oc_iF kV_iF dc_iF pm_iF cd_iF ct_iF : Value} {od_iF an_iF : Option Addr} {sl_iF : Array (Option Value)}
    {f_iA : Addr} {oc_iA kV_iA dc_iA pm_iA cd_iA ct_iA : Value} {od_iA an_iA : Option Addr} {sl_iA : Array (Option Value)}
    {f_iT : Addr} {oc_iT kV_iT dc_iT pm_iT cd_iT ct_iT : Value} {od_iT an_iT : Option Addr} {sl_iT : Array (Option Value)}
    {f_iTm : Addr} {oc_iTm kV_iTm dc_iTm pm_iTm cd_iTm ct_iTm : Value} {od_iTm an_iTm : Option Addr} {sl_iTm : Array (Option Value)}
    {T_hi e_hi : Addr} {oc_T : Value} {od_T : Option Addr} {n_T : Nat} {sl_T : Array (Option Value)}
    {C : Addr}
    {f_hb : Addr} {oc_hb kV_hb dc_hb pm_hb cd_hb ct_hb : Value} {od_hb an_hb : Option Addr} {sl_hb : Array (Option Value)}
    {f_hm : Addr} {oc_hm kV_hm dc_hm pm_hm cd_hm ct_hm : Value} {od_hm an_hm : Option Addr} {sl_hm : Array (Option Value)}
    {f_hr : Addr} {oc_hr kV_hr dc_hr pm_hr cd_hr ct_hr : Value} {od_hr an_hr : Option Addr} {sl_hr : Array (Option Value)}
    {f_hg : Addr} {oc_hg kV_hg dc_hg pm_hg cd_hg ct_hg : Value} {od_hg an_hg : Option Addr} {sl_hg : Array (Option Value)}
    {f_hwl : Addr} {oc_hwl kV_hwl dc_hwl pm_hwl cd_hwl ct_hwl : Value} {od_hwl an_hwl : Option Addr} {sl_hwl : Array (Option Value)}
    {f_hfo : Addr} {oc_hfo kV_hfo dc_hfo pm_hfo cd_hfo ct_hfo : Value} {od_hfo an_hfo : Option Addr} {sl_hfo : Array (Option Value)}
    {f_hfs : Addr} {oc_hfs kV_hfs dc_hfs pm_hfs cd_hfs ct_hfs : Value} {od_hfs an_hfs : Option Addr} {sl_hfs : Array (Option Value)}
    {f_hi : Addr} {oc_hi kV_hi dc_hi pm_hi cd_hi ct_hi : Value} {od_hi an_hi : Option Addr} {sl_hi : Array (Option Value)}
    {CTb : Addr}
    {f_tbE : Addr} {oc_tbE kV_tbE dc_tbE pm_tbE cd_tbE ct_tbE : Value} {od_tbE an_tbE : Option Addr} {sl_tbE : Array (Option Value)}
    {f_tbI : Addr} {oc_tbI kV_tbI dc_tbI pm_tbI cd_tbI ct_tbI : Value} {od_tbI an_tbI : Option Addr} {sl_tbI : Array (Option Value)}
    {od_e : Option Addr} {n_e : Nat} {sl_e : Array (Option Value)} {Kd_co : Addr} {t_co : Tok}
    {tw : Tok}
    {tc : Tok}
    {c : Addr} {fL : Addr} {ocL kVL dcL pmL ctL : Value} {odL anL : Option Addr} {slL : Array (Option Value)}
    (a_O : PySem.W.nsIn K mainGlobals "other" = some (some (.ref f_O)))
    (l_O : K.lookup f_O = some ⟨oc_O, od_O, .func (PySem.W.fnOf "other" "other" (defArgs sOther) (defBody sOther) (defScope sOther) .none kV_O dc_O pm_O an_O cd_O ct_O), sl_O⟩)
    (c_O : PySem.W.codeIn K cd_O "other" = true)
    (k_O : PySem.W.keepIn K (.ref f_O) = true)
    (a_S : PySem.W.nsIn K mainGlobals "sides_of" = some (some (.ref f_S)))
    (l_S : K.lookup f_S = some ⟨oc_S, od_S, .func (PySem.W.fnOf "sides_of" "sides_of" (defArgs sSides) (defBody sSides) (defScope sSides) .none kV_S dc_S pm_S an_S cd_S ct_S), sl_S⟩)
    (c_S : PySem.W.codeIn K cd_S "sides_of" = true)
    (k_S : PySem.W.keepIn K (.ref f_S) = true)
    (a_Y : PySem.W.nsIn K mainGlobals "by_walls" = some (some (.ref f_Y)))
    (l_Y : K.lookup f_Y = some ⟨oc_Y, od_Y, .func (PySem.W.fnOf "by_walls" "by_walls" (defArgs sByWalls) (defBody sByWalls) (defScope sByWalls) .none kV_Y dc_Y pm_Y an_Y cd_Y ct_Y), sl_Y⟩)
    (c_Y : PySem.W.codeIn K cd_Y "by_walls" = true)
    (k_Y : PySem.W.keepIn K (.ref f_Y) = true)
    (a_W : PySem.W.nsIn K mainGlobals "is_walls" = some (some (.ref f_W)))
    (l_W : K.lookup f_W = some ⟨oc_W, od_W, .func (PySem.W.fnOf "is_walls" "is_walls" (defArgs sIsWalls) (defBody sIsWalls) (defScope sIsWalls) .none kV_W dc_W pm_W an_W cd_W ct_W), sl_W⟩)
    (c_W : PySem.W.codeIn K cd_W "is_walls" = true)
    (k_W : PySem.W.keepIn K (.ref f_W) = true)
    (a_I : PySem.W.nsIn K mainGlobals "is_bar" = some (some (.ref f_I)))
    (l_I : K.lookup f_I = some ⟨oc_I, od_I, .func (PySem.W.fnOf "is_bar" "is_bar" (defArgs sIsBar) (defBody sIsBar) (defScope sIsBar) .none kV_I dc_I pm_I an_I cd_I ct_I), sl_I⟩)
    (c_I : PySem.W.codeIn K cd_I "is_bar" = true)
    (k_I : PySem.W.keepIn K (.ref f_I) = true)
    (a_cw : PySem.W.nsIn K mainGlobals "check_walls" = some (some (.ref f_cw)))
    (l_cw : K.lookup f_cw = some ⟨oc_cw, od_cw, .func (PySem.W.fnOf "check_walls" "check_walls" (defArgs sChkWalls) (defBody sChkWalls) (defScope sChkWalls) .none kV_cw dc_cw pm_cw an_cw cd_cw ct_cw), sl_cw⟩)
    (c_cw : PySem.W.codeIn K cd_cw "check_walls" = true)
    (k_cw : PySem.W.keepIn K (.ref f_cw) = true)
    (a_cb : PySem.W.nsIn K mainGlobals "check_bars" = some (some (.ref f_cb)))
    (l_cb : K.lookup f_cb = some ⟨oc_cb, od_cb, .func (PySem.W.fnOf "check_bars" "check_bars" (defArgs sChkBars) (defBody sChkBars) (defScope sChkBars) .none kV_cb dc_cb pm_cb an_cb cd_cb ct_cb), sl_cb⟩)
    (c_cb : PySem.W.codeIn K cd_cb "check_bars" = true)
    (k_cb : PySem.W.keepIn K (.ref f_cb) = true)
    (a_cs : PySem.W.nsIn K mainGlobals "check_side" = some (some (.ref f_cs)))
    (l_cs : K.lookup f_cs = some ⟨oc_cs, od_cs, .func (PySem.W.fnOf "check_side" "check_side" (defArgs sChkSide) (defBody sChkSide) (defScope sChkSide) .none kV_cs dc_cs pm_cs an_cs cd_cs ct_cs), sl_cs⟩)
    (c_cs : PySem.W.codeIn K cd_cs "check_side" = true)
    (k_cs : PySem.W.keepIn K (.ref f_cs) = true)
    (a_st : PySem.W.nsIn K mainGlobals "straight_from" = some (some (.ref f_st)))
    (l_st : K.lookup f_st = some ⟨oc_st, od_st, .func (PySem.W.fnOf "straight_from" "straight_from" (defArgs sStraight) (defBody sStraight) (defScope sStraight) .none kV_st dc_st pm_st an_st cd_st ct_st), sl_st⟩)
    (c_st : PySem.W.codeIn K cd_st "straight_from" = true)
    (k_st : PySem.W.keepIn K (.ref f_st) = true)
    (a_re : PySem.W.nsIn K mainGlobals "reached" = some (some (.ref f_re)))
    (l_re : K.lookup f_re = some ⟨oc_re, od_re, .func (PySem.W.fnOf "reached" "reached" (defArgs sReached) (defBody sReached) (defScope sReached) .none kV_re dc_re pm_re an_re cd_re ct_re), sl_re⟩)
    (c_re : PySem.W.codeIn K cd_re "reached" = true)
    (k_re : PySem.W.keepIn K (.ref f_re) = true)
    (a_af : PySem.W.nsIn K mainGlobals "all_forced" = some (some (.ref f_af)))
    (l_af : K.lookup f_af = some ⟨oc_af, od_af, .func (PySem.W.fnOf "all_forced" "all_forced" (defArgs sAllF) (defBody sAllF) (defScope sAllF) .none kV_af dc_af pm_af an_af cd_af ct_af), sl_af⟩)
    (c_af : PySem.W.codeIn K cd_af "all_forced" = true)
    (k_af : PySem.W.keepIn K (.ref f_af) = true)
    (a_cf : PySem.W.nsIn K mainGlobals "check_fixed" = some (some (.ref f_cf)))
    (l_cf : K.lookup f_cf = some ⟨oc_cf, od_cf, .func (PySem.W.fnOf "check_fixed" "check_fixed" (defArgs sChkFix) (defBody sChkFix) (defScope sChkFix) .none kV_cf dc_cf pm_cf an_cf cd_cf ct_cf), sl_cf⟩)
    (c_cf : PySem.W.codeIn K cd_cf "check_fixed" = true)
    (k_cf : PySem.W.keepIn K (.ref f_cf) = true)
    (a_ca : PySem.W.nsIn K mainGlobals "check_alike" = some (some (.ref f_ca)))
    (l_ca : K.lookup f_ca = some ⟨oc_ca, od_ca, .func (PySem.W.fnOf "check_alike" "check_alike" (defArgs sChkAl) (defBody sChkAl) (defScope sChkAl) .none kV_ca dc_ca pm_ca an_ca cd_ca ct_ca), sl_ca⟩)
    (c_ca : PySem.W.codeIn K cd_ca "check_alike" = true)
    (k_ca : PySem.W.keepIn K (.ref f_ca) = true)
    (a_same : PySem.W.nsIn K mainGlobals "_law_same" = some (some (.ref f_same)))
    (l_same : K.lookup f_same = some ⟨oc_same, od_same, .func (PySem.W.fnOf "_law_same" "_law_same" (defArgs sSame) (defBody sSame) (defScope sSame) .none kV_same dc_same pm_same an_same cd_same ct_same), sl_same⟩)
    (c_same : PySem.W.codeIn K cd_same "_law_same" = true)
    (k_same : PySem.W.keepIn K (.ref f_same) = true)
    (a_start : PySem.W.nsIn K mainGlobals "_law_start" = some (some (.ref f_start)))
    (l_start : K.lookup f_start = some ⟨oc_start, od_start, .func (PySem.W.fnOf "_law_start" "_law_start" (defArgs sStart) (defBody sStart) (defScope sStart) .none kV_start dc_start pm_start an_start cd_start ct_start), sl_start⟩)
    (c_start : PySem.W.codeIn K cd_start "_law_start" = true)
    (k_start : PySem.W.keepIn K (.ref f_start) = true)
    (a_draw : PySem.W.nsIn K mainGlobals "_law_draw" = some (some (.ref f_draw)))
    (l_draw : K.lookup f_draw = some ⟨oc_draw, od_draw, .func (PySem.W.fnOf "_law_draw" "_law_draw" (defArgs sDraw) (defBody sDraw) (defScope sDraw) .none kV_draw dc_draw pm_draw an_draw cd_draw ct_draw), sl_draw⟩)
    (c_draw : PySem.W.codeIn K cd_draw "_law_draw" = true)
    (k_draw : PySem.W.keepIn K (.ref f_draw) = true)
    (a_of : PySem.W.nsIn K mainGlobals "_law_of" = some (some (.ref f_of)))
    (l_of : K.lookup f_of = some ⟨oc_of, od_of, .func (PySem.W.fnOf "_law_of" "_law_of" (defArgs sOf) (defBody sOf) (defScope sOf) .none kV_of dc_of pm_of an_of cd_of ct_of), sl_of⟩)
    (c_of : PySem.W.codeIn K cd_of "_law_of" = true)
    (k_of : PySem.W.keepIn K (.ref f_of) = true)
    (a_letters : PySem.W.nsIn K mainGlobals "_law_letters" = some (some (.ref f_letters)))
    (l_letters : K.lookup f_letters = some ⟨oc_letters, od_letters, .func (PySem.W.fnOf "_law_letters" "_law_letters" (defArgs sLetters) (defBody sLetters) (defScope sLetters) .none kV_letters dc_letters pm_letters an_letters cd_letters ct_letters), sl_letters⟩)
    (c_letters : PySem.W.codeIn K cd_letters "_law_letters" = true)
    (k_letters : PySem.W.keepIn K (.ref f_letters) = true)
    (a_shuts : PySem.W.nsIn K mainGlobals "_law_shuts" = some (some (.ref f_shuts)))
    (l_shuts : K.lookup f_shuts = some ⟨oc_shuts, od_shuts, .func (PySem.W.fnOf "_law_shuts" "_law_shuts" (defArgs sShuts) (defBody sShuts) (defScope sShuts) .none kV_shuts dc_shuts pm_shuts an_shuts cd_shuts ct_shuts), sl_shuts⟩)
    (c_shuts : PySem.W.codeIn K cd_shuts "_law_shuts" = true)
    (k_shuts : PySem.W.keepIn K (.ref f_shuts) = true)
    (a_oth : PySem.W.nsIn K mainGlobals "_law_other" = some (some (.ref f_oth)))
    (l_oth : K.lookup f_oth = some ⟨oc_oth, od_oth, .func (PySem.W.fnOf "_law_other" "_law_other" (defArgs sOth) (defBody sOth) (defScope sOth) .none kV_oth dc_oth pm_oth an_oth cd_oth ct_oth), sl_oth⟩)
    (c_oth : PySem.W.codeIn K cd_oth "_law_other" = true)
    (k_oth : PySem.W.keepIn K (.ref f_oth) = true)
    (a_wit : PySem.W.nsIn K mainGlobals "_law_within" = some (some (.ref f_wit)))
    (l_wit : K.lookup f_wit = some ⟨oc_wit, od_wit, .func (PySem.W.fnOf "_law_within" "_law_within" (defArgs sWithin) (defBody sWithin) (defScope sWithin) .none kV_wit dc_wit pm_wit an_wit cd_wit ct_wit), sl_wit⟩)
    (c_wit : PySem.W.codeIn K cd_wit "_law_within" = true)
    (k_wit : PySem.W.keepIn K (.ref f_wit) = true)
    (a_pairs : PySem.W.nsIn K mainGlobals "_law_pairs" = some (some (.ref f_pairs)))
    (l_pairs : K.lookup f_pairs = some ⟨oc_pairs, od_pairs, .func (PySem.W.fnOf "_law_pairs" "_law_pairs" (defArgs sPairs) (defBody sPairs) (defScope sPairs) .none kV_pairs dc_pairs pm_pairs an_pairs cd_pairs ct_pairs), sl_pairs⟩)
    (c_pairs : PySem.W.codeIn K cd_pairs "_law_pairs" = true)
    (k_pairs : PySem.W.keepIn K (.ref f_pairs) = true)
    (a_all : PySem.W.nsIn K mainGlobals "_law_all" = some (some (.ref f_all)))
    (l_all : K.lookup f_all = some ⟨oc_all, od_all, .func (PySem.W.fnOf "_law_all" "_law_all" (defArgs sAll) (defBody sAll) (defScope sAll) .none kV_all dc_all pm_all an_all cd_all ct_all), sl_all⟩)
    (c_all : PySem.W.codeIn K cd_all "_law_all" = true)
    (k_all : PySem.W.keepIn K (.ref f_all) = true)
    (a_rms : PySem.W.nsIn K mainGlobals "_law_rooms" = some (some (.ref f_rms)))
    (l_rms : K.lookup f_rms = some ⟨oc_rms, od_rms, .func (PySem.W.fnOf "_law_rooms" "_law_rooms" (defArgs sRooms) (defBody sRooms) (defScope sRooms) .none kV_rms dc_rms pm_rms an_rms cd_rms ct_rms), sl_rms⟩)
    (c_rms : PySem.W.codeIn K cd_rms "_law_rooms" = true)
    (k_rms : PySem.W.keepIn K (.ref f_rms) = true)
    (a_fine : PySem.W.nsIn K mainGlobals "_law_fine" = some (some (.ref f_fine)))
    (l_fine : K.lookup f_fine = some ⟨oc_fine, od_fine, .func (PySem.W.fnOf "_law_fine" "_law_fine" (defArgs sFine) (defBody sFine) (defScope sFine) .none kV_fine dc_fine pm_fine an_fine cd_fine ct_fine), sl_fine⟩)
    (c_fine : PySem.W.codeIn K cd_fine "_law_fine" = true)
    (k_fine : PySem.W.keepIn K (.ref f_fine) = true)
    (a_hall : PySem.W.nsIn K mainGlobals "_law_hall" = some (some (.ref f_hall)))
    (l_hall : K.lookup f_hall = some ⟨oc_hall, od_hall, .func (PySem.W.fnOf "_law_hall" "_law_hall" (defArgs sHall) (defBody sHall) (defScope sHall) .none kV_hall dc_hall pm_hall an_hall cd_hall ct_hall), sl_hall⟩)
    (c_hall : PySem.W.codeIn K cd_hall "_law_hall" = true)
    (k_hall : PySem.W.keepIn K (.ref f_hall) = true)
    (a_lsi : PySem.W.nsIn K mainGlobals "_law_sides" = some (some (.ref f_lsi)))
    (l_lsi : K.lookup f_lsi = some ⟨oc_lsi, od_lsi, .func (PySem.W.fnOf "_law_sides" "_law_sides" (defArgs sLSides) (defBody sLSides) (defScope sLSides) .none kV_lsi dc_lsi pm_lsi an_lsi cd_lsi ct_lsi), sl_lsi⟩)
    (c_lsi : PySem.W.codeIn K cd_lsi "_law_sides" = true)
    (k_lsi : PySem.W.keepIn K (.ref f_lsi) = true)
    (a_lpa : PySem.W.nsIn K mainGlobals "_law_part" = some (some (.ref f_lpa)))
    (l_lpa : K.lookup f_lpa = some ⟨oc_lpa, od_lpa, .func (PySem.W.fnOf "_law_part" "_law_part" (defArgs sLPart) (defBody sLPart) (defScope sLPart) .none kV_lpa dc_lpa pm_lpa an_lpa cd_lpa ct_lpa), sl_lpa⟩)
    (c_lpa : PySem.W.codeIn K cd_lpa "_law_part" = true)
    (k_lpa : PySem.W.keepIn K (.ref f_lpa) = true)
    (a_apart : PySem.W.nsIn K mainGlobals "_law_apart" = some (some (.ref f_apart)))
    (l_apart : K.lookup f_apart = some ⟨oc_apart, od_apart, .func (PySem.W.fnOf "_law_apart" "_law_apart" (defArgs sApart) (defBody sApart) (defScope sApart) .none kV_apart dc_apart pm_apart an_apart cd_apart ct_apart), sl_apart⟩)
    (c_apart : PySem.W.codeIn K cd_apart "_law_apart" = true)
    (k_apart : PySem.W.keepIn K (.ref f_apart) = true)
    (a_lne : PySem.W.nsIn K mainGlobals "_law_near" = some (some (.ref f_lne)))
    (l_lne : K.lookup f_lne = some ⟨oc_lne, od_lne, .func (PySem.W.fnOf "_law_near" "_law_near" (defArgs sLNear) (defBody sLNear) (defScope sLNear) .none kV_lne dc_lne pm_lne an_lne cd_lne ct_lne), sl_lne⟩)
    (c_lne : PySem.W.codeIn K cd_lne "_law_near" = true)
    (k_lne : PySem.W.keepIn K (.ref f_lne) = true)
    (a_led : PySem.W.nsIn K mainGlobals "_law_led" = some (some (.ref f_led)))
    (l_led : K.lookup f_led = some ⟨oc_led, od_led, .func (PySem.W.fnOf "_law_led" "_law_led" (defArgs sLed) (defBody sLed) (defScope sLed) .none kV_led dc_led pm_led an_led cd_led ct_led), sl_led⟩)
    (c_led : PySem.W.codeIn K cd_led "_law_led" = true)
    (k_led : PySem.W.keepIn K (.ref f_led) = true)
    (a_map : PySem.W.nsIn K mainGlobals "_law_map" = some (some (.ref f_map)))
    (l_map : K.lookup f_map = some ⟨oc_map, od_map, .func (PySem.W.fnOf "_law_map" "_law_map" (defArgs sMap) (defBody sMap) (defScope sMap) .none kV_map dc_map pm_map an_map cd_map ct_map), sl_map⟩)
    (c_map : PySem.W.codeIn K cd_map "_law_map" = true)
    (k_map : PySem.W.keepIn K (.ref f_map) = true)
    (a_lca : PySem.W.nsIn K mainGlobals "_law_calls" = some (some (.ref f_lca)))
    (l_lca : K.lookup f_lca = some ⟨oc_lca, od_lca, .func (PySem.W.fnOf "_law_calls" "_law_calls" (defArgs sLCalls) (defBody sLCalls) (defScope sLCalls) .none kV_lca dc_lca pm_lca an_lca cd_lca ct_lca), sl_lca⟩)
    (c_lca : PySem.W.codeIn K cd_lca "_law_calls" = true)
    (k_lca : PySem.W.keepIn K (.ref f_lca) = true)
    (a_rea : PySem.W.nsIn K mainGlobals "_law_reach" = some (some (.ref f_rea)))
    (l_rea : K.lookup f_rea = some ⟨oc_rea, od_rea, .func (PySem.W.fnOf "_law_reach" "_law_reach" (defArgs sReach) (defBody sReach) (defScope sReach) .none kV_rea dc_rea pm_rea an_rea cd_rea ct_rea), sl_rea⟩)
    (c_rea : PySem.W.codeIn K cd_rea "_law_reach" = true)
    (k_rea : PySem.W.keepIn K (.ref f_rea) = true)
    (a_told : PySem.W.nsIn K mainGlobals "_law_told" = some (some (.ref f_told)))
    (l_told : K.lookup f_told = some ⟨oc_told, od_told, .func (PySem.W.fnOf "_law_told" "_law_told" (defArgs sTold) (defBody sTold) (defScope sTold) .none kV_told dc_told pm_told an_told cd_told ct_told), sl_told⟩)
    (c_told : PySem.W.codeIn K cd_told "_law_told" = true)
    (k_told : PySem.W.keepIn K (.ref f_told) = true)
    (a_sh : PySem.W.nsIn K mainGlobals "shut" = some (some (.ref f_sh)))
    (l_sh : K.lookup f_sh = some ⟨oc_sh, od_sh, .func (PySem.W.fnOf "shut" "shut" (defArgs sShut) (defBody sShut) (defScope sShut) .none kV_sh dc_sh pm_sh an_sh cd_sh ct_sh), sl_sh⟩)
    (c_sh : PySem.W.codeIn K cd_sh "shut" = true)
    (k_sh : PySem.W.keepIn K (.ref f_sh) = true)
    (a_oc : PySem.W.nsIn K mainGlobals "of_call" = some (some (.ref f_oc)))
    (l_oc : K.lookup f_oc = some ⟨oc_oc, od_oc, .func (PySem.W.fnOf "of_call" "of_call" (defArgs sOfCall) (defBody sOfCall) (defScope sOfCall) .none kV_oc dc_oc pm_oc an_oc cd_oc ct_oc), sl_oc⟩)
    (c_oc : PySem.W.codeIn K cd_oc "of_call" = true)
    (k_oc : PySem.W.keepIn K (.ref f_oc) = true)
    (a_isP : PySem.W.nsIn K mainGlobals "is_part" = some (some (.ref f_isP)))
    (l_isP : K.lookup f_isP = some ⟨oc_isP, od_isP, .func (PySem.W.fnOf "is_part" "is_part" (defArgs sIsPart) (defBody sIsPart) (defScope sIsPart) .none kV_isP dc_isP pm_isP an_isP cd_isP ct_isP), sl_isP⟩)
    (c_isP : PySem.W.codeIn K cd_isP "is_part" = true)
    (k_isP : PySem.W.keepIn K (.ref f_isP) = true)
    (a_chP : PySem.W.nsIn K mainGlobals "check_part" = some (some (.ref f_chP)))
    (l_chP : K.lookup f_chP = some ⟨oc_chP, od_chP, .func (PySem.W.fnOf "check_part" "check_part" (defArgs sChkPart) (defBody sChkPart) (defScope sChkPart) .none kV_chP dc_chP pm_chP an_chP cd_chP ct_chP), sl_chP⟩)
    (c_chP : PySem.W.codeIn K cd_chP "check_part" = true)
    (k_chP : PySem.W.keepIn K (.ref f_chP) = true)
    (a_afb : PySem.W.nsIn K mainGlobals "all_forced_by" = some (some (.ref f_afb)))
    (l_afb : K.lookup f_afb = some ⟨oc_afb, od_afb, .func (PySem.W.fnOf "all_forced_by" "all_forced_by" (defArgs sAllFB) (defBody sAllFB) (defScope sAllFB) .none kV_afb dc_afb pm_afb an_afb cd_afb ct_afb), sl_afb⟩)
    (c_afb : PySem.W.codeIn K cd_afb "all_forced_by" = true)
    (k_afb : PySem.W.keepIn K (.ref f_afb) = true)
    (a_to : PySem.W.nsIn K mainGlobals "torn_walls" = some (some (.ref f_to)))
    (l_to : K.lookup f_to = some ⟨oc_to, od_to, .func (PySem.W.fnOf "torn_walls" "torn_walls" (defArgs sTorn) (defBody sTorn) (defScope sTorn) .none kV_to dc_to pm_to an_to cd_to ct_to), sl_to⟩)
    (c_to : PySem.W.codeIn K cd_to "torn_walls" = true)
    (k_to : PySem.W.keepIn K (.ref f_to) = true)
    (a_fx : PySem.W.nsIn K mainGlobals "is_fixed" = some (some (.ref f_fx)))
    (l_fx : K.lookup f_fx = some ⟨oc_fx, od_fx, .func (PySem.W.fnOf "is_fixed" "is_fixed" (defArgs sIsFix) (defBody sIsFix) (defScope sIsFix) .none kV_fx dc_fx pm_fx an_fx cd_fx ct_fx), sl_fx⟩)
    (c_fx : PySem.W.codeIn K cd_fx "is_fixed" = true)
    (k_fx : PySem.W.keepIn K (.ref f_fx) = true)
    (a_so : PySem.W.nsIn K mainGlobals "stand_on" = some (some (.ref f_so)))
    (l_so : K.lookup f_so = some ⟨oc_so, od_so, .func (PySem.W.fnOf "stand_on" "stand_on" (defArgs sStandOn) (defBody sStandOn) (defScope sStandOn) .none kV_so dc_so pm_so an_so cd_so ct_so), sl_so⟩)
    (c_so : PySem.W.codeIn K cd_so "stand_on" = true)
    (k_so : PySem.W.keepIn K (.ref f_so) = true)
    (a_ie : PySem.W.nsIn K mainGlobals "is_entry" = some (some (.ref f_ie)))
    (l_ie : K.lookup f_ie = some ⟨oc_ie, od_ie, .func (PySem.W.fnOf "is_entry" "is_entry" (defArgs sIsEntry) (defBody sIsEntry) (defScope sIsEntry) .none kV_ie dc_ie pm_ie an_ie cd_ie ct_ie), sl_ie⟩)
    (c_ie : PySem.W.codeIn K cd_ie "is_entry" = true)
    (k_ie : PySem.W.keepIn K (.ref f_ie) = true)
    (a_mm : PySem.W.nsIn K mainGlobals "may_meet" = some (some (.ref f_mm)))
    (l_mm : K.lookup f_mm = some ⟨oc_mm, od_mm, .func (PySem.W.fnOf "may_meet" "may_meet" (defArgs sMayMeet) (defBody sMayMeet) (defScope sMayMeet) .none kV_mm dc_mm pm_mm an_mm cd_mm ct_mm), sl_mm⟩)
    (c_mm : PySem.W.codeIn K cd_mm "may_meet" = true)
    (k_mm : PySem.W.keepIn K (.ref f_mm) = true)
    (a_sd : PySem.W.nsIn K mainGlobals "stood_ahead" = some (some (.ref f_sd)))
    (l_sd : K.lookup f_sd = some ⟨oc_sd, od_sd, .func (PySem.W.fnOf "stood_ahead" "stood_ahead" (defArgs sStood) (defBody sStood) (defScope sStood) .none kV_sd dc_sd pm_sd an_sd cd_sd ct_sd), sl_sd⟩)
    (c_sd : PySem.W.codeIn K cd_sd "stood_ahead" = true)
    (k_sd : PySem.W.keepIn K (.ref f_sd) = true)
    (a_ld : PySem.W.nsIn K mainGlobals "leads_to_rooms" = some (some (.ref f_ld)))
    (l_ld : K.lookup f_ld = some ⟨oc_ld, od_ld, .func (PySem.W.fnOf "leads_to_rooms" "leads_to_rooms" (defArgs sLeads) (defBody sLeads) (defScope sLeads) .none kV_ld dc_ld pm_ld an_ld cd_ld ct_ld), sl_ld⟩)
    (c_ld : PySem.W.codeIn K cd_ld "leads_to_rooms" = true)
    (k_ld : PySem.W.keepIn K (.ref f_ld) = true)
    (a_ce : PySem.W.nsIn K mainGlobals "check_entries" = some (some (.ref f_ce)))
    (l_ce : K.lookup f_ce = some ⟨oc_ce, od_ce, .func (PySem.W.fnOf "check_entries" "check_entries" (defArgs sChkEnt) (defBody sChkEnt) (defScope sChkEnt) .none kV_ce dc_ce pm_ce an_ce cd_ce ct_ce), sl_ce⟩)
    (c_ce : PySem.W.codeIn K cd_ce "check_entries" = true)
    (k_ce : PySem.W.keepIn K (.ref f_ce) = true)
    (a_sb : PySem.W.nsIn K mainGlobals "side_behind" = some (some (.ref f_sb)))
    (l_sb : K.lookup f_sb = some ⟨oc_sb, od_sb, .func (PySem.W.fnOf "side_behind" "side_behind" (defArgs sSideB) (defBody sSideB) (defScope sSideB) .none kV_sb dc_sb pm_sb an_sb cd_sb ct_sb), sl_sb⟩)
    (c_sb : PySem.W.codeIn K cd_sb "side_behind" = true)
    (k_sb : PySem.W.keepIn K (.ref f_sb) = true)
    (a_rb : PySem.W.nsIn K mainGlobals "room_behind" = some (some (.ref f_rb)))
    (l_rb : K.lookup f_rb = some ⟨oc_rb, od_rb, .func (PySem.W.fnOf "room_behind" "room_behind" (defArgs sRoomB) (defBody sRoomB) (defScope sRoomB) .none kV_rb dc_rb pm_rb an_rb cd_rb ct_rb), sl_rb⟩)
    (c_rb : PySem.W.codeIn K cd_rb "room_behind" = true)
    (k_rb : PySem.W.keepIn K (.ref f_rb) = true)
    (a_chk : PySem.W.nsIn K mainGlobals "check_room" = some (some (.ref f_chk)))
    (l_chk : K.lookup f_chk = some ⟨oc_chk, od_chk, .func (PySem.W.fnOf "check_room" "check_room" (defArgs sChkRoom) (defBody sChkRoom) (defScope sChkRoom) .none kV_chk dc_chk pm_chk an_chk cd_chk ct_chk), sl_chk⟩)
    (c_chk : PySem.W.codeIn K cd_chk "check_room" = true)
    (k_chk : PySem.W.keepIn K (.ref f_chk) = true)
    (a_sc : PySem.W.nsIn K mainGlobals "shut_calls" = some (some (.ref f_sc)))
    (l_sc : K.lookup f_sc = some ⟨oc_sc, od_sc, .func (PySem.W.fnOf "shut_calls" "shut_calls" (defArgs sShCalls) (defBody sShCalls) (defScope sShCalls) .none kV_sc dc_sc pm_sc an_sc cd_sc ct_sc), sl_sc⟩)
    (c_sc : PySem.W.codeIn K cd_sc "shut_calls" = true)
    (k_sc : PySem.W.keepIn K (.ref f_sc) = true)
    (a_rmt : PySem.W.nsIn K mainGlobals "rooms_met" = some (some (.ref f_rmt)))
    (l_rmt : K.lookup f_rmt = some ⟨oc_rmt, od_rmt, .func (PySem.W.fnOf "rooms_met" "rooms_met" (defArgs sRMet) (defBody sRMet) (defScope sRMet) .none kV_rmt dc_rmt pm_rmt an_rmt cd_rmt ct_rmt), sl_rmt⟩)
    (c_rmt : PySem.W.codeIn K cd_rmt "rooms_met" = true)
    (k_rmt : PySem.W.keepIn K (.ref f_rmt) = true)
    (a_cmv : PySem.W.nsIn K mainGlobals "call_moves" = some (some (.ref f_cmv)))
    (l_cmv : K.lookup f_cmv = some ⟨oc_cmv, od_cmv, .func (PySem.W.fnOf "call_moves" "call_moves" (defArgs sCMov) (defBody sCMov) (defScope sCMov) .none kV_cmv dc_cmv pm_cmv an_cmv cd_cmv ct_cmv), sl_cmv⟩)
    (c_cmv : PySem.W.codeIn K cd_cmv "call_moves" = true)
    (k_cmv : PySem.W.keepIn K (.ref f_cmv) = true)
    (a_co : PySem.W.nsIn K mainGlobals "come_to" = some (some (.ref f_co)))
    (l_co : K.lookup f_co = some ⟨oc_co, od_co, .func (PySem.W.fnOf "come_to" "come_to" (defArgs sCome) (defBody sCome) (defScope sCome) .none (.ref Kd_co) dc_co pm_co an_co cd_co ct_co), sl_co⟩)
    (c_co : PySem.W.codeIn K cd_co "come_to" = true)
    (k_co : PySem.W.keepIn K (.ref f_co) = true)
    (a_CH : PySem.W.nsIn K mainGlobals "HallError" = some (some (.ref CH)))
    (a_CB : PySem.W.nsIn K mainGlobals "BadBar" = some (some (.ref CB)))
    (a_CF : PySem.W.nsIn K mainGlobals "Fixed" = some (some (.ref CF)))
    (a_CA : PySem.W.nsIn K mainGlobals "Alike" = some (some (.ref CA)))
    (a_CT : PySem.W.nsIn K mainGlobals "BadTable" = some (some (.ref CT)))
    (a_CTm : PySem.W.nsIn K mainGlobals "TooMany" = some (some (.ref CTm)))
    (i_H : PySem.W.findCls K (.ref CH) (.type "type") "__init__" = some (.val (.ref f_iH)))
    (r_H : PySem.W.readsIn K CH (.type "type") = true)
    (g_H : PySem.W.specialIn K (.ref CH) "__getattribute__" = some (some (.builtin "type.__getattribute__")))
    (v_V : PySem.W.findCls K (.type "ValueError") (.type "type") "__init__" = some (.val (.builtin "ValueError.__init__")))
    (x_CB : K.lookup CB = some (excClassObj nm_CB q_CB CB N_CB bs_CB bm_CB true sn_CB sub_CB ab_CB col_CB dd_CB m0_CB m1_CB m2_CB m3_CB m5_CB "ValueError.__new__"))
    (rv_CB : PySem.HandSPX.refsVE bm_CB = true)
    (sa_CB : PySem.W.findIn K (.ref CB) "__setattr__" = some (some (.builtin "object.__setattr__")))
    (ex_CB : PySem.W.subIn K (.ref CB) (.type "BaseException") = some true)
    (ty_CB : PySem.W.typeIn K (.ref CB) = some (.type "type"))
    (kc_CB : PySem.W.keepIn K (.ref CB) = true)
    (i_CB : PySem.W.findIn K (.ref CB) "__init__" = some (some (.ref f_iB)))
    (t_CB : PySem.W.typeIn K (.ref f_iB) = some (.type "function"))
    (n_CB_word : PySem.W.findIn K (.ref CB) "word" = some none)
    (n_CB_at : PySem.W.findIn K (.ref CB) "at" = some none)
    (x_CF : K.lookup CF = some (excClassObj nm_CF q_CF CF N_CF bs_CF bm_CF true sn_CF sub_CF ab_CF col_CF dd_CF m0_CF m1_CF m2_CF m3_CF m5_CF "ValueError.__new__"))
    (rv_CF : PySem.HandSPX.refsVE bm_CF = true)
    (sa_CF : PySem.W.findIn K (.ref CF) "__setattr__" = some (some (.builtin "object.__setattr__")))
    (ex_CF : PySem.W.subIn K (.ref CF) (.type "BaseException") = some true)
    (ty_CF : PySem.W.typeIn K (.ref CF) = some (.type "type"))
    (kc_CF : PySem.W.keepIn K (.ref CF) = true)
    (i_CF : PySem.W.findIn K (.ref CF) "__init__" = some (some (.ref f_iF)))
    (t_CF : PySem.W.typeIn K (.ref f_iF) = some (.type "function"))
    (n_CF_word : PySem.W.findIn K (.ref CF) "word" = some none)
    (n_CF_side : PySem.W.findIn K (.ref CF) "side" = some none)
    (x_CA : K.lookup CA = some (excClassObj nm_CA q_CA CA N_CA bs_CA bm_CA true sn_CA sub_CA ab_CA col_CA dd_CA m0_CA m1_CA m2_CA m3_CA m5_CA "ValueError.__new__"))
    (rv_CA : PySem.HandSPX.refsVE bm_CA = true)
    (sa_CA : PySem.W.findIn K (.ref CA) "__setattr__" = some (some (.builtin "object.__setattr__")))
    (ex_CA : PySem.W.subIn K (.ref CA) (.type "BaseException") = some true)
    (ty_CA : PySem.W.typeIn K (.ref CA) = some (.type "type"))
    (kc_CA : PySem.W.keepIn K (.ref CA) = true)
    (i_CA : PySem.W.findIn K (.ref CA) "__init__" = some (some (.ref f_iA)))
    (t_CA : PySem.W.typeIn K (.ref f_iA) = some (.type "function"))
    (n_CA_word : PySem.W.findIn K (.ref CA) "word" = some none)
    (n_CA_one : PySem.W.findIn K (.ref CA) "one" = some none)
    (n_CA_other : PySem.W.findIn K (.ref CA) "other" = some none)
    (x_CT : K.lookup CT = some (excClassObj nm_CT q_CT CT N_CT bs_CT bm_CT true sn_CT sub_CT ab_CT col_CT dd_CT m0_CT m1_CT m2_CT m3_CT m5_CT "ValueError.__new__"))
    (rv_CT : PySem.HandSPX.refsVE bm_CT = true)
    (sa_CT : PySem.W.findIn K (.ref CT) "__setattr__" = some (some (.builtin "object.__setattr__")))
    (ga_CT : PySem.W.findIn K (.ref CT) "__getattribute__" = some (some (.builtin "BaseException.__getattribute__")))
    (gg_CT : PySem.W.findIn K (.ref CT) "__getattr__" = some none)
    (hd_CT : PySem.W.hasDictIn K CT = true)
    (ex_CT : PySem.W.subIn K (.ref CT) (.type "BaseException") = some true)
    (ty_CT : PySem.W.typeIn K (.ref CT) = some (.type "type"))
    (kc_CT : PySem.W.keepIn K (.ref CT) = true)
    (i_CT : PySem.W.findIn K (.ref CT) "__init__" = some (some (.ref f_iT)))
    (t_CT : PySem.W.typeIn K (.ref f_iT) = some (.type "function"))
    (n_CT_word : PySem.W.findIn K (.ref CT) "word" = some none)
    (n_CT_at : PySem.W.findIn K (.ref CT) "at" = some none)
    (x_CTm : K.lookup CTm = some (excClassObj nm_CTm q_CTm CTm N_CTm bs_CTm bm_CTm true sn_CTm sub_CTm ab_CTm col_CTm dd_CTm m0_CTm m1_CTm m2_CTm m3_CTm m5_CTm "ValueError.__new__"))
    (rv_CTm : PySem.HandSPX.refsVE bm_CTm = true)
    (sa_CTm : PySem.W.findIn K (.ref CTm) "__setattr__" = some (some (.builtin "object.__setattr__")))
    (ga_CTm : PySem.W.findIn K (.ref CTm) "__getattribute__" = some (some (.builtin "BaseException.__getattribute__")))
    (gg_CTm : PySem.W.findIn K (.ref CTm) "__getattr__" = some none)
    (hd_CTm : PySem.W.hasDictIn K CTm = true)
    (ex_CTm : PySem.W.subIn K (.ref CTm) (.type "BaseException") = some true)
    (ty_CTm : PySem.W.typeIn K (.ref CTm) = some (.type "type"))
    (kc_CTm : PySem.W.keepIn K (.ref CTm) = true)
    (i_CTm : PySem.W.findIn K (.ref CTm) "__init__" = some (some (.ref f_iTm)))
    (t_CTm : PySem.W.typeIn K (.ref f_iTm) = some (.type "function"))
    (n_CTm_word : PySem.W.findIn K (.ref CTm) "word" = some none)
    (n_CTm_most : PySem.W.findIn K (.ref CTm) "most" = some none)
    (l_iH : K.lookup f_iH = some ⟨oc_iH, od_iH, .func (PySem.W.fnOf "__init__" "HallError.__init__" (defArgs sHEinit) (defBody sHEinit) (defScope sHEinit) .none kV_iH dc_iH pm_iH an_iH cd_iH ct_iH), sl_iH⟩)
    (c_iH : PySem.W.codeIn K cd_iH "HallError.__init__" = true)
    (k_iH : PySem.W.keepIn K (.ref f_iH) = true)
    (l_iB : K.lookup f_iB = some ⟨oc_iB, od_iB, .func (PySem.W.fnOf "__init__" "BadBar.__init__" (defArgs sBBinit) (defBody sBBinit) (defScope sBBinit) .none kV_iB dc_iB pm_iB an_iB cd_iB ct_iB), sl_iB⟩)
    (c_iB : PySem.W.codeIn K cd_iB "BadBar.__init__" = true)
    (k_iB : PySem.W.keepIn K (.ref f_iB) = true)
    (l_iF : K.lookup f_iF = some ⟨oc_iF, od_iF, .func (PySem.W.fnOf "__init__" "Fixed.__init__" (defArgs sFXinit) (defBody sFXinit) (defScope sFXinit) .none kV_iF dc_iF pm_iF an_iF cd_iF ct_iF), sl_iF⟩)
    (c_iF : PySem.W.codeIn K cd_iF "Fixed.__init__" = true)
    (k_iF : PySem.W.keepIn K (.ref f_iF) = true)
    (l_iA : K.lookup f_iA = some ⟨oc_iA, od_iA, .func (PySem.W.fnOf "__init__" "Alike.__init__" (defArgs sALinit) (defBody sALinit) (defScope sALinit) .none kV_iA dc_iA pm_iA an_iA cd_iA ct_iA), sl_iA⟩)
    (c_iA : PySem.W.codeIn K cd_iA "Alike.__init__" = true)
    (k_iA : PySem.W.keepIn K (.ref f_iA) = true)
    (l_iT : K.lookup f_iT = some ⟨oc_iT, od_iT, .func (PySem.W.fnOf "__init__" "BadTable.__init__" (defArgs sBTinit) (defBody sBTinit) (defScope sBTinit) .none kV_iT dc_iT pm_iT an_iT cd_iT ct_iT), sl_iT⟩)
    (c_iT : PySem.W.codeIn K cd_iT "BadTable.__init__" = true)
    (k_iT : PySem.W.keepIn K (.ref f_iT) = true)
    (l_iTm : K.lookup f_iTm = some ⟨oc_iTm, od_iTm, .func (PySem.W.fnOf "__init__" "TooMany.__init__" (defArgs sTMinit) (defBody sTMinit) (defScope sTMinit) .none kV_iTm dc_iTm pm_iTm an_iTm cd_iTm ct_iTm), sl_iTm⟩)
    (c_iTm : PySem.W.codeIn K cd_iTm "TooMany.__init__" = true)
    (k_iTm : PySem.W.keepIn K (.ref f_iTm) = true)
    (e_CTm_CTm : PySem.W.subIn K (.ref CTm) (.ref CTm) = some true)
    (ic_CTm : PySem.W.isClsIn K CTm = true)
    (a_C : PySem.W.nsIn K mainGlobals "Hall" = some (some (.ref C)))
    (i_C : PySem.W.findIn K (.ref C) "__init__" = some (some (.ref f_hi)))
    (j_C : PySem.W.isFn K (.ref f_hi) = true)
    (pg_C : PySem.W.plainGet K C Str.empty = true)
    (hd_C : PySem.W.hasDictIn K C = true)
    (po_C : PySem.W.plainOver K C = true)
    (sa_C : PySem.W.findIn K (.ref C) "__setattr__" = some (some (.builtin "object.__setattr__")))
    (mk_C : PySem.W.makesIn K C = true)
    (kp_C : PySem.W.keepIn K (.ref C) = true)
    (n1_C : PySem.W.findIn K (.ref C) "wall_text" = some none)
    (n2_C : PySem.W.findIn K (.ref C) "bar_list" = some none)
    (n3_C : PySem.W.findIn K (.ref C) "forced_by" = some none)
    (b_hb : PySem.W.findIn K (.ref C) "bars" = some (some (.ref f_hb)))
    (m_hb : PySem.W.isFn K (.ref f_hb) = true)
    (l_hb : K.lookup f_hb = some ⟨oc_hb, od_hb, .func (PySem.W.fnOf "bars" "Hall.bars" (defArgs sHbars) (defBody sHbars) (defScope sHbars) .none kV_hb dc_hb pm_hb an_hb cd_hb ct_hb), sl_hb⟩)
    (c_hb : PySem.W.codeIn K cd_hb "Hall.bars" = true)
    (k_hb : PySem.W.keepIn K (.ref f_hb) = true)
    (b_hm : PySem.W.findIn K (.ref C) "is_room" = some (some (.ref f_hm)))
    (m_hm : PySem.W.isFn K (.ref f_hm) = true)
    (l_hm : K.lookup f_hm = some ⟨oc_hm, od_hm, .func (PySem.W.fnOf "is_room" "Hall.is_room" (defArgs sHroom) (defBody sHroom) (defScope sHroom) .none kV_hm dc_hm pm_hm an_hm cd_hm ct_hm), sl_hm⟩)
    (c_hm : PySem.W.codeIn K cd_hm "Hall.is_room" = true)
    (k_hm : PySem.W.keepIn K (.ref f_hm) = true)
    (b_hr : PySem.W.findIn K (.ref C) "rooms" = some (some (.ref f_hr)))
    (m_hr : PySem.W.isFn K (.ref f_hr) = true)
    (l_hr : K.lookup f_hr = some ⟨oc_hr, od_hr, .func (PySem.W.fnOf "rooms" "Hall.rooms" (defArgs sHrooms) (defBody sHrooms) (defScope sHrooms) .none kV_hr dc_hr pm_hr an_hr cd_hr ct_hr), sl_hr⟩)
    (c_hr : PySem.W.codeIn K cd_hr "Hall.rooms" = true)
    (k_hr : PySem.W.keepIn K (.ref f_hr) = true)
    (b_hg : PySem.W.findIn K (.ref C) "goes_with" = some (some (.ref f_hg)))
    (m_hg : PySem.W.isFn K (.ref f_hg) = true)
    (l_hg : K.lookup f_hg = some ⟨oc_hg, od_hg, .func (PySem.W.fnOf "goes_with" "Hall.goes_with" (defArgs sHgoes) (defBody sHgoes) (defScope sHgoes) .none kV_hg dc_hg pm_hg an_hg cd_hg ct_hg), sl_hg⟩)
    (c_hg : PySem.W.codeIn K cd_hg "Hall.goes_with" = true)
    (k_hg : PySem.W.keepIn K (.ref f_hg) = true)
    (b_hwl : PySem.W.findIn K (.ref C) "walls" = some (some (.ref f_hwl)))
    (m_hwl : PySem.W.isFn K (.ref f_hwl) = true)
    (l_hwl : K.lookup f_hwl = some ⟨oc_hwl, od_hwl, .func (PySem.W.fnOf "walls" "Hall.walls" (defArgs sHwalls) (defBody sHwalls) (defScope sHwalls) .none kV_hwl dc_hwl pm_hwl an_hwl cd_hwl ct_hwl), sl_hwl⟩)
    (c_hwl : PySem.W.codeIn K cd_hwl "Hall.walls" = true)
    (k_hwl : PySem.W.keepIn K (.ref f_hwl) = true)
    (b_hfo : PySem.W.findIn K (.ref C) "forced" = some (some (.ref f_hfo)))
    (m_hfo : PySem.W.isFn K (.ref f_hfo) = true)
    (l_hfo : K.lookup f_hfo = some ⟨oc_hfo, od_hfo, .func (PySem.W.fnOf "forced" "Hall.forced" (defArgs sHforced) (defBody sHforced) (defScope sHforced) .none kV_hfo dc_hfo pm_hfo an_hfo cd_hfo ct_hfo), sl_hfo⟩)
    (c_hfo : PySem.W.codeIn K cd_hfo "Hall.forced" = true)
    (k_hfo : PySem.W.keepIn K (.ref f_hfo) = true)
    (b_hfs : PySem.W.findIn K (.ref C) "forces" = some (some (.ref f_hfs)))
    (m_hfs : PySem.W.isFn K (.ref f_hfs) = true)
    (l_hfs : K.lookup f_hfs = some ⟨oc_hfs, od_hfs, .func (PySem.W.fnOf "forces" "Hall.forces" (defArgs sHforces) (defBody sHforces) (defScope sHforces) .none kV_hfs dc_hfs pm_hfs an_hfs cd_hfs ct_hfs), sl_hfs⟩)
    (c_hfs : PySem.W.codeIn K cd_hfs "Hall.forces" = true)
    (k_hfs : PySem.W.keepIn K (.ref f_hfs) = true)
    (l_hi : K.lookup f_hi = some ⟨oc_hi, od_hi, .func (PySem.W.fnOf "__init__" "Hall.__init__" (defArgs sHinit) (defBody sHinit) (defScope sHinit) (.ref T_hi) kV_hi dc_hi pm_hi an_hi cd_hi ct_hi), sl_hi⟩)
    (c_hi : PySem.W.codeIn K cd_hi "Hall.__init__" = true)
    (k_hi : PySem.W.keepIn K (.ref f_hi) = true)
    (d_hi : K.lookup T_hi = some ⟨oc_T, od_T, .seq [Value.ref e_hi].toArray n_T, sl_T⟩)
    (a_CTb : PySem.W.nsIn K mainGlobals "Table" = some (some (.ref CTb)))
    (i_CTb : PySem.W.findIn K (.ref CTb) "__init__" = some (some (.ref f_tbI)))
    (j_CTb : PySem.W.isFn K (.ref f_tbI) = true)
    (pg_CTb : PySem.W.plainGet K CTb Str.empty = true)
    (hd_CTb : PySem.W.hasDictIn K CTb = true)
    (po_CTb : PySem.W.plainOver K CTb = true)
    (sa_CTb : PySem.W.findIn K (.ref CTb) "__setattr__" = some (some (.builtin "object.__setattr__")))
    (mk_CTb : PySem.W.makesIn K CTb = true)
    (kp_CTb : PySem.W.keepIn K (.ref CTb) = true)
    (n1_CTb : PySem.W.findIn K (.ref CTb) "place" = some none)
    (n2_CTb : PySem.W.findIn K (.ref CTb) "entry_texts" = some none)
    (b_tbE : PySem.W.findIn K (.ref CTb) "entries" = some (some (.ref f_tbE)))
    (m_tbE : PySem.W.isFn K (.ref f_tbE) = true)
    (l_tbE : K.lookup f_tbE = some ⟨oc_tbE, od_tbE, .func (PySem.W.fnOf "entries" "Table.entries" (defArgs sTabE) (defBody sTabE) (defScope sTabE) .none kV_tbE dc_tbE pm_tbE an_tbE cd_tbE ct_tbE), sl_tbE⟩)
    (c_tbE : PySem.W.codeIn K cd_tbE "Table.entries" = true)
    (k_tbE : PySem.W.keepIn K (.ref f_tbE) = true)
    (l_tbI : K.lookup f_tbI = some ⟨oc_tbI, od_tbI, .func (PySem.W.fnOf "__init__" "Table.__init__" (defArgs sTabI) (defBody sTabI) (defScope sTabI) .none kV_tbI dc_tbI pm_tbI an_tbI cd_tbI ct_tbI), sl_tbI⟩)
    (c_tbI : PySem.W.codeIn K cd_tbI "Table.__init__" = true)
    (k_tbI : PySem.W.keepIn K (.ref f_tbI) = true)
    (d_e : K.lookup e_hi = some ⟨.type "tuple", od_e, .seq #[] n_e, sl_e⟩)
    (w_co : PySem.W.nsIn K Kd_co "most" = some (some (.int 256 t_co)))
    (z_list : PySem.W.nsIn K mainGlobals "list" = some none)
    (z_sorted : PySem.W.nsIn K mainGlobals "sorted" = some none)
    (z_set : PySem.W.nsIn K mainGlobals "set" = some none)
    (z_all : PySem.W.nsIn K mainGlobals "all" = some none)
    (z_len : PySem.W.nsIn K mainGlobals "len" = some none)
    (z_enumerate : PySem.W.nsIn K mainGlobals "enumerate" = some none)
    (z_range : PySem.W.nsIn K mainGlobals "range" = some none)
    (z_isinstance : PySem.W.nsIn K mainGlobals "isinstance" = some none)
    (z_tuple : PySem.W.nsIn K mainGlobals "tuple" = some none)
    (z_any : PySem.W.nsIn K mainGlobals "any" = some none)
    (z_ValueError : PySem.W.nsIn K mainGlobals "ValueError" = some none)
    (z_bool : PySem.W.nsIn K mainGlobals "bool" = some none)
    (z_str : PySem.W.nsIn K mainGlobals "str" = some none)
    (z_zip : PySem.W.nsIn K mainGlobals "zip" = some none)
    (z_max : PySem.W.nsIn K mainGlobals "max" = some none)
    (w_W : PySem.W.nsIn K mainGlobals "WIDEST" = some (some (.int 12 tw)))
    (w_MOST_CALLS : PySem.W.nsIn K mainGlobals "MOST_CALLS" = some (some (.int 12 tc)))
    (a_L : PySem.W.nsIn K mainGlobals "law" = some (some (.ref fL)))
    (l_L : K.lookup fL = some ⟨ocL, odL, .func (PySem.W.fnOf "law" "law" (defArgs sLaw) (defBody sLaw) (defScope sLaw) .none kVL dcL pmL anL (.ref c) ctL), slL⟩)
    (c_L : PySem.W.codeIn K (.ref c) "law" = true)
    (h_L : PySem.W.codeHdIn K c PT = true)
    : LamX.LawAtS l w K CX0 14 63 "_law_script" mg fa h := by
  have F_O := fun_mk (st := sOther) l_O c_O k_O
  have D_O : DF K mg "other" sOther ["side"] f_O _ := ⟨F_O, PySem.W.mg_of X G a_O, F_O.binds (ps := ["side"]) fun _ _ _ _ _ _ us hl => match us, hl with | [_], _ => rfl⟩
  have F_S := fun_mk (st := sSides) l_S c_S k_S
  have D_S : DF K mg "sides_of" sSides ["walls"] f_S _ := ⟨F_S, PySem.W.mg_of X G a_S, F_S.binds (ps := ["walls"]) fun _ _ _ _ _ _ us hl => match us, hl with | [_], _ => rfl⟩
  have F_Y := fun_mk (st := sByWalls) l_Y c_Y k_Y
  have D_Y : DF K mg "by_walls" sByWalls ["walls", "sides"] f_Y _ := ⟨F_Y, PySem.W.mg_of X G a_Y, F_Y.binds (ps := ["walls", "sides"]) fun _ _ _ _ _ _ us hl => match us, hl with | [_, _], _ => rfl⟩
  have F_W := fun_mk (st := sIsWalls) l_W c_W k_W
  have D_W : DF K mg "is_walls" sIsWalls ["walls"] f_W _ := ⟨F_W, PySem.W.mg_of X G a_W, F_W.binds (ps := ["walls"]) fun _ _ _ _ _ _ us hl => match us, hl with | [_], _ => rfl⟩
  have F_I := fun_mk (st := sIsBar) l_I c_I k_I
  have D_I : DF K mg "is_bar" sIsBar ["walls", "bar"] f_I _ := ⟨F_I, PySem.W.mg_of X G a_I, F_I.binds (ps := ["walls", "bar"]) fun _ _ _ _ _ _ us hl => match us, hl with | [_, _], _ => rfl⟩
  have F_cw := fun_mk (st := sChkWalls) l_cw c_cw k_cw
  have D_cw : DF K mg "check_walls" sChkWalls ["walls"] f_cw _ := ⟨F_cw, PySem.W.mg_of X G a_cw, F_cw.binds (ps := ["walls"]) fun _ _ _ _ _ _ us hl => match us, hl with | [_], _ => rfl⟩
  have F_cb := fun_mk (st := sChkBars) l_cb c_cb k_cb
  have D_cb : DF K mg "check_bars" sChkBars ["walls", "bars"] f_cb _ := ⟨F_cb, PySem.W.mg_of X G a_cb, F_cb.binds (ps := ["walls", "bars"]) fun _ _ _ _ _ _ us hl => match us, hl with | [_, _], _ => rfl⟩
  have F_cs := fun_mk (st := sChkSide) l_cs c_cs k_cs
  have D_cs : DF K mg "check_side" sChkSide ["walls", "side"] f_cs _ := ⟨F_cs, PySem.W.mg_of X G a_cs, F_cs.binds (ps := ["walls", "side"]) fun _ _ _ _ _ _ us hl => match us, hl with | [_, _], _ => rfl⟩
  have F_st := fun_mk (st := sStraight) l_st c_st k_st
  have D_st : DF K mg "straight_from" sStraight ["walls", "bars"] f_st _ := ⟨F_st, PySem.W.mg_of X G a_st, F_st.binds (ps := ["walls", "bars"]) fun _ _ _ _ _ _ us hl => match us, hl with | [_, _], _ => rfl⟩
  have F_re := fun_mk (st := sReached) l_re c_re k_re
  have D_re : DF K mg "reached" sReached ["straight", "one"] f_re _ := ⟨F_re, PySem.W.mg_of X G a_re, F_re.binds (ps := ["straight", "one"]) fun _ _ _ _ _ _ us hl => match us, hl with | [_, _], _ => rfl⟩
  have F_af := fun_mk (st := sAllF) l_af c_af k_af
  have D_af : DF K mg "all_forced" sAllF ["walls", "bars"] f_af _ := ⟨F_af, PySem.W.mg_of X G a_af, F_af.binds (ps := ["walls", "bars"]) fun _ _ _ _ _ _ us hl => match us, hl with | [_, _], _ => rfl⟩
  have F_cf := fun_mk (st := sChkFix) l_cf c_cf k_cf
  have D_cf : DF K mg "check_fixed" sChkFix ["forced_by"] f_cf _ := ⟨F_cf, PySem.W.mg_of X G a_cf, F_cf.binds (ps := ["forced_by"]) fun _ _ _ _ _ _ us hl => match us, hl with | [_], _ => rfl⟩
  have F_ca := fun_mk (st := sChkAl) l_ca c_ca k_ca
  have D_ca : DF K mg "check_alike" sChkAl ["forced_by"] f_ca _ := ⟨F_ca, PySem.W.mg_of X G a_ca, F_ca.binds (ps := ["forced_by"]) fun _ _ _ _ _ _ us hl => match us, hl with | [_], _ => rfl⟩
  have F_same := fun_mk (st := sSame) l_same c_same k_same
  have D_same : DF K mg "_law_same" sSame ["_law_x", "_law_due"] f_same _ := ⟨F_same, PySem.W.mg_of X G a_same, F_same.binds (ps := ["_law_x", "_law_due"]) fun _ _ _ _ _ _ us hl => match us, hl with | [_, _], _ => rfl⟩
  have F_start := fun_mk (st := sStart) l_start c_start k_start
  have D_start : DF K mg "_law_start" sStart ["_law_script"] f_start _ := ⟨F_start, PySem.W.mg_of X G a_start, F_start.binds (ps := ["_law_script"]) fun _ _ _ _ _ _ us hl => match us, hl with | [_], _ => rfl⟩
  have F_draw := fun_mk (st := sDraw) l_draw c_draw k_draw
  have D_draw : DF K mg "_law_draw" sDraw ["_law_d", "_law_many"] f_draw _ := ⟨F_draw, PySem.W.mg_of X G a_draw, F_draw.binds (ps := ["_law_d", "_law_many"]) fun _ _ _ _ _ _ us hl => match us, hl with | [_, _], _ => rfl⟩
  have F_of := fun_mk (st := sOf) l_of c_of k_of
  have D_of : DF K mg "_law_of" sOf ["_law_d", "_law_some"] f_of _ := ⟨F_of, PySem.W.mg_of X G a_of, F_of.binds (ps := ["_law_d", "_law_some"]) fun _ _ _ _ _ _ us hl => match us, hl with | [_, _], _ => rfl⟩
  have F_letters := fun_mk (st := sLetters) l_letters c_letters k_letters
  have D_letters : DF K mg "_law_letters" sLetters [] f_letters _ := ⟨F_letters, PySem.W.mg_of X G a_letters, F_letters.binds (ps := []) fun _ _ _ _ _ _ us hl => match us, hl with | [], _ => rfl⟩
  have F_shuts := fun_mk (st := sShuts) l_shuts c_shuts k_shuts
  have D_shuts : DF K mg "_law_shuts" sShuts ["_law_d", "_law_most_it"] f_shuts _ := ⟨F_shuts, PySem.W.mg_of X G a_shuts, F_shuts.binds (ps := ["_law_d", "_law_most_it"]) fun _ _ _ _ _ _ us hl => match us, hl with | [_, _], _ => rfl⟩
  have F_oth := fun_mk (st := sOth) l_oth c_oth k_oth
  have D_oth : DF K mg "_law_other" sOth ["_law_side"] f_oth _ := ⟨F_oth, PySem.W.mg_of X G a_oth, F_oth.binds (ps := ["_law_side"]) fun _ _ _ _ _ _ us hl => match us, hl with | [_], _ => rfl⟩
  have F_wit := fun_mk (st := sWithin) l_wit c_wit k_wit
  have D_wit : DF K mg "_law_within" sWithin ["_law_sides_here", "_law_room"] f_wit _ := ⟨F_wit, PySem.W.mg_of X G a_wit, F_wit.binds (ps := ["_law_sides_here", "_law_room"]) fun _ _ _ _ _ _ us hl => match us, hl with | [_, _], _ => rfl⟩
  have F_pairs := fun_mk (st := sPairs) l_pairs c_pairs k_pairs
  have D_pairs : DF K mg "_law_pairs" sPairs ["_law_shuts_here"] f_pairs _ := ⟨F_pairs, PySem.W.mg_of X G a_pairs, F_pairs.binds (ps := ["_law_shuts_here"]) fun _ _ _ _ _ _ us hl => match us, hl with | [_], _ => rfl⟩
  have F_all := fun_mk (st := sAll) l_all c_all k_all
  have D_all : DF K mg "_law_all" sAll ["_law_shuts_here"] f_all _ := ⟨F_all, PySem.W.mg_of X G a_all, F_all.binds (ps := ["_law_shuts_here"]) fun _ _ _ _ _ _ us hl => match us, hl with | [_], _ => rfl⟩
  have F_rms := fun_mk (st := sRooms) l_rms c_rms k_rms
  have D_rms : DF K mg "_law_rooms" sRooms ["_law_shuts_here", "_law_bars"] f_rms _ := ⟨F_rms, PySem.W.mg_of X G a_rms, F_rms.binds (ps := ["_law_shuts_here", "_law_bars"]) fun _ _ _ _ _ _ us hl => match us, hl with | [_, _], _ => rfl⟩
  have F_fine := fun_mk (st := sFine) l_fine c_fine k_fine
  have D_fine : DF K mg "_law_fine" sFine ["_law_shuts_here", "_law_rooms_here"] f_fine _ := ⟨F_fine, PySem.W.mg_of X G a_fine, F_fine.binds (ps := ["_law_shuts_here", "_law_rooms_here"]) fun _ _ _ _ _ _ us hl => match us, hl with | [_, _], _ => rfl⟩
  have F_hall := fun_mk (st := sHall) l_hall c_hall k_hall
  have D_hall : DF K mg "_law_hall" sHall ["_law_d", "_law_most_it"] f_hall _ := ⟨F_hall, PySem.W.mg_of X G a_hall, F_hall.binds (ps := ["_law_d", "_law_most_it"]) fun _ _ _ _ _ _ us hl => match us, hl with | [_, _], _ => rfl⟩
  have F_lsi := fun_mk (st := sLSides) l_lsi c_lsi k_lsi
  have D_lsi : DF K mg "_law_sides" sLSides ["_law_d", "_law_shuts_here"] f_lsi _ := ⟨F_lsi, PySem.W.mg_of X G a_lsi, F_lsi.binds (ps := ["_law_d", "_law_shuts_here"]) fun _ _ _ _ _ _ us hl => match us, hl with | [_, _], _ => rfl⟩
  have F_lpa := fun_mk (st := sLPart) l_lpa c_lpa k_lpa
  have D_lpa : DF K mg "_law_part" sLPart ["_law_d", "_law_shuts_here", "_law_rooms_here"] f_lpa _ := ⟨F_lpa, PySem.W.mg_of X G a_lpa, F_lpa.binds (ps := ["_law_d", "_law_shuts_here", "_law_rooms_here"]) fun _ _ _ _ _ _ us hl => match us, hl with | [_, _, _], _ => rfl⟩
  have F_apart := fun_mk (st := sApart) l_apart c_apart k_apart
  have D_apart : DF K mg "_law_apart" sApart ["_law_one", "_law_two"] f_apart _ := ⟨F_apart, PySem.W.mg_of X G a_apart, F_apart.binds (ps := ["_law_one", "_law_two"]) fun _ _ _ _ _ _ us hl => match us, hl with | [_, _], _ => rfl⟩
  have F_lne := fun_mk (st := sLNear) l_lne c_lne k_lne
  have D_lne : DF K mg "_law_near" sLNear ["_law_rooms_here", "_law_part_here", "_law_room"] f_lne _ := ⟨F_lne, PySem.W.mg_of X G a_lne, F_lne.binds (ps := ["_law_rooms_here", "_law_part_here", "_law_room"]) fun _ _ _ _ _ _ us hl => match us, hl with | [_, _, _], _ => rfl⟩
  have F_led := fun_mk (st := sLed) l_led c_led k_led
  have D_led : DF K mg "_law_led" sLed ["_law_rooms_here", "_law_shuts_here", "_law_steps", "_law_room"] f_led _ := ⟨F_led, PySem.W.mg_of X G a_led, F_led.binds (ps := ["_law_rooms_here", "_law_shuts_here", "_law_steps", "_law_room"]) fun _ _ _ _ _ _ us hl => match us, hl with | [_, _, _, _], _ => rfl⟩
  have F_map := fun_mk (st := sMap) l_map c_map k_map
  have D_map : DF K mg "_law_map" sMap ["_law_rooms_here", "_law_shuts_here", "_law_steps"] f_map _ := ⟨F_map, PySem.W.mg_of X G a_map, F_map.binds (ps := ["_law_rooms_here", "_law_shuts_here", "_law_steps"]) fun _ _ _ _ _ _ us hl => match us, hl with | [_, _, _], _ => rfl⟩
  have F_lca := fun_mk (st := sLCalls) l_lca c_lca k_lca
  have D_lca : DF K mg "_law_calls" sLCalls ["_law_d", "_law_shuts_here", "_law_rooms_here", "_law_most_it"] f_lca _ := ⟨F_lca, PySem.W.mg_of X G a_lca, F_lca.binds (ps := ["_law_d", "_law_shuts_here", "_law_rooms_here", "_law_most_it"]) fun _ _ _ _ _ _ us hl => match us, hl with | [_, _, _, _], _ => rfl⟩
  have F_rea := fun_mk (st := sReach) l_rea c_rea k_rea
  have D_rea : DF K mg "_law_reach" sReach ["_law_rooms_here", "_law_moves", "_law_room"] f_rea _ := ⟨F_rea, PySem.W.mg_of X G a_rea, F_rea.binds (ps := ["_law_rooms_here", "_law_moves", "_law_room"]) fun _ _ _ _ _ _ us hl => match us, hl with | [_, _, _], _ => rfl⟩
  have F_told := fun_mk (st := sTold) l_told c_told k_told
  have D_told : DF K mg "_law_told" sTold ["_law_ask"] f_told _ := ⟨F_told, PySem.W.mg_of X G a_told, F_told.binds (ps := ["_law_ask"]) fun _ _ _ _ _ _ us hl => match us, hl with | [_], _ => rfl⟩
  have F_sh := fun_mk (st := sShut) l_sh c_sh k_sh
  have D_sh : DF K mg "shut" sShut ["hall", "part"] f_sh _ := ⟨F_sh, PySem.W.mg_of X G a_sh, F_sh.binds (ps := ["hall", "part"]) fun _ _ _ _ _ _ us hl => match us, hl with | [_, _], _ => rfl⟩
  have F_oc := fun_mk (st := sOfCall) l_oc c_oc k_oc
  have D_oc : DF K mg "of_call" sOfCall ["hall", "part"] f_oc _ := ⟨F_oc, PySem.W.mg_of X G a_oc, F_oc.binds (ps := ["hall", "part"]) fun _ _ _ _ _ _ us hl => match us, hl with | [_, _], _ => rfl⟩
  have F_isP := fun_mk (st := sIsPart) l_isP c_isP k_isP
  have D_isP : DF K mg "is_part" sIsPart ["hall", "part"] f_isP _ := ⟨F_isP, PySem.W.mg_of X G a_isP, F_isP.binds (ps := ["hall", "part"]) fun _ _ _ _ _ _ us hl => match us, hl with | [_, _], _ => rfl⟩
  have F_chP := fun_mk (st := sChkPart) l_chP c_chP k_chP
  have D_chP : DF K mg "check_part" sChkPart ["hall", "part"] f_chP _ := ⟨F_chP, PySem.W.mg_of X G a_chP, F_chP.binds (ps := ["hall", "part"]) fun _ _ _ _ _ _ us hl => match us, hl with | [_, _], _ => rfl⟩
  have F_afb := fun_mk (st := sAllFB) l_afb c_afb k_afb
  have D_afb : DF K mg "all_forced_by" sAllFB ["hall", "part"] f_afb _ := ⟨F_afb, PySem.W.mg_of X G a_afb, F_afb.binds (ps := ["hall", "part"]) fun _ _ _ _ _ _ us hl => match us, hl with | [_, _], _ => rfl⟩
  have F_to := fun_mk (st := sTorn) l_to c_to k_to
  have D_to : DF K mg "torn_walls" sTorn ["hall", "part"] f_to _ := ⟨F_to, PySem.W.mg_of X G a_to, F_to.binds (ps := ["hall", "part"]) fun _ _ _ _ _ _ us hl => match us, hl with | [_, _], _ => rfl⟩
  have F_fx := fun_mk (st := sIsFix) l_fx c_fx k_fx
  have D_fx : DF K mg "is_fixed" sIsFix ["entry"] f_fx _ := ⟨F_fx, PySem.W.mg_of X G a_fx, F_fx.binds (ps := ["entry"]) fun _ _ _ _ _ _ us hl => match us, hl with | [_], _ => rfl⟩
  have F_so := fun_mk (st := sStandOn) l_so c_so k_so
  have D_so : DF K mg "stand_on" sStandOn ["wall", "small"] f_so _ := ⟨F_so, PySem.W.mg_of X G a_so, F_so.binds (ps := ["wall", "small"]) fun _ _ _ _ _ _ us hl => match us, hl with | [_, _], _ => rfl⟩
  have F_ie := fun_mk (st := sIsEntry) l_ie c_ie k_ie
  have D_ie : DF K mg "is_entry" sIsEntry ["walls", "wall", "entry"] f_ie _ := ⟨F_ie, PySem.W.mg_of X G a_ie, F_ie.binds (ps := ["walls", "wall", "entry"]) fun _ _ _ _ _ _ us hl => match us, hl with | [_, _, _], _ => rfl⟩
  have F_mm := fun_mk (st := sMayMeet) l_mm c_mm k_mm
  have D_mm : DF K mg "may_meet" sMayMeet ["hall", "one", "two"] f_mm _ := ⟨F_mm, PySem.W.mg_of X G a_mm, F_mm.binds (ps := ["hall", "one", "two"]) fun _ _ _ _ _ _ us hl => match us, hl with | [_, _, _], _ => rfl⟩
  have F_sd := fun_mk (st := sStood) l_sd c_sd k_sd
  have D_sd : DF K mg "stood_ahead" sStood ["side", "entry"] f_sd _ := ⟨F_sd, PySem.W.mg_of X G a_sd, F_sd.binds (ps := ["side", "entry"]) fun _ _ _ _ _ _ us hl => match us, hl with | [_, _], _ => rfl⟩
  have F_ld := fun_mk (st := sLeads) l_ld c_ld k_ld
  have D_ld : DF K mg "leads_to_rooms" sLeads ["hall", "entries"] f_ld _ := ⟨F_ld, PySem.W.mg_of X G a_ld, F_ld.binds (ps := ["hall", "entries"]) fun _ _ _ _ _ _ us hl => match us, hl with | [_, _], _ => rfl⟩
  have F_ce := fun_mk (st := sChkEnt) l_ce c_ce k_ce
  have D_ce : DF K mg "check_entries" sChkEnt ["hall", "entries"] f_ce _ := ⟨F_ce, PySem.W.mg_of X G a_ce, F_ce.binds (ps := ["hall", "entries"]) fun _ _ _ _ _ _ us hl => match us, hl with | [_, _], _ => rfl⟩
  have F_sb := fun_mk (st := sSideB) l_sb c_sb k_sb
  have D_sb : DF K mg "side_behind" sSideB ["wall", "entry", "room"] f_sb _ := ⟨F_sb, PySem.W.mg_of X G a_sb, F_sb.binds (ps := ["wall", "entry", "room"]) fun _ _ _ _ _ _ us hl => match us, hl with | [_, _, _], _ => rfl⟩
  have F_rb := fun_mk (st := sRoomB) l_rb c_rb k_rb
  have D_rb : DF K mg "room_behind" sRoomB ["walls", "entries", "room"] f_rb _ := ⟨F_rb, PySem.W.mg_of X G a_rb, F_rb.binds (ps := ["walls", "entries", "room"]) fun _ _ _ _ _ _ us hl => match us, hl with | [_, _, _], _ => rfl⟩
  have F_chk := fun_mk (st := sChkRoom) l_chk c_chk k_chk
  have D_chk : DF K mg "check_room" sChkRoom ["hall", "room"] f_chk _ := ⟨F_chk, PySem.W.mg_of X G a_chk, F_chk.binds (ps := ["hall", "room"]) fun _ _ _ _ _ _ us hl => match us, hl with | [_, _], _ => rfl⟩
  have F_sc := fun_mk (st := sShCalls) l_sc c_sc k_sc
  have D_sc : DF K mg "shut_calls" sShCalls ["hall", "calls", "most"] f_sc _ := ⟨F_sc, PySem.W.mg_of X G a_sc, F_sc.binds (ps := ["hall", "calls", "most"]) fun _ _ _ _ _ _ us hl => match us, hl with | [_, _, _], _ => rfl⟩
  have F_rmt := fun_mk (st := sRMet) l_rmt c_rmt k_rmt
  have D_rmt : DF K mg "rooms_met" sRMet ["hall", "moves", "room"] f_rmt _ := ⟨F_rmt, PySem.W.mg_of X G a_rmt, F_rmt.binds (ps := ["hall", "moves", "room"]) fun _ _ _ _ _ _ us hl => match us, hl with | [_, _, _], _ => rfl⟩
  have F_cmv := fun_mk (st := sCMov) l_cmv c_cmv k_cmv
  have D_cmv : DF K mg "call_moves" sCMov ["hall", "calls"] f_cmv _ := ⟨F_cmv, PySem.W.mg_of X G a_cmv, F_cmv.binds (ps := ["hall", "calls"]) fun _ _ _ _ _ _ us hl => match us, hl with | [_, _], _ => rfl⟩
  have F_iH := fun_mk (st := sHEinit) l_iH c_iH k_iH
  have b_iH := F_iH.binds (ps := ["self", "word"]) fun _ _ _ _ _ _ us hl => match us, hl with | [_, _], _ => rfl
  have F_iB := fun_mk (st := sBBinit) l_iB c_iB k_iB
  have b_iB := F_iB.binds (ps := ["self", "at"]) fun _ _ _ _ _ _ us hl => match us, hl with | [_, _], _ => rfl
  have F_iF := fun_mk (st := sFXinit) l_iF c_iF k_iF
  have b_iF := F_iF.binds (ps := ["self", "side"]) fun _ _ _ _ _ _ us hl => match us, hl with | [_, _], _ => rfl
  have F_iA := fun_mk (st := sALinit) l_iA c_iA k_iA
  have b_iA := F_iA.binds (ps := ["self", "one", "other"]) fun _ _ _ _ _ _ us hl => match us, hl with | [_, _, _], _ => rfl
  have F_iT := fun_mk (st := sBTinit) l_iT c_iT k_iT
  have b_iT := F_iT.binds (ps := ["self", "at"]) fun _ _ _ _ _ _ us hl => match us, hl with | [_, _], _ => rfl
  have F_iTm := fun_mk (st := sTMinit) l_iTm c_iTm k_iTm
  have b_iTm := F_iTm.binds (ps := ["self", "most"]) fun _ _ _ _ _ _ us hl => match us, hl with | [_, _], _ => rfl
  have e := hfa.symm.trans (PySem.W.mg_of X G a_L)
  cases e
  have B : BM mg := ⟨PySem.W.mg_none_of X G z_list, PySem.W.mg_none_of X G z_sorted, PySem.W.mg_none_of X G z_set, PySem.W.mg_none_of X G z_all, PySem.W.mg_none_of X G z_len, PySem.W.mg_none_of X G z_enumerate, PySem.W.mg_none_of X G z_range, PySem.W.mg_none_of X G z_isinstance, PySem.W.mg_none_of X G z_tuple⟩
  have he : HE K mg CH f_iH _ := ⟨PySem.W.mg_of X G a_CH, ⟨_, ⟨r_H, g_H⟩, i_H⟩, F_iH, b_iH, PySem.W.mg_none_of X G z_ValueError, v_V⟩
  have xCB : XC K mg "BadBar" "BadBar.__init__" sBBinit "at" CB f_iB _ := ⟨PySem.W.mg_of X G a_CB, ⟨⟨_, _, _, _, _, _, _, _, _, _, _, _, _, _, _, x_CB, rv_CB⟩, sa_CB, ex_CB, ty_CB, kc_CB⟩, n_CB_word, n_CB_at, i_CB, t_CB, F_iB, b_iB⟩
  have xCF : XC K mg "Fixed" "Fixed.__init__" sFXinit "side" CF f_iF _ := ⟨PySem.W.mg_of X G a_CF, ⟨⟨_, _, _, _, _, _, _, _, _, _, _, _, _, _, _, x_CF, rv_CF⟩, sa_CF, ex_CF, ty_CF, kc_CF⟩, n_CF_word, n_CF_side, i_CF, t_CF, F_iF, b_iF⟩
  have xCA : XC2 K mg CA f_iA _ := ⟨PySem.W.mg_of X G a_CA, ⟨⟨_, _, _, _, _, _, _, _, _, _, _, _, _, _, _, x_CA, rv_CA⟩, sa_CA, ex_CA, ty_CA, kc_CA⟩, n_CA_word, n_CA_one, n_CA_other, i_CA, t_CA, F_iA, b_iA⟩
  have xCT : XC K mg "BadTable" "BadTable.__init__" sBTinit "at" CT f_iT _ := ⟨PySem.W.mg_of X G a_CT, ⟨⟨_, _, _, _, _, _, _, _, _, _, _, _, _, _, _, x_CT, rv_CT⟩, sa_CT, ex_CT, ty_CT, kc_CT⟩, n_CT_word, n_CT_at, i_CT, t_CT, F_iT, b_iT⟩
  have xCTm : XC K mg "TooMany" "TooMany.__init__" sTMinit "most" CTm f_iTm _ := ⟨PySem.W.mg_of X G a_CTm, ⟨⟨_, _, _, _, _, _, _, _, _, _, _, _, _, _, _, x_CTm, rv_CTm⟩, sa_CTm, ex_CTm, ty_CTm, kc_CTm⟩, n_CTm_word, n_CTm_most, i_CTm, t_CTm, F_iTm, b_iTm⟩
  have T8 := Txt8.mk B (PySem.W.mg_of X G w_W) D_O D_S D_Y D_W D_I D_cw D_cb D_cs D_st D_re D_af D_cf D_ca he xCB xCF xCA
  have F_hm := fun_mk (st := sHroom) l_hm c_hm k_hm
  have b1_hm := F_hm.binds (ps := ["self", "room"]) fun _ _ _ _ _ _ us hl => match us, hl with | [_, _], _ => rfl
  have F_hr := fun_mk (st := sHrooms) l_hr c_hr k_hr
  have b1_hr := F_hr.binds (ps := ["self"]) fun _ _ _ _ _ _ us hl => match us, hl with | [_], _ => rfl
  have F_hg := fun_mk (st := sHgoes) l_hg c_hg k_hg
  have b1_hg := F_hg.binds (ps := ["self", "side", "begun"]) fun _ _ _ _ _ _ us hl => match us, hl with | [_, _, _], _ => rfl
  have F_hwl := fun_mk (st := sHwalls) l_hwl c_hwl k_hwl
  have b1_hwl := F_hwl.binds (ps := ["self"]) fun _ _ _ _ _ _ us hl => match us, hl with | [_], _ => rfl
  have F_hfo := fun_mk (st := sHforced) l_hfo c_hfo k_hfo
  have b1_hfo := F_hfo.binds (ps := ["self", "side"]) fun _ _ _ _ _ _ us hl => match us, hl with | [_, _], _ => rfl
  have F_hfs := fun_mk (st := sHforces) l_hfs c_hfs k_hfs
  have b1_hfs := F_hfs.binds (ps := ["self", "one", "two"]) fun _ _ _ _ _ _ us hl => match us, hl with | [_, _, _], _ => rfl
  have F_tbE := fun_mk (st := sTabE) l_tbE c_tbE k_tbE
  have b1_tbE := F_tbE.binds (ps := ["self"]) fun _ _ _ _ _ _ us hl => match us, hl with | [_], _ => rfl
  have F_tbI := fun_mk (st := sTabI) l_tbI c_tbI k_tbI
  have b1_tbI := F_tbI.binds (ps := ["self", "hall", "entries"]) fun _ _ _ _ _ _ us hl => match us, hl with | [_, _, _], _ => rfl
  have hp : HP K C f_hwl f_hfo _ _ := ⟨⟨b_hwl, m_hwl, k_hwl⟩, F_hwl, b1_hwl, ⟨b_hfo, m_hfo, k_hfo⟩, F_hfo, b1_hfo⟩
  have mm : HM K C f_hm f_hr f_hg _ _ _ := ⟨⟨b_hm, m_hm, k_hm⟩, F_hm, b1_hm, ⟨b_hr, m_hr, k_hr⟩, F_hr, b1_hr, ⟨b_hg, m_hg, k_hg⟩, F_hg, b1_hg⟩
  have Fb := fun_mk (st := sHbars) l_hb c_hb k_hb
  have FD : FunD K "__init__" "Hall.__init__" (defArgs sHinit) (defBody sHinit) (defScope sHinit) [.ref e_hi] [] f_hi _ := ⟨⟨_, _, _, _, _, _, _, _, _, _, rfl, l_hi, c_hi, .inr ⟨by simp, T_hi, _, [.ref e_hi], n_T, rfl, d_hi, rfl, .cons rfl .nil⟩, .inl rfl⟩, k_hi⟩
  obtain ⟨ds, hds, hbi⟩ := FD.binds1 (ps := ["self", "walls", "bars"]) 3 1 (by simp) rfl (fun _ _ _ _ _ _ _ us its h1 h2 => match us, its, h1, h2 with | [_, _, _], [_], _, _ => ⟨_, rfl, rfl⟩)
  have hds2 : ds = [] := by
    have z : Vals ([] : List V) ds := hds
    cases z
    rfl
  subst hds2
  have zz : HC K mg C f_hi f_hb _ _ := ⟨PySem.W.mg_of X G a_C, ⟨pg_C, hd_C, po_C, sa_C⟩, ⟨mk_C, i_C, j_C, kp_C⟩, ⟨_, FD⟩, hbi, n1_C, n2_C, n3_C, ⟨b_hb, m_hb, k_hb⟩, Fb, Fb.binds (ps := ["self"]) fun _ _ _ _ _ _ us hl => match us, hl with | [_], _ => rfl⟩
  have hpf : HPf K C f_hfs _ := ⟨⟨b_hfs, m_hfs, k_hfs⟩, F_hfs, b1_hfs⟩
  have yy := NC.PT.mk hp D_isP D_chP D_afb D_to
  have tb := TB_.mk D_fx D_so D_ie D_mm D_sd D_ld D_ce (PySem.W.mg_none_of X G z_zip)
  have tc : TC K mg CTb f_tbI f_tbE _ _ := ⟨PySem.W.mg_of X G a_CTb, ⟨pg_CTb, hd_CTb, po_CTb, sa_CTb⟩, ⟨mk_CTb, i_CTb, j_CTb, kp_CTb⟩, n1_CTb, n2_CTb, F_tbI, b1_tbI, ⟨b_tbE, m_tbE, k_tbE⟩, F_tbE, b1_tbE⟩
  have mk0 := MK.mk B zz hp hpf D_cs D_S D_O tb he xCT tc
  obtain ⟨ds2, hds2, hbi2⟩ := FD.binds1 (ps := ["self", "walls", "bars"]) 2 0 (by simp) rfl (fun _ _ _ _ _ _ _ us its h1 h2 => match us, its, h1, h2 with | [_, _], [_], _, _ => ⟨_, rfl, rfl⟩)
  have hds3 : ds2 = [.ref e_hi] := by
    have z : Vals [V.ref e_hi] ds2 := hds2
    cases z with
    | cons r t =>
      cases t
      cases r
      rfl
  subst hds3
  have FC : FunD K "come_to" "come_to" (defArgs sCome) (defBody sCome) (defScope sCome) [] [("most", .int 256)] f_co _ := ⟨⟨_, _, _, _, _, _, _, _, _, _, rfl, l_co, c_co, .inl ⟨rfl, rfl⟩, .inr ⟨Kd_co, rfl, fun q hq => by rw [List.mem_singleton.mp hq]; exact ⟨_, w_co, t_co, rfl⟩⟩⟩, k_co⟩
  obtain ⟨dsC, hdsC, bC⟩ := FC.binds0 (ps := ["hall", "calls", "room", "most"]) 3 (by simp) rfl (fun _ _ _ _ _ _ us ks h1 h2 => match us, ks, h1, h2 with | [_, _, _], [_], _, _ => ⟨_, _, _, _, _, _, rfl, rfl, rfl⟩)
  have hdsC2 : ∃ v, dsC = [v] ∧ RelV (.int 256) v := by
    have z : Vals [V.int 256] dsC := hdsC
    cases z with
    | cons r t =>
      cases t
      exact ⟨_, rfl, r⟩
  obtain ⟨v_co, rfl, rv_co⟩ := hdsC2
  have kwE : KBn K _ ["hall", "calls", "room", "most"] 3 ["most"] gApp gApp := kw_e (fd := PySem.W.fnOf "come_to" "come_to" (defArgs sCome) (defBody sCome) (defScope sCome) .none (.ref Kd_co) dc_co pm_co an_co cd_co ct_co) fun a b c d => rfl
  have us := NC.CS.mk D_sc D_chk D_rmt D_cmv D_sb D_rb (PySem.W.mg_of X G w_MOST_CALLS) (PySem.W.mg_none_of X G z_zip)
  have ee : EX K CTm := ⟨⟨ga_CTm, gg_CTm, ex_CTm, hd_CTm⟩, exm_of ex_CTm ic_CTm ty_CTm e_CTm_CTm⟩
  have hh := Hlp.mk D_same D_start D_draw D_of D_letters D_shuts D_oth D_wit D_pairs D_all D_rms D_fine D_hall D_lsi D_lpa D_apart D_lne D_led D_map D_lca D_rea D_told D_sh D_oc FC (PySem.W.mg_of X G a_co) bC rv_co kwE (PySem.W.mg_none_of X G z_max) (PySem.W.mg_none_of X G z_any) (PySem.W.mg_none_of X G z_bool) (PySem.W.mg_none_of X G z_str)
  refine ⟨_, [(c, PT)], spLawT K [(PT, lamN (.ref c))], fun p hp => ?_, fun p hp => ?_, fun p hp => ?_, fun s u => .of_eq rfl, fun H a ns hl hb hH hS => ⟨a, ns, rfl, hS, fun p hp => ?_, fun _ => rfl⟩, fun base KB GB TB => ok_law (k := 0) l_L c_L (TB _ (List.mem_cons_self ..)) ee xCTm mk0 mm yy us T8 hbi2 ⟨_, _, d_e, rfl, rfl⟩ hh⟩
  · rw [List.mem_singleton.mp hp]
    exact hPT
  · rw [List.mem_singleton.mp hp]
    exact nPT
  · rw [List.mem_singleton.mp hp]
    exact PySem.W.codeHd_of_K X h_L
  · rw [List.mem_singleton.mp hp]
    exact LamX.TabS.nil (hH _ (List.mem_cons_self ..))
end NC
noncomputable section
namespace HC
open PySem PySem.W PySem.Calls PyProof.Rows HeadRun
def execsQ := PySem.W.Fast.tw12563942051412417395
theorem execsQ_eq : @PySem.execs = execsQ := PySem.W.Fast.te12563942051412417395
def blockQ := PySem.W.Fast.tw1066825118222455980
theorem blockQ_eq : @PySem.blockStart = blockQ := PySem.W.Fast.te1066825118222455980
section
variable (go : SharedT → Thread → Option (SharedT × Thread)) (lo : Nat) (an : Option Value)
/-- some statements, to their end -/
def goS : Nat → SharedT → Thread → Option (Flow × SharedT × Code × Pos)
  | 0, _, _ => none
  | m + 1, S, T => match endAt 1 T with
    | some x => some (x, S, T.code, T.pos)
    | none => match stepOk lo an T with
      | false => none
      | true => match go S T with
        | none => none
        | some (S', T') => frS S' fun S2 => goS m S2 T'
/-- so many steps of the top -/
def goG : Nat → SharedT → Thread → Option (SharedT × Thread)
  | 0, S, T => some (S, T)
  | m + 1, S, T => match through T with
    | true => none
    | false => match stepOk lo an T with
      | false => none
      | true => match go S T with
        | none => none
        | some (S', T') => frS S' fun S2 => goG m S2 T'
end
section
variable {tb : String → Option Builtin} {p : Program} {w : World} {lo : Nat} {an : Option Value}
theorem goS_ok : ∀ {m : Nat} {S S' : SharedT} {T : Thread} {x : Flow} {c : Code} {q : Pos}, goS (stepT (denote tb) p w) lo an m S T = some (x, S', c, q) → segRun tb p w lo an 1 m S.abs T = some (x, S'.abs, c, q)
  | 0, _, _, _, _, _, _, h => nomatch h
  | m + 1, S, S', T, x, c, q, h => by
    unfold goS at h
    unfold segRun
    cases h1 : endAt 1 T with
    | some y =>
      simp only [h1, Option.some.injEq, Prod.mk.injEq] at h ⊢
      obtain ⟨a, b, d, e⟩ := h
      exact ⟨a, by rw [b], d, e⟩
    | none =>
      cases h2 : stepOk lo an T with
      | false => simp [h1, h2] at h
      | true =>
        cases h3 : stepT (denote tb) p w S T with
        | none => simp [h1, h2, h3] at h
        | some r =>
          obtain ⟨S2, T2⟩ := r
          simp only [h1, h2, h3, frS_eq] at h
          simp only [stepT_spec h3]
          exact goS_ok h
theorem goG_ok : ∀ {m : Nat} {S S' : SharedT} {T T' : Thread}, goG (stepT (denote tb) p w) lo an m S T = some (S', T') → topGo tb p w lo an m S.abs T = some (S'.abs, T')
  | 0, S, S', T, T', h => by
    unfold goG at h
    simp only [Option.some.injEq, Prod.mk.injEq] at h
    obtain ⟨a, b⟩ := h
    rw [← a, ← b]
    rfl
  | m + 1, S, S', T, T', h => by
    unfold goG at h
    unfold topGo
    cases h1 : through T with
    | true => simp [h1] at h
    | false =>
      cases h2 : stepOk lo an T with
      | false => simp [h1, h2] at h
      | true =>
        cases h3 : stepT (denote tb) p w S T with
        | none => simp [h1, h2, h3] at h
        | some r =>
          obtain ⟨S2, T2⟩ := r
          simp only [h1, h2, h3, frS_eq] at h
          simp only [stepT_spec h3]
          exact goG_ok h
end
/-- the machine, by the twins -/
abbrev mq (p : Program) (w : World) : SharedT → Thread → Option (SharedT × Thread) := stepQ (denQ tabQ) p w
/-- a state by the list of its objects -/
def stL (w : World) (l : List Obj) (k : Nat) (os : OsState) : SharedT := match putAll l .nil 0 with
  | some (t, n) => ⟨t, n, (boot_heap w.params).life, #[], boot_drawn, k, os⟩
  | none => ⟨.nil, 0, (boot_heap w.params).life, #[], boot_drawn, k, os⟩
abbrev thS (l : List Stmt) (env : Env) (c : Code) (a : Pos) (q : Pos) : Thread := ⟨(execsQ l env).wrap doneF deadEnd id id, c, a, [topFrame q]⟩
abbrev thB (l : List Stmt) (env : Env) (c : Code) (a : Pos) (q : Pos) : Thread := ⟨(blockQ l env).wrap (fun _ => doneF .next) deadEnd id id, c, a, [topFrame q]⟩
section
variable {p : Program} {w : World} {lo : Nat} {an : Option Value} {env : Env} {q a a' : Pos} {c : Code} {m N : Nat} {S S' : SharedT} {l rest : List Stmt} {r : Shared}
theorem mq_eq : mq p w = stepT (denote treeTable) p w := by
  show stepQ (denQ tabQ) p w = _
  rw [← stepQ_eq, ← denQ_eq, ← tabQ_eq]
theorem run_seg (h : goS (mq p w) lo an m S (thS l env c a q) = some (.next, S', c, a')) (k : topRun treeTable p w lo an N S'.abs (restOf rest env c a' [topFrame q]) = some r) :
    topRun treeTable p w lo an (m + N) S.abs (restOf (l ++ rest) env c a [topFrame q]) = some r := by
  rw [mq_eq] at h
  unfold thS at h
  rw [← execsQ_eq] at h
  exact piece_app (goS_ok h) k
theorem run_end (h : goF (mq p w) lo an m S ⟨doneF .next, c, a, [topFrame q]⟩ = some S') : topRun treeTable p w lo an m S.abs (restOf [] env c a [topFrame q]) = some S'.abs := by
  rw [mq_eq] at h
  exact piece_nil (goF_ok h)
theorem run_top {m2 : Nat} {Sa Sb : SharedT} {ab : Pos} {b : List Stmt} (h0 : goG (mq p w) lo an m S (topStub p) = some (Sa, ⟨denQ tabQ (.body b env), .body b env, a, [topFrame q]⟩)) (h1 : goS (mq p w) lo an m2 Sa (thB b env (.body b env) a q) = some (.next, Sb, .body b env, ab))
    (k : topRun treeTable p w lo an N Sb.abs (restOf b env (.body b env) ab [topFrame q]) = some r) : topRun treeTable p w lo an (m + (m2 + N)) S.abs (topStub p) = some r := by
  rw [mq_eq] at h0 h1
  rw [← denQ_eq, ← tabQ_eq] at h0
  unfold thB at h1
  rw [← blockQ_eq] at h1
  exact go_top (goG_ok h0) (piece_block (goS_ok h1) k)
end
theorem boot_abs (w : World) (os : OsState) {t : PySem.W.BT} {n : Nat} (e : putAll (boot_heap w.params).objs.toList .nil 0 = some (t, n)) : (stL w (boot_heap w.params).objs.toList boot_toks os).abs = ⟨boot_heap w.params, #[], boot_drawn, boot_toks, os⟩ := by
  unfold stL
  rw [e]
  show (⟨absHeap t n (boot_heap w.params).life, #[], boot_drawn, boot_toks, os⟩ : Shared) = _
  rw [putAll_heap e]
end HC
namespace HC
open PySem PySem.W PySem.Calls PyProof.Rows HeadRun
def hpL (P : Params) (l : List Obj) : Heap := match putAll l .nil 0 with
  | some (t, n) => absHeap t n (boot_heap P).life
  | none => absHeap .nil 0 (boot_heap P).life
theorem stL_abs (w : World) (l : List Obj) (k : Nat) (os : OsState) : (stL w l k os).abs = ⟨hpL w.params l, #[], boot_drawn, k, os⟩ := by
  unfold stL hpL
  cases putAll l .nil 0 <;> rfl
/-- the row's equation from the runs -/
theorem left_cut {p q : Program} {loose : List PySem.Str} {Xt : Shared → Bool} {H : Hook} {ob : SharedT → H.α} {N M lo kF : Nat} {an : Option Value} {F : Params → List Obj} (ho : ∀ S : SharedT, ob S = H.obs S.abs)
    (e : opening p = plainProg p.main.scope.names) (hN : Nat.ble 600 N = true) (f : ∀ s, fenceModules? p s = some s) (le : Nat.ble M N = true)
    (size : ∀ w : World, ((boot_heap w.params).isNs mainGlobals && (#[] : Array GenState).size == 0, (boot_heap w.params).objs.size, (boot_heap w.params).nsMap mainGlobals "__annotations__") = (true, lo, an))
    (tre : ∀ w : World, (putAll (boot_heap w.params).objs.toList .nil 0).isSome = true)
    (run : ∀ (w : World) (os : OsState), topRun treeTable p w lo an M (stL w (boot_heap w.params).objs.toList boot_toks os).abs (topStub p) = some (stL w (F w.params) kF os).abs)
    (looks : ∀ (w : World) (os : OsState), (fun S : SharedT => (looksF p (boot_heap w.params) S.abs, seenQ q loose (importedModules p.main.body) Xt S.abs, ob S)) (stL w (F w.params) kF os) = (true, openGood q loose, H.val w)) :
    LeftO p q loose Xt H.obs H.val N true := by
  refine LeftO.of_pieces (H₀ := boot_heap) (H₁ := fun P => hpL P (F P)) (gs₀ := #[]) (gs₁ := #[]) (d₀ := boot_drawn) (d₁ := boot_drawn) (k₀ := boot_toks) (k₁ := kF) (boot_open e hN f) size (fun w os => ?_) le (fun w => ?_)
  · obtain ⟨⟨t, n⟩, ht⟩ := Option.isSome_iff_exists.mp (tre w)
    have z := run w os
    rw [boot_abs w os ht, stL_abs] at z
    exact z
  · funext os
    have z := looks w os
    obtain ⟨z1, z2, z3⟩ : _ ∧ _ ∧ _ := by simpa only [Prod.mk.injEq] using z
    have ab := stL_abs w (F w.params) kF os
    rw [← seenQ_eq, ab] at z2
    rw [ab] at z1
    rw [ho, ab] at z3
    exact Prod.ext z1 (Prod.ext z2 z3)
theorem obK {as : List Addr} (S : SharedT) : as.map (getT S) = as.map S.abs.heap.get? := List.map_congr_left fun a _ => getT_eq S a
end HC
end
set_option maxHeartbeats 0
noncomputable section
namespace HX
open PySem PySem.W PySem.Calls PyProof.Rows HeadRun HC L2
abbrev S := PySem.Str.ofString
abbrev V (l : List Value) : Array Value := l.toArray
abbrev W (l : List (Option Value)) : Array (Option Value) := l.toArray
abbrev D (l : List DictEntry) : Array DictEntry := l.toArray
abbrev E (P : Params) (x : PySem.Str) (k : Tok) (v : Value) : DictEntry := ⟨PyData.keyHash P x, .str x k, v⟩
abbrev pw : Program := PySem.Challenge.pw_nearcall_k39_rooms_come_to
abbrev rw_ : OpenLaw := PySem.Challenge.rw_nearcall_k39_rooms_come_to
abbrev ST (i : Nat) : Stmt := pw.main.body.getD i (.Pass ⟨0, 0, 0, 0⟩)
def lv : List (PySem.Str × WData) := []
def o0 (P : Params) : Obj := ⟨(.type "tuple"), none, (.seq (V []) 0), (W [])⟩
def o1 (P : Params) : Obj := ⟨.none, none, (.fields (V [])), (W [])⟩
def o2 (P : Params) : Obj := ⟨(.type "code"), none, (.fields (V [(.str (S "<module>") 182), (.str (S "<module>") 183), (.str (S "/claim/cut.py") 184), (.int 1 0), (.int 0 0), (.int 0 0), (.int 0 0), (.int 0 0), (.ref 11), (.bool false), (.int 181 0), (.ref 12), .none, .none, .none, .none, (.int 185 0), (.int 1 0), (.str (S "/claim/cut.py") 186)])), (W [])⟩
def o3 (P : Params) : Obj := ⟨(.type "frame"), none, .plain, (W [(some (.ref 13)), (some (.ref 3)), (some (.ref 3)), none, (some (.str (S "__main__") 164)), none, (some (.ref 0))])⟩
def objs_a (P : Params) : List Obj :=
  [boot_o_0 P, boot_o_1 P, boot_o_2 P, boot_o_3 P, boot_o_4 P, boot_o_5 P, boot_o_6 P, boot_o_7 P, boot_o_8 P, boot_o_9 P, boot_o_10 P, o0 P, o1 P, o2 P, o3 P]
def objs_b (P : Params) : List Obj :=
  [boot_o_0 P, boot_o_1 P, boot_o_2 P, boot_o_3 P, boot_o_4 P, boot_o_5 P, boot_o_6 P, boot_o_7 P, boot_o_8 P, boot_o_9 P, boot_o_10 P, o0 P, o1 P, o2 P, o3 P]
def o4 (P : Params) : Obj := ⟨(.type "dict"), none, (.dict (D [E P (S "__name__") 165 (.str (S "nearcall.errors") 194), E P (S "__doc__") 166 .none, E P (S "__package__") 167 .none, E P (S "__loader__") 168 (.builtin "__main__.__loader__#opaque"), E P (S "__spec__") 169 .none, E P (S "__annotations__") 170 (.ref 6), E P (S "__builtins__") 171 (.ref 4), E P (S "__file__") 173 (.str (S "/claim/cut.py") 172), E P (S "__cached__") 174 .none, E P (S "_wall") 193 (.ref 21), E P (S "HallError") 222 (.ref 38), E P (S "BadWalls") 245 (.ref 58), E P (S "BadBar") 270 (.ref 77), E P (S "BadSide") 293 (.ref 96)]) 14), (W [])⟩
def o5 (P : Params) : Obj := ⟨.none, none, (.fields (V [(.int 1 0), (.int 0 0), (.ref 20), (.int 5 0), (.int 0 0), (.ref 27), (.int 10 0), (.int 0 0), (.ref 47), (.int 14 0), (.int 0 0), (.ref 66), (.int 19 0), (.int 0 0), (.ref 85)])), (W [])⟩
def o6 (P : Params) : Obj := ⟨(.type "tuple"), none, (.seq (V []) 0), (W [])⟩
def o7 (P : Params) : Obj := ⟨.none, none, (.fields (V [])), (W [])⟩
def o8 (P : Params) : Obj := ⟨(.type "tuple"), none, (.seq (V [(.str (S "k") 190)]) 0), (W [])⟩
def o9 (P : Params) : Obj := ⟨(.type "tuple"), none, (.seq (V []) 0), (W [])⟩
def o10 (P : Params) : Obj := ⟨.none, none, (.func ⟨(S "_wall"), (S "_wall"), (defArgs (ST 0)), (.stmts (defBody (ST 0))), (defScope (ST 0)), 0, [], .none, .none, .none, .none, none, .none, .none, 0⟩), (W [])⟩
def o11 (P : Params) : Obj := ⟨(.type "code"), none, (.fields (V [(.str (S "_wall") 187), (.str (S "_wall") 188), (.str (S "/claim/cut.py") 189), (.int 1 0), (.int 1 0), (.int 0 0), (.int 0 0), (.int 3 0), (.ref 15), (.bool true), (.int 181 0), (.ref 16), .none, (.ref 17), (.ref 18), (.ref 19), (.int 191 0), (.int 1 0), (.str (S "/claim/cut.py") 192)])), (W [])⟩
def o12 (P : Params) : Obj := ⟨(.type "function"), none, (.func ⟨(S "_wall"), (S "_wall"), (defArgs (ST 0)), (.stmts (defBody (ST 0))), (defScope (ST 0)), 3, [], .none, .none, .none, (.str (S "__main__") 164), none, (.ref 20), .none, 0⟩), (W [])⟩
def o13 (P : Params) : Obj := ⟨(.type "tuple"), none, (.seq (V [(.type "ValueError")]) 0), (W [])⟩
def o14 (P : Params) : Obj := ⟨(.type "builtin_function_or_method"), none, (.fields (V [(.builtin "type.__prepare__"), (.type "type")])), (W [])⟩
def o15 (P : Params) : Obj := ⟨(.type "dict"), none, (.dict (D [E P (S "__module__") 203 (.str (S "nearcall.errors") 194), E P (S "__qualname__") 205 (.str (S "HallError") 204), E P (S "__firstlineno__") 207 (.int 5 206), E P (S "__init__") 215 (.ref 35), E P (S "__static_attributes__") 217 (.ref 36)]) 5), (W [])⟩
def o16 (P : Params) : Obj := ⟨(.type "tuple"), none, (.seq (V []) 0), (W [])⟩
def o17 (P : Params) : Obj := ⟨.none, none, (.fields (V [(.int 7 0), (.int 4 0), (.ref 34)])), (W [])⟩
def o18 (P : Params) : Obj := ⟨(.type "code"), none, (.fields (V [(.str (S "HallError") 198), (.str (S "HallError") 199), (.str (S "/claim/cut.py") 200), (.int 5 0), (.int 0 0), (.int 0 0), (.int 0 0), (.int 0 0), (.ref 25), (.bool false), (.int 181 0), (.ref 26), .none, .none, .none, .none, (.int 201 0), (.int 5 0), (.str (S "/claim/cut.py") 202)])), (W [])⟩
def o19 (P : Params) : Obj := ⟨(.type "frame"), none, .plain, (W [(some (.ref 27)), (some (.ref 3)), (some (.ref 24)), none, (some (.str (S "nearcall.errors") 194)), none, (some (.ref 0))])⟩
def o20 (P : Params) : Obj := ⟨(.type "tuple"), none, (.seq (V []) 0), (W [])⟩
def o21 (P : Params) : Obj := ⟨.none, none, (.fields (V [])), (W [])⟩
def o22 (P : Params) : Obj := ⟨(.type "tuple"), none, (.seq (V [(.str (S "self") 211), (.str (S "word") 212)]) 0), (W [])⟩
def o23 (P : Params) : Obj := ⟨(.type "tuple"), none, (.seq (V []) 0), (W [])⟩
def o24 (P : Params) : Obj := ⟨.none, none, (.func ⟨(S "__init__"), (S "HallError.__init__"), (defArgs (inClass (ST 2) 0)), (.stmts (defBody (inClass (ST 2) 0))), (defScope (inClass (ST 2) 0)), 0, [], .none, .none, .none, .none, none, .none, .none, 0⟩), (W [])⟩
def o25 (P : Params) : Obj := ⟨(.type "code"), none, (.fields (V [(.str (S "__init__") 208), (.str (S "HallError.__init__") 209), (.str (S "/claim/cut.py") 210), (.int 7 0), (.int 2 0), (.int 0 0), (.int 0 0), (.int 3 0), (.ref 29), (.bool true), (.int 181 0), (.ref 30), .none, (.ref 31), (.ref 32), (.ref 33), (.int 213 0), (.int 7 0), (.str (S "/claim/cut.py") 214)])), (W [])⟩
def o26 (P : Params) : Obj := ⟨(.type "function"), none, (.func ⟨(S "__init__"), (S "HallError.__init__"), (defArgs (inClass (ST 2) 0)), (.stmts (defBody (inClass (ST 2) 0))), (defScope (inClass (ST 2) 0)), 3, [], .none, .none, .none, (.str (S "nearcall.errors") 194), none, (.ref 34), .none, 0⟩), (W [])⟩
def o27 (P : Params) : Obj := ⟨(.type "tuple"), none, (.seq (V [(.str (S "word") 216)]) 0), (W [])⟩
def o28 (P : Params) : Obj := ⟨(.type "dict"), none, (.dict (D [E P (S "__module__") 203 (.str (S "nearcall.errors") 194), E P (S "__firstlineno__") 207 (.int 5 206), E P (S "__init__") 215 (.ref 35), E P (S "__static_attributes__") 217 (.ref 36), E P (S "__weakref__") 219 (.ref 39), E P (S "__doc__") 220 .none]) 3), (W [])⟩
def o29 (P : Params) : Obj := ⟨(.type "type"), none, (.cls ⟨(S "HallError"), [(.type "ValueError")], [(.ref 38), (.type "ValueError"), (.type "Exception"), (.type "BaseException"), (.type "object")], 37, (S "HallError"), true, [], [(.ref 58), (.ref 77), (.ref 96)], false, none, false⟩), (W [(some (.ref 22)), none, (some (.str (S "HallError") 196)), (some (.str (S "HallError") 204)), (some (.builtin "ValueError.__new__")), (some (.bool true))])⟩
def o30 (P : Params) : Obj := ⟨(.type "getset_descriptor"), none, (.fields (V [(.str (S "__weakref__") 218), (.ref 38), (.builtin "ExceptionGroup.__weakref__"), .none])), (W [])⟩
def o31 (P : Params) : Obj := ⟨(.type "super"), none, (.fields (V [(.ref 38), (.ref 38), (.ref 38)])), (W [])⟩
def o32 (P : Params) : Obj := ⟨(.type "builtin_function_or_method"), none, (.fields (V [(.builtin "object.__init_subclass__"), (.ref 38)])), (W [])⟩
def o33 (P : Params) : Obj := ⟨(.type "tuple"), none, (.seq (V [(.ref 38)]) 0), (W [])⟩
def o34 (P : Params) : Obj := ⟨(.type "builtin_function_or_method"), none, (.fields (V [(.builtin "type.__prepare__"), (.type "type")])), (W [])⟩
def o35 (P : Params) : Obj := ⟨(.type "dict"), none, (.dict (D [E P (S "__module__") 230 (.str (S "nearcall.errors") 194), E P (S "__qualname__") 232 (.str (S "BadWalls") 231), E P (S "__firstlineno__") 234 (.int 10 233), E P (S "__init__") 241 (.ref 55), E P (S "__static_attributes__") 242 (.ref 56)]) 5), (W [])⟩
def o36 (P : Params) : Obj := ⟨(.type "tuple"), none, (.seq (V []) 0), (W [])⟩
def o37 (P : Params) : Obj := ⟨.none, none, (.fields (V [(.int 12 0), (.int 4 0), (.ref 54)])), (W [])⟩
def o38 (P : Params) : Obj := ⟨(.type "code"), none, (.fields (V [(.str (S "BadWalls") 225), (.str (S "BadWalls") 226), (.str (S "/claim/cut.py") 227), (.int 10 0), (.int 0 0), (.int 0 0), (.int 0 0), (.int 0 0), (.ref 45), (.bool false), (.int 181 0), (.ref 46), .none, .none, .none, .none, (.int 228 0), (.int 10 0), (.str (S "/claim/cut.py") 229)])), (W [])⟩
def o39 (P : Params) : Obj := ⟨(.type "frame"), none, .plain, (W [(some (.ref 47)), (some (.ref 3)), (some (.ref 44)), none, (some (.str (S "nearcall.errors") 194)), none, (some (.ref 0))])⟩
def o40 (P : Params) : Obj := ⟨(.type "tuple"), none, (.seq (V []) 0), (W [])⟩
def o41 (P : Params) : Obj := ⟨.none, none, (.fields (V [])), (W [])⟩
def o42 (P : Params) : Obj := ⟨(.type "tuple"), none, (.seq (V [(.str (S "self") 238)]) 0), (W [])⟩
def o43 (P : Params) : Obj := ⟨(.type "tuple"), none, (.seq (V []) 0), (W [])⟩
def o44 (P : Params) : Obj := ⟨.none, none, (.func ⟨(S "__init__"), (S "BadWalls.__init__"), (defArgs (inClass (ST 3) 0)), (.stmts (defBody (inClass (ST 3) 0))), (defScope (inClass (ST 3) 0)), 0, [], .none, .none, .none, .none, none, .none, .none, 0⟩), (W [])⟩
def o45 (P : Params) : Obj := ⟨(.type "code"), none, (.fields (V [(.str (S "__init__") 235), (.str (S "BadWalls.__init__") 236), (.str (S "/claim/cut.py") 237), (.int 12 0), (.int 1 0), (.int 0 0), (.int 0 0), (.int 3 0), (.ref 49), (.bool true), (.int 181 0), (.ref 50), .none, (.ref 51), (.ref 52), (.ref 53), (.int 239 0), (.int 12 0), (.str (S "/claim/cut.py") 240)])), (W [])⟩
def o46 (P : Params) : Obj := ⟨(.type "function"), none, (.func ⟨(S "__init__"), (S "BadWalls.__init__"), (defArgs (inClass (ST 3) 0)), (.stmts (defBody (inClass (ST 3) 0))), (defScope (inClass (ST 3) 0)), 3, [], .none, .none, .none, (.str (S "nearcall.errors") 194), none, (.ref 54), .none, 0⟩), (W [])⟩
def o47 (P : Params) : Obj := ⟨(.type "tuple"), none, (.seq (V []) 0), (W [])⟩
def o48 (P : Params) : Obj := ⟨(.type "dict"), none, (.dict (D [E P (S "__module__") 230 (.str (S "nearcall.errors") 194), E P (S "__firstlineno__") 234 (.int 10 233), E P (S "__init__") 241 (.ref 55), E P (S "__static_attributes__") 242 (.ref 56), E P (S "__doc__") 243 .none]) 2), (W [])⟩
def o49 (P : Params) : Obj := ⟨(.type "type"), none, (.cls ⟨(S "BadWalls"), [(.ref 38)], [(.ref 58), (.ref 38), (.type "ValueError"), (.type "Exception"), (.type "BaseException"), (.type "object")], 57, (S "BadWalls"), true, [], [], false, none, false⟩), (W [(some (.ref 42)), none, (some (.str (S "BadWalls") 223)), (some (.str (S "BadWalls") 231)), (some (.builtin "ValueError.__new__")), (some (.bool true))])⟩
def o50 (P : Params) : Obj := ⟨(.type "super"), none, (.fields (V [(.ref 58), (.ref 58), (.ref 58)])), (W [])⟩
def o51 (P : Params) : Obj := ⟨(.type "builtin_function_or_method"), none, (.fields (V [(.builtin "object.__init_subclass__"), (.ref 58)])), (W [])⟩
def o52 (P : Params) : Obj := ⟨(.type "tuple"), none, (.seq (V [(.ref 38)]) 0), (W [])⟩
def o53 (P : Params) : Obj := ⟨(.type "builtin_function_or_method"), none, (.fields (V [(.builtin "type.__prepare__"), (.type "type")])), (W [])⟩
def o54 (P : Params) : Obj := ⟨(.type "dict"), none, (.dict (D [E P (S "__module__") 253 (.str (S "nearcall.errors") 194), E P (S "__qualname__") 255 (.str (S "BadBar") 254), E P (S "__firstlineno__") 257 (.int 14 256), E P (S "__init__") 265 (.ref 74), E P (S "__static_attributes__") 267 (.ref 75)]) 5), (W [])⟩
def o55 (P : Params) : Obj := ⟨(.type "tuple"), none, (.seq (V []) 0), (W [])⟩
def o56 (P : Params) : Obj := ⟨.none, none, (.fields (V [(.int 16 0), (.int 4 0), (.ref 73)])), (W [])⟩
def o57 (P : Params) : Obj := ⟨(.type "code"), none, (.fields (V [(.str (S "BadBar") 248), (.str (S "BadBar") 249), (.str (S "/claim/cut.py") 250), (.int 14 0), (.int 0 0), (.int 0 0), (.int 0 0), (.int 0 0), (.ref 64), (.bool false), (.int 181 0), (.ref 65), .none, .none, .none, .none, (.int 251 0), (.int 14 0), (.str (S "/claim/cut.py") 252)])), (W [])⟩
def o58 (P : Params) : Obj := ⟨(.type "frame"), none, .plain, (W [(some (.ref 66)), (some (.ref 3)), (some (.ref 63)), none, (some (.str (S "nearcall.errors") 194)), none, (some (.ref 0))])⟩
def o59 (P : Params) : Obj := ⟨(.type "tuple"), none, (.seq (V []) 0), (W [])⟩
def o60 (P : Params) : Obj := ⟨.none, none, (.fields (V [])), (W [])⟩
def o61 (P : Params) : Obj := ⟨(.type "tuple"), none, (.seq (V [(.str (S "self") 261), (.str (S "at") 262)]) 0), (W [])⟩
def o62 (P : Params) : Obj := ⟨(.type "tuple"), none, (.seq (V []) 0), (W [])⟩
def o63 (P : Params) : Obj := ⟨.none, none, (.func ⟨(S "__init__"), (S "BadBar.__init__"), (defArgs (inClass (ST 4) 0)), (.stmts (defBody (inClass (ST 4) 0))), (defScope (inClass (ST 4) 0)), 0, [], .none, .none, .none, .none, none, .none, .none, 0⟩), (W [])⟩
def o64 (P : Params) : Obj := ⟨(.type "code"), none, (.fields (V [(.str (S "__init__") 258), (.str (S "BadBar.__init__") 259), (.str (S "/claim/cut.py") 260), (.int 16 0), (.int 2 0), (.int 0 0), (.int 0 0), (.int 3 0), (.ref 68), (.bool true), (.int 181 0), (.ref 69), .none, (.ref 70), (.ref 71), (.ref 72), (.int 263 0), (.int 16 0), (.str (S "/claim/cut.py") 264)])), (W [])⟩
def o65 (P : Params) : Obj := ⟨(.type "function"), none, (.func ⟨(S "__init__"), (S "BadBar.__init__"), (defArgs (inClass (ST 4) 0)), (.stmts (defBody (inClass (ST 4) 0))), (defScope (inClass (ST 4) 0)), 3, [], .none, .none, .none, (.str (S "nearcall.errors") 194), none, (.ref 73), .none, 0⟩), (W [])⟩
def o66 (P : Params) : Obj := ⟨(.type "tuple"), none, (.seq (V [(.str (S "at") 266)]) 0), (W [])⟩
def o67 (P : Params) : Obj := ⟨(.type "dict"), none, (.dict (D [E P (S "__module__") 253 (.str (S "nearcall.errors") 194), E P (S "__firstlineno__") 257 (.int 14 256), E P (S "__init__") 265 (.ref 74), E P (S "__static_attributes__") 267 (.ref 75), E P (S "__doc__") 268 .none]) 2), (W [])⟩
def o68 (P : Params) : Obj := ⟨(.type "type"), none, (.cls ⟨(S "BadBar"), [(.ref 38)], [(.ref 77), (.ref 38), (.type "ValueError"), (.type "Exception"), (.type "BaseException"), (.type "object")], 76, (S "BadBar"), true, [], [], false, none, false⟩), (W [(some (.ref 61)), none, (some (.str (S "BadBar") 246)), (some (.str (S "BadBar") 254)), (some (.builtin "ValueError.__new__")), (some (.bool true))])⟩
def o69 (P : Params) : Obj := ⟨(.type "super"), none, (.fields (V [(.ref 77), (.ref 77), (.ref 77)])), (W [])⟩
def o70 (P : Params) : Obj := ⟨(.type "builtin_function_or_method"), none, (.fields (V [(.builtin "object.__init_subclass__"), (.ref 77)])), (W [])⟩
def o71 (P : Params) : Obj := ⟨(.type "tuple"), none, (.seq (V [(.ref 38)]) 0), (W [])⟩
def o72 (P : Params) : Obj := ⟨(.type "builtin_function_or_method"), none, (.fields (V [(.builtin "type.__prepare__"), (.type "type")])), (W [])⟩
def o73 (P : Params) : Obj := ⟨(.type "dict"), none, (.dict (D [E P (S "__module__") 278 (.str (S "nearcall.errors") 194), E P (S "__qualname__") 280 (.str (S "BadSide") 279), E P (S "__firstlineno__") 282 (.int 19 281), E P (S "__init__") 289 (.ref 93), E P (S "__static_attributes__") 290 (.ref 94)]) 5), (W [])⟩
def o74 (P : Params) : Obj := ⟨(.type "tuple"), none, (.seq (V []) 0), (W [])⟩
def o75 (P : Params) : Obj := ⟨.none, none, (.fields (V [(.int 21 0), (.int 4 0), (.ref 92)])), (W [])⟩
def o76 (P : Params) : Obj := ⟨(.type "code"), none, (.fields (V [(.str (S "BadSide") 273), (.str (S "BadSide") 274), (.str (S "/claim/cut.py") 275), (.int 19 0), (.int 0 0), (.int 0 0), (.int 0 0), (.int 0 0), (.ref 83), (.bool false), (.int 181 0), (.ref 84), .none, .none, .none, .none, (.int 276 0), (.int 19 0), (.str (S "/claim/cut.py") 277)])), (W [])⟩
def o77 (P : Params) : Obj := ⟨(.type "frame"), none, .plain, (W [(some (.ref 85)), (some (.ref 3)), (some (.ref 82)), none, (some (.str (S "nearcall.errors") 194)), none, (some (.ref 0))])⟩
def o78 (P : Params) : Obj := ⟨(.type "tuple"), none, (.seq (V []) 0), (W [])⟩
def o79 (P : Params) : Obj := ⟨.none, none, (.fields (V [])), (W [])⟩
def o80 (P : Params) : Obj := ⟨(.type "tuple"), none, (.seq (V [(.str (S "self") 286)]) 0), (W [])⟩
def o81 (P : Params) : Obj := ⟨(.type "tuple"), none, (.seq (V []) 0), (W [])⟩
def o82 (P : Params) : Obj := ⟨.none, none, (.func ⟨(S "__init__"), (S "BadSide.__init__"), (defArgs (inClass (ST 5) 0)), (.stmts (defBody (inClass (ST 5) 0))), (defScope (inClass (ST 3) 0)), 0, [], .none, .none, .none, .none, none, .none, .none, 0⟩), (W [])⟩
def o83 (P : Params) : Obj := ⟨(.type "code"), none, (.fields (V [(.str (S "__init__") 283), (.str (S "BadSide.__init__") 284), (.str (S "/claim/cut.py") 285), (.int 21 0), (.int 1 0), (.int 0 0), (.int 0 0), (.int 3 0), (.ref 87), (.bool true), (.int 181 0), (.ref 88), .none, (.ref 89), (.ref 90), (.ref 91), (.int 287 0), (.int 21 0), (.str (S "/claim/cut.py") 288)])), (W [])⟩
def o84 (P : Params) : Obj := ⟨(.type "function"), none, (.func ⟨(S "__init__"), (S "BadSide.__init__"), (defArgs (inClass (ST 5) 0)), (.stmts (defBody (inClass (ST 5) 0))), (defScope (inClass (ST 3) 0)), 3, [], .none, .none, .none, (.str (S "nearcall.errors") 194), none, (.ref 92), .none, 0⟩), (W [])⟩
def o85 (P : Params) : Obj := ⟨(.type "tuple"), none, (.seq (V []) 0), (W [])⟩
def o86 (P : Params) : Obj := ⟨(.type "dict"), none, (.dict (D [E P (S "__module__") 278 (.str (S "nearcall.errors") 194), E P (S "__firstlineno__") 282 (.int 19 281), E P (S "__init__") 289 (.ref 93), E P (S "__static_attributes__") 290 (.ref 94), E P (S "__doc__") 291 .none]) 2), (W [])⟩
def o87 (P : Params) : Obj := ⟨(.type "type"), none, (.cls ⟨(S "BadSide"), [(.ref 38)], [(.ref 96), (.ref 38), (.type "ValueError"), (.type "Exception"), (.type "BaseException"), (.type "object")], 95, (S "BadSide"), true, [], [], false, none, false⟩), (W [(some (.ref 80)), none, (some (.str (S "BadSide") 271)), (some (.str (S "BadSide") 279)), (some (.builtin "ValueError.__new__")), (some (.bool true))])⟩
def o88 (P : Params) : Obj := ⟨(.type "super"), none, (.fields (V [(.ref 96), (.ref 96), (.ref 96)])), (W [])⟩
def o89 (P : Params) : Obj := ⟨(.type "builtin_function_or_method"), none, (.fields (V [(.builtin "object.__init_subclass__"), (.ref 96)])), (W [])⟩
def objs_0 (P : Params) : List Obj :=
  [boot_o_0 P, boot_o_1 P, boot_o_2 P, o4 P, boot_o_4 P, boot_o_5 P, boot_o_6 P, boot_o_7 P, boot_o_8 P, boot_o_9 P, boot_o_10 P, o0 P, o5 P, o2 P, o3 P, o6 P, o7 P, o8 P, o9 P, o10 P, o11 P, o12 P, o13 P, o14 P, o15 P, o16 P, o17 P, o18 P, o19 P, o20 P, o21 P, o22 P, o23 P, o24 P, o25 P, o26 P, o27 P, o28 P, o29 P, o30 P] ++ (
  [o31 P, o32 P, o33 P, o34 P, o35 P, o36 P, o37 P, o38 P, o39 P, o40 P, o41 P, o42 P, o43 P, o44 P, o45 P, o46 P, o47 P, o48 P, o49 P, o50 P, o51 P, o52 P, o53 P, o54 P, o55 P, o56 P, o57 P, o58 P, o59 P, o60 P, o61 P, o62 P, o63 P, o64 P, o65 P, o66 P, o67 P, o68 P, o69 P, o70 P] ++ (
  [o71 P, o72 P, o73 P, o74 P, o75 P, o76 P, o77 P, o78 P, o79 P, o80 P, o81 P, o82 P, o83 P, o84 P, o85 P, o86 P, o87 P, o88 P, o89 P]))
def o90 (P : Params) : Obj := ⟨(.type "dict"), none, (.dict (D [E P (S "__name__") 165 (.str (S "nearcall.errors") 194), E P (S "__doc__") 166 .none, E P (S "__package__") 167 .none, E P (S "__loader__") 168 (.builtin "__main__.__loader__#opaque"), E P (S "__spec__") 169 .none, E P (S "__annotations__") 170 (.ref 6), E P (S "__builtins__") 171 (.ref 4), E P (S "__file__") 173 (.str (S "/claim/cut.py") 172), E P (S "__cached__") 174 .none, E P (S "_wall") 193 (.ref 21), E P (S "HallError") 222 (.ref 38), E P (S "BadWalls") 245 (.ref 58), E P (S "BadBar") 270 (.ref 77), E P (S "BadSide") 293 (.ref 96), E P (S "Fixed") 318 (.ref 115), E P (S "Alike") 345 (.ref 134), E P (S "BadRoom") 368 (.ref 153), E P (S "BadPart") 391 (.ref 172)]) 18), (W [])⟩
def o91 (P : Params) : Obj := ⟨.none, none, (.fields (V [(.int 1 0), (.int 0 0), (.ref 20), (.int 5 0), (.int 0 0), (.ref 27), (.int 10 0), (.int 0 0), (.ref 47), (.int 14 0), (.int 0 0), (.ref 66), (.int 19 0), (.int 0 0), (.ref 85), (.int 23 0), (.int 0 0), (.ref 104), (.int 28 0), (.int 0 0), (.ref 123), (.int 34 0), (.int 0 0), (.ref 142), (.int 38 0), (.int 0 0), (.ref 161)])), (W [])⟩
def o92 (P : Params) : Obj := ⟨(.type "type"), none, (.cls ⟨(S "HallError"), [(.type "ValueError")], [(.ref 38), (.type "ValueError"), (.type "Exception"), (.type "BaseException"), (.type "object")], 37, (S "HallError"), true, [], [(.ref 58), (.ref 77), (.ref 96), (.ref 115), (.ref 134), (.ref 153), (.ref 172)], false, none, false⟩), (W [(some (.ref 22)), none, (some (.str (S "HallError") 196)), (some (.str (S "HallError") 204)), (some (.builtin "ValueError.__new__")), (some (.bool true))])⟩
def o93 (P : Params) : Obj := ⟨(.type "tuple"), none, (.seq (V [(.ref 38)]) 0), (W [])⟩
def o94 (P : Params) : Obj := ⟨(.type "builtin_function_or_method"), none, (.fields (V [(.builtin "type.__prepare__"), (.type "type")])), (W [])⟩
def o95 (P : Params) : Obj := ⟨(.type "dict"), none, (.dict (D [E P (S "__module__") 301 (.str (S "nearcall.errors") 194), E P (S "__qualname__") 303 (.str (S "Fixed") 302), E P (S "__firstlineno__") 305 (.int 23 304), E P (S "__init__") 313 (.ref 112), E P (S "__static_attributes__") 315 (.ref 113)]) 5), (W [])⟩
def o96 (P : Params) : Obj := ⟨(.type "tuple"), none, (.seq (V []) 0), (W [])⟩
def o97 (P : Params) : Obj := ⟨.none, none, (.fields (V [(.int 25 0), (.int 4 0), (.ref 111)])), (W [])⟩
def o98 (P : Params) : Obj := ⟨(.type "code"), none, (.fields (V [(.str (S "Fixed") 296), (.str (S "Fixed") 297), (.str (S "/claim/cut.py") 298), (.int 23 0), (.int 0 0), (.int 0 0), (.int 0 0), (.int 0 0), (.ref 102), (.bool false), (.int 181 0), (.ref 103), .none, .none, .none, .none, (.int 299 0), (.int 23 0), (.str (S "/claim/cut.py") 300)])), (W [])⟩
def o99 (P : Params) : Obj := ⟨(.type "frame"), none, .plain, (W [(some (.ref 104)), (some (.ref 3)), (some (.ref 101)), none, (some (.str (S "nearcall.errors") 194)), none, (some (.ref 0))])⟩
def o100 (P : Params) : Obj := ⟨(.type "tuple"), none, (.seq (V []) 0), (W [])⟩
def o101 (P : Params) : Obj := ⟨.none, none, (.fields (V [])), (W [])⟩
def o102 (P : Params) : Obj := ⟨(.type "tuple"), none, (.seq (V [(.str (S "self") 309), (.str (S "side") 310)]) 0), (W [])⟩
def o103 (P : Params) : Obj := ⟨(.type "tuple"), none, (.seq (V []) 0), (W [])⟩
def o104 (P : Params) : Obj := ⟨.none, none, (.func ⟨(S "__init__"), (S "Fixed.__init__"), (defArgs (inClass (ST 6) 0)), (.stmts (defBody (inClass (ST 6) 0))), (defScope (inClass (ST 6) 0)), 0, [], .none, .none, .none, .none, none, .none, .none, 0⟩), (W [])⟩
def o105 (P : Params) : Obj := ⟨(.type "code"), none, (.fields (V [(.str (S "__init__") 306), (.str (S "Fixed.__init__") 307), (.str (S "/claim/cut.py") 308), (.int 25 0), (.int 2 0), (.int 0 0), (.int 0 0), (.int 3 0), (.ref 106), (.bool true), (.int 181 0), (.ref 107), .none, (.ref 108), (.ref 109), (.ref 110), (.int 311 0), (.int 25 0), (.str (S "/claim/cut.py") 312)])), (W [])⟩
def o106 (P : Params) : Obj := ⟨(.type "function"), none, (.func ⟨(S "__init__"), (S "Fixed.__init__"), (defArgs (inClass (ST 6) 0)), (.stmts (defBody (inClass (ST 6) 0))), (defScope (inClass (ST 6) 0)), 3, [], .none, .none, .none, (.str (S "nearcall.errors") 194), none, (.ref 111), .none, 0⟩), (W [])⟩
def o107 (P : Params) : Obj := ⟨(.type "tuple"), none, (.seq (V [(.str (S "side") 314)]) 0), (W [])⟩
def o108 (P : Params) : Obj := ⟨(.type "dict"), none, (.dict (D [E P (S "__module__") 301 (.str (S "nearcall.errors") 194), E P (S "__firstlineno__") 305 (.int 23 304), E P (S "__init__") 313 (.ref 112), E P (S "__static_attributes__") 315 (.ref 113), E P (S "__doc__") 316 .none]) 2), (W [])⟩
def o109 (P : Params) : Obj := ⟨(.type "type"), none, (.cls ⟨(S "Fixed"), [(.ref 38)], [(.ref 115), (.ref 38), (.type "ValueError"), (.type "Exception"), (.type "BaseException"), (.type "object")], 114, (S "Fixed"), true, [], [], false, none, false⟩), (W [(some (.ref 99)), none, (some (.str (S "Fixed") 294)), (some (.str (S "Fixed") 302)), (some (.builtin "ValueError.__new__")), (some (.bool true))])⟩
def o110 (P : Params) : Obj := ⟨(.type "super"), none, (.fields (V [(.ref 115), (.ref 115), (.ref 115)])), (W [])⟩
def o111 (P : Params) : Obj := ⟨(.type "builtin_function_or_method"), none, (.fields (V [(.builtin "object.__init_subclass__"), (.ref 115)])), (W [])⟩
def o112 (P : Params) : Obj := ⟨(.type "tuple"), none, (.seq (V [(.ref 38)]) 0), (W [])⟩
def o113 (P : Params) : Obj := ⟨(.type "builtin_function_or_method"), none, (.fields (V [(.builtin "type.__prepare__"), (.type "type")])), (W [])⟩
def o114 (P : Params) : Obj := ⟨(.type "dict"), none, (.dict (D [E P (S "__module__") 326 (.str (S "nearcall.errors") 194), E P (S "__qualname__") 328 (.str (S "Alike") 327), E P (S "__firstlineno__") 330 (.int 28 329), E P (S "__init__") 339 (.ref 131), E P (S "__static_attributes__") 342 (.ref 132)]) 5), (W [])⟩
def o115 (P : Params) : Obj := ⟨(.type "tuple"), none, (.seq (V []) 0), (W [])⟩
def o116 (P : Params) : Obj := ⟨.none, none, (.fields (V [(.int 30 0), (.int 4 0), (.ref 130)])), (W [])⟩
def o117 (P : Params) : Obj := ⟨(.type "code"), none, (.fields (V [(.str (S "Alike") 321), (.str (S "Alike") 322), (.str (S "/claim/cut.py") 323), (.int 28 0), (.int 0 0), (.int 0 0), (.int 0 0), (.int 0 0), (.ref 121), (.bool false), (.int 181 0), (.ref 122), .none, .none, .none, .none, (.int 324 0), (.int 28 0), (.str (S "/claim/cut.py") 325)])), (W [])⟩
def o118 (P : Params) : Obj := ⟨(.type "frame"), none, .plain, (W [(some (.ref 123)), (some (.ref 3)), (some (.ref 120)), none, (some (.str (S "nearcall.errors") 194)), none, (some (.ref 0))])⟩
def o119 (P : Params) : Obj := ⟨(.type "tuple"), none, (.seq (V []) 0), (W [])⟩
def o120 (P : Params) : Obj := ⟨.none, none, (.fields (V [])), (W [])⟩
def o121 (P : Params) : Obj := ⟨(.type "tuple"), none, (.seq (V [(.str (S "self") 334), (.str (S "one") 335), (.str (S "other") 336)]) 0), (W [])⟩
def o122 (P : Params) : Obj := ⟨(.type "tuple"), none, (.seq (V []) 0), (W [])⟩
def o123 (P : Params) : Obj := ⟨.none, none, (.func ⟨(S "__init__"), (S "Alike.__init__"), (defArgs (inClass (ST 7) 0)), (.stmts (defBody (inClass (ST 7) 0))), (defScope (inClass (ST 7) 0)), 0, [], .none, .none, .none, .none, none, .none, .none, 0⟩), (W [])⟩
def o124 (P : Params) : Obj := ⟨(.type "code"), none, (.fields (V [(.str (S "__init__") 331), (.str (S "Alike.__init__") 332), (.str (S "/claim/cut.py") 333), (.int 30 0), (.int 3 0), (.int 0 0), (.int 0 0), (.int 3 0), (.ref 125), (.bool true), (.int 181 0), (.ref 126), .none, (.ref 127), (.ref 128), (.ref 129), (.int 337 0), (.int 30 0), (.str (S "/claim/cut.py") 338)])), (W [])⟩
def o125 (P : Params) : Obj := ⟨(.type "function"), none, (.func ⟨(S "__init__"), (S "Alike.__init__"), (defArgs (inClass (ST 7) 0)), (.stmts (defBody (inClass (ST 7) 0))), (defScope (inClass (ST 7) 0)), 3, [], .none, .none, .none, (.str (S "nearcall.errors") 194), none, (.ref 130), .none, 0⟩), (W [])⟩
def o126 (P : Params) : Obj := ⟨(.type "tuple"), none, (.seq (V [(.str (S "one") 340), (.str (S "other") 341)]) 0), (W [])⟩
def o127 (P : Params) : Obj := ⟨(.type "dict"), none, (.dict (D [E P (S "__module__") 326 (.str (S "nearcall.errors") 194), E P (S "__firstlineno__") 330 (.int 28 329), E P (S "__init__") 339 (.ref 131), E P (S "__static_attributes__") 342 (.ref 132), E P (S "__doc__") 343 .none]) 2), (W [])⟩
def o128 (P : Params) : Obj := ⟨(.type "type"), none, (.cls ⟨(S "Alike"), [(.ref 38)], [(.ref 134), (.ref 38), (.type "ValueError"), (.type "Exception"), (.type "BaseException"), (.type "object")], 133, (S "Alike"), true, [], [], false, none, false⟩), (W [(some (.ref 118)), none, (some (.str (S "Alike") 319)), (some (.str (S "Alike") 327)), (some (.builtin "ValueError.__new__")), (some (.bool true))])⟩
def o129 (P : Params) : Obj := ⟨(.type "super"), none, (.fields (V [(.ref 134), (.ref 134), (.ref 134)])), (W [])⟩
def o130 (P : Params) : Obj := ⟨(.type "builtin_function_or_method"), none, (.fields (V [(.builtin "object.__init_subclass__"), (.ref 134)])), (W [])⟩
def o131 (P : Params) : Obj := ⟨(.type "tuple"), none, (.seq (V [(.ref 38)]) 0), (W [])⟩
def o132 (P : Params) : Obj := ⟨(.type "builtin_function_or_method"), none, (.fields (V [(.builtin "type.__prepare__"), (.type "type")])), (W [])⟩
def o133 (P : Params) : Obj := ⟨(.type "dict"), none, (.dict (D [E P (S "__module__") 353 (.str (S "nearcall.errors") 194), E P (S "__qualname__") 355 (.str (S "BadRoom") 354), E P (S "__firstlineno__") 357 (.int 34 356), E P (S "__init__") 364 (.ref 150), E P (S "__static_attributes__") 365 (.ref 151)]) 5), (W [])⟩
def o134 (P : Params) : Obj := ⟨(.type "tuple"), none, (.seq (V []) 0), (W [])⟩
def o135 (P : Params) : Obj := ⟨.none, none, (.fields (V [(.int 36 0), (.int 4 0), (.ref 149)])), (W [])⟩
def o136 (P : Params) : Obj := ⟨(.type "code"), none, (.fields (V [(.str (S "BadRoom") 348), (.str (S "BadRoom") 349), (.str (S "/claim/cut.py") 350), (.int 34 0), (.int 0 0), (.int 0 0), (.int 0 0), (.int 0 0), (.ref 140), (.bool false), (.int 181 0), (.ref 141), .none, .none, .none, .none, (.int 351 0), (.int 34 0), (.str (S "/claim/cut.py") 352)])), (W [])⟩
def o137 (P : Params) : Obj := ⟨(.type "frame"), none, .plain, (W [(some (.ref 142)), (some (.ref 3)), (some (.ref 139)), none, (some (.str (S "nearcall.errors") 194)), none, (some (.ref 0))])⟩
def o138 (P : Params) : Obj := ⟨(.type "tuple"), none, (.seq (V []) 0), (W [])⟩
def o139 (P : Params) : Obj := ⟨.none, none, (.fields (V [])), (W [])⟩
def o140 (P : Params) : Obj := ⟨(.type "tuple"), none, (.seq (V [(.str (S "self") 361)]) 0), (W [])⟩
def o141 (P : Params) : Obj := ⟨(.type "tuple"), none, (.seq (V []) 0), (W [])⟩
def o142 (P : Params) : Obj := ⟨.none, none, (.func ⟨(S "__init__"), (S "BadRoom.__init__"), (defArgs (inClass (ST 8) 0)), (.stmts (defBody (inClass (ST 8) 0))), (defScope (inClass (ST 3) 0)), 0, [], .none, .none, .none, .none, none, .none, .none, 0⟩), (W [])⟩
def o143 (P : Params) : Obj := ⟨(.type "code"), none, (.fields (V [(.str (S "__init__") 358), (.str (S "BadRoom.__init__") 359), (.str (S "/claim/cut.py") 360), (.int 36 0), (.int 1 0), (.int 0 0), (.int 0 0), (.int 3 0), (.ref 144), (.bool true), (.int 181 0), (.ref 145), .none, (.ref 146), (.ref 147), (.ref 148), (.int 362 0), (.int 36 0), (.str (S "/claim/cut.py") 363)])), (W [])⟩
def o144 (P : Params) : Obj := ⟨(.type "function"), none, (.func ⟨(S "__init__"), (S "BadRoom.__init__"), (defArgs (inClass (ST 8) 0)), (.stmts (defBody (inClass (ST 8) 0))), (defScope (inClass (ST 3) 0)), 3, [], .none, .none, .none, (.str (S "nearcall.errors") 194), none, (.ref 149), .none, 0⟩), (W [])⟩
def o145 (P : Params) : Obj := ⟨(.type "tuple"), none, (.seq (V []) 0), (W [])⟩
def o146 (P : Params) : Obj := ⟨(.type "dict"), none, (.dict (D [E P (S "__module__") 353 (.str (S "nearcall.errors") 194), E P (S "__firstlineno__") 357 (.int 34 356), E P (S "__init__") 364 (.ref 150), E P (S "__static_attributes__") 365 (.ref 151), E P (S "__doc__") 366 .none]) 2), (W [])⟩
def o147 (P : Params) : Obj := ⟨(.type "type"), none, (.cls ⟨(S "BadRoom"), [(.ref 38)], [(.ref 153), (.ref 38), (.type "ValueError"), (.type "Exception"), (.type "BaseException"), (.type "object")], 152, (S "BadRoom"), true, [], [], false, none, false⟩), (W [(some (.ref 137)), none, (some (.str (S "BadRoom") 346)), (some (.str (S "BadRoom") 354)), (some (.builtin "ValueError.__new__")), (some (.bool true))])⟩
def o148 (P : Params) : Obj := ⟨(.type "super"), none, (.fields (V [(.ref 153), (.ref 153), (.ref 153)])), (W [])⟩
def o149 (P : Params) : Obj := ⟨(.type "builtin_function_or_method"), none, (.fields (V [(.builtin "object.__init_subclass__"), (.ref 153)])), (W [])⟩
def o150 (P : Params) : Obj := ⟨(.type "tuple"), none, (.seq (V [(.ref 38)]) 0), (W [])⟩
def o151 (P : Params) : Obj := ⟨(.type "builtin_function_or_method"), none, (.fields (V [(.builtin "type.__prepare__"), (.type "type")])), (W [])⟩
def o152 (P : Params) : Obj := ⟨(.type "dict"), none, (.dict (D [E P (S "__module__") 376 (.str (S "nearcall.errors") 194), E P (S "__qualname__") 378 (.str (S "BadPart") 377), E P (S "__firstlineno__") 380 (.int 38 379), E P (S "__init__") 387 (.ref 169), E P (S "__static_attributes__") 388 (.ref 170)]) 5), (W [])⟩
def o153 (P : Params) : Obj := ⟨(.type "tuple"), none, (.seq (V []) 0), (W [])⟩
def o154 (P : Params) : Obj := ⟨.none, none, (.fields (V [(.int 40 0), (.int 4 0), (.ref 168)])), (W [])⟩
def o155 (P : Params) : Obj := ⟨(.type "code"), none, (.fields (V [(.str (S "BadPart") 371), (.str (S "BadPart") 372), (.str (S "/claim/cut.py") 373), (.int 38 0), (.int 0 0), (.int 0 0), (.int 0 0), (.int 0 0), (.ref 159), (.bool false), (.int 181 0), (.ref 160), .none, .none, .none, .none, (.int 374 0), (.int 38 0), (.str (S "/claim/cut.py") 375)])), (W [])⟩
def o156 (P : Params) : Obj := ⟨(.type "frame"), none, .plain, (W [(some (.ref 161)), (some (.ref 3)), (some (.ref 158)), none, (some (.str (S "nearcall.errors") 194)), none, (some (.ref 0))])⟩
def o157 (P : Params) : Obj := ⟨(.type "tuple"), none, (.seq (V []) 0), (W [])⟩
def o158 (P : Params) : Obj := ⟨.none, none, (.fields (V [])), (W [])⟩
def o159 (P : Params) : Obj := ⟨(.type "tuple"), none, (.seq (V [(.str (S "self") 384)]) 0), (W [])⟩
def o160 (P : Params) : Obj := ⟨(.type "tuple"), none, (.seq (V []) 0), (W [])⟩
def o161 (P : Params) : Obj := ⟨.none, none, (.func ⟨(S "__init__"), (S "BadPart.__init__"), (defArgs (inClass (ST 9) 0)), (.stmts (defBody (inClass (ST 9) 0))), (defScope (inClass (ST 3) 0)), 0, [], .none, .none, .none, .none, none, .none, .none, 0⟩), (W [])⟩
def o162 (P : Params) : Obj := ⟨(.type "code"), none, (.fields (V [(.str (S "__init__") 381), (.str (S "BadPart.__init__") 382), (.str (S "/claim/cut.py") 383), (.int 40 0), (.int 1 0), (.int 0 0), (.int 0 0), (.int 3 0), (.ref 163), (.bool true), (.int 181 0), (.ref 164), .none, (.ref 165), (.ref 166), (.ref 167), (.int 385 0), (.int 40 0), (.str (S "/claim/cut.py") 386)])), (W [])⟩
def o163 (P : Params) : Obj := ⟨(.type "function"), none, (.func ⟨(S "__init__"), (S "BadPart.__init__"), (defArgs (inClass (ST 9) 0)), (.stmts (defBody (inClass (ST 9) 0))), (defScope (inClass (ST 3) 0)), 3, [], .none, .none, .none, (.str (S "nearcall.errors") 194), none, (.ref 168), .none, 0⟩), (W [])⟩
def o164 (P : Params) : Obj := ⟨(.type "tuple"), none, (.seq (V []) 0), (W [])⟩
def o165 (P : Params) : Obj := ⟨(.type "dict"), none, (.dict (D [E P (S "__module__") 376 (.str (S "nearcall.errors") 194), E P (S "__firstlineno__") 380 (.int 38 379), E P (S "__init__") 387 (.ref 169), E P (S "__static_attributes__") 388 (.ref 170), E P (S "__doc__") 389 .none]) 2), (W [])⟩
def o166 (P : Params) : Obj := ⟨(.type "type"), none, (.cls ⟨(S "BadPart"), [(.ref 38)], [(.ref 172), (.ref 38), (.type "ValueError"), (.type "Exception"), (.type "BaseException"), (.type "object")], 171, (S "BadPart"), true, [], [], false, none, false⟩), (W [(some (.ref 156)), none, (some (.str (S "BadPart") 369)), (some (.str (S "BadPart") 377)), (some (.builtin "ValueError.__new__")), (some (.bool true))])⟩
def o167 (P : Params) : Obj := ⟨(.type "super"), none, (.fields (V [(.ref 172), (.ref 172), (.ref 172)])), (W [])⟩
def o168 (P : Params) : Obj := ⟨(.type "builtin_function_or_method"), none, (.fields (V [(.builtin "object.__init_subclass__"), (.ref 172)])), (W [])⟩
def objs_1 (P : Params) : List Obj :=
  [boot_o_0 P, boot_o_1 P, boot_o_2 P, o90 P, boot_o_4 P, boot_o_5 P, boot_o_6 P, boot_o_7 P, boot_o_8 P, boot_o_9 P, boot_o_10 P, o0 P, o91 P, o2 P, o3 P, o6 P, o7 P, o8 P, o9 P, o10 P, o11 P, o12 P, o13 P, o14 P, o15 P, o16 P, o17 P, o18 P, o19 P, o20 P, o21 P, o22 P, o23 P, o24 P, o25 P, o26 P, o27 P, o28 P, o92 P, o30 P] ++ (
  [o31 P, o32 P, o33 P, o34 P, o35 P, o36 P, o37 P, o38 P, o39 P, o40 P, o41 P, o42 P, o43 P, o44 P, o45 P, o46 P, o47 P, o48 P, o49 P, o50 P, o51 P, o52 P, o53 P, o54 P, o55 P, o56 P, o57 P, o58 P, o59 P, o60 P, o61 P, o62 P, o63 P, o64 P, o65 P, o66 P, o67 P, o68 P, o69 P, o70 P] ++ (
  [o71 P, o72 P, o73 P, o74 P, o75 P, o76 P, o77 P, o78 P, o79 P, o80 P, o81 P, o82 P, o83 P, o84 P, o85 P, o86 P, o87 P, o88 P, o89 P, o93 P, o94 P, o95 P, o96 P, o97 P, o98 P, o99 P, o100 P, o101 P, o102 P, o103 P, o104 P, o105 P, o106 P, o107 P, o108 P, o109 P, o110 P, o111 P, o112 P, o113 P] ++ (
  [o114 P, o115 P, o116 P, o117 P, o118 P, o119 P, o120 P, o121 P, o122 P, o123 P, o124 P, o125 P, o126 P, o127 P, o128 P, o129 P, o130 P, o131 P, o132 P, o133 P, o134 P, o135 P, o136 P, o137 P, o138 P, o139 P, o140 P, o141 P, o142 P, o143 P, o144 P, o145 P, o146 P, o147 P, o148 P, o149 P, o150 P, o151 P, o152 P, o153 P] ++ (
  [o154 P, o155 P, o156 P, o157 P, o158 P, o159 P, o160 P, o161 P, o162 P, o163 P, o164 P, o165 P, o166 P, o167 P, o168 P]))))
def o169 (P : Params) : Obj := ⟨(.type "dict"), none, (.dict (D [E P (S "__name__") 165 (.str (S "nearcall.halls") 467), E P (S "__doc__") 166 .none, E P (S "__package__") 167 .none, E P (S "__loader__") 168 (.builtin "__main__.__loader__#opaque"), E P (S "__spec__") 169 .none, E P (S "__annotations__") 170 (.ref 6), E P (S "__builtins__") 171 (.ref 4), E P (S "__file__") 173 (.str (S "/claim/cut.py") 172), E P (S "__cached__") 174 .none, E P (S "_wall") 193 (.ref 21), E P (S "HallError") 222 (.ref 38), E P (S "BadWalls") 245 (.ref 58), E P (S "BadBar") 270 (.ref 77), E P (S "BadSide") 293 (.ref 96), E P (S "Fixed") 318 (.ref 115), E P (S "Alike") 345 (.ref 134), E P (S "BadRoom") 368 (.ref 153), E P (S "BadPart") 391 (.ref 172), E P (S "Empty") 416 (.ref 191), E P (S "BadTable") 441 (.ref 210), E P (S "TooMany") 466 (.ref 229), E P (S "WIDEST") 470 (.int 12 469), E P (S "other") 477 (.ref 238), E P (S "sides_of") 484 (.ref 245), E P (S "by_walls") 490 (.ref 250), E P (S "is_walls") 496 (.ref 255), E P (S "is_bar") 505 (.ref 262), E P (S "check_walls") 512 (.ref 269), E P (S "check_bars") 522 (.ref 276), E P (S "check_side") 530 (.ref 283), E P (S "check_room") 538 (.ref 290), E P (S "straight_from") 544 (.ref 295), E P (S "reached") 557 (.ref 302)]) 33), (W [])⟩
def o170 (P : Params) : Obj := ⟨.none, none, (.fields (V [(.int 1 0), (.int 0 0), (.ref 20), (.int 5 0), (.int 0 0), (.ref 27), (.int 10 0), (.int 0 0), (.ref 47), (.int 14 0), (.int 0 0), (.ref 66), (.int 19 0), (.int 0 0), (.ref 85), (.int 23 0), (.int 0 0), (.ref 104), (.int 28 0), (.int 0 0), (.ref 123), (.int 34 0), (.int 0 0), (.ref 142), (.int 38 0), (.int 0 0), (.ref 161), (.int 42 0), (.int 0 0), (.ref 180), (.int 47 0), (.int 0 0), (.ref 199), (.int 52 0), (.int 0 0), (.ref 218), (.int 59 0), (.int 0 0), (.ref 237), (.int 61 0), (.int 0 0), (.ref 244), (.int 63 0), (.int 0 0), (.ref 249), (.int 65 0), (.int 0 0), (.ref 254), (.int 68 0), (.int 0 0), (.ref 261), (.int 73 0), (.int 0 0), (.ref 268), (.int 76 0), (.int 0 0), (.ref 275), (.int 80 0), (.int 0 0), (.ref 282), (.int 83 0), (.int 0 0), (.ref 289), (.int 86 0), (.int 0 0), (.ref 294), (.int 92 0), (.int 0 0), (.ref 301)])), (W [])⟩
def o171 (P : Params) : Obj := ⟨(.type "type"), none, (.cls ⟨(S "HallError"), [(.type "ValueError")], [(.ref 38), (.type "ValueError"), (.type "Exception"), (.type "BaseException"), (.type "object")], 37, (S "HallError"), true, [], [(.ref 58), (.ref 77), (.ref 96), (.ref 115), (.ref 134), (.ref 153), (.ref 172), (.ref 191), (.ref 210), (.ref 229)], false, none, false⟩), (W [(some (.ref 22)), none, (some (.str (S "HallError") 196)), (some (.str (S "HallError") 204)), (some (.builtin "ValueError.__new__")), (some (.bool true))])⟩
def o172 (P : Params) : Obj := ⟨(.type "tuple"), none, (.seq (V [(.ref 38)]) 0), (W [])⟩
def o173 (P : Params) : Obj := ⟨(.type "builtin_function_or_method"), none, (.fields (V [(.builtin "type.__prepare__"), (.type "type")])), (W [])⟩
def o174 (P : Params) : Obj := ⟨(.type "dict"), none, (.dict (D [E P (S "__module__") 399 (.str (S "nearcall.errors") 194), E P (S "__qualname__") 401 (.str (S "Empty") 400), E P (S "__firstlineno__") 403 (.int 42 402), E P (S "__init__") 411 (.ref 188), E P (S "__static_attributes__") 413 (.ref 189)]) 5), (W [])⟩
def o175 (P : Params) : Obj := ⟨(.type "tuple"), none, (.seq (V []) 0), (W [])⟩
def o176 (P : Params) : Obj := ⟨.none, none, (.fields (V [(.int 44 0), (.int 4 0), (.ref 187)])), (W [])⟩
def o177 (P : Params) : Obj := ⟨(.type "code"), none, (.fields (V [(.str (S "Empty") 394), (.str (S "Empty") 395), (.str (S "/claim/cut.py") 396), (.int 42 0), (.int 0 0), (.int 0 0), (.int 0 0), (.int 0 0), (.ref 178), (.bool false), (.int 181 0), (.ref 179), .none, .none, .none, .none, (.int 397 0), (.int 42 0), (.str (S "/claim/cut.py") 398)])), (W [])⟩
def o178 (P : Params) : Obj := ⟨(.type "frame"), none, .plain, (W [(some (.ref 180)), (some (.ref 3)), (some (.ref 177)), none, (some (.str (S "nearcall.errors") 194)), none, (some (.ref 0))])⟩
def o179 (P : Params) : Obj := ⟨(.type "tuple"), none, (.seq (V []) 0), (W [])⟩
def o180 (P : Params) : Obj := ⟨.none, none, (.fields (V [])), (W [])⟩
def o181 (P : Params) : Obj := ⟨(.type "tuple"), none, (.seq (V [(.str (S "self") 407), (.str (S "wall") 408)]) 0), (W [])⟩
def o182 (P : Params) : Obj := ⟨(.type "tuple"), none, (.seq (V []) 0), (W [])⟩
def o183 (P : Params) : Obj := ⟨.none, none, (.func ⟨(S "__init__"), (S "Empty.__init__"), (defArgs (inClass (ST 10) 0)), (.stmts (defBody (inClass (ST 10) 0))), (defScope (inClass (ST 10) 0)), 0, [], .none, .none, .none, .none, none, .none, .none, 0⟩), (W [])⟩
def o184 (P : Params) : Obj := ⟨(.type "code"), none, (.fields (V [(.str (S "__init__") 404), (.str (S "Empty.__init__") 405), (.str (S "/claim/cut.py") 406), (.int 44 0), (.int 2 0), (.int 0 0), (.int 0 0), (.int 3 0), (.ref 182), (.bool true), (.int 181 0), (.ref 183), .none, (.ref 184), (.ref 185), (.ref 186), (.int 409 0), (.int 44 0), (.str (S "/claim/cut.py") 410)])), (W [])⟩
def o185 (P : Params) : Obj := ⟨(.type "function"), none, (.func ⟨(S "__init__"), (S "Empty.__init__"), (defArgs (inClass (ST 10) 0)), (.stmts (defBody (inClass (ST 10) 0))), (defScope (inClass (ST 10) 0)), 3, [], .none, .none, .none, (.str (S "nearcall.errors") 194), none, (.ref 187), .none, 0⟩), (W [])⟩
def o186 (P : Params) : Obj := ⟨(.type "tuple"), none, (.seq (V [(.str (S "wall") 412)]) 0), (W [])⟩
def o187 (P : Params) : Obj := ⟨(.type "dict"), none, (.dict (D [E P (S "__module__") 399 (.str (S "nearcall.errors") 194), E P (S "__firstlineno__") 403 (.int 42 402), E P (S "__init__") 411 (.ref 188), E P (S "__static_attributes__") 413 (.ref 189), E P (S "__doc__") 414 .none]) 2), (W [])⟩
def o188 (P : Params) : Obj := ⟨(.type "type"), none, (.cls ⟨(S "Empty"), [(.ref 38)], [(.ref 191), (.ref 38), (.type "ValueError"), (.type "Exception"), (.type "BaseException"), (.type "object")], 190, (S "Empty"), true, [], [], false, none, false⟩), (W [(some (.ref 175)), none, (some (.str (S "Empty") 392)), (some (.str (S "Empty") 400)), (some (.builtin "ValueError.__new__")), (some (.bool true))])⟩
def o189 (P : Params) : Obj := ⟨(.type "super"), none, (.fields (V [(.ref 191), (.ref 191), (.ref 191)])), (W [])⟩
def o190 (P : Params) : Obj := ⟨(.type "builtin_function_or_method"), none, (.fields (V [(.builtin "object.__init_subclass__"), (.ref 191)])), (W [])⟩
def o191 (P : Params) : Obj := ⟨(.type "tuple"), none, (.seq (V [(.ref 38)]) 0), (W [])⟩
def o192 (P : Params) : Obj := ⟨(.type "builtin_function_or_method"), none, (.fields (V [(.builtin "type.__prepare__"), (.type "type")])), (W [])⟩
def o193 (P : Params) : Obj := ⟨(.type "dict"), none, (.dict (D [E P (S "__module__") 424 (.str (S "nearcall.errors") 194), E P (S "__qualname__") 426 (.str (S "BadTable") 425), E P (S "__firstlineno__") 428 (.int 47 427), E P (S "__init__") 436 (.ref 207), E P (S "__static_attributes__") 438 (.ref 208)]) 5), (W [])⟩
def o194 (P : Params) : Obj := ⟨(.type "tuple"), none, (.seq (V []) 0), (W [])⟩
def o195 (P : Params) : Obj := ⟨.none, none, (.fields (V [(.int 49 0), (.int 4 0), (.ref 206)])), (W [])⟩
def o196 (P : Params) : Obj := ⟨(.type "code"), none, (.fields (V [(.str (S "BadTable") 419), (.str (S "BadTable") 420), (.str (S "/claim/cut.py") 421), (.int 47 0), (.int 0 0), (.int 0 0), (.int 0 0), (.int 0 0), (.ref 197), (.bool false), (.int 181 0), (.ref 198), .none, .none, .none, .none, (.int 422 0), (.int 47 0), (.str (S "/claim/cut.py") 423)])), (W [])⟩
def o197 (P : Params) : Obj := ⟨(.type "frame"), none, .plain, (W [(some (.ref 199)), (some (.ref 3)), (some (.ref 196)), none, (some (.str (S "nearcall.errors") 194)), none, (some (.ref 0))])⟩
def o198 (P : Params) : Obj := ⟨(.type "tuple"), none, (.seq (V []) 0), (W [])⟩
def o199 (P : Params) : Obj := ⟨.none, none, (.fields (V [])), (W [])⟩
def o200 (P : Params) : Obj := ⟨(.type "tuple"), none, (.seq (V [(.str (S "self") 432), (.str (S "at") 433)]) 0), (W [])⟩
def o201 (P : Params) : Obj := ⟨(.type "tuple"), none, (.seq (V []) 0), (W [])⟩
def o202 (P : Params) : Obj := ⟨.none, none, (.func ⟨(S "__init__"), (S "BadTable.__init__"), (defArgs (inClass (ST 11) 0)), (.stmts (defBody (inClass (ST 11) 0))), (defScope (inClass (ST 4) 0)), 0, [], .none, .none, .none, .none, none, .none, .none, 0⟩), (W [])⟩
def o203 (P : Params) : Obj := ⟨(.type "code"), none, (.fields (V [(.str (S "__init__") 429), (.str (S "BadTable.__init__") 430), (.str (S "/claim/cut.py") 431), (.int 49 0), (.int 2 0), (.int 0 0), (.int 0 0), (.int 3 0), (.ref 201), (.bool true), (.int 181 0), (.ref 202), .none, (.ref 203), (.ref 204), (.ref 205), (.int 434 0), (.int 49 0), (.str (S "/claim/cut.py") 435)])), (W [])⟩
def o204 (P : Params) : Obj := ⟨(.type "function"), none, (.func ⟨(S "__init__"), (S "BadTable.__init__"), (defArgs (inClass (ST 11) 0)), (.stmts (defBody (inClass (ST 11) 0))), (defScope (inClass (ST 4) 0)), 3, [], .none, .none, .none, (.str (S "nearcall.errors") 194), none, (.ref 206), .none, 0⟩), (W [])⟩
def o205 (P : Params) : Obj := ⟨(.type "tuple"), none, (.seq (V [(.str (S "at") 437)]) 0), (W [])⟩
def o206 (P : Params) : Obj := ⟨(.type "dict"), none, (.dict (D [E P (S "__module__") 424 (.str (S "nearcall.errors") 194), E P (S "__firstlineno__") 428 (.int 47 427), E P (S "__init__") 436 (.ref 207), E P (S "__static_attributes__") 438 (.ref 208), E P (S "__doc__") 439 .none]) 2), (W [])⟩
def o207 (P : Params) : Obj := ⟨(.type "type"), none, (.cls ⟨(S "BadTable"), [(.ref 38)], [(.ref 210), (.ref 38), (.type "ValueError"), (.type "Exception"), (.type "BaseException"), (.type "object")], 209, (S "BadTable"), true, [], [], false, none, false⟩), (W [(some (.ref 194)), none, (some (.str (S "BadTable") 417)), (some (.str (S "BadTable") 425)), (some (.builtin "ValueError.__new__")), (some (.bool true))])⟩
def o208 (P : Params) : Obj := ⟨(.type "super"), none, (.fields (V [(.ref 210), (.ref 210), (.ref 210)])), (W [])⟩
def o209 (P : Params) : Obj := ⟨(.type "builtin_function_or_method"), none, (.fields (V [(.builtin "object.__init_subclass__"), (.ref 210)])), (W [])⟩
def o210 (P : Params) : Obj := ⟨(.type "tuple"), none, (.seq (V [(.ref 38)]) 0), (W [])⟩
def o211 (P : Params) : Obj := ⟨(.type "builtin_function_or_method"), none, (.fields (V [(.builtin "type.__prepare__"), (.type "type")])), (W [])⟩
def o212 (P : Params) : Obj := ⟨(.type "dict"), none, (.dict (D [E P (S "__module__") 449 (.str (S "nearcall.errors") 194), E P (S "__qualname__") 451 (.str (S "TooMany") 450), E P (S "__firstlineno__") 453 (.int 52 452), E P (S "__init__") 461 (.ref 226), E P (S "__static_attributes__") 463 (.ref 227)]) 5), (W [])⟩
def o213 (P : Params) : Obj := ⟨(.type "tuple"), none, (.seq (V []) 0), (W [])⟩
def o214 (P : Params) : Obj := ⟨.none, none, (.fields (V [(.int 54 0), (.int 4 0), (.ref 225)])), (W [])⟩
def o215 (P : Params) : Obj := ⟨(.type "code"), none, (.fields (V [(.str (S "TooMany") 444), (.str (S "TooMany") 445), (.str (S "/claim/cut.py") 446), (.int 52 0), (.int 0 0), (.int 0 0), (.int 0 0), (.int 0 0), (.ref 216), (.bool false), (.int 181 0), (.ref 217), .none, .none, .none, .none, (.int 447 0), (.int 52 0), (.str (S "/claim/cut.py") 448)])), (W [])⟩
def o216 (P : Params) : Obj := ⟨(.type "frame"), none, .plain, (W [(some (.ref 218)), (some (.ref 3)), (some (.ref 215)), none, (some (.str (S "nearcall.errors") 194)), none, (some (.ref 0))])⟩
def o217 (P : Params) : Obj := ⟨(.type "tuple"), none, (.seq (V []) 0), (W [])⟩
def o218 (P : Params) : Obj := ⟨.none, none, (.fields (V [])), (W [])⟩
def o219 (P : Params) : Obj := ⟨(.type "tuple"), none, (.seq (V [(.str (S "self") 457), (.str (S "most") 458)]) 0), (W [])⟩
def o220 (P : Params) : Obj := ⟨(.type "tuple"), none, (.seq (V []) 0), (W [])⟩
def o221 (P : Params) : Obj := ⟨.none, none, (.func ⟨(S "__init__"), (S "TooMany.__init__"), (defArgs (inClass (ST 12) 0)), (.stmts (defBody (inClass (ST 12) 0))), (defScope (inClass (ST 12) 0)), 0, [], .none, .none, .none, .none, none, .none, .none, 0⟩), (W [])⟩
def o222 (P : Params) : Obj := ⟨(.type "code"), none, (.fields (V [(.str (S "__init__") 454), (.str (S "TooMany.__init__") 455), (.str (S "/claim/cut.py") 456), (.int 54 0), (.int 2 0), (.int 0 0), (.int 0 0), (.int 3 0), (.ref 220), (.bool true), (.int 181 0), (.ref 221), .none, (.ref 222), (.ref 223), (.ref 224), (.int 459 0), (.int 54 0), (.str (S "/claim/cut.py") 460)])), (W [])⟩
def o223 (P : Params) : Obj := ⟨(.type "function"), none, (.func ⟨(S "__init__"), (S "TooMany.__init__"), (defArgs (inClass (ST 12) 0)), (.stmts (defBody (inClass (ST 12) 0))), (defScope (inClass (ST 12) 0)), 3, [], .none, .none, .none, (.str (S "nearcall.errors") 194), none, (.ref 225), .none, 0⟩), (W [])⟩
def o224 (P : Params) : Obj := ⟨(.type "tuple"), none, (.seq (V [(.str (S "most") 462)]) 0), (W [])⟩
def o225 (P : Params) : Obj := ⟨(.type "dict"), none, (.dict (D [E P (S "__module__") 449 (.str (S "nearcall.errors") 194), E P (S "__firstlineno__") 453 (.int 52 452), E P (S "__init__") 461 (.ref 226), E P (S "__static_attributes__") 463 (.ref 227), E P (S "__doc__") 464 .none]) 2), (W [])⟩
def o226 (P : Params) : Obj := ⟨(.type "type"), none, (.cls ⟨(S "TooMany"), [(.ref 38)], [(.ref 229), (.ref 38), (.type "ValueError"), (.type "Exception"), (.type "BaseException"), (.type "object")], 228, (S "TooMany"), true, [], [], false, none, false⟩), (W [(some (.ref 213)), none, (some (.str (S "TooMany") 442)), (some (.str (S "TooMany") 450)), (some (.builtin "ValueError.__new__")), (some (.bool true))])⟩
def o227 (P : Params) : Obj := ⟨(.type "super"), none, (.fields (V [(.ref 229), (.ref 229), (.ref 229)])), (W [])⟩
def o228 (P : Params) : Obj := ⟨(.type "builtin_function_or_method"), none, (.fields (V [(.builtin "object.__init_subclass__"), (.ref 229)])), (W [])⟩
def o229 (P : Params) : Obj := ⟨(.type "tuple"), none, (.seq (V []) 0), (W [])⟩
def o230 (P : Params) : Obj := ⟨.none, none, (.fields (V [])), (W [])⟩
def o231 (P : Params) : Obj := ⟨(.type "tuple"), none, (.seq (V [(.str (S "side") 474)]) 0), (W [])⟩
def o232 (P : Params) : Obj := ⟨(.type "tuple"), none, (.seq (V []) 0), (W [])⟩
def o233 (P : Params) : Obj := ⟨.none, none, (.func ⟨(S "other"), (S "other"), (defArgs (ST 15)), (.stmts (defBody (ST 15))), (defScope (ST 15)), 0, [], .none, .none, .none, .none, none, .none, .none, 0⟩), (W [])⟩
def o234 (P : Params) : Obj := ⟨(.type "code"), none, (.fields (V [(.str (S "other") 471), (.str (S "other") 472), (.str (S "/claim/cut.py") 473), (.int 59 0), (.int 1 0), (.int 0 0), (.int 0 0), (.int 3 0), (.ref 232), (.bool true), (.int 181 0), (.ref 233), .none, (.ref 234), (.ref 235), (.ref 236), (.int 475 0), (.int 59 0), (.str (S "/claim/cut.py") 476)])), (W [])⟩
def o235 (P : Params) : Obj := ⟨(.type "function"), none, (.func ⟨(S "other"), (S "other"), (defArgs (ST 15)), (.stmts (defBody (ST 15))), (defScope (ST 15)), 3, [], .none, .none, .none, (.str (S "nearcall.halls") 467), none, (.ref 237), .none, 0⟩), (W [])⟩
def o236 (P : Params) : Obj := ⟨(.type "tuple"), none, (.seq (V []) 0), (W [])⟩
def o237 (P : Params) : Obj := ⟨.none, none, (.fields (V [])), (W [])⟩
def o238 (P : Params) : Obj := ⟨(.type "tuple"), none, (.seq (V [(.str (S "walls") 481)]) 0), (W [])⟩
def o239 (P : Params) : Obj := ⟨(.type "tuple"), none, (.seq (V []) 0), (W [])⟩
def o240 (P : Params) : Obj := ⟨.none, none, (.func ⟨(S "sides_of"), (S "sides_of"), (defArgs (ST 16)), (.stmts (defBody (ST 16))), (defScope (ST 16)), 0, [], .none, .none, .none, .none, none, .none, .none, 0⟩), (W [])⟩
def o241 (P : Params) : Obj := ⟨(.type "code"), none, (.fields (V [(.str (S "sides_of") 478), (.str (S "sides_of") 479), (.str (S "/claim/cut.py") 480), (.int 61 0), (.int 1 0), (.int 0 0), (.int 0 0), (.int 3 0), (.ref 239), (.bool true), (.int 181 0), (.ref 240), .none, (.ref 241), (.ref 242), (.ref 243), (.int 482 0), (.int 61 0), (.str (S "/claim/cut.py") 483)])), (W [])⟩
def o242 (P : Params) : Obj := ⟨(.type "function"), none, (.func ⟨(S "sides_of"), (S "sides_of"), (defArgs (ST 16)), (.stmts (defBody (ST 16))), (defScope (ST 16)), 3, [], .none, .none, .none, (.str (S "nearcall.halls") 467), none, (.ref 244), .none, 0⟩), (W [])⟩
def o243 (P : Params) : Obj := ⟨(.type "tuple"), none, (.seq (V []) 0), (W [])⟩
def o244 (P : Params) : Obj := ⟨.none, none, (.fields (V [])), (W [])⟩
def o245 (P : Params) : Obj := ⟨.none, none, (.func ⟨(S "by_walls"), (S "by_walls"), (defArgs (ST 17)), (.stmts (defBody (ST 17))), (defScope (ST 17)), 0, [], .none, .none, .none, .none, none, .none, .none, 0⟩), (W [])⟩
def o246 (P : Params) : Obj := ⟨(.type "code"), none, (.fields (V [(.str (S "by_walls") 485), (.str (S "by_walls") 486), (.str (S "/claim/cut.py") 487), (.int 63 0), (.int 2 0), (.int 0 0), (.int 0 0), (.int 3 0), (.ref 246), (.bool true), (.int 181 0), (.ref 247), .none, .none, .none, (.ref 248), (.int 488 0), (.int 63 0), (.str (S "/claim/cut.py") 489)])), (W [])⟩
def o247 (P : Params) : Obj := ⟨(.type "function"), none, (.func ⟨(S "by_walls"), (S "by_walls"), (defArgs (ST 17)), (.stmts (defBody (ST 17))), (defScope (ST 17)), 3, [], .none, .none, .none, (.str (S "nearcall.halls") 467), none, (.ref 249), .none, 0⟩), (W [])⟩
def o248 (P : Params) : Obj := ⟨(.type "tuple"), none, (.seq (V []) 0), (W [])⟩
def o249 (P : Params) : Obj := ⟨.none, none, (.fields (V [])), (W [])⟩
def o250 (P : Params) : Obj := ⟨.none, none, (.func ⟨(S "is_walls"), (S "is_walls"), (defArgs (ST 18)), (.stmts (defBody (ST 18))), (defScope (ST 18)), 0, [], .none, .none, .none, .none, none, .none, .none, 0⟩), (W [])⟩
def o251 (P : Params) : Obj := ⟨(.type "code"), none, (.fields (V [(.str (S "is_walls") 491), (.str (S "is_walls") 492), (.str (S "/claim/cut.py") 493), (.int 65 0), (.int 1 0), (.int 0 0), (.int 0 0), (.int 3 0), (.ref 251), (.bool true), (.int 181 0), (.ref 252), .none, .none, .none, (.ref 253), (.int 494 0), (.int 65 0), (.str (S "/claim/cut.py") 495)])), (W [])⟩
def o252 (P : Params) : Obj := ⟨(.type "function"), none, (.func ⟨(S "is_walls"), (S "is_walls"), (defArgs (ST 18)), (.stmts (defBody (ST 18))), (defScope (ST 18)), 3, [], .none, .none, .none, (.str (S "nearcall.halls") 467), none, (.ref 254), .none, 0⟩), (W [])⟩
def o253 (P : Params) : Obj := ⟨(.type "tuple"), none, (.seq (V []) 0), (W [])⟩
def o254 (P : Params) : Obj := ⟨.none, none, (.fields (V [])), (W [])⟩
def o255 (P : Params) : Obj := ⟨(.type "tuple"), none, (.seq (V [(.str (S "walls") 500), (.str (S "bar") 501), (.str (S "sides") 502)]) 0), (W [])⟩
def o256 (P : Params) : Obj := ⟨(.type "tuple"), none, (.seq (V []) 0), (W [])⟩
def o257 (P : Params) : Obj := ⟨.none, none, (.func ⟨(S "is_bar"), (S "is_bar"), (defArgs (ST 19)), (.stmts (defBody (ST 19))), (defScope (ST 19)), 0, [], .none, .none, .none, .none, none, .none, .none, 0⟩), (W [])⟩
def o258 (P : Params) : Obj := ⟨(.type "code"), none, (.fields (V [(.str (S "is_bar") 497), (.str (S "is_bar") 498), (.str (S "/claim/cut.py") 499), (.int 68 0), (.int 2 0), (.int 0 0), (.int 0 0), (.int 3 0), (.ref 256), (.bool true), (.int 181 0), (.ref 257), .none, (.ref 258), (.ref 259), (.ref 260), (.int 503 0), (.int 68 0), (.str (S "/claim/cut.py") 504)])), (W [])⟩
def o259 (P : Params) : Obj := ⟨(.type "function"), none, (.func ⟨(S "is_bar"), (S "is_bar"), (defArgs (ST 19)), (.stmts (defBody (ST 19))), (defScope (ST 19)), 3, [], .none, .none, .none, (.str (S "nearcall.halls") 467), none, (.ref 261), .none, 0⟩), (W [])⟩
def o260 (P : Params) : Obj := ⟨(.type "tuple"), none, (.seq (V []) 0), (W [])⟩
def o261 (P : Params) : Obj := ⟨.none, none, (.fields (V [])), (W [])⟩
def o262 (P : Params) : Obj := ⟨(.type "tuple"), none, (.seq (V [(.str (S "walls") 509)]) 0), (W [])⟩
def o263 (P : Params) : Obj := ⟨(.type "tuple"), none, (.seq (V []) 0), (W [])⟩
def o264 (P : Params) : Obj := ⟨.none, none, (.func ⟨(S "check_walls"), (S "check_walls"), (defArgs (ST 20)), (.stmts (defBody (ST 20))), (defScope (ST 20)), 0, [], .none, .none, .none, .none, none, .none, .none, 0⟩), (W [])⟩
def o265 (P : Params) : Obj := ⟨(.type "code"), none, (.fields (V [(.str (S "check_walls") 506), (.str (S "check_walls") 507), (.str (S "/claim/cut.py") 508), (.int 73 0), (.int 1 0), (.int 0 0), (.int 0 0), (.int 3 0), (.ref 263), (.bool true), (.int 181 0), (.ref 264), .none, (.ref 265), (.ref 266), (.ref 267), (.int 510 0), (.int 73 0), (.str (S "/claim/cut.py") 511)])), (W [])⟩
def o266 (P : Params) : Obj := ⟨(.type "function"), none, (.func ⟨(S "check_walls"), (S "check_walls"), (defArgs (ST 20)), (.stmts (defBody (ST 20))), (defScope (ST 20)), 3, [], .none, .none, .none, (.str (S "nearcall.halls") 467), none, (.ref 268), .none, 0⟩), (W [])⟩
def o267 (P : Params) : Obj := ⟨(.type "tuple"), none, (.seq (V []) 0), (W [])⟩
def o268 (P : Params) : Obj := ⟨.none, none, (.fields (V [])), (W [])⟩
def o269 (P : Params) : Obj := ⟨(.type "tuple"), none, (.seq (V [(.str (S "walls") 516), (.str (S "bars") 517), (.str (S "at") 518), (.str (S "bar") 519)]) 0), (W [])⟩
def o270 (P : Params) : Obj := ⟨(.type "tuple"), none, (.seq (V []) 0), (W [])⟩
def o271 (P : Params) : Obj := ⟨.none, none, (.func ⟨(S "check_bars"), (S "check_bars"), (defArgs (ST 21)), (.stmts (defBody (ST 21))), (defScope (ST 21)), 0, [], .none, .none, .none, .none, none, .none, .none, 0⟩), (W [])⟩
def o272 (P : Params) : Obj := ⟨(.type "code"), none, (.fields (V [(.str (S "check_bars") 513), (.str (S "check_bars") 514), (.str (S "/claim/cut.py") 515), (.int 76 0), (.int 2 0), (.int 0 0), (.int 0 0), (.int 3 0), (.ref 270), (.bool true), (.int 181 0), (.ref 271), .none, (.ref 272), (.ref 273), (.ref 274), (.int 520 0), (.int 76 0), (.str (S "/claim/cut.py") 521)])), (W [])⟩
def o273 (P : Params) : Obj := ⟨(.type "function"), none, (.func ⟨(S "check_bars"), (S "check_bars"), (defArgs (ST 21)), (.stmts (defBody (ST 21))), (defScope (ST 21)), 3, [], .none, .none, .none, (.str (S "nearcall.halls") 467), none, (.ref 275), .none, 0⟩), (W [])⟩
def o274 (P : Params) : Obj := ⟨(.type "tuple"), none, (.seq (V []) 0), (W [])⟩
def o275 (P : Params) : Obj := ⟨.none, none, (.fields (V [])), (W [])⟩
def o276 (P : Params) : Obj := ⟨(.type "tuple"), none, (.seq (V [(.str (S "walls") 526), (.str (S "side") 527)]) 0), (W [])⟩
def o277 (P : Params) : Obj := ⟨(.type "tuple"), none, (.seq (V []) 0), (W [])⟩
def o278 (P : Params) : Obj := ⟨.none, none, (.func ⟨(S "check_side"), (S "check_side"), (defArgs (ST 22)), (.stmts (defBody (ST 22))), (defScope (ST 22)), 0, [], .none, .none, .none, .none, none, .none, .none, 0⟩), (W [])⟩
def o279 (P : Params) : Obj := ⟨(.type "code"), none, (.fields (V [(.str (S "check_side") 523), (.str (S "check_side") 524), (.str (S "/claim/cut.py") 525), (.int 80 0), (.int 2 0), (.int 0 0), (.int 0 0), (.int 3 0), (.ref 277), (.bool true), (.int 181 0), (.ref 278), .none, (.ref 279), (.ref 280), (.ref 281), (.int 528 0), (.int 80 0), (.str (S "/claim/cut.py") 529)])), (W [])⟩
def o280 (P : Params) : Obj := ⟨(.type "function"), none, (.func ⟨(S "check_side"), (S "check_side"), (defArgs (ST 22)), (.stmts (defBody (ST 22))), (defScope (ST 22)), 3, [], .none, .none, .none, (.str (S "nearcall.halls") 467), none, (.ref 282), .none, 0⟩), (W [])⟩
def o281 (P : Params) : Obj := ⟨(.type "tuple"), none, (.seq (V []) 0), (W [])⟩
def o282 (P : Params) : Obj := ⟨.none, none, (.fields (V [])), (W [])⟩
def o283 (P : Params) : Obj := ⟨(.type "tuple"), none, (.seq (V [(.str (S "hall") 534), (.str (S "room") 535)]) 0), (W [])⟩
def o284 (P : Params) : Obj := ⟨(.type "tuple"), none, (.seq (V []) 0), (W [])⟩
def o285 (P : Params) : Obj := ⟨.none, none, (.func ⟨(S "check_room"), (S "check_room"), (defArgs (ST 23)), (.stmts (defBody (ST 23))), (defScope (ST 23)), 0, [], .none, .none, .none, .none, none, .none, .none, 0⟩), (W [])⟩
def o286 (P : Params) : Obj := ⟨(.type "code"), none, (.fields (V [(.str (S "check_room") 531), (.str (S "check_room") 532), (.str (S "/claim/cut.py") 533), (.int 83 0), (.int 2 0), (.int 0 0), (.int 0 0), (.int 3 0), (.ref 284), (.bool true), (.int 181 0), (.ref 285), .none, (.ref 286), (.ref 287), (.ref 288), (.int 536 0), (.int 83 0), (.str (S "/claim/cut.py") 537)])), (W [])⟩
def o287 (P : Params) : Obj := ⟨(.type "function"), none, (.func ⟨(S "check_room"), (S "check_room"), (defArgs (ST 23)), (.stmts (defBody (ST 23))), (defScope (ST 23)), 3, [], .none, .none, .none, (.str (S "nearcall.halls") 467), none, (.ref 289), .none, 0⟩), (W [])⟩
def o288 (P : Params) : Obj := ⟨(.type "tuple"), none, (.seq (V []) 0), (W [])⟩
def o289 (P : Params) : Obj := ⟨.none, none, (.fields (V [])), (W [])⟩
def o290 (P : Params) : Obj := ⟨.none, none, (.func ⟨(S "straight_from"), (S "straight_from"), (defArgs (ST 24)), (.stmts (defBody (ST 24))), (defScope (ST 24)), 0, [], .none, .none, .none, .none, none, .none, .none, 0⟩), (W [])⟩
def o291 (P : Params) : Obj := ⟨(.type "code"), none, (.fields (V [(.str (S "straight_from") 539), (.str (S "straight_from") 540), (.str (S "/claim/cut.py") 541), (.int 86 0), (.int 2 0), (.int 0 0), (.int 0 0), (.int 3 0), (.ref 291), (.bool true), (.int 181 0), (.ref 292), .none, .none, .none, (.ref 293), (.int 542 0), (.int 86 0), (.str (S "/claim/cut.py") 543)])), (W [])⟩
def o292 (P : Params) : Obj := ⟨(.type "function"), none, (.func ⟨(S "straight_from"), (S "straight_from"), (defArgs (ST 24)), (.stmts (defBody (ST 24))), (defScope (ST 24)), 3, [], .none, .none, .none, (.str (S "nearcall.halls") 467), none, (.ref 294), .none, 0⟩), (W [])⟩
def o293 (P : Params) : Obj := ⟨(.type "tuple"), none, (.seq (V []) 0), (W [])⟩
def o294 (P : Params) : Obj := ⟨.none, none, (.fields (V [])), (W [])⟩
def o295 (P : Params) : Obj := ⟨(.type "tuple"), none, (.seq (V [(.str (S "straight") 548), (.str (S "one") 549), (.str (S "ahead") 550), (.str (S "wave") 551), (.str (S "later") 552), (.str (S "side") 553), (.str (S "met") 554)]) 0), (W [])⟩
def o296 (P : Params) : Obj := ⟨(.type "tuple"), none, (.seq (V []) 0), (W [])⟩
def o297 (P : Params) : Obj := ⟨.none, none, (.func ⟨(S "reached"), (S "reached"), (defArgs (ST 25)), (.stmts (defBody (ST 25))), (defScope (ST 25)), 0, [], .none, .none, .none, .none, none, .none, .none, 0⟩), (W [])⟩
def o298 (P : Params) : Obj := ⟨(.type "code"), none, (.fields (V [(.str (S "reached") 545), (.str (S "reached") 546), (.str (S "/claim/cut.py") 547), (.int 92 0), (.int 2 0), (.int 0 0), (.int 0 0), (.int 3 0), (.ref 296), (.bool true), (.int 181 0), (.ref 297), .none, (.ref 298), (.ref 299), (.ref 300), (.int 555 0), (.int 92 0), (.str (S "/claim/cut.py") 556)])), (W [])⟩
def o299 (P : Params) : Obj := ⟨(.type "function"), none, (.func ⟨(S "reached"), (S "reached"), (defArgs (ST 25)), (.stmts (defBody (ST 25))), (defScope (ST 25)), 3, [], .none, .none, .none, (.str (S "nearcall.halls") 467), none, (.ref 301), .none, 0⟩), (W [])⟩
def objs_2 (P : Params) : List Obj :=
  [boot_o_0 P, boot_o_1 P, boot_o_2 P, o169 P, boot_o_4 P, boot_o_5 P, boot_o_6 P, boot_o_7 P, boot_o_8 P, boot_o_9 P, boot_o_10 P, o0 P, o170 P, o2 P, o3 P, o6 P, o7 P, o8 P, o9 P, o10 P, o11 P, o12 P, o13 P, o14 P, o15 P, o16 P, o17 P, o18 P, o19 P, o20 P, o21 P, o22 P, o23 P, o24 P, o25 P, o26 P, o27 P, o28 P, o171 P, o30 P] ++ (
  [o31 P, o32 P, o33 P, o34 P, o35 P, o36 P, o37 P, o38 P, o39 P, o40 P, o41 P, o42 P, o43 P, o44 P, o45 P, o46 P, o47 P, o48 P, o49 P, o50 P, o51 P, o52 P, o53 P, o54 P, o55 P, o56 P, o57 P, o58 P, o59 P, o60 P, o61 P, o62 P, o63 P, o64 P, o65 P, o66 P, o67 P, o68 P, o69 P, o70 P] ++ (
  [o71 P, o72 P, o73 P, o74 P, o75 P, o76 P, o77 P, o78 P, o79 P, o80 P, o81 P, o82 P, o83 P, o84 P, o85 P, o86 P, o87 P, o88 P, o89 P, o93 P, o94 P, o95 P, o96 P, o97 P, o98 P, o99 P, o100 P, o101 P, o102 P, o103 P, o104 P, o105 P, o106 P, o107 P, o108 P, o109 P, o110 P, o111 P, o112 P, o113 P] ++ (
  [o114 P, o115 P, o116 P, o117 P, o118 P, o119 P, o120 P, o121 P, o122 P, o123 P, o124 P, o125 P, o126 P, o127 P, o128 P, o129 P, o130 P, o131 P, o132 P, o133 P, o134 P, o135 P, o136 P, o137 P, o138 P, o139 P, o140 P, o141 P, o142 P, o143 P, o144 P, o145 P, o146 P, o147 P, o148 P, o149 P, o150 P, o151 P, o152 P, o153 P] ++ (
  [o154 P, o155 P, o156 P, o157 P, o158 P, o159 P, o160 P, o161 P, o162 P, o163 P, o164 P, o165 P, o166 P, o167 P, o168 P, o172 P, o173 P, o174 P, o175 P, o176 P, o177 P, o178 P, o179 P, o180 P, o181 P, o182 P, o183 P, o184 P, o185 P, o186 P, o187 P, o188 P, o189 P, o190 P, o191 P, o192 P, o193 P, o194 P, o195 P, o196 P] ++ (
  [o197 P, o198 P, o199 P, o200 P, o201 P, o202 P, o203 P, o204 P, o205 P, o206 P, o207 P, o208 P, o209 P, o210 P, o211 P, o212 P, o213 P, o214 P, o215 P, o216 P, o217 P, o218 P, o219 P, o220 P, o221 P, o222 P, o223 P, o224 P, o225 P, o226 P, o227 P, o228 P, o229 P, o230 P, o231 P, o232 P, o233 P, o234 P, o235 P, o236 P] ++ (
  [o237 P, o238 P, o239 P, o240 P, o241 P, o242 P, o243 P, o244 P, o245 P, o246 P, o247 P, o248 P, o249 P, o250 P, o251 P, o252 P, o253 P, o254 P, o255 P, o256 P, o257 P, o258 P, o259 P, o260 P, o261 P, o262 P, o263 P, o264 P, o265 P, o266 P, o267 P, o268 P, o269 P, o270 P, o271 P, o272 P, o273 P, o274 P, o275 P, o276 P] ++ (
  [o277 P, o278 P, o279 P, o280 P, o281 P, o282 P, o283 P, o284 P, o285 P, o286 P, o287 P, o288 P, o289 P, o290 P, o291 P, o292 P, o293 P, o294 P, o295 P, o296 P, o297 P, o298 P, o299 P])))))))
def o300 (P : Params) : Obj := ⟨(.type "dict"), none, (.dict (D [E P (S "__name__") 165 (.str (S "nearcall.tables") 778), E P (S "__doc__") 166 .none, E P (S "__package__") 167 .none, E P (S "__loader__") 168 (.builtin "__main__.__loader__#opaque"), E P (S "__spec__") 169 .none, E P (S "__annotations__") 170 (.ref 6), E P (S "__builtins__") 171 (.ref 4), E P (S "__file__") 173 (.str (S "/claim/cut.py") 172), E P (S "__cached__") 174 .none, E P (S "_wall") 193 (.ref 21), E P (S "HallError") 222 (.ref 38), E P (S "BadWalls") 245 (.ref 58), E P (S "BadBar") 270 (.ref 77), E P (S "BadSide") 293 (.ref 96), E P (S "Fixed") 318 (.ref 115), E P (S "Alike") 345 (.ref 134), E P (S "BadRoom") 368 (.ref 153), E P (S "BadPart") 391 (.ref 172), E P (S "Empty") 416 (.ref 191), E P (S "BadTable") 441 (.ref 210), E P (S "TooMany") 466 (.ref 229), E P (S "WIDEST") 470 (.int 12 469), E P (S "other") 477 (.ref 238), E P (S "sides_of") 484 (.ref 245), E P (S "by_walls") 490 (.ref 250), E P (S "is_walls") 496 (.ref 255), E P (S "is_bar") 505 (.ref 262), E P (S "check_walls") 512 (.ref 269), E P (S "check_bars") 522 (.ref 276), E P (S "check_side") 530 (.ref 283), E P (S "check_room") 538 (.ref 290), E P (S "straight_from") 544 (.ref 295), E P (S "reached") 557 (.ref 302), E P (S "all_forced") 563 (.ref 307), E P (S "check_fixed") 571 (.ref 314), E P (S "check_alike") 580 (.ref 321), E P (S "Hall") 727 (.ref 439), E P (S "is_part") 740 (.ref 450), E P (S "check_part") 748 (.ref 457), E P (S "all_forced_by") 754 (.ref 462), E P (S "torn_walls") 760 (.ref 467), E P (S "shut") 769 (.ref 474), E P (S "shut_calls") 777 (.ref 479), E P (S "is_fixed") 786 (.ref 486), E P (S "stand_on") 794 (.ref 493), E P (S "is_entry") 803 (.ref 500)]) 46), (W [])⟩
def o301 (P : Params) : Obj := ⟨.none, none, (.fields (V [(.int 1 0), (.int 0 0), (.ref 20), (.int 5 0), (.int 0 0), (.ref 27), (.int 10 0), (.int 0 0), (.ref 47), (.int 14 0), (.int 0 0), (.ref 66), (.int 19 0), (.int 0 0), (.ref 85), (.int 23 0), (.int 0 0), (.ref 104), (.int 28 0), (.int 0 0), (.ref 123), (.int 34 0), (.int 0 0), (.ref 142), (.int 38 0), (.int 0 0), (.ref 161), (.int 42 0), (.int 0 0), (.ref 180), (.int 47 0), (.int 0 0), (.ref 199), (.int 52 0), (.int 0 0), (.ref 218), (.int 59 0), (.int 0 0), (.ref 237), (.int 61 0), (.int 0 0), (.ref 244), (.int 63 0), (.int 0 0), (.ref 249), (.int 65 0), (.int 0 0), (.ref 254), (.int 68 0), (.int 0 0), (.ref 261), (.int 73 0), (.int 0 0), (.ref 268), (.int 76 0), (.int 0 0), (.ref 275), (.int 80 0), (.int 0 0), (.ref 282), (.int 83 0), (.int 0 0), (.ref 289), (.int 86 0), (.int 0 0), (.ref 294), (.int 92 0), (.int 0 0), (.ref 301), (.int 104 0), (.int 0 0), (.ref 306), (.int 107 0), (.int 0 0), (.ref 313), (.int 111 0), (.int 0 0), (.ref 320), (.int 116 0), (.int 0 0), (.ref 327), (.int 182 0), (.int 0 0), (.ref 449), (.int 190 0), (.int 0 0), (.ref 456), (.int 193 0), (.int 0 0), (.ref 461), (.int 195 0), (.int 0 0), (.ref 466), (.int 198 0), (.int 0 0), (.ref 473), (.int 205 0), (.int 0 0), (.ref 478), (.int 210 0), (.int 0 0), (.ref 485), (.int 212 0), (.int 0 0), (.ref 492), (.int 214 0), (.int 0 0), (.ref 499)])), (W [])⟩
def o302 (P : Params) : Obj := ⟨(.type "tuple"), none, (.seq (V []) 0), (W [])⟩
def o303 (P : Params) : Obj := ⟨.none, none, (.fields (V [])), (W [])⟩
def o304 (P : Params) : Obj := ⟨.none, none, (.func ⟨(S "all_forced"), (S "all_forced"), (defArgs (ST 26)), (.stmts (defBody (ST 26))), (defScope (ST 26)), 0, [], .none, .none, .none, .none, none, .none, .none, 0⟩), (W [])⟩
def o305 (P : Params) : Obj := ⟨(.type "code"), none, (.fields (V [(.str (S "all_forced") 558), (.str (S "all_forced") 559), (.str (S "/claim/cut.py") 560), (.int 104 0), (.int 2 0), (.int 0 0), (.int 0 0), (.int 3 0), (.ref 303), (.bool true), (.int 181 0), (.ref 304), .none, .none, .none, (.ref 305), (.int 561 0), (.int 104 0), (.str (S "/claim/cut.py") 562)])), (W [])⟩
def o306 (P : Params) : Obj := ⟨(.type "function"), none, (.func ⟨(S "all_forced"), (S "all_forced"), (defArgs (ST 26)), (.stmts (defBody (ST 26))), (defScope (ST 26)), 3, [], .none, .none, .none, (.str (S "nearcall.halls") 467), none, (.ref 306), .none, 0⟩), (W [])⟩
def o307 (P : Params) : Obj := ⟨(.type "tuple"), none, (.seq (V []) 0), (W [])⟩
def o308 (P : Params) : Obj := ⟨.none, none, (.fields (V [])), (W [])⟩
def o309 (P : Params) : Obj := ⟨(.type "tuple"), none, (.seq (V [(.str (S "forced_by") 567), (.str (S "side") 568)]) 0), (W [])⟩
def o310 (P : Params) : Obj := ⟨(.type "tuple"), none, (.seq (V []) 0), (W [])⟩
def o311 (P : Params) : Obj := ⟨.none, none, (.func ⟨(S "check_fixed"), (S "check_fixed"), (defArgs (ST 27)), (.stmts (defBody (ST 27))), (defScope (ST 27)), 0, [], .none, .none, .none, .none, none, .none, .none, 0⟩), (W [])⟩
def o312 (P : Params) : Obj := ⟨(.type "code"), none, (.fields (V [(.str (S "check_fixed") 564), (.str (S "check_fixed") 565), (.str (S "/claim/cut.py") 566), (.int 107 0), (.int 1 0), (.int 0 0), (.int 0 0), (.int 3 0), (.ref 308), (.bool true), (.int 181 0), (.ref 309), .none, (.ref 310), (.ref 311), (.ref 312), (.int 569 0), (.int 107 0), (.str (S "/claim/cut.py") 570)])), (W [])⟩
def o313 (P : Params) : Obj := ⟨(.type "function"), none, (.func ⟨(S "check_fixed"), (S "check_fixed"), (defArgs (ST 27)), (.stmts (defBody (ST 27))), (defScope (ST 27)), 3, [], .none, .none, .none, (.str (S "nearcall.halls") 467), none, (.ref 313), .none, 0⟩), (W [])⟩
def o314 (P : Params) : Obj := ⟨(.type "tuple"), none, (.seq (V []) 0), (W [])⟩
def o315 (P : Params) : Obj := ⟨.none, none, (.fields (V [])), (W [])⟩
def o316 (P : Params) : Obj := ⟨(.type "tuple"), none, (.seq (V [(.str (S "forced_by") 575), (.str (S "side") 576), (.str (S "met") 577)]) 0), (W [])⟩
def o317 (P : Params) : Obj := ⟨(.type "tuple"), none, (.seq (V []) 0), (W [])⟩
def o318 (P : Params) : Obj := ⟨.none, none, (.func ⟨(S "check_alike"), (S "check_alike"), (defArgs (ST 28)), (.stmts (defBody (ST 28))), (defScope (ST 28)), 0, [], .none, .none, .none, .none, none, .none, .none, 0⟩), (W [])⟩
def o319 (P : Params) : Obj := ⟨(.type "code"), none, (.fields (V [(.str (S "check_alike") 572), (.str (S "check_alike") 573), (.str (S "/claim/cut.py") 574), (.int 111 0), (.int 1 0), (.int 0 0), (.int 0 0), (.int 3 0), (.ref 315), (.bool true), (.int 181 0), (.ref 316), .none, (.ref 317), (.ref 318), (.ref 319), (.int 578 0), (.int 111 0), (.str (S "/claim/cut.py") 579)])), (W [])⟩
def o320 (P : Params) : Obj := ⟨(.type "function"), none, (.func ⟨(S "check_alike"), (S "check_alike"), (defArgs (ST 28)), (.stmts (defBody (ST 28))), (defScope (ST 28)), 3, [], .none, .none, .none, (.str (S "nearcall.halls") 467), none, (.ref 320), .none, 0⟩), (W [])⟩
def o321 (P : Params) : Obj := ⟨(.type "tuple"), none, (.seq (V []) 0), (W [])⟩
def o322 (P : Params) : Obj := ⟨(.type "builtin_function_or_method"), none, (.fields (V [(.builtin "type.__prepare__"), (.type "type")])), (W [])⟩
def o323 (P : Params) : Obj := ⟨(.type "dict"), none, (.dict (D [E P (S "__module__") 588 (.str (S "nearcall.halls") 467), E P (S "__qualname__") 590 (.str (S "Hall") 589), E P (S "__firstlineno__") 592 (.int 116 591), E P (S "__init__") 602 (.ref 337), E P (S "walls") 609 (.ref 344), E P (S "bars") 616 (.ref 351), E P (S "forced") 624 (.ref 358), E P (S "forces") 633 (.ref 365), E P (S "is_room") 639 (.ref 370), E P (S "rooms") 645 (.ref 375), E P (S "goes_with") 651 (.ref 380), E P (S "doors") 659 (.ref 387), E P (S "steps") 668 (.ref 394), E P (S "way") 677 (.ref 401), E P (S "nearer") 686 (.ref 408), E P (S "__eq__") 694 (.ref 415), E P (S "__len__") 701 (.ref 422), E P (S "__str__") 708 (.ref 429), E P (S "__repr__") 715 (.ref 436), E P (S "__static_attributes__") 719 (.ref 437)]) 20), (W [])⟩
def o324 (P : Params) : Obj := ⟨(.type "tuple"), none, (.seq (V []) 0), (W [])⟩
def o325 (P : Params) : Obj := ⟨.none, none, (.fields (V [(.int 118 0), (.int 4 0), (.ref 336), (.int 128 0), (.int 4 0), (.ref 343), (.int 131 0), (.int 4 0), (.ref 350), (.int 134 0), (.int 4 0), (.ref 357), (.int 138 0), (.int 4 0), (.ref 364), (.int 143 0), (.int 4 0), (.ref 369), (.int 148 0), (.int 4 0), (.ref 374), (.int 154 0), (.int 4 0), (.ref 379), (.int 158 0), (.int 4 0), (.ref 386), (.int 161 0), (.int 4 0), (.ref 393), (.int 164 0), (.int 4 0), (.ref 400), (.int 167 0), (.int 4 0), (.ref 407), (.int 170 0), (.int 4 0), (.ref 414), (.int 173 0), (.int 4 0), (.ref 421), (.int 176 0), (.int 4 0), (.ref 428), (.int 179 0), (.int 4 0), (.ref 435)])), (W [])⟩
def o326 (P : Params) : Obj := ⟨(.type "code"), none, (.fields (V [(.str (S "Hall") 583), (.str (S "Hall") 584), (.str (S "/claim/cut.py") 585), (.int 116 0), (.int 0 0), (.int 0 0), (.int 0 0), (.int 0 0), (.ref 325), (.bool false), (.int 181 0), (.ref 326), .none, .none, .none, .none, (.int 586 0), (.int 116 0), (.str (S "/claim/cut.py") 587)])), (W [])⟩
def o327 (P : Params) : Obj := ⟨(.type "frame"), none, .plain, (W [(some (.ref 327)), (some (.ref 3)), (some (.ref 324)), none, (some (.str (S "nearcall.halls") 467)), none, (some (.ref 0))])⟩
def o328 (P : Params) : Obj := ⟨(.type "tuple"), none, (.seq (V []) 0), (W [])⟩
def o329 (P : Params) : Obj := ⟨(.type "tuple"), none, (.seq (V [(.ref 329)]) 0), (W [])⟩
def o330 (P : Params) : Obj := ⟨(.type "tuple"), none, (.seq (V []) 0), (W [])⟩
def o331 (P : Params) : Obj := ⟨.none, none, (.fields (V [])), (W [])⟩
def o332 (P : Params) : Obj := ⟨(.type "tuple"), none, (.seq (V [(.str (S "self") 596), (.str (S "walls") 597), (.str (S "bars") 598), (.str (S "forced_by") 599)]) 0), (W [])⟩
def o333 (P : Params) : Obj := ⟨(.type "tuple"), none, (.seq (V []) 0), (W [])⟩
def o334 (P : Params) : Obj := ⟨.none, none, (.func ⟨(S "__init__"), (S "Hall.__init__"), (defArgs (inClass (ST 29) 0)), (.stmts (defBody (inClass (ST 29) 0))), (defScope (inClass (ST 29) 0)), 0, [], .none, .none, .none, .none, none, .none, .none, 0⟩), (W [])⟩
def o335 (P : Params) : Obj := ⟨(.type "code"), none, (.fields (V [(.str (S "__init__") 593), (.str (S "Hall.__init__") 594), (.str (S "/claim/cut.py") 595), (.int 118 0), (.int 3 0), (.int 0 0), (.int 0 0), (.int 3 0), (.ref 331), (.bool true), (.int 181 0), (.ref 332), .none, (.ref 333), (.ref 334), (.ref 335), (.int 600 0), (.int 118 0), (.str (S "/claim/cut.py") 601)])), (W [])⟩
def o336 (P : Params) : Obj := ⟨(.type "function"), none, (.func ⟨(S "__init__"), (S "Hall.__init__"), (defArgs (inClass (ST 29) 0)), (.stmts (defBody (inClass (ST 29) 0))), (defScope (inClass (ST 29) 0)), 3, [], (.ref 330), .none, .none, (.str (S "nearcall.halls") 467), none, (.ref 336), .none, 0⟩), (W [])⟩
def o337 (P : Params) : Obj := ⟨(.type "tuple"), none, (.seq (V []) 0), (W [])⟩
def o338 (P : Params) : Obj := ⟨.none, none, (.fields (V [])), (W [])⟩
def o339 (P : Params) : Obj := ⟨(.type "tuple"), none, (.seq (V [(.str (S "self") 606)]) 0), (W [])⟩
def o340 (P : Params) : Obj := ⟨(.type "tuple"), none, (.seq (V []) 0), (W [])⟩
def o341 (P : Params) : Obj := ⟨.none, none, (.func ⟨(S "walls"), (S "Hall.walls"), (defArgs (inClass (ST 29) 1)), (.stmts (defBody (inClass (ST 29) 1))), (defScope (inClass (ST 29) 1)), 0, [], .none, .none, .none, .none, none, .none, .none, 0⟩), (W [])⟩
def o342 (P : Params) : Obj := ⟨(.type "code"), none, (.fields (V [(.str (S "walls") 603), (.str (S "Hall.walls") 604), (.str (S "/claim/cut.py") 605), (.int 128 0), (.int 1 0), (.int 0 0), (.int 0 0), (.int 3 0), (.ref 338), (.bool true), (.int 181 0), (.ref 339), .none, (.ref 340), (.ref 341), (.ref 342), (.int 607 0), (.int 128 0), (.str (S "/claim/cut.py") 608)])), (W [])⟩
def o343 (P : Params) : Obj := ⟨(.type "function"), none, (.func ⟨(S "walls"), (S "Hall.walls"), (defArgs (inClass (ST 29) 1)), (.stmts (defBody (inClass (ST 29) 1))), (defScope (inClass (ST 29) 1)), 3, [], .none, .none, .none, (.str (S "nearcall.halls") 467), none, (.ref 343), .none, 0⟩), (W [])⟩
def o344 (P : Params) : Obj := ⟨(.type "tuple"), none, (.seq (V []) 0), (W [])⟩
def o345 (P : Params) : Obj := ⟨.none, none, (.fields (V [])), (W [])⟩
def o346 (P : Params) : Obj := ⟨(.type "tuple"), none, (.seq (V [(.str (S "self") 613)]) 0), (W [])⟩
def o347 (P : Params) : Obj := ⟨(.type "tuple"), none, (.seq (V []) 0), (W [])⟩
def o348 (P : Params) : Obj := ⟨.none, none, (.func ⟨(S "bars"), (S "Hall.bars"), (defArgs (inClass (ST 29) 2)), (.stmts (defBody (inClass (ST 29) 2))), (defScope (inClass (ST 29) 2)), 0, [], .none, .none, .none, .none, none, .none, .none, 0⟩), (W [])⟩
def o349 (P : Params) : Obj := ⟨(.type "code"), none, (.fields (V [(.str (S "bars") 610), (.str (S "Hall.bars") 611), (.str (S "/claim/cut.py") 612), (.int 131 0), (.int 1 0), (.int 0 0), (.int 0 0), (.int 3 0), (.ref 345), (.bool true), (.int 181 0), (.ref 346), .none, (.ref 347), (.ref 348), (.ref 349), (.int 614 0), (.int 131 0), (.str (S "/claim/cut.py") 615)])), (W [])⟩
def o350 (P : Params) : Obj := ⟨(.type "function"), none, (.func ⟨(S "bars"), (S "Hall.bars"), (defArgs (inClass (ST 29) 2)), (.stmts (defBody (inClass (ST 29) 2))), (defScope (inClass (ST 29) 2)), 3, [], .none, .none, .none, (.str (S "nearcall.halls") 467), none, (.ref 350), .none, 0⟩), (W [])⟩
def o351 (P : Params) : Obj := ⟨(.type "tuple"), none, (.seq (V []) 0), (W [])⟩
def o352 (P : Params) : Obj := ⟨.none, none, (.fields (V [])), (W [])⟩
def o353 (P : Params) : Obj := ⟨(.type "tuple"), none, (.seq (V [(.str (S "self") 620), (.str (S "side") 621)]) 0), (W [])⟩
def o354 (P : Params) : Obj := ⟨(.type "tuple"), none, (.seq (V []) 0), (W [])⟩
def o355 (P : Params) : Obj := ⟨.none, none, (.func ⟨(S "forced"), (S "Hall.forced"), (defArgs (inClass (ST 29) 3)), (.stmts (defBody (inClass (ST 29) 3))), (defScope (inClass (ST 29) 3)), 0, [], .none, .none, .none, .none, none, .none, .none, 0⟩), (W [])⟩
def o356 (P : Params) : Obj := ⟨(.type "code"), none, (.fields (V [(.str (S "forced") 617), (.str (S "Hall.forced") 618), (.str (S "/claim/cut.py") 619), (.int 134 0), (.int 2 0), (.int 0 0), (.int 0 0), (.int 3 0), (.ref 352), (.bool true), (.int 181 0), (.ref 353), .none, (.ref 354), (.ref 355), (.ref 356), (.int 622 0), (.int 134 0), (.str (S "/claim/cut.py") 623)])), (W [])⟩
def o357 (P : Params) : Obj := ⟨(.type "function"), none, (.func ⟨(S "forced"), (S "Hall.forced"), (defArgs (inClass (ST 29) 3)), (.stmts (defBody (inClass (ST 29) 3))), (defScope (inClass (ST 29) 3)), 3, [], .none, .none, .none, (.str (S "nearcall.halls") 467), none, (.ref 357), .none, 0⟩), (W [])⟩
def o358 (P : Params) : Obj := ⟨(.type "tuple"), none, (.seq (V []) 0), (W [])⟩
def o359 (P : Params) : Obj := ⟨.none, none, (.fields (V [])), (W [])⟩
def o360 (P : Params) : Obj := ⟨(.type "tuple"), none, (.seq (V [(.str (S "self") 628), (.str (S "one") 629), (.str (S "two") 630)]) 0), (W [])⟩
def o361 (P : Params) : Obj := ⟨(.type "tuple"), none, (.seq (V []) 0), (W [])⟩
def o362 (P : Params) : Obj := ⟨.none, none, (.func ⟨(S "forces"), (S "Hall.forces"), (defArgs (inClass (ST 29) 4)), (.stmts (defBody (inClass (ST 29) 4))), (defScope (inClass (ST 29) 4)), 0, [], .none, .none, .none, .none, none, .none, .none, 0⟩), (W [])⟩
def o363 (P : Params) : Obj := ⟨(.type "code"), none, (.fields (V [(.str (S "forces") 625), (.str (S "Hall.forces") 626), (.str (S "/claim/cut.py") 627), (.int 138 0), (.int 3 0), (.int 0 0), (.int 0 0), (.int 3 0), (.ref 359), (.bool true), (.int 181 0), (.ref 360), .none, (.ref 361), (.ref 362), (.ref 363), (.int 631 0), (.int 138 0), (.str (S "/claim/cut.py") 632)])), (W [])⟩
def o364 (P : Params) : Obj := ⟨(.type "function"), none, (.func ⟨(S "forces"), (S "Hall.forces"), (defArgs (inClass (ST 29) 4)), (.stmts (defBody (inClass (ST 29) 4))), (defScope (inClass (ST 29) 4)), 3, [], .none, .none, .none, (.str (S "nearcall.halls") 467), none, (.ref 364), .none, 0⟩), (W [])⟩
def o365 (P : Params) : Obj := ⟨(.type "tuple"), none, (.seq (V []) 0), (W [])⟩
def o366 (P : Params) : Obj := ⟨.none, none, (.fields (V [])), (W [])⟩
def o367 (P : Params) : Obj := ⟨.none, none, (.func ⟨(S "is_room"), (S "Hall.is_room"), (defArgs (inClass (ST 29) 5)), (.stmts (defBody (inClass (ST 29) 5))), (defScope (inClass (ST 29) 5)), 0, [], .none, .none, .none, .none, none, .none, .none, 0⟩), (W [])⟩
def o368 (P : Params) : Obj := ⟨(.type "code"), none, (.fields (V [(.str (S "is_room") 634), (.str (S "Hall.is_room") 635), (.str (S "/claim/cut.py") 636), (.int 143 0), (.int 2 0), (.int 0 0), (.int 0 0), (.int 3 0), (.ref 366), (.bool true), (.int 181 0), (.ref 367), .none, .none, .none, (.ref 368), (.int 637 0), (.int 143 0), (.str (S "/claim/cut.py") 638)])), (W [])⟩
def o369 (P : Params) : Obj := ⟨(.type "function"), none, (.func ⟨(S "is_room"), (S "Hall.is_room"), (defArgs (inClass (ST 29) 5)), (.stmts (defBody (inClass (ST 29) 5))), (defScope (inClass (ST 29) 5)), 3, [], .none, .none, .none, (.str (S "nearcall.halls") 467), none, (.ref 369), .none, 0⟩), (W [])⟩
def o370 (P : Params) : Obj := ⟨(.type "tuple"), none, (.seq (V []) 0), (W [])⟩
def o371 (P : Params) : Obj := ⟨.none, none, (.fields (V [])), (W [])⟩
def o372 (P : Params) : Obj := ⟨.none, none, (.func ⟨(S "rooms"), (S "Hall.rooms"), (defArgs (inClass (ST 29) 6)), (.stmts (defBody (inClass (ST 29) 6))), (defScope (inClass (ST 29) 6)), 0, [], .none, .none, .none, .none, none, .none, .none, 0⟩), (W [])⟩
def o373 (P : Params) : Obj := ⟨(.type "code"), none, (.fields (V [(.str (S "rooms") 640), (.str (S "Hall.rooms") 641), (.str (S "/claim/cut.py") 642), (.int 148 0), (.int 1 0), (.int 0 0), (.int 0 0), (.int 3 0), (.ref 371), (.bool true), (.int 181 0), (.ref 372), .none, .none, .none, (.ref 373), (.int 643 0), (.int 148 0), (.str (S "/claim/cut.py") 644)])), (W [])⟩
def o374 (P : Params) : Obj := ⟨(.type "function"), none, (.func ⟨(S "rooms"), (S "Hall.rooms"), (defArgs (inClass (ST 29) 6)), (.stmts (defBody (inClass (ST 29) 6))), (defScope (inClass (ST 29) 6)), 3, [], .none, .none, .none, (.str (S "nearcall.halls") 467), none, (.ref 374), .none, 0⟩), (W [])⟩
def o375 (P : Params) : Obj := ⟨(.type "tuple"), none, (.seq (V []) 0), (W [])⟩
def o376 (P : Params) : Obj := ⟨.none, none, (.fields (V [])), (W [])⟩
def o377 (P : Params) : Obj := ⟨.none, none, (.func ⟨(S "goes_with"), (S "Hall.goes_with"), (defArgs (inClass (ST 29) 7)), (.stmts (defBody (inClass (ST 29) 7))), (defScope (inClass (ST 29) 7)), 0, [], .none, .none, .none, .none, none, .none, .none, 0⟩), (W [])⟩
def o378 (P : Params) : Obj := ⟨(.type "code"), none, (.fields (V [(.str (S "goes_with") 646), (.str (S "Hall.goes_with") 647), (.str (S "/claim/cut.py") 648), (.int 154 0), (.int 3 0), (.int 0 0), (.int 0 0), (.int 3 0), (.ref 376), (.bool true), (.int 181 0), (.ref 377), .none, .none, .none, (.ref 378), (.int 649 0), (.int 154 0), (.str (S "/claim/cut.py") 650)])), (W [])⟩
def o379 (P : Params) : Obj := ⟨(.type "function"), none, (.func ⟨(S "goes_with"), (S "Hall.goes_with"), (defArgs (inClass (ST 29) 7)), (.stmts (defBody (inClass (ST 29) 7))), (defScope (inClass (ST 29) 7)), 3, [], .none, .none, .none, (.str (S "nearcall.halls") 467), none, (.ref 379), .none, 0⟩), (W [])⟩
def o380 (P : Params) : Obj := ⟨(.type "tuple"), none, (.seq (V []) 0), (W [])⟩
def o381 (P : Params) : Obj := ⟨.none, none, (.fields (V [])), (W [])⟩
def o382 (P : Params) : Obj := ⟨(.type "tuple"), none, (.seq (V [(.str (S "self") 655), (.str (S "room") 656)]) 0), (W [])⟩
def o383 (P : Params) : Obj := ⟨(.type "tuple"), none, (.seq (V []) 0), (W [])⟩
def o384 (P : Params) : Obj := ⟨.none, none, (.func ⟨(S "doors"), (S "Hall.doors"), (defArgs (inClass (ST 29) 8)), (.stmts (defBody (inClass (ST 29) 8))), (defScope (inClass (ST 29) 8)), 0, [], .none, .none, .none, .none, none, .none, .none, 0⟩), (W [])⟩
def o385 (P : Params) : Obj := ⟨(.type "code"), none, (.fields (V [(.str (S "doors") 652), (.str (S "Hall.doors") 653), (.str (S "/claim/cut.py") 654), (.int 158 0), (.int 2 0), (.int 0 0), (.int 0 0), (.int 3 0), (.ref 381), (.bool true), (.int 181 0), (.ref 382), .none, (.ref 383), (.ref 384), (.ref 385), (.int 657 0), (.int 158 0), (.str (S "/claim/cut.py") 658)])), (W [])⟩
def o386 (P : Params) : Obj := ⟨(.type "function"), none, (.func ⟨(S "doors"), (S "Hall.doors"), (defArgs (inClass (ST 29) 8)), (.stmts (defBody (inClass (ST 29) 8))), (defScope (inClass (ST 29) 8)), 3, [], .none, .none, .none, (.str (S "nearcall.halls") 467), none, (.ref 386), .none, 0⟩), (W [])⟩
def o387 (P : Params) : Obj := ⟨(.type "tuple"), none, (.seq (V []) 0), (W [])⟩
def o388 (P : Params) : Obj := ⟨.none, none, (.fields (V [])), (W [])⟩
def o389 (P : Params) : Obj := ⟨(.type "tuple"), none, (.seq (V [(.str (S "self") 663), (.str (S "room") 664), (.str (S "goal") 665)]) 0), (W [])⟩
def o390 (P : Params) : Obj := ⟨(.type "tuple"), none, (.seq (V []) 0), (W [])⟩
def o391 (P : Params) : Obj := ⟨.none, none, (.func ⟨(S "steps"), (S "Hall.steps"), (defArgs (inClass (ST 29) 9)), (.stmts (defBody (inClass (ST 29) 9))), (defScope (inClass (ST 29) 9)), 0, [], .none, .none, .none, .none, none, .none, .none, 0⟩), (W [])⟩
def o392 (P : Params) : Obj := ⟨(.type "code"), none, (.fields (V [(.str (S "steps") 660), (.str (S "Hall.steps") 661), (.str (S "/claim/cut.py") 662), (.int 161 0), (.int 3 0), (.int 0 0), (.int 0 0), (.int 3 0), (.ref 388), (.bool true), (.int 181 0), (.ref 389), .none, (.ref 390), (.ref 391), (.ref 392), (.int 666 0), (.int 161 0), (.str (S "/claim/cut.py") 667)])), (W [])⟩
def o393 (P : Params) : Obj := ⟨(.type "function"), none, (.func ⟨(S "steps"), (S "Hall.steps"), (defArgs (inClass (ST 29) 9)), (.stmts (defBody (inClass (ST 29) 9))), (defScope (inClass (ST 29) 9)), 3, [], .none, .none, .none, (.str (S "nearcall.halls") 467), none, (.ref 393), .none, 0⟩), (W [])⟩
def o394 (P : Params) : Obj := ⟨(.type "tuple"), none, (.seq (V []) 0), (W [])⟩
def o395 (P : Params) : Obj := ⟨.none, none, (.fields (V [])), (W [])⟩
def o396 (P : Params) : Obj := ⟨(.type "tuple"), none, (.seq (V [(.str (S "self") 672), (.str (S "room") 673), (.str (S "goal") 674)]) 0), (W [])⟩
def o397 (P : Params) : Obj := ⟨(.type "tuple"), none, (.seq (V []) 0), (W [])⟩
def o398 (P : Params) : Obj := ⟨.none, none, (.func ⟨(S "way"), (S "Hall.way"), (defArgs (inClass (ST 29) 10)), (.stmts (defBody (inClass (ST 29) 10))), (defScope (inClass (ST 29) 9)), 0, [], .none, .none, .none, .none, none, .none, .none, 0⟩), (W [])⟩
def o399 (P : Params) : Obj := ⟨(.type "code"), none, (.fields (V [(.str (S "way") 669), (.str (S "Hall.way") 670), (.str (S "/claim/cut.py") 671), (.int 164 0), (.int 3 0), (.int 0 0), (.int 0 0), (.int 3 0), (.ref 395), (.bool true), (.int 181 0), (.ref 396), .none, (.ref 397), (.ref 398), (.ref 399), (.int 675 0), (.int 164 0), (.str (S "/claim/cut.py") 676)])), (W [])⟩
def o400 (P : Params) : Obj := ⟨(.type "function"), none, (.func ⟨(S "way"), (S "Hall.way"), (defArgs (inClass (ST 29) 10)), (.stmts (defBody (inClass (ST 29) 10))), (defScope (inClass (ST 29) 9)), 3, [], .none, .none, .none, (.str (S "nearcall.halls") 467), none, (.ref 400), .none, 0⟩), (W [])⟩
def o401 (P : Params) : Obj := ⟨(.type "tuple"), none, (.seq (V []) 0), (W [])⟩
def o402 (P : Params) : Obj := ⟨.none, none, (.fields (V [])), (W [])⟩
def o403 (P : Params) : Obj := ⟨(.type "tuple"), none, (.seq (V [(.str (S "self") 681), (.str (S "room") 682), (.str (S "goal") 683)]) 0), (W [])⟩
def o404 (P : Params) : Obj := ⟨(.type "tuple"), none, (.seq (V []) 0), (W [])⟩
def o405 (P : Params) : Obj := ⟨.none, none, (.func ⟨(S "nearer"), (S "Hall.nearer"), (defArgs (inClass (ST 29) 11)), (.stmts (defBody (inClass (ST 29) 11))), (defScope (inClass (ST 29) 9)), 0, [], .none, .none, .none, .none, none, .none, .none, 0⟩), (W [])⟩
def o406 (P : Params) : Obj := ⟨(.type "code"), none, (.fields (V [(.str (S "nearer") 678), (.str (S "Hall.nearer") 679), (.str (S "/claim/cut.py") 680), (.int 167 0), (.int 3 0), (.int 0 0), (.int 0 0), (.int 3 0), (.ref 402), (.bool true), (.int 181 0), (.ref 403), .none, (.ref 404), (.ref 405), (.ref 406), (.int 684 0), (.int 167 0), (.str (S "/claim/cut.py") 685)])), (W [])⟩
def o407 (P : Params) : Obj := ⟨(.type "function"), none, (.func ⟨(S "nearer"), (S "Hall.nearer"), (defArgs (inClass (ST 29) 11)), (.stmts (defBody (inClass (ST 29) 11))), (defScope (inClass (ST 29) 9)), 3, [], .none, .none, .none, (.str (S "nearcall.halls") 467), none, (.ref 407), .none, 0⟩), (W [])⟩
def o408 (P : Params) : Obj := ⟨(.type "tuple"), none, (.seq (V []) 0), (W [])⟩
def o409 (P : Params) : Obj := ⟨.none, none, (.fields (V [])), (W [])⟩
def o410 (P : Params) : Obj := ⟨(.type "tuple"), none, (.seq (V [(.str (S "self") 690), (.str (S "thing") 691)]) 0), (W [])⟩
def o411 (P : Params) : Obj := ⟨(.type "tuple"), none, (.seq (V []) 0), (W [])⟩
def o412 (P : Params) : Obj := ⟨.none, none, (.func ⟨(S "__eq__"), (S "Hall.__eq__"), (defArgs (inClass (ST 29) 12)), (.stmts (defBody (inClass (ST 29) 12))), (defScope (inClass (ST 29) 12)), 0, [], .none, .none, .none, .none, none, .none, .none, 0⟩), (W [])⟩
def o413 (P : Params) : Obj := ⟨(.type "code"), none, (.fields (V [(.str (S "__eq__") 687), (.str (S "Hall.__eq__") 688), (.str (S "/claim/cut.py") 689), (.int 170 0), (.int 2 0), (.int 0 0), (.int 0 0), (.int 3 0), (.ref 409), (.bool true), (.int 181 0), (.ref 410), .none, (.ref 411), (.ref 412), (.ref 413), (.int 692 0), (.int 170 0), (.str (S "/claim/cut.py") 693)])), (W [])⟩
def o414 (P : Params) : Obj := ⟨(.type "function"), none, (.func ⟨(S "__eq__"), (S "Hall.__eq__"), (defArgs (inClass (ST 29) 12)), (.stmts (defBody (inClass (ST 29) 12))), (defScope (inClass (ST 29) 12)), 3, [], .none, .none, .none, (.str (S "nearcall.halls") 467), none, (.ref 414), .none, 0⟩), (W [])⟩
def o415 (P : Params) : Obj := ⟨(.type "tuple"), none, (.seq (V []) 0), (W [])⟩
def o416 (P : Params) : Obj := ⟨.none, none, (.fields (V [])), (W [])⟩
def o417 (P : Params) : Obj := ⟨(.type "tuple"), none, (.seq (V [(.str (S "self") 698)]) 0), (W [])⟩
def o418 (P : Params) : Obj := ⟨(.type "tuple"), none, (.seq (V []) 0), (W [])⟩
def o419 (P : Params) : Obj := ⟨.none, none, (.func ⟨(S "__len__"), (S "Hall.__len__"), (defArgs (inClass (ST 29) 13)), (.stmts (defBody (inClass (ST 29) 13))), (defScope (inClass (ST 29) 13)), 0, [], .none, .none, .none, .none, none, .none, .none, 0⟩), (W [])⟩
def o420 (P : Params) : Obj := ⟨(.type "code"), none, (.fields (V [(.str (S "__len__") 695), (.str (S "Hall.__len__") 696), (.str (S "/claim/cut.py") 697), (.int 173 0), (.int 1 0), (.int 0 0), (.int 0 0), (.int 3 0), (.ref 416), (.bool true), (.int 181 0), (.ref 417), .none, (.ref 418), (.ref 419), (.ref 420), (.int 699 0), (.int 173 0), (.str (S "/claim/cut.py") 700)])), (W [])⟩
def o421 (P : Params) : Obj := ⟨(.type "function"), none, (.func ⟨(S "__len__"), (S "Hall.__len__"), (defArgs (inClass (ST 29) 13)), (.stmts (defBody (inClass (ST 29) 13))), (defScope (inClass (ST 29) 13)), 3, [], .none, .none, .none, (.str (S "nearcall.halls") 467), none, (.ref 421), .none, 0⟩), (W [])⟩
def o422 (P : Params) : Obj := ⟨(.type "tuple"), none, (.seq (V []) 0), (W [])⟩
def o423 (P : Params) : Obj := ⟨.none, none, (.fields (V [])), (W [])⟩
def o424 (P : Params) : Obj := ⟨(.type "tuple"), none, (.seq (V [(.str (S "self") 705)]) 0), (W [])⟩
def o425 (P : Params) : Obj := ⟨(.type "tuple"), none, (.seq (V []) 0), (W [])⟩
def o426 (P : Params) : Obj := ⟨.none, none, (.func ⟨(S "__str__"), (S "Hall.__str__"), (defArgs (inClass (ST 29) 14)), (.stmts (defBody (inClass (ST 29) 14))), (defScope (inClass (ST 29) 1)), 0, [], .none, .none, .none, .none, none, .none, .none, 0⟩), (W [])⟩
def o427 (P : Params) : Obj := ⟨(.type "code"), none, (.fields (V [(.str (S "__str__") 702), (.str (S "Hall.__str__") 703), (.str (S "/claim/cut.py") 704), (.int 176 0), (.int 1 0), (.int 0 0), (.int 0 0), (.int 3 0), (.ref 423), (.bool true), (.int 181 0), (.ref 424), .none, (.ref 425), (.ref 426), (.ref 427), (.int 706 0), (.int 176 0), (.str (S "/claim/cut.py") 707)])), (W [])⟩
def o428 (P : Params) : Obj := ⟨(.type "function"), none, (.func ⟨(S "__str__"), (S "Hall.__str__"), (defArgs (inClass (ST 29) 14)), (.stmts (defBody (inClass (ST 29) 14))), (defScope (inClass (ST 29) 1)), 3, [], .none, .none, .none, (.str (S "nearcall.halls") 467), none, (.ref 428), .none, 0⟩), (W [])⟩
def o429 (P : Params) : Obj := ⟨(.type "tuple"), none, (.seq (V []) 0), (W [])⟩
def o430 (P : Params) : Obj := ⟨.none, none, (.fields (V [])), (W [])⟩
def o431 (P : Params) : Obj := ⟨(.type "tuple"), none, (.seq (V [(.str (S "self") 712)]) 0), (W [])⟩
def o432 (P : Params) : Obj := ⟨(.type "tuple"), none, (.seq (V []) 0), (W [])⟩
def o433 (P : Params) : Obj := ⟨.none, none, (.func ⟨(S "__repr__"), (S "Hall.__repr__"), (defArgs (inClass (ST 29) 15)), (.stmts (defBody (inClass (ST 29) 15))), (defScope (inClass (ST 29) 13)), 0, [], .none, .none, .none, .none, none, .none, .none, 0⟩), (W [])⟩
def o434 (P : Params) : Obj := ⟨(.type "code"), none, (.fields (V [(.str (S "__repr__") 709), (.str (S "Hall.__repr__") 710), (.str (S "/claim/cut.py") 711), (.int 179 0), (.int 1 0), (.int 0 0), (.int 0 0), (.int 3 0), (.ref 430), (.bool true), (.int 181 0), (.ref 431), .none, (.ref 432), (.ref 433), (.ref 434), (.int 713 0), (.int 179 0), (.str (S "/claim/cut.py") 714)])), (W [])⟩
def o435 (P : Params) : Obj := ⟨(.type "function"), none, (.func ⟨(S "__repr__"), (S "Hall.__repr__"), (defArgs (inClass (ST 29) 15)), (.stmts (defBody (inClass (ST 29) 15))), (defScope (inClass (ST 29) 13)), 3, [], .none, .none, .none, (.str (S "nearcall.halls") 467), none, (.ref 435), .none, 0⟩), (W [])⟩
def o436 (P : Params) : Obj := ⟨(.type "tuple"), none, (.seq (V [(.str (S "bar_list") 716), (.str (S "forced_by") 717), (.str (S "wall_text") 718)]) 0), (W [])⟩
def o437 (P : Params) : Obj := ⟨(.type "dict"), none, (.dict (D [E P (S "__module__") 588 (.str (S "nearcall.halls") 467), E P (S "__firstlineno__") 592 (.int 116 591), E P (S "__init__") 602 (.ref 337), E P (S "walls") 609 (.ref 344), E P (S "bars") 616 (.ref 351), E P (S "forced") 624 (.ref 358), E P (S "forces") 633 (.ref 365), E P (S "is_room") 639 (.ref 370), E P (S "rooms") 645 (.ref 375), E P (S "goes_with") 651 (.ref 380), E P (S "doors") 659 (.ref 387), E P (S "steps") 668 (.ref 394), E P (S "way") 677 (.ref 401), E P (S "nearer") 686 (.ref 408), E P (S "__eq__") 694 (.ref 415), E P (S "__len__") 701 (.ref 422), E P (S "__str__") 708 (.ref 429), E P (S "__repr__") 715 (.ref 436), E P (S "__static_attributes__") 719 (.ref 437), E P (S "__dict__") 721 (.ref 440), E P (S "__weakref__") 723 (.ref 441), E P (S "__doc__") 724 .none, E P (S "__hash__") 725 .none]) 5), (W [])⟩
def o438 (P : Params) : Obj := ⟨(.type "type"), none, (.cls ⟨(S "Hall"), [(.type "object")], [(.ref 439), (.type "object")], 438, (S "Hall"), true, [], [], false, none, false⟩), (W [none, none, (some (.str (S "Hall") 581)), (some (.str (S "Hall") 589)), (some (.builtin "object.__new__")), (some (.bool true))])⟩
def o439 (P : Params) : Obj := ⟨(.type "getset_descriptor"), none, (.fields (V [(.str (S "__dict__") 720), (.ref 439), (.builtin "function.__dict__"), (.builtin "function.__dict__#set")])), (W [])⟩
def o440 (P : Params) : Obj := ⟨(.type "getset_descriptor"), none, (.fields (V [(.str (S "__weakref__") 722), (.ref 439), (.builtin "ExceptionGroup.__weakref__"), .none])), (W [])⟩
def o441 (P : Params) : Obj := ⟨(.type "super"), none, (.fields (V [(.ref 439), (.ref 439), (.ref 439)])), (W [])⟩
def o442 (P : Params) : Obj := ⟨(.type "builtin_function_or_method"), none, (.fields (V [(.builtin "object.__init_subclass__"), (.ref 439)])), (W [])⟩
def o443 (P : Params) : Obj := ⟨(.type "tuple"), none, (.seq (V []) 0), (W [])⟩
def o444 (P : Params) : Obj := ⟨.none, none, (.fields (V [])), (W [])⟩
def o445 (P : Params) : Obj := ⟨(.type "tuple"), none, (.seq (V [(.str (S "hall") 733), (.str (S "part") 734), (.str (S "walls") 735), (.str (S "ahead") 736), (.str (S "wall") 737)]) 0), (W [])⟩
def o446 (P : Params) : Obj := ⟨(.type "tuple"), none, (.seq (V []) 0), (W [])⟩
def o447 (P : Params) : Obj := ⟨.none, none, (.func ⟨(S "is_part"), (S "is_part"), (defArgs (ST 31)), (.stmts (defBody (ST 31))), (defScope (ST 31)), 0, [], .none, .none, .none, .none, none, .none, .none, 0⟩), (W [])⟩
def o448 (P : Params) : Obj := ⟨(.type "code"), none, (.fields (V [(.str (S "is_part") 730), (.str (S "is_part") 731), (.str (S "/claim/cut.py") 732), (.int 182 0), (.int 2 0), (.int 0 0), (.int 0 0), (.int 3 0), (.ref 444), (.bool true), (.int 181 0), (.ref 445), .none, (.ref 446), (.ref 447), (.ref 448), (.int 738 0), (.int 182 0), (.str (S "/claim/cut.py") 739)])), (W [])⟩
def o449 (P : Params) : Obj := ⟨(.type "function"), none, (.func ⟨(S "is_part"), (S "is_part"), (defArgs (ST 31)), (.stmts (defBody (ST 31))), (defScope (ST 31)), 3, [], .none, .none, .none, (.str (S "nearcall.parts") 728), none, (.ref 449), .none, 0⟩), (W [])⟩
def o450 (P : Params) : Obj := ⟨(.type "tuple"), none, (.seq (V []) 0), (W [])⟩
def o451 (P : Params) : Obj := ⟨.none, none, (.fields (V [])), (W [])⟩
def o452 (P : Params) : Obj := ⟨(.type "tuple"), none, (.seq (V [(.str (S "hall") 744), (.str (S "part") 745)]) 0), (W [])⟩
def o453 (P : Params) : Obj := ⟨(.type "tuple"), none, (.seq (V []) 0), (W [])⟩
def o454 (P : Params) : Obj := ⟨.none, none, (.func ⟨(S "check_part"), (S "check_part"), (defArgs (ST 32)), (.stmts (defBody (ST 32))), (defScope (ST 32)), 0, [], .none, .none, .none, .none, none, .none, .none, 0⟩), (W [])⟩
def o455 (P : Params) : Obj := ⟨(.type "code"), none, (.fields (V [(.str (S "check_part") 741), (.str (S "check_part") 742), (.str (S "/claim/cut.py") 743), (.int 190 0), (.int 2 0), (.int 0 0), (.int 0 0), (.int 3 0), (.ref 451), (.bool true), (.int 181 0), (.ref 452), .none, (.ref 453), (.ref 454), (.ref 455), (.int 746 0), (.int 190 0), (.str (S "/claim/cut.py") 747)])), (W [])⟩
def o456 (P : Params) : Obj := ⟨(.type "function"), none, (.func ⟨(S "check_part"), (S "check_part"), (defArgs (ST 32)), (.stmts (defBody (ST 32))), (defScope (ST 32)), 3, [], .none, .none, .none, (.str (S "nearcall.parts") 728), none, (.ref 456), .none, 0⟩), (W [])⟩
def o457 (P : Params) : Obj := ⟨(.type "tuple"), none, (.seq (V []) 0), (W [])⟩
def o458 (P : Params) : Obj := ⟨.none, none, (.fields (V [])), (W [])⟩
def o459 (P : Params) : Obj := ⟨.none, none, (.func ⟨(S "all_forced_by"), (S "all_forced_by"), (defArgs (ST 33)), (.stmts (defBody (ST 33))), (defScope (ST 33)), 0, [], .none, .none, .none, .none, none, .none, .none, 0⟩), (W [])⟩
def o460 (P : Params) : Obj := ⟨(.type "code"), none, (.fields (V [(.str (S "all_forced_by") 749), (.str (S "all_forced_by") 750), (.str (S "/claim/cut.py") 751), (.int 193 0), (.int 2 0), (.int 0 0), (.int 0 0), (.int 3 0), (.ref 458), (.bool true), (.int 181 0), (.ref 459), .none, .none, .none, (.ref 460), (.int 752 0), (.int 193 0), (.str (S "/claim/cut.py") 753)])), (W [])⟩
def o461 (P : Params) : Obj := ⟨(.type "function"), none, (.func ⟨(S "all_forced_by"), (S "all_forced_by"), (defArgs (ST 33)), (.stmts (defBody (ST 33))), (defScope (ST 33)), 3, [], .none, .none, .none, (.str (S "nearcall.parts") 728), none, (.ref 461), .none, 0⟩), (W [])⟩
def o462 (P : Params) : Obj := ⟨(.type "tuple"), none, (.seq (V []) 0), (W [])⟩
def o463 (P : Params) : Obj := ⟨.none, none, (.fields (V [])), (W [])⟩
def o464 (P : Params) : Obj := ⟨.none, none, (.func ⟨(S "torn_walls"), (S "torn_walls"), (defArgs (ST 34)), (.stmts (defBody (ST 34))), (defScope (ST 34)), 0, [], .none, .none, .none, .none, none, .none, .none, 0⟩), (W [])⟩
def o465 (P : Params) : Obj := ⟨(.type "code"), none, (.fields (V [(.str (S "torn_walls") 755), (.str (S "torn_walls") 756), (.str (S "/claim/cut.py") 757), (.int 195 0), (.int 2 0), (.int 0 0), (.int 0 0), (.int 3 0), (.ref 463), (.bool true), (.int 181 0), (.ref 464), .none, .none, .none, (.ref 465), (.int 758 0), (.int 195 0), (.str (S "/claim/cut.py") 759)])), (W [])⟩
def o466 (P : Params) : Obj := ⟨(.type "function"), none, (.func ⟨(S "torn_walls"), (S "torn_walls"), (defArgs (ST 34)), (.stmts (defBody (ST 34))), (defScope (ST 34)), 3, [], .none, .none, .none, (.str (S "nearcall.parts") 728), none, (.ref 466), .none, 0⟩), (W [])⟩
def o467 (P : Params) : Obj := ⟨(.type "tuple"), none, (.seq (V []) 0), (W [])⟩
def o468 (P : Params) : Obj := ⟨.none, none, (.fields (V [])), (W [])⟩
def o469 (P : Params) : Obj := ⟨(.type "tuple"), none, (.seq (V [(.str (S "hall") 764), (.str (S "part") 765), (.str (S "torn") 766)]) 0), (W [])⟩
def o470 (P : Params) : Obj := ⟨(.type "tuple"), none, (.seq (V []) 0), (W [])⟩
def o471 (P : Params) : Obj := ⟨.none, none, (.func ⟨(S "shut"), (S "shut"), (defArgs (ST 35)), (.stmts (defBody (ST 35))), (defScope (ST 35)), 0, [], .none, .none, .none, .none, none, .none, .none, 0⟩), (W [])⟩
def o472 (P : Params) : Obj := ⟨(.type "code"), none, (.fields (V [(.str (S "shut") 761), (.str (S "shut") 762), (.str (S "/claim/cut.py") 763), (.int 198 0), (.int 2 0), (.int 0 0), (.int 0 0), (.int 3 0), (.ref 468), (.bool true), (.int 181 0), (.ref 469), .none, (.ref 470), (.ref 471), (.ref 472), (.int 767 0), (.int 198 0), (.str (S "/claim/cut.py") 768)])), (W [])⟩
def o473 (P : Params) : Obj := ⟨(.type "function"), none, (.func ⟨(S "shut"), (S "shut"), (defArgs (ST 35)), (.stmts (defBody (ST 35))), (defScope (ST 35)), 3, [], .none, .none, .none, (.str (S "nearcall.parts") 728), none, (.ref 473), .none, 0⟩), (W [])⟩
def o474 (P : Params) : Obj := ⟨(.type "tuple"), none, (.seq (V []) 0), (W [])⟩
def o475 (P : Params) : Obj := ⟨.none, none, (.fields (V [])), (W [])⟩
def o476 (P : Params) : Obj := ⟨.none, none, (.func ⟨(S "shut_calls"), (S "shut_calls"), (defArgs (ST 37)), (.stmts (defBody (ST 37))), (defScope (ST 37)), 0, [], .none, .none, .none, .none, none, .none, .none, 0⟩), (W [])⟩
def o477 (P : Params) : Obj := ⟨(.type "code"), none, (.fields (V [(.str (S "shut_calls") 772), (.str (S "shut_calls") 773), (.str (S "/claim/cut.py") 774), (.int 205 0), (.int 3 0), (.int 0 0), (.int 0 0), (.int 3 0), (.ref 475), (.bool true), (.int 181 0), (.ref 476), .none, .none, .none, (.ref 477), (.int 775 0), (.int 205 0), (.str (S "/claim/cut.py") 776)])), (W [])⟩
def o478 (P : Params) : Obj := ⟨(.type "function"), none, (.func ⟨(S "shut_calls"), (S "shut_calls"), (defArgs (ST 37)), (.stmts (defBody (ST 37))), (defScope (ST 37)), 3, [], .none, .none, .none, (.str (S "nearcall.calls") 770), none, (.ref 478), .none, 0⟩), (W [])⟩
def o479 (P : Params) : Obj := ⟨(.type "tuple"), none, (.seq (V []) 0), (W [])⟩
def o480 (P : Params) : Obj := ⟨.none, none, (.fields (V [])), (W [])⟩
def o481 (P : Params) : Obj := ⟨(.type "tuple"), none, (.seq (V [(.str (S "entry") 783)]) 0), (W [])⟩
def o482 (P : Params) : Obj := ⟨(.type "tuple"), none, (.seq (V []) 0), (W [])⟩
def o483 (P : Params) : Obj := ⟨.none, none, (.func ⟨(S "is_fixed"), (S "is_fixed"), (defArgs (ST 39)), (.stmts (defBody (ST 39))), (defScope (ST 39)), 0, [], .none, .none, .none, .none, none, .none, .none, 0⟩), (W [])⟩
def o484 (P : Params) : Obj := ⟨(.type "code"), none, (.fields (V [(.str (S "is_fixed") 780), (.str (S "is_fixed") 781), (.str (S "/claim/cut.py") 782), (.int 210 0), (.int 1 0), (.int 0 0), (.int 0 0), (.int 3 0), (.ref 480), (.bool true), (.int 181 0), (.ref 481), .none, (.ref 482), (.ref 483), (.ref 484), (.int 784 0), (.int 210 0), (.str (S "/claim/cut.py") 785)])), (W [])⟩
def o485 (P : Params) : Obj := ⟨(.type "function"), none, (.func ⟨(S "is_fixed"), (S "is_fixed"), (defArgs (ST 39)), (.stmts (defBody (ST 39))), (defScope (ST 39)), 3, [], .none, .none, .none, (.str (S "nearcall.tables") 778), none, (.ref 485), .none, 0⟩), (W [])⟩
def o486 (P : Params) : Obj := ⟨(.type "tuple"), none, (.seq (V []) 0), (W [])⟩
def o487 (P : Params) : Obj := ⟨.none, none, (.fields (V [])), (W [])⟩
def o488 (P : Params) : Obj := ⟨(.type "tuple"), none, (.seq (V [(.str (S "wall") 790), (.str (S "small") 791)]) 0), (W [])⟩
def o489 (P : Params) : Obj := ⟨(.type "tuple"), none, (.seq (V []) 0), (W [])⟩
def o490 (P : Params) : Obj := ⟨.none, none, (.func ⟨(S "stand_on"), (S "stand_on"), (defArgs (ST 40)), (.stmts (defBody (ST 40))), (defScope (ST 40)), 0, [], .none, .none, .none, .none, none, .none, .none, 0⟩), (W [])⟩
def o491 (P : Params) : Obj := ⟨(.type "code"), none, (.fields (V [(.str (S "stand_on") 787), (.str (S "stand_on") 788), (.str (S "/claim/cut.py") 789), (.int 212 0), (.int 2 0), (.int 0 0), (.int 0 0), (.int 3 0), (.ref 487), (.bool true), (.int 181 0), (.ref 488), .none, (.ref 489), (.ref 490), (.ref 491), (.int 792 0), (.int 212 0), (.str (S "/claim/cut.py") 793)])), (W [])⟩
def o492 (P : Params) : Obj := ⟨(.type "function"), none, (.func ⟨(S "stand_on"), (S "stand_on"), (defArgs (ST 40)), (.stmts (defBody (ST 40))), (defScope (ST 40)), 3, [], .none, .none, .none, (.str (S "nearcall.tables") 778), none, (.ref 492), .none, 0⟩), (W [])⟩
def o493 (P : Params) : Obj := ⟨(.type "tuple"), none, (.seq (V []) 0), (W [])⟩
def o494 (P : Params) : Obj := ⟨.none, none, (.fields (V [])), (W [])⟩
def o495 (P : Params) : Obj := ⟨(.type "tuple"), none, (.seq (V [(.str (S "walls") 798), (.str (S "wall") 799), (.str (S "entry") 800)]) 0), (W [])⟩
def o496 (P : Params) : Obj := ⟨(.type "tuple"), none, (.seq (V []) 0), (W [])⟩
def o497 (P : Params) : Obj := ⟨.none, none, (.func ⟨(S "is_entry"), (S "is_entry"), (defArgs (ST 41)), (.stmts (defBody (ST 41))), (defScope (ST 41)), 0, [], .none, .none, .none, .none, none, .none, .none, 0⟩), (W [])⟩
def o498 (P : Params) : Obj := ⟨(.type "code"), none, (.fields (V [(.str (S "is_entry") 795), (.str (S "is_entry") 796), (.str (S "/claim/cut.py") 797), (.int 214 0), (.int 3 0), (.int 0 0), (.int 0 0), (.int 3 0), (.ref 494), (.bool true), (.int 181 0), (.ref 495), .none, (.ref 496), (.ref 497), (.ref 498), (.int 801 0), (.int 214 0), (.str (S "/claim/cut.py") 802)])), (W [])⟩
def o499 (P : Params) : Obj := ⟨(.type "function"), none, (.func ⟨(S "is_entry"), (S "is_entry"), (defArgs (ST 41)), (.stmts (defBody (ST 41))), (defScope (ST 41)), 3, [], .none, .none, .none, (.str (S "nearcall.tables") 778), none, (.ref 499), .none, 0⟩), (W [])⟩
def objs_3 (P : Params) : List Obj :=
  [boot_o_0 P, boot_o_1 P, boot_o_2 P, o300 P, boot_o_4 P, boot_o_5 P, boot_o_6 P, boot_o_7 P, boot_o_8 P, boot_o_9 P, boot_o_10 P, o0 P, o301 P, o2 P, o3 P, o6 P, o7 P, o8 P, o9 P, o10 P, o11 P, o12 P, o13 P, o14 P, o15 P, o16 P, o17 P, o18 P, o19 P, o20 P, o21 P, o22 P, o23 P, o24 P, o25 P, o26 P, o27 P, o28 P, o171 P, o30 P] ++ (
  [o31 P, o32 P, o33 P, o34 P, o35 P, o36 P, o37 P, o38 P, o39 P, o40 P, o41 P, o42 P, o43 P, o44 P, o45 P, o46 P, o47 P, o48 P, o49 P, o50 P, o51 P, o52 P, o53 P, o54 P, o55 P, o56 P, o57 P, o58 P, o59 P, o60 P, o61 P, o62 P, o63 P, o64 P, o65 P, o66 P, o67 P, o68 P, o69 P, o70 P] ++ (
  [o71 P, o72 P, o73 P, o74 P, o75 P, o76 P, o77 P, o78 P, o79 P, o80 P, o81 P, o82 P, o83 P, o84 P, o85 P, o86 P, o87 P, o88 P, o89 P, o93 P, o94 P, o95 P, o96 P, o97 P, o98 P, o99 P, o100 P, o101 P, o102 P, o103 P, o104 P, o105 P, o106 P, o107 P, o108 P, o109 P, o110 P, o111 P, o112 P, o113 P] ++ (
  [o114 P, o115 P, o116 P, o117 P, o118 P, o119 P, o120 P, o121 P, o122 P, o123 P, o124 P, o125 P, o126 P, o127 P, o128 P, o129 P, o130 P, o131 P, o132 P, o133 P, o134 P, o135 P, o136 P, o137 P, o138 P, o139 P, o140 P, o141 P, o142 P, o143 P, o144 P, o145 P, o146 P, o147 P, o148 P, o149 P, o150 P, o151 P, o152 P, o153 P] ++ (
  [o154 P, o155 P, o156 P, o157 P, o158 P, o159 P, o160 P, o161 P, o162 P, o163 P, o164 P, o165 P, o166 P, o167 P, o168 P, o172 P, o173 P, o174 P, o175 P, o176 P, o177 P, o178 P, o179 P, o180 P, o181 P, o182 P, o183 P, o184 P, o185 P, o186 P, o187 P, o188 P, o189 P, o190 P, o191 P, o192 P, o193 P, o194 P, o195 P, o196 P] ++ (
  [o197 P, o198 P, o199 P, o200 P, o201 P, o202 P, o203 P, o204 P, o205 P, o206 P, o207 P, o208 P, o209 P, o210 P, o211 P, o212 P, o213 P, o214 P, o215 P, o216 P, o217 P, o218 P, o219 P, o220 P, o221 P, o222 P, o223 P, o224 P, o225 P, o226 P, o227 P, o228 P, o229 P, o230 P, o231 P, o232 P, o233 P, o234 P, o235 P, o236 P] ++ (
  [o237 P, o238 P, o239 P, o240 P, o241 P, o242 P, o243 P, o244 P, o245 P, o246 P, o247 P, o248 P, o249 P, o250 P, o251 P, o252 P, o253 P, o254 P, o255 P, o256 P, o257 P, o258 P, o259 P, o260 P, o261 P, o262 P, o263 P, o264 P, o265 P, o266 P, o267 P, o268 P, o269 P, o270 P, o271 P, o272 P, o273 P, o274 P, o275 P, o276 P] ++ (
  [o277 P, o278 P, o279 P, o280 P, o281 P, o282 P, o283 P, o284 P, o285 P, o286 P, o287 P, o288 P, o289 P, o290 P, o291 P, o292 P, o293 P, o294 P, o295 P, o296 P, o297 P, o298 P, o299 P, o302 P, o303 P, o304 P, o305 P, o306 P, o307 P, o308 P, o309 P, o310 P, o311 P, o312 P, o313 P, o314 P, o315 P, o316 P, o317 P, o318 P] ++ (
  [o319 P, o320 P, o321 P, o322 P, o323 P, o324 P, o325 P, o326 P, o327 P, o328 P, o329 P, o330 P, o331 P, o332 P, o333 P, o334 P, o335 P, o336 P, o337 P, o338 P, o339 P, o340 P, o341 P, o342 P, o343 P, o344 P, o345 P, o346 P, o347 P, o348 P, o349 P, o350 P, o351 P, o352 P, o353 P, o354 P, o355 P, o356 P, o357 P, o358 P] ++ (
  [o359 P, o360 P, o361 P, o362 P, o363 P, o364 P, o365 P, o366 P, o367 P, o368 P, o369 P, o370 P, o371 P, o372 P, o373 P, o374 P, o375 P, o376 P, o377 P, o378 P, o379 P, o380 P, o381 P, o382 P, o383 P, o384 P, o385 P, o386 P, o387 P, o388 P, o389 P, o390 P, o391 P, o392 P, o393 P, o394 P, o395 P, o396 P, o397 P, o398 P] ++ (
  [o399 P, o400 P, o401 P, o402 P, o403 P, o404 P, o405 P, o406 P, o407 P, o408 P, o409 P, o410 P, o411 P, o412 P, o413 P, o414 P, o415 P, o416 P, o417 P, o418 P, o419 P, o420 P, o421 P, o422 P, o423 P, o424 P, o425 P, o426 P, o427 P, o428 P, o429 P, o430 P, o431 P, o432 P, o433 P, o434 P, o435 P, o436 P, o437 P, o438 P] ++ (
  [o439 P, o440 P, o441 P, o442 P, o443 P, o444 P, o445 P, o446 P, o447 P, o448 P, o449 P, o450 P, o451 P, o452 P, o453 P, o454 P, o455 P, o456 P, o457 P, o458 P, o459 P, o460 P, o461 P, o462 P, o463 P, o464 P, o465 P, o466 P, o467 P, o468 P, o469 P, o470 P, o471 P, o472 P, o473 P, o474 P, o475 P, o476 P, o477 P, o478 P] ++ (
  [o479 P, o480 P, o481 P, o482 P, o483 P, o484 P, o485 P, o486 P, o487 P, o488 P, o489 P, o490 P, o491 P, o492 P, o493 P, o494 P, o495 P, o496 P, o497 P, o498 P, o499 P]))))))))))))
def o500 (P : Params) : Obj := ⟨(.type "dict"), none, (.dict (D [E P (S "__name__") 165 (.str (S "law_nearcall_k39_rooms_come_to") 1002), E P (S "__doc__") 166 .none, E P (S "__package__") 167 .none, E P (S "__loader__") 168 (.builtin "__main__.__loader__#opaque"), E P (S "__spec__") 169 .none, E P (S "__annotations__") 170 (.ref 6), E P (S "__builtins__") 171 (.ref 4), E P (S "__file__") 173 (.str (S "/claim/cut.py") 172), E P (S "__cached__") 174 .none, E P (S "_wall") 193 (.ref 21), E P (S "HallError") 222 (.ref 38), E P (S "BadWalls") 245 (.ref 58), E P (S "BadBar") 270 (.ref 77), E P (S "BadSide") 293 (.ref 96), E P (S "Fixed") 318 (.ref 115), E P (S "Alike") 345 (.ref 134), E P (S "BadRoom") 368 (.ref 153), E P (S "BadPart") 391 (.ref 172), E P (S "Empty") 416 (.ref 191), E P (S "BadTable") 441 (.ref 210), E P (S "TooMany") 466 (.ref 229), E P (S "WIDEST") 470 (.int 12 469), E P (S "other") 477 (.ref 238), E P (S "sides_of") 484 (.ref 245), E P (S "by_walls") 490 (.ref 250), E P (S "is_walls") 496 (.ref 255), E P (S "is_bar") 505 (.ref 262), E P (S "check_walls") 512 (.ref 269), E P (S "check_bars") 522 (.ref 276), E P (S "check_side") 530 (.ref 283), E P (S "check_room") 538 (.ref 290), E P (S "straight_from") 544 (.ref 295), E P (S "reached") 557 (.ref 302), E P (S "all_forced") 563 (.ref 307), E P (S "check_fixed") 571 (.ref 314), E P (S "check_alike") 580 (.ref 321), E P (S "Hall") 727 (.ref 439), E P (S "is_part") 740 (.ref 450), E P (S "check_part") 748 (.ref 457), E P (S "all_forced_by") 754 (.ref 462), E P (S "torn_walls") 760 (.ref 467), E P (S "shut") 769 (.ref 474), E P (S "shut_calls") 777 (.ref 479), E P (S "is_fixed") 786 (.ref 486), E P (S "stand_on") 794 (.ref 493), E P (S "is_entry") 803 (.ref 500), E P (S "side_behind") 812 (.ref 507), E P (S "room_behind") 818 (.ref 512), E P (S "may_meet") 827 (.ref 519), E P (S "stood_ahead") 835 (.ref 526), E P (S "leads_to_rooms") 841 (.ref 531), E P (S "check_entries") 852 (.ref 538), E P (S "Table") 957 (.ref 623), E P (S "of_call") 963 (.ref 632), E P (S "MOST_CALLS") 967 (.int 12 966), E P (S "rooms_met") 983 (.ref 639), E P (S "call_moves") 989 (.ref 644), E P (S "come_to") 1001 (.ref 652), E P (S "_law_same") 1009 (.ref 657), E P (S "_law_start") 1018 (.ref 664), E P (S "_law_draw") 1029 (.ref 671), E P (S "_law_of") 1037 (.ref 678), E P (S "_law_letters") 1043 (.ref 685), E P (S "_law_shuts") 1054 (.ref 692), E P (S "_law_other") 1061 (.ref 699)]) 65), (W [])⟩
def o501 (P : Params) : Obj := ⟨.none, none, (.fields (V [(.int 1 0), (.int 0 0), (.ref 20), (.int 5 0), (.int 0 0), (.ref 27), (.int 10 0), (.int 0 0), (.ref 47), (.int 14 0), (.int 0 0), (.ref 66), (.int 19 0), (.int 0 0), (.ref 85), (.int 23 0), (.int 0 0), (.ref 104), (.int 28 0), (.int 0 0), (.ref 123), (.int 34 0), (.int 0 0), (.ref 142), (.int 38 0), (.int 0 0), (.ref 161), (.int 42 0), (.int 0 0), (.ref 180), (.int 47 0), (.int 0 0), (.ref 199), (.int 52 0), (.int 0 0), (.ref 218), (.int 59 0), (.int 0 0), (.ref 237), (.int 61 0), (.int 0 0), (.ref 244), (.int 63 0), (.int 0 0), (.ref 249), (.int 65 0), (.int 0 0), (.ref 254), (.int 68 0), (.int 0 0), (.ref 261), (.int 73 0), (.int 0 0), (.ref 268), (.int 76 0), (.int 0 0), (.ref 275), (.int 80 0), (.int 0 0), (.ref 282), (.int 83 0), (.int 0 0), (.ref 289), (.int 86 0), (.int 0 0), (.ref 294), (.int 92 0), (.int 0 0), (.ref 301), (.int 104 0), (.int 0 0), (.ref 306), (.int 107 0), (.int 0 0), (.ref 313), (.int 111 0), (.int 0 0), (.ref 320), (.int 116 0), (.int 0 0), (.ref 327), (.int 182 0), (.int 0 0), (.ref 449), (.int 190 0), (.int 0 0), (.ref 456), (.int 193 0), (.int 0 0), (.ref 461), (.int 195 0), (.int 0 0), (.ref 466), (.int 198 0), (.int 0 0), (.ref 473), (.int 205 0), (.int 0 0), (.ref 478), (.int 210 0), (.int 0 0), (.ref 485), (.int 212 0), (.int 0 0), (.ref 492), (.int 214 0), (.int 0 0), (.ref 499), (.int 216 0), (.int 0 0), (.ref 506), (.int 220 0), (.int 0 0), (.ref 511), (.int 222 0), (.int 0 0), (.ref 518), (.int 228 0), (.int 0 0), (.ref 525), (.int 232 0), (.int 0 0), (.ref 530), (.int 240 0), (.int 0 0), (.ref 537), (.int 249 0), (.int 0 0), (.ref 544), (.int 285 0), (.int 0 0), (.ref 631), (.int 290 0), (.int 0 0), (.ref 638), (.int 303 0), (.int 0 0), (.ref 643), (.int 305 0), (.int 0 0), (.ref 651), (.int 312 0), (.int 0 0), (.ref 656), (.int 320 0), (.int 0 0), (.ref 663), (.int 325 0), (.int 0 0), (.ref 670), (.int 340 0), (.int 0 0), (.ref 677), (.int 342 0), (.int 0 0), (.ref 684), (.int 344 0), (.int 0 0), (.ref 691), (.int 351 0), (.int 0 0), (.ref 698)])), (W [])⟩
def o502 (P : Params) : Obj := ⟨(.type "tuple"), none, (.seq (V []) 0), (W [])⟩
def o503 (P : Params) : Obj := ⟨.none, none, (.fields (V [])), (W [])⟩
def o504 (P : Params) : Obj := ⟨(.type "tuple"), none, (.seq (V [(.str (S "wall") 807), (.str (S "entry") 808), (.str (S "room") 809)]) 0), (W [])⟩
def o505 (P : Params) : Obj := ⟨(.type "tuple"), none, (.seq (V []) 0), (W [])⟩
def o506 (P : Params) : Obj := ⟨.none, none, (.func ⟨(S "side_behind"), (S "side_behind"), (defArgs (ST 42)), (.stmts (defBody (ST 42))), (defScope (ST 42)), 0, [], .none, .none, .none, .none, none, .none, .none, 0⟩), (W [])⟩
def o507 (P : Params) : Obj := ⟨(.type "code"), none, (.fields (V [(.str (S "side_behind") 804), (.str (S "side_behind") 805), (.str (S "/claim/cut.py") 806), (.int 216 0), (.int 3 0), (.int 0 0), (.int 0 0), (.int 3 0), (.ref 501), (.bool true), (.int 181 0), (.ref 502), .none, (.ref 503), (.ref 504), (.ref 505), (.int 810 0), (.int 216 0), (.str (S "/claim/cut.py") 811)])), (W [])⟩
def o508 (P : Params) : Obj := ⟨(.type "function"), none, (.func ⟨(S "side_behind"), (S "side_behind"), (defArgs (ST 42)), (.stmts (defBody (ST 42))), (defScope (ST 42)), 3, [], .none, .none, .none, (.str (S "nearcall.tables") 778), none, (.ref 506), .none, 0⟩), (W [])⟩
def o509 (P : Params) : Obj := ⟨(.type "tuple"), none, (.seq (V []) 0), (W [])⟩
def o510 (P : Params) : Obj := ⟨.none, none, (.fields (V [])), (W [])⟩
def o511 (P : Params) : Obj := ⟨.none, none, (.func ⟨(S "room_behind"), (S "room_behind"), (defArgs (ST 43)), (.stmts (defBody (ST 43))), (defScope (ST 43)), 0, [], .none, .none, .none, .none, none, .none, .none, 0⟩), (W [])⟩
def o512 (P : Params) : Obj := ⟨(.type "code"), none, (.fields (V [(.str (S "room_behind") 813), (.str (S "room_behind") 814), (.str (S "/claim/cut.py") 815), (.int 220 0), (.int 3 0), (.int 0 0), (.int 0 0), (.int 3 0), (.ref 508), (.bool true), (.int 181 0), (.ref 509), .none, .none, .none, (.ref 510), (.int 816 0), (.int 220 0), (.str (S "/claim/cut.py") 817)])), (W [])⟩
def o513 (P : Params) : Obj := ⟨(.type "function"), none, (.func ⟨(S "room_behind"), (S "room_behind"), (defArgs (ST 43)), (.stmts (defBody (ST 43))), (defScope (ST 43)), 3, [], .none, .none, .none, (.str (S "nearcall.tables") 778), none, (.ref 511), .none, 0⟩), (W [])⟩
def o514 (P : Params) : Obj := ⟨(.type "tuple"), none, (.seq (V []) 0), (W [])⟩
def o515 (P : Params) : Obj := ⟨.none, none, (.fields (V [])), (W [])⟩
def o516 (P : Params) : Obj := ⟨(.type "tuple"), none, (.seq (V [(.str (S "hall") 822), (.str (S "one") 823), (.str (S "two") 824)]) 0), (W [])⟩
def o517 (P : Params) : Obj := ⟨(.type "tuple"), none, (.seq (V []) 0), (W [])⟩
def o518 (P : Params) : Obj := ⟨.none, none, (.func ⟨(S "may_meet"), (S "may_meet"), (defArgs (ST 44)), (.stmts (defBody (ST 44))), (defScope (ST 44)), 0, [], .none, .none, .none, .none, none, .none, .none, 0⟩), (W [])⟩
def o519 (P : Params) : Obj := ⟨(.type "code"), none, (.fields (V [(.str (S "may_meet") 819), (.str (S "may_meet") 820), (.str (S "/claim/cut.py") 821), (.int 222 0), (.int 3 0), (.int 0 0), (.int 0 0), (.int 3 0), (.ref 513), (.bool true), (.int 181 0), (.ref 514), .none, (.ref 515), (.ref 516), (.ref 517), (.int 825 0), (.int 222 0), (.str (S "/claim/cut.py") 826)])), (W [])⟩
def o520 (P : Params) : Obj := ⟨(.type "function"), none, (.func ⟨(S "may_meet"), (S "may_meet"), (defArgs (ST 44)), (.stmts (defBody (ST 44))), (defScope (ST 44)), 3, [], .none, .none, .none, (.str (S "nearcall.tables") 778), none, (.ref 518), .none, 0⟩), (W [])⟩
def o521 (P : Params) : Obj := ⟨(.type "tuple"), none, (.seq (V []) 0), (W [])⟩
def o522 (P : Params) : Obj := ⟨.none, none, (.fields (V [])), (W [])⟩
def o523 (P : Params) : Obj := ⟨(.type "tuple"), none, (.seq (V [(.str (S "side") 831), (.str (S "entry") 832)]) 0), (W [])⟩
def o524 (P : Params) : Obj := ⟨(.type "tuple"), none, (.seq (V []) 0), (W [])⟩
def o525 (P : Params) : Obj := ⟨.none, none, (.func ⟨(S "stood_ahead"), (S "stood_ahead"), (defArgs (ST 45)), (.stmts (defBody (ST 45))), (defScope (ST 45)), 0, [], .none, .none, .none, .none, none, .none, .none, 0⟩), (W [])⟩
def o526 (P : Params) : Obj := ⟨(.type "code"), none, (.fields (V [(.str (S "stood_ahead") 828), (.str (S "stood_ahead") 829), (.str (S "/claim/cut.py") 830), (.int 228 0), (.int 2 0), (.int 0 0), (.int 0 0), (.int 3 0), (.ref 520), (.bool true), (.int 181 0), (.ref 521), .none, (.ref 522), (.ref 523), (.ref 524), (.int 833 0), (.int 228 0), (.str (S "/claim/cut.py") 834)])), (W [])⟩
def o527 (P : Params) : Obj := ⟨(.type "function"), none, (.func ⟨(S "stood_ahead"), (S "stood_ahead"), (defArgs (ST 45)), (.stmts (defBody (ST 45))), (defScope (ST 45)), 3, [], .none, .none, .none, (.str (S "nearcall.tables") 778), none, (.ref 525), .none, 0⟩), (W [])⟩
def o528 (P : Params) : Obj := ⟨(.type "tuple"), none, (.seq (V []) 0), (W [])⟩
def o529 (P : Params) : Obj := ⟨.none, none, (.fields (V [])), (W [])⟩
def o530 (P : Params) : Obj := ⟨.none, none, (.func ⟨(S "leads_to_rooms"), (S "leads_to_rooms"), (defArgs (ST 46)), (.stmts (defBody (ST 46))), (defScope (ST 46)), 0, [], .none, .none, .none, .none, none, .none, .none, 0⟩), (W [])⟩
def o531 (P : Params) : Obj := ⟨(.type "code"), none, (.fields (V [(.str (S "leads_to_rooms") 836), (.str (S "leads_to_rooms") 837), (.str (S "/claim/cut.py") 838), (.int 232 0), (.int 2 0), (.int 0 0), (.int 0 0), (.int 3 0), (.ref 527), (.bool true), (.int 181 0), (.ref 528), .none, .none, .none, (.ref 529), (.int 839 0), (.int 232 0), (.str (S "/claim/cut.py") 840)])), (W [])⟩
def o532 (P : Params) : Obj := ⟨(.type "function"), none, (.func ⟨(S "leads_to_rooms"), (S "leads_to_rooms"), (defArgs (ST 46)), (.stmts (defBody (ST 46))), (defScope (ST 46)), 3, [], .none, .none, .none, (.str (S "nearcall.tables") 778), none, (.ref 530), .none, 0⟩), (W [])⟩
def o533 (P : Params) : Obj := ⟨(.type "tuple"), none, (.seq (V []) 0), (W [])⟩
def o534 (P : Params) : Obj := ⟨.none, none, (.fields (V [])), (W [])⟩
def o535 (P : Params) : Obj := ⟨(.type "tuple"), none, (.seq (V [(.str (S "hall") 845), (.str (S "entries") 846), (.str (S "walls") 847), (.str (S "at") 848), (.str (S "entry") 849)]) 0), (W [])⟩
def o536 (P : Params) : Obj := ⟨(.type "tuple"), none, (.seq (V []) 0), (W [])⟩
def o537 (P : Params) : Obj := ⟨.none, none, (.func ⟨(S "check_entries"), (S "check_entries"), (defArgs (ST 47)), (.stmts (defBody (ST 47))), (defScope (ST 47)), 0, [], .none, .none, .none, .none, none, .none, .none, 0⟩), (W [])⟩
def o538 (P : Params) : Obj := ⟨(.type "code"), none, (.fields (V [(.str (S "check_entries") 842), (.str (S "check_entries") 843), (.str (S "/claim/cut.py") 844), (.int 240 0), (.int 2 0), (.int 0 0), (.int 0 0), (.int 3 0), (.ref 532), (.bool true), (.int 181 0), (.ref 533), .none, (.ref 534), (.ref 535), (.ref 536), (.int 850 0), (.int 240 0), (.str (S "/claim/cut.py") 851)])), (W [])⟩
def o539 (P : Params) : Obj := ⟨(.type "function"), none, (.func ⟨(S "check_entries"), (S "check_entries"), (defArgs (ST 47)), (.stmts (defBody (ST 47))), (defScope (ST 47)), 3, [], .none, .none, .none, (.str (S "nearcall.tables") 778), none, (.ref 537), .none, 0⟩), (W [])⟩
def o540 (P : Params) : Obj := ⟨(.type "tuple"), none, (.seq (V []) 0), (W [])⟩
def o541 (P : Params) : Obj := ⟨(.type "builtin_function_or_method"), none, (.fields (V [(.builtin "type.__prepare__"), (.type "type")])), (W [])⟩
def o542 (P : Params) : Obj := ⟨(.type "dict"), none, (.dict (D [E P (S "__module__") 860 (.str (S "nearcall.tables") 778), E P (S "__qualname__") 862 (.str (S "Table") 861), E P (S "__firstlineno__") 864 (.int 249 863), E P (S "__init__") 873 (.ref 552), E P (S "hall") 880 (.ref 559), E P (S "entries") 887 (.ref 566), E P (S "led") 895 (.ref 573), E P (S "then") 903 (.ref 580), E P (S "times") 911 (.ref 587), E P (S "fixed") 917 (.ref 592), E P (S "__eq__") 925 (.ref 599), E P (S "__len__") 932 (.ref 606), E P (S "__str__") 939 (.ref 613), E P (S "__repr__") 946 (.ref 620), E P (S "__static_attributes__") 949 (.ref 621)]) 15), (W [])⟩
def o543 (P : Params) : Obj := ⟨(.type "tuple"), none, (.seq (V []) 0), (W [])⟩
def o544 (P : Params) : Obj := ⟨.none, none, (.fields (V [(.int 251 0), (.int 4 0), (.ref 551), (.int 256 0), (.int 4 0), (.ref 558), (.int 259 0), (.int 4 0), (.ref 565), (.int 262 0), (.int 4 0), (.ref 572), (.int 265 0), (.int 4 0), (.ref 579), (.int 268 0), (.int 4 0), (.ref 586), (.int 271 0), (.int 4 0), (.ref 591), (.int 274 0), (.int 4 0), (.ref 598), (.int 277 0), (.int 4 0), (.ref 605), (.int 280 0), (.int 4 0), (.ref 612), (.int 283 0), (.int 4 0), (.ref 619)])), (W [])⟩
def o545 (P : Params) : Obj := ⟨(.type "code"), none, (.fields (V [(.str (S "Table") 855), (.str (S "Table") 856), (.str (S "/claim/cut.py") 857), (.int 249 0), (.int 0 0), (.int 0 0), (.int 0 0), (.int 0 0), (.ref 542), (.bool false), (.int 181 0), (.ref 543), .none, .none, .none, .none, (.int 858 0), (.int 249 0), (.str (S "/claim/cut.py") 859)])), (W [])⟩
def o546 (P : Params) : Obj := ⟨(.type "frame"), none, .plain, (W [(some (.ref 544)), (some (.ref 3)), (some (.ref 541)), none, (some (.str (S "nearcall.tables") 778)), none, (some (.ref 0))])⟩
def o547 (P : Params) : Obj := ⟨(.type "tuple"), none, (.seq (V []) 0), (W [])⟩
def o548 (P : Params) : Obj := ⟨.none, none, (.fields (V [])), (W [])⟩
def o549 (P : Params) : Obj := ⟨(.type "tuple"), none, (.seq (V [(.str (S "self") 868), (.str (S "hall") 869), (.str (S "entries") 870)]) 0), (W [])⟩
def o550 (P : Params) : Obj := ⟨(.type "tuple"), none, (.seq (V []) 0), (W [])⟩
def o551 (P : Params) : Obj := ⟨.none, none, (.func ⟨(S "__init__"), (S "Table.__init__"), (defArgs (inClass (ST 48) 0)), (.stmts (defBody (inClass (ST 48) 0))), (defScope (inClass (ST 48) 0)), 0, [], .none, .none, .none, .none, none, .none, .none, 0⟩), (W [])⟩
def o552 (P : Params) : Obj := ⟨(.type "code"), none, (.fields (V [(.str (S "__init__") 865), (.str (S "Table.__init__") 866), (.str (S "/claim/cut.py") 867), (.int 251 0), (.int 3 0), (.int 0 0), (.int 0 0), (.int 3 0), (.ref 546), (.bool true), (.int 181 0), (.ref 547), .none, (.ref 548), (.ref 549), (.ref 550), (.int 871 0), (.int 251 0), (.str (S "/claim/cut.py") 872)])), (W [])⟩
def o553 (P : Params) : Obj := ⟨(.type "function"), none, (.func ⟨(S "__init__"), (S "Table.__init__"), (defArgs (inClass (ST 48) 0)), (.stmts (defBody (inClass (ST 48) 0))), (defScope (inClass (ST 48) 0)), 3, [], .none, .none, .none, (.str (S "nearcall.tables") 778), none, (.ref 551), .none, 0⟩), (W [])⟩
def o554 (P : Params) : Obj := ⟨(.type "tuple"), none, (.seq (V []) 0), (W [])⟩
def o555 (P : Params) : Obj := ⟨.none, none, (.fields (V [])), (W [])⟩
def o556 (P : Params) : Obj := ⟨(.type "tuple"), none, (.seq (V [(.str (S "self") 877)]) 0), (W [])⟩
def o557 (P : Params) : Obj := ⟨(.type "tuple"), none, (.seq (V []) 0), (W [])⟩
def o558 (P : Params) : Obj := ⟨.none, none, (.func ⟨(S "hall"), (S "Table.hall"), (defArgs (inClass (ST 48) 1)), (.stmts (defBody (inClass (ST 48) 1))), (defScope (inClass (ST 29) 1)), 0, [], .none, .none, .none, .none, none, .none, .none, 0⟩), (W [])⟩
def o559 (P : Params) : Obj := ⟨(.type "code"), none, (.fields (V [(.str (S "hall") 874), (.str (S "Table.hall") 875), (.str (S "/claim/cut.py") 876), (.int 256 0), (.int 1 0), (.int 0 0), (.int 0 0), (.int 3 0), (.ref 553), (.bool true), (.int 181 0), (.ref 554), .none, (.ref 555), (.ref 556), (.ref 557), (.int 878 0), (.int 256 0), (.str (S "/claim/cut.py") 879)])), (W [])⟩
def o560 (P : Params) : Obj := ⟨(.type "function"), none, (.func ⟨(S "hall"), (S "Table.hall"), (defArgs (inClass (ST 48) 1)), (.stmts (defBody (inClass (ST 48) 1))), (defScope (inClass (ST 29) 1)), 3, [], .none, .none, .none, (.str (S "nearcall.tables") 778), none, (.ref 558), .none, 0⟩), (W [])⟩
def o561 (P : Params) : Obj := ⟨(.type "tuple"), none, (.seq (V []) 0), (W [])⟩
def o562 (P : Params) : Obj := ⟨.none, none, (.fields (V [])), (W [])⟩
def o563 (P : Params) : Obj := ⟨(.type "tuple"), none, (.seq (V [(.str (S "self") 884)]) 0), (W [])⟩
def o564 (P : Params) : Obj := ⟨(.type "tuple"), none, (.seq (V []) 0), (W [])⟩
def o565 (P : Params) : Obj := ⟨.none, none, (.func ⟨(S "entries"), (S "Table.entries"), (defArgs (inClass (ST 48) 2)), (.stmts (defBody (inClass (ST 48) 2))), (defScope (inClass (ST 29) 1)), 0, [], .none, .none, .none, .none, none, .none, .none, 0⟩), (W [])⟩
def o566 (P : Params) : Obj := ⟨(.type "code"), none, (.fields (V [(.str (S "entries") 881), (.str (S "Table.entries") 882), (.str (S "/claim/cut.py") 883), (.int 259 0), (.int 1 0), (.int 0 0), (.int 0 0), (.int 3 0), (.ref 560), (.bool true), (.int 181 0), (.ref 561), .none, (.ref 562), (.ref 563), (.ref 564), (.int 885 0), (.int 259 0), (.str (S "/claim/cut.py") 886)])), (W [])⟩
def o567 (P : Params) : Obj := ⟨(.type "function"), none, (.func ⟨(S "entries"), (S "Table.entries"), (defArgs (inClass (ST 48) 2)), (.stmts (defBody (inClass (ST 48) 2))), (defScope (inClass (ST 29) 1)), 3, [], .none, .none, .none, (.str (S "nearcall.tables") 778), none, (.ref 565), .none, 0⟩), (W [])⟩
def o568 (P : Params) : Obj := ⟨(.type "tuple"), none, (.seq (V []) 0), (W [])⟩
def o569 (P : Params) : Obj := ⟨.none, none, (.fields (V [])), (W [])⟩
def o570 (P : Params) : Obj := ⟨(.type "tuple"), none, (.seq (V [(.str (S "self") 891), (.str (S "room") 892)]) 0), (W [])⟩
def o571 (P : Params) : Obj := ⟨(.type "tuple"), none, (.seq (V []) 0), (W [])⟩
def o572 (P : Params) : Obj := ⟨.none, none, (.func ⟨(S "led"), (S "Table.led"), (defArgs (inClass (ST 48) 3)), (.stmts (defBody (inClass (ST 48) 3))), (defScope (inClass (ST 29) 8)), 0, [], .none, .none, .none, .none, none, .none, .none, 0⟩), (W [])⟩
def o573 (P : Params) : Obj := ⟨(.type "code"), none, (.fields (V [(.str (S "led") 888), (.str (S "Table.led") 889), (.str (S "/claim/cut.py") 890), (.int 262 0), (.int 2 0), (.int 0 0), (.int 0 0), (.int 3 0), (.ref 567), (.bool true), (.int 181 0), (.ref 568), .none, (.ref 569), (.ref 570), (.ref 571), (.int 893 0), (.int 262 0), (.str (S "/claim/cut.py") 894)])), (W [])⟩
def o574 (P : Params) : Obj := ⟨(.type "function"), none, (.func ⟨(S "led"), (S "Table.led"), (defArgs (inClass (ST 48) 3)), (.stmts (defBody (inClass (ST 48) 3))), (defScope (inClass (ST 29) 8)), 3, [], .none, .none, .none, (.str (S "nearcall.tables") 778), none, (.ref 572), .none, 0⟩), (W [])⟩
def o575 (P : Params) : Obj := ⟨(.type "tuple"), none, (.seq (V []) 0), (W [])⟩
def o576 (P : Params) : Obj := ⟨.none, none, (.fields (V [])), (W [])⟩
def o577 (P : Params) : Obj := ⟨(.type "tuple"), none, (.seq (V [(.str (S "self") 899), (.str (S "later") 900)]) 0), (W [])⟩
def o578 (P : Params) : Obj := ⟨(.type "tuple"), none, (.seq (V []) 0), (W [])⟩
def o579 (P : Params) : Obj := ⟨.none, none, (.func ⟨(S "then"), (S "Table.then"), (defArgs (inClass (ST 48) 4)), (.stmts (defBody (inClass (ST 48) 4))), (defScope (inClass (ST 48) 4)), 0, [], .none, .none, .none, .none, none, .none, .none, 0⟩), (W [])⟩
def o580 (P : Params) : Obj := ⟨(.type "code"), none, (.fields (V [(.str (S "then") 896), (.str (S "Table.then") 897), (.str (S "/claim/cut.py") 898), (.int 265 0), (.int 2 0), (.int 0 0), (.int 0 0), (.int 3 0), (.ref 574), (.bool true), (.int 181 0), (.ref 575), .none, (.ref 576), (.ref 577), (.ref 578), (.int 901 0), (.int 265 0), (.str (S "/claim/cut.py") 902)])), (W [])⟩
def o581 (P : Params) : Obj := ⟨(.type "function"), none, (.func ⟨(S "then"), (S "Table.then"), (defArgs (inClass (ST 48) 4)), (.stmts (defBody (inClass (ST 48) 4))), (defScope (inClass (ST 48) 4)), 3, [], .none, .none, .none, (.str (S "nearcall.tables") 778), none, (.ref 579), .none, 0⟩), (W [])⟩
def o582 (P : Params) : Obj := ⟨(.type "tuple"), none, (.seq (V []) 0), (W [])⟩
def o583 (P : Params) : Obj := ⟨.none, none, (.fields (V [])), (W [])⟩
def o584 (P : Params) : Obj := ⟨(.type "tuple"), none, (.seq (V [(.str (S "self") 907), (.str (S "many") 908)]) 0), (W [])⟩
def o585 (P : Params) : Obj := ⟨(.type "tuple"), none, (.seq (V []) 0), (W [])⟩
def o586 (P : Params) : Obj := ⟨.none, none, (.func ⟨(S "times"), (S "Table.times"), (defArgs (inClass (ST 48) 5)), (.stmts (defBody (inClass (ST 48) 5))), (defScope (inClass (ST 48) 5)), 0, [], .none, .none, .none, .none, none, .none, .none, 0⟩), (W [])⟩
def o587 (P : Params) : Obj := ⟨(.type "code"), none, (.fields (V [(.str (S "times") 904), (.str (S "Table.times") 905), (.str (S "/claim/cut.py") 906), (.int 268 0), (.int 2 0), (.int 0 0), (.int 0 0), (.int 3 0), (.ref 581), (.bool true), (.int 181 0), (.ref 582), .none, (.ref 583), (.ref 584), (.ref 585), (.int 909 0), (.int 268 0), (.str (S "/claim/cut.py") 910)])), (W [])⟩
def o588 (P : Params) : Obj := ⟨(.type "function"), none, (.func ⟨(S "times"), (S "Table.times"), (defArgs (inClass (ST 48) 5)), (.stmts (defBody (inClass (ST 48) 5))), (defScope (inClass (ST 48) 5)), 3, [], .none, .none, .none, (.str (S "nearcall.tables") 778), none, (.ref 586), .none, 0⟩), (W [])⟩
def o589 (P : Params) : Obj := ⟨(.type "tuple"), none, (.seq (V []) 0), (W [])⟩
def o590 (P : Params) : Obj := ⟨.none, none, (.fields (V [])), (W [])⟩
def o591 (P : Params) : Obj := ⟨.none, none, (.func ⟨(S "fixed"), (S "Table.fixed"), (defArgs (inClass (ST 48) 6)), (.stmts (defBody (inClass (ST 48) 6))), (defScope (inClass (ST 48) 6)), 0, [], .none, .none, .none, .none, none, .none, .none, 0⟩), (W [])⟩
def o592 (P : Params) : Obj := ⟨(.type "code"), none, (.fields (V [(.str (S "fixed") 912), (.str (S "Table.fixed") 913), (.str (S "/claim/cut.py") 914), (.int 271 0), (.int 1 0), (.int 0 0), (.int 0 0), (.int 3 0), (.ref 588), (.bool true), (.int 181 0), (.ref 589), .none, .none, .none, (.ref 590), (.int 915 0), (.int 271 0), (.str (S "/claim/cut.py") 916)])), (W [])⟩
def o593 (P : Params) : Obj := ⟨(.type "function"), none, (.func ⟨(S "fixed"), (S "Table.fixed"), (defArgs (inClass (ST 48) 6)), (.stmts (defBody (inClass (ST 48) 6))), (defScope (inClass (ST 48) 6)), 3, [], .none, .none, .none, (.str (S "nearcall.tables") 778), none, (.ref 591), .none, 0⟩), (W [])⟩
def o594 (P : Params) : Obj := ⟨(.type "tuple"), none, (.seq (V []) 0), (W [])⟩
def o595 (P : Params) : Obj := ⟨.none, none, (.fields (V [])), (W [])⟩
def o596 (P : Params) : Obj := ⟨(.type "tuple"), none, (.seq (V [(.str (S "self") 921), (.str (S "thing") 922)]) 0), (W [])⟩
def o597 (P : Params) : Obj := ⟨(.type "tuple"), none, (.seq (V []) 0), (W [])⟩
def o598 (P : Params) : Obj := ⟨.none, none, (.func ⟨(S "__eq__"), (S "Table.__eq__"), (defArgs (inClass (ST 48) 7)), (.stmts (defBody (inClass (ST 48) 7))), (defScope (inClass (ST 48) 7)), 0, [], .none, .none, .none, .none, none, .none, .none, 0⟩), (W [])⟩
def o599 (P : Params) : Obj := ⟨(.type "code"), none, (.fields (V [(.str (S "__eq__") 918), (.str (S "Table.__eq__") 919), (.str (S "/claim/cut.py") 920), (.int 274 0), (.int 2 0), (.int 0 0), (.int 0 0), (.int 3 0), (.ref 593), (.bool true), (.int 181 0), (.ref 594), .none, (.ref 595), (.ref 596), (.ref 597), (.int 923 0), (.int 274 0), (.str (S "/claim/cut.py") 924)])), (W [])⟩
def o600 (P : Params) : Obj := ⟨(.type "function"), none, (.func ⟨(S "__eq__"), (S "Table.__eq__"), (defArgs (inClass (ST 48) 7)), (.stmts (defBody (inClass (ST 48) 7))), (defScope (inClass (ST 48) 7)), 3, [], .none, .none, .none, (.str (S "nearcall.tables") 778), none, (.ref 598), .none, 0⟩), (W [])⟩
def o601 (P : Params) : Obj := ⟨(.type "tuple"), none, (.seq (V []) 0), (W [])⟩
def o602 (P : Params) : Obj := ⟨.none, none, (.fields (V [])), (W [])⟩
def o603 (P : Params) : Obj := ⟨(.type "tuple"), none, (.seq (V [(.str (S "self") 929)]) 0), (W [])⟩
def o604 (P : Params) : Obj := ⟨(.type "tuple"), none, (.seq (V []) 0), (W [])⟩
def o605 (P : Params) : Obj := ⟨.none, none, (.func ⟨(S "__len__"), (S "Table.__len__"), (defArgs (inClass (ST 48) 8)), (.stmts (defBody (inClass (ST 48) 8))), (defScope (inClass (ST 29) 13)), 0, [], .none, .none, .none, .none, none, .none, .none, 0⟩), (W [])⟩
def o606 (P : Params) : Obj := ⟨(.type "code"), none, (.fields (V [(.str (S "__len__") 926), (.str (S "Table.__len__") 927), (.str (S "/claim/cut.py") 928), (.int 277 0), (.int 1 0), (.int 0 0), (.int 0 0), (.int 3 0), (.ref 600), (.bool true), (.int 181 0), (.ref 601), .none, (.ref 602), (.ref 603), (.ref 604), (.int 930 0), (.int 277 0), (.str (S "/claim/cut.py") 931)])), (W [])⟩
def o607 (P : Params) : Obj := ⟨(.type "function"), none, (.func ⟨(S "__len__"), (S "Table.__len__"), (defArgs (inClass (ST 48) 8)), (.stmts (defBody (inClass (ST 48) 8))), (defScope (inClass (ST 29) 13)), 3, [], .none, .none, .none, (.str (S "nearcall.tables") 778), none, (.ref 605), .none, 0⟩), (W [])⟩
def o608 (P : Params) : Obj := ⟨(.type "tuple"), none, (.seq (V []) 0), (W [])⟩
def o609 (P : Params) : Obj := ⟨.none, none, (.fields (V [])), (W [])⟩
def o610 (P : Params) : Obj := ⟨(.type "tuple"), none, (.seq (V [(.str (S "self") 936)]) 0), (W [])⟩
def o611 (P : Params) : Obj := ⟨(.type "tuple"), none, (.seq (V []) 0), (W [])⟩
def o612 (P : Params) : Obj := ⟨.none, none, (.func ⟨(S "__str__"), (S "Table.__str__"), (defArgs (inClass (ST 48) 9)), (.stmts (defBody (inClass (ST 48) 9))), (defScope (inClass (ST 29) 1)), 0, [], .none, .none, .none, .none, none, .none, .none, 0⟩), (W [])⟩
def o613 (P : Params) : Obj := ⟨(.type "code"), none, (.fields (V [(.str (S "__str__") 933), (.str (S "Table.__str__") 934), (.str (S "/claim/cut.py") 935), (.int 280 0), (.int 1 0), (.int 0 0), (.int 0 0), (.int 3 0), (.ref 607), (.bool true), (.int 181 0), (.ref 608), .none, (.ref 609), (.ref 610), (.ref 611), (.int 937 0), (.int 280 0), (.str (S "/claim/cut.py") 938)])), (W [])⟩
def o614 (P : Params) : Obj := ⟨(.type "function"), none, (.func ⟨(S "__str__"), (S "Table.__str__"), (defArgs (inClass (ST 48) 9)), (.stmts (defBody (inClass (ST 48) 9))), (defScope (inClass (ST 29) 1)), 3, [], .none, .none, .none, (.str (S "nearcall.tables") 778), none, (.ref 612), .none, 0⟩), (W [])⟩
def o615 (P : Params) : Obj := ⟨(.type "tuple"), none, (.seq (V []) 0), (W [])⟩
def o616 (P : Params) : Obj := ⟨.none, none, (.fields (V [])), (W [])⟩
def o617 (P : Params) : Obj := ⟨(.type "tuple"), none, (.seq (V [(.str (S "self") 943)]) 0), (W [])⟩
def o618 (P : Params) : Obj := ⟨(.type "tuple"), none, (.seq (V []) 0), (W [])⟩
def o619 (P : Params) : Obj := ⟨.none, none, (.func ⟨(S "__repr__"), (S "Table.__repr__"), (defArgs (inClass (ST 48) 10)), (.stmts (defBody (inClass (ST 48) 10))), (defScope (inClass (ST 29) 13)), 0, [], .none, .none, .none, .none, none, .none, .none, 0⟩), (W [])⟩
def o620 (P : Params) : Obj := ⟨(.type "code"), none, (.fields (V [(.str (S "__repr__") 940), (.str (S "Table.__repr__") 941), (.str (S "/claim/cut.py") 942), (.int 283 0), (.int 1 0), (.int 0 0), (.int 0 0), (.int 3 0), (.ref 614), (.bool true), (.int 181 0), (.ref 615), .none, (.ref 616), (.ref 617), (.ref 618), (.int 944 0), (.int 283 0), (.str (S "/claim/cut.py") 945)])), (W [])⟩
def o621 (P : Params) : Obj := ⟨(.type "function"), none, (.func ⟨(S "__repr__"), (S "Table.__repr__"), (defArgs (inClass (ST 48) 10)), (.stmts (defBody (inClass (ST 48) 10))), (defScope (inClass (ST 29) 13)), 3, [], .none, .none, .none, (.str (S "nearcall.tables") 778), none, (.ref 619), .none, 0⟩), (W [])⟩
def o622 (P : Params) : Obj := ⟨(.type "tuple"), none, (.seq (V [(.str (S "entry_texts") 947), (.str (S "place") 948)]) 0), (W [])⟩
def o623 (P : Params) : Obj := ⟨(.type "dict"), none, (.dict (D [E P (S "__module__") 860 (.str (S "nearcall.tables") 778), E P (S "__firstlineno__") 864 (.int 249 863), E P (S "__init__") 873 (.ref 552), E P (S "hall") 880 (.ref 559), E P (S "entries") 887 (.ref 566), E P (S "led") 895 (.ref 573), E P (S "then") 903 (.ref 580), E P (S "times") 911 (.ref 587), E P (S "fixed") 917 (.ref 592), E P (S "__eq__") 925 (.ref 599), E P (S "__len__") 932 (.ref 606), E P (S "__str__") 939 (.ref 613), E P (S "__repr__") 946 (.ref 620), E P (S "__static_attributes__") 949 (.ref 621), E P (S "__dict__") 951 (.ref 624), E P (S "__weakref__") 953 (.ref 625), E P (S "__doc__") 954 .none, E P (S "__hash__") 955 .none]) 5), (W [])⟩
def o624 (P : Params) : Obj := ⟨(.type "type"), none, (.cls ⟨(S "Table"), [(.type "object")], [(.ref 623), (.type "object")], 622, (S "Table"), true, [], [], false, none, false⟩), (W [none, none, (some (.str (S "Table") 853)), (some (.str (S "Table") 861)), (some (.builtin "object.__new__")), (some (.bool true))])⟩
def o625 (P : Params) : Obj := ⟨(.type "getset_descriptor"), none, (.fields (V [(.str (S "__dict__") 950), (.ref 623), (.builtin "function.__dict__"), (.builtin "function.__dict__#set")])), (W [])⟩
def o626 (P : Params) : Obj := ⟨(.type "getset_descriptor"), none, (.fields (V [(.str (S "__weakref__") 952), (.ref 623), (.builtin "ExceptionGroup.__weakref__"), .none])), (W [])⟩
def o627 (P : Params) : Obj := ⟨(.type "super"), none, (.fields (V [(.ref 623), (.ref 623), (.ref 623)])), (W [])⟩
def o628 (P : Params) : Obj := ⟨(.type "builtin_function_or_method"), none, (.fields (V [(.builtin "object.__init_subclass__"), (.ref 623)])), (W [])⟩
def o629 (P : Params) : Obj := ⟨(.type "tuple"), none, (.seq (V []) 0), (W [])⟩
def o630 (P : Params) : Obj := ⟨.none, none, (.fields (V [])), (W [])⟩
def o631 (P : Params) : Obj := ⟨.none, none, (.func ⟨(S "of_call"), (S "of_call"), (defArgs (ST 49)), (.stmts (defBody (ST 49))), (defScope (ST 49)), 0, [], .none, .none, .none, .none, none, .none, .none, 0⟩), (W [])⟩
def o632 (P : Params) : Obj := ⟨(.type "code"), none, (.fields (V [(.str (S "of_call") 958), (.str (S "of_call") 959), (.str (S "/claim/cut.py") 960), (.int 285 0), (.int 2 0), (.int 0 0), (.int 0 0), (.int 3 0), (.ref 628), (.bool true), (.int 181 0), (.ref 629), .none, .none, .none, (.ref 630), (.int 961 0), (.int 285 0), (.str (S "/claim/cut.py") 962)])), (W [])⟩
def o633 (P : Params) : Obj := ⟨(.type "function"), none, (.func ⟨(S "of_call"), (S "of_call"), (defArgs (ST 49)), (.stmts (defBody (ST 49))), (defScope (ST 49)), 3, [], .none, .none, .none, (.str (S "nearcall.tables") 778), none, (.ref 631), .none, 0⟩), (W [])⟩
def o634 (P : Params) : Obj := ⟨(.type "tuple"), none, (.seq (V []) 0), (W [])⟩
def o635 (P : Params) : Obj := ⟨.none, none, (.fields (V [])), (W [])⟩
def o636 (P : Params) : Obj := ⟨(.type "tuple"), none, (.seq (V [(.str (S "hall") 971), (.str (S "moves") 972), (.str (S "room") 973), (.str (S "ahead") 974), (.str (S "wave") 975), (.str (S "later") 976), (.str (S "stood") 977), (.str (S "name") 978), (.str (S "entries") 979), (.str (S "met") 980)]) 0), (W [])⟩
def o637 (P : Params) : Obj := ⟨(.type "tuple"), none, (.seq (V []) 0), (W [])⟩
def o638 (P : Params) : Obj := ⟨.none, none, (.func ⟨(S "rooms_met"), (S "rooms_met"), (defArgs (ST 52)), (.stmts (defBody (ST 52))), (defScope (ST 52)), 0, [], .none, .none, .none, .none, none, .none, .none, 0⟩), (W [])⟩
def o639 (P : Params) : Obj := ⟨(.type "code"), none, (.fields (V [(.str (S "rooms_met") 968), (.str (S "rooms_met") 969), (.str (S "/claim/cut.py") 970), (.int 290 0), (.int 3 0), (.int 0 0), (.int 0 0), (.int 3 0), (.ref 633), (.bool true), (.int 181 0), (.ref 634), .none, (.ref 635), (.ref 636), (.ref 637), (.int 981 0), (.int 290 0), (.str (S "/claim/cut.py") 982)])), (W [])⟩
def o640 (P : Params) : Obj := ⟨(.type "function"), none, (.func ⟨(S "rooms_met"), (S "rooms_met"), (defArgs (ST 52)), (.stmts (defBody (ST 52))), (defScope (ST 52)), 3, [], .none, .none, .none, (.str (S "nearcall.steering") 964), none, (.ref 638), .none, 0⟩), (W [])⟩
def o641 (P : Params) : Obj := ⟨(.type "tuple"), none, (.seq (V []) 0), (W [])⟩
def o642 (P : Params) : Obj := ⟨.none, none, (.fields (V [])), (W [])⟩
def o643 (P : Params) : Obj := ⟨.none, none, (.func ⟨(S "call_moves"), (S "call_moves"), (defArgs (ST 53)), (.stmts (defBody (ST 53))), (defScope (ST 53)), 0, [], .none, .none, .none, .none, none, .none, .none, 0⟩), (W [])⟩
def o644 (P : Params) : Obj := ⟨(.type "code"), none, (.fields (V [(.str (S "call_moves") 984), (.str (S "call_moves") 985), (.str (S "/claim/cut.py") 986), (.int 303 0), (.int 2 0), (.int 0 0), (.int 0 0), (.int 3 0), (.ref 640), (.bool true), (.int 181 0), (.ref 641), .none, .none, .none, (.ref 642), (.int 987 0), (.int 303 0), (.str (S "/claim/cut.py") 988)])), (W [])⟩
def o645 (P : Params) : Obj := ⟨(.type "function"), none, (.func ⟨(S "call_moves"), (S "call_moves"), (defArgs (ST 53)), (.stmts (defBody (ST 53))), (defScope (ST 53)), 3, [], .none, .none, .none, (.str (S "nearcall.steering") 964), none, (.ref 643), .none, 0⟩), (W [])⟩
def o646 (P : Params) : Obj := ⟨(.type "dict"), none, (.dict (D [E P (S "most") 991 (.int 256 990)]) 1), (W [])⟩
def o647 (P : Params) : Obj := ⟨(.type "tuple"), none, (.seq (V []) 0), (W [])⟩
def o648 (P : Params) : Obj := ⟨.none, none, (.fields (V [])), (W [])⟩
def o649 (P : Params) : Obj := ⟨(.type "tuple"), none, (.seq (V [(.str (S "hall") 995), (.str (S "calls") 996), (.str (S "room") 997), (.str (S "most") 998)]) 0), (W [])⟩
def o650 (P : Params) : Obj := ⟨(.type "tuple"), none, (.seq (V []) 0), (W [])⟩
def o651 (P : Params) : Obj := ⟨.none, none, (.func ⟨(S "come_to"), (S "come_to"), (defArgs (ST 54)), (.stmts (defBody (ST 54))), (defScope (ST 54)), 0, [], .none, .none, .none, .none, none, .none, .none, 0⟩), (W [])⟩
def o652 (P : Params) : Obj := ⟨(.type "code"), none, (.fields (V [(.str (S "come_to") 992), (.str (S "come_to") 993), (.str (S "/claim/cut.py") 994), (.int 305 0), (.int 3 0), (.int 0 0), (.int 1 0), (.int 3 0), (.ref 646), (.bool true), (.int 181 0), (.ref 647), .none, (.ref 648), (.ref 649), (.ref 650), (.int 999 0), (.int 305 0), (.str (S "/claim/cut.py") 1000)])), (W [])⟩
def o653 (P : Params) : Obj := ⟨(.type "function"), none, (.func ⟨(S "come_to"), (S "come_to"), (defArgs (ST 54)), (.stmts (defBody (ST 54))), (defScope (ST 54)), 3, [], .none, (.ref 645), .none, (.str (S "nearcall.steering") 964), none, (.ref 651), .none, 0⟩), (W [])⟩
def o654 (P : Params) : Obj := ⟨(.type "tuple"), none, (.seq (V []) 0), (W [])⟩
def o655 (P : Params) : Obj := ⟨.none, none, (.fields (V [])), (W [])⟩
def o656 (P : Params) : Obj := ⟨.none, none, (.func ⟨(S "_law_same"), (S "_law_same"), (defArgs (ST 56)), (.stmts (defBody (ST 56))), (defScope (ST 56)), 0, [], .none, .none, .none, .none, none, .none, .none, 0⟩), (W [])⟩
def o657 (P : Params) : Obj := ⟨(.type "code"), none, (.fields (V [(.str (S "_law_same") 1004), (.str (S "_law_same") 1005), (.str (S "/claim/cut.py") 1006), (.int 312 0), (.int 2 0), (.int 0 0), (.int 0 0), (.int 3 0), (.ref 653), (.bool true), (.int 181 0), (.ref 654), .none, .none, .none, (.ref 655), (.int 1007 0), (.int 312 0), (.str (S "/claim/cut.py") 1008)])), (W [])⟩
def o658 (P : Params) : Obj := ⟨(.type "function"), none, (.func ⟨(S "_law_same"), (S "_law_same"), (defArgs (ST 56)), (.stmts (defBody (ST 56))), (defScope (ST 56)), 3, [], .none, .none, .none, (.str (S "law_nearcall_k39_rooms_come_to") 1002), none, (.ref 656), .none, 0⟩), (W [])⟩
def o659 (P : Params) : Obj := ⟨(.type "tuple"), none, (.seq (V []) 0), (W [])⟩
def o660 (P : Params) : Obj := ⟨.none, none, (.fields (V [])), (W [])⟩
def o661 (P : Params) : Obj := ⟨(.type "tuple"), none, (.seq (V [(.str (S "_law_script") 1013), (.str (S "_law_seed") 1014), (.str (S "_law_cell") 1015)]) 0), (W [])⟩
def o662 (P : Params) : Obj := ⟨(.type "tuple"), none, (.seq (V []) 0), (W [])⟩
def o663 (P : Params) : Obj := ⟨.none, none, (.func ⟨(S "_law_start"), (S "_law_start"), (defArgs (ST 57)), (.stmts (defBody (ST 57))), (defScope (ST 57)), 0, [], .none, .none, .none, .none, none, .none, .none, 0⟩), (W [])⟩
def o664 (P : Params) : Obj := ⟨(.type "code"), none, (.fields (V [(.str (S "_law_start") 1010), (.str (S "_law_start") 1011), (.str (S "/claim/cut.py") 1012), (.int 320 0), (.int 1 0), (.int 0 0), (.int 0 0), (.int 3 0), (.ref 658), (.bool true), (.int 181 0), (.ref 659), .none, (.ref 660), (.ref 661), (.ref 662), (.int 1016 0), (.int 320 0), (.str (S "/claim/cut.py") 1017)])), (W [])⟩
def o665 (P : Params) : Obj := ⟨(.type "function"), none, (.func ⟨(S "_law_start"), (S "_law_start"), (defArgs (ST 57)), (.stmts (defBody (ST 57))), (defScope (ST 57)), 3, [], .none, .none, .none, (.str (S "law_nearcall_k39_rooms_come_to") 1002), none, (.ref 663), .none, 0⟩), (W [])⟩
def o666 (P : Params) : Obj := ⟨(.type "tuple"), none, (.seq (V []) 0), (W [])⟩
def o667 (P : Params) : Obj := ⟨.none, none, (.fields (V [])), (W [])⟩
def o668 (P : Params) : Obj := ⟨(.type "tuple"), none, (.seq (V [(.str (S "_law_d") 1022), (.str (S "_law_many") 1023), (.str (S "_law_cell") 1024), (.str (S "_law_digit") 1025), (.str (S "_law_mix") 1026)]) 0), (W [])⟩
def o669 (P : Params) : Obj := ⟨(.type "tuple"), none, (.seq (V []) 0), (W [])⟩
def o670 (P : Params) : Obj := ⟨.none, none, (.func ⟨(S "_law_draw"), (S "_law_draw"), (defArgs (ST 58)), (.stmts (defBody (ST 58))), (defScope (ST 58)), 0, [], .none, .none, .none, .none, none, .none, .none, 0⟩), (W [])⟩
def o671 (P : Params) : Obj := ⟨(.type "code"), none, (.fields (V [(.str (S "_law_draw") 1019), (.str (S "_law_draw") 1020), (.str (S "/claim/cut.py") 1021), (.int 325 0), (.int 2 0), (.int 0 0), (.int 0 0), (.int 3 0), (.ref 665), (.bool true), (.int 181 0), (.ref 666), .none, (.ref 667), (.ref 668), (.ref 669), (.int 1027 0), (.int 325 0), (.str (S "/claim/cut.py") 1028)])), (W [])⟩
def o672 (P : Params) : Obj := ⟨(.type "function"), none, (.func ⟨(S "_law_draw"), (S "_law_draw"), (defArgs (ST 58)), (.stmts (defBody (ST 58))), (defScope (ST 58)), 3, [], .none, .none, .none, (.str (S "law_nearcall_k39_rooms_come_to") 1002), none, (.ref 670), .none, 0⟩), (W [])⟩
def o673 (P : Params) : Obj := ⟨(.type "tuple"), none, (.seq (V []) 0), (W [])⟩
def o674 (P : Params) : Obj := ⟨.none, none, (.fields (V [])), (W [])⟩
def o675 (P : Params) : Obj := ⟨(.type "tuple"), none, (.seq (V [(.str (S "_law_d") 1033), (.str (S "_law_some") 1034)]) 0), (W [])⟩
def o676 (P : Params) : Obj := ⟨(.type "tuple"), none, (.seq (V []) 0), (W [])⟩
def o677 (P : Params) : Obj := ⟨.none, none, (.func ⟨(S "_law_of"), (S "_law_of"), (defArgs (ST 59)), (.stmts (defBody (ST 59))), (defScope (ST 59)), 0, [], .none, .none, .none, .none, none, .none, .none, 0⟩), (W [])⟩
def o678 (P : Params) : Obj := ⟨(.type "code"), none, (.fields (V [(.str (S "_law_of") 1030), (.str (S "_law_of") 1031), (.str (S "/claim/cut.py") 1032), (.int 340 0), (.int 2 0), (.int 0 0), (.int 0 0), (.int 3 0), (.ref 672), (.bool true), (.int 181 0), (.ref 673), .none, (.ref 674), (.ref 675), (.ref 676), (.int 1035 0), (.int 340 0), (.str (S "/claim/cut.py") 1036)])), (W [])⟩
def o679 (P : Params) : Obj := ⟨(.type "function"), none, (.func ⟨(S "_law_of"), (S "_law_of"), (defArgs (ST 59)), (.stmts (defBody (ST 59))), (defScope (ST 59)), 3, [], .none, .none, .none, (.str (S "law_nearcall_k39_rooms_come_to") 1002), none, (.ref 677), .none, 0⟩), (W [])⟩
def o680 (P : Params) : Obj := ⟨(.type "tuple"), none, (.seq (V []) 0), (W [])⟩
def o681 (P : Params) : Obj := ⟨.none, none, (.fields (V [])), (W [])⟩
def o682 (P : Params) : Obj := ⟨(.type "tuple"), none, (.seq (V []) 0), (W [])⟩
def o683 (P : Params) : Obj := ⟨(.type "tuple"), none, (.seq (V []) 0), (W [])⟩
def o684 (P : Params) : Obj := ⟨.none, none, (.func ⟨(S "_law_letters"), (S "_law_letters"), (defArgs (ST 60)), (.stmts (defBody (ST 60))), (defScope (ST 60)), 0, [], .none, .none, .none, .none, none, .none, .none, 0⟩), (W [])⟩
def o685 (P : Params) : Obj := ⟨(.type "code"), none, (.fields (V [(.str (S "_law_letters") 1038), (.str (S "_law_letters") 1039), (.str (S "/claim/cut.py") 1040), (.int 342 0), (.int 0 0), (.int 0 0), (.int 0 0), (.int 3 0), (.ref 679), (.bool true), (.int 181 0), (.ref 680), .none, (.ref 681), (.ref 682), (.ref 683), (.int 1041 0), (.int 342 0), (.str (S "/claim/cut.py") 1042)])), (W [])⟩
def o686 (P : Params) : Obj := ⟨(.type "function"), none, (.func ⟨(S "_law_letters"), (S "_law_letters"), (defArgs (ST 60)), (.stmts (defBody (ST 60))), (defScope (ST 60)), 3, [], .none, .none, .none, (.str (S "law_nearcall_k39_rooms_come_to") 1002), none, (.ref 684), .none, 0⟩), (W [])⟩
def o687 (P : Params) : Obj := ⟨(.type "tuple"), none, (.seq (V []) 0), (W [])⟩
def o688 (P : Params) : Obj := ⟨.none, none, (.fields (V [])), (W [])⟩
def o689 (P : Params) : Obj := ⟨(.type "tuple"), none, (.seq (V [(.str (S "_law_d") 1047), (.str (S "_law_most_it") 1048), (.str (S "_law_found") 1049), (.str (S "_law_skip") 1050), (.str (S "_law_sign") 1051)]) 0), (W [])⟩
def o690 (P : Params) : Obj := ⟨(.type "tuple"), none, (.seq (V []) 0), (W [])⟩
def o691 (P : Params) : Obj := ⟨.none, none, (.func ⟨(S "_law_shuts"), (S "_law_shuts"), (defArgs (ST 61)), (.stmts (defBody (ST 61))), (defScope (ST 61)), 0, [], .none, .none, .none, .none, none, .none, .none, 0⟩), (W [])⟩
def o692 (P : Params) : Obj := ⟨(.type "code"), none, (.fields (V [(.str (S "_law_shuts") 1044), (.str (S "_law_shuts") 1045), (.str (S "/claim/cut.py") 1046), (.int 344 0), (.int 2 0), (.int 0 0), (.int 0 0), (.int 3 0), (.ref 686), (.bool true), (.int 181 0), (.ref 687), .none, (.ref 688), (.ref 689), (.ref 690), (.int 1052 0), (.int 344 0), (.str (S "/claim/cut.py") 1053)])), (W [])⟩
def o693 (P : Params) : Obj := ⟨(.type "function"), none, (.func ⟨(S "_law_shuts"), (S "_law_shuts"), (defArgs (ST 61)), (.stmts (defBody (ST 61))), (defScope (ST 61)), 3, [], .none, .none, .none, (.str (S "law_nearcall_k39_rooms_come_to") 1002), none, (.ref 691), .none, 0⟩), (W [])⟩
def o694 (P : Params) : Obj := ⟨(.type "tuple"), none, (.seq (V []) 0), (W [])⟩
def o695 (P : Params) : Obj := ⟨.none, none, (.fields (V [])), (W [])⟩
def o696 (P : Params) : Obj := ⟨(.type "tuple"), none, (.seq (V [(.str (S "_law_side") 1058)]) 0), (W [])⟩
def o697 (P : Params) : Obj := ⟨(.type "tuple"), none, (.seq (V []) 0), (W [])⟩
def o698 (P : Params) : Obj := ⟨.none, none, (.func ⟨(S "_law_other"), (S "_law_other"), (defArgs (ST 62)), (.stmts (defBody (ST 62))), (defScope (ST 62)), 0, [], .none, .none, .none, .none, none, .none, .none, 0⟩), (W [])⟩
def o699 (P : Params) : Obj := ⟨(.type "code"), none, (.fields (V [(.str (S "_law_other") 1055), (.str (S "_law_other") 1056), (.str (S "/claim/cut.py") 1057), (.int 351 0), (.int 1 0), (.int 0 0), (.int 0 0), (.int 3 0), (.ref 693), (.bool true), (.int 181 0), (.ref 694), .none, (.ref 695), (.ref 696), (.ref 697), (.int 1059 0), (.int 351 0), (.str (S "/claim/cut.py") 1060)])), (W [])⟩
def o700 (P : Params) : Obj := ⟨(.type "function"), none, (.func ⟨(S "_law_other"), (S "_law_other"), (defArgs (ST 62)), (.stmts (defBody (ST 62))), (defScope (ST 62)), 3, [], .none, .none, .none, (.str (S "law_nearcall_k39_rooms_come_to") 1002), none, (.ref 698), .none, 0⟩), (W [])⟩
def objs_4 (P : Params) : List Obj :=
  [boot_o_0 P, boot_o_1 P, boot_o_2 P, o500 P, boot_o_4 P, boot_o_5 P, boot_o_6 P, boot_o_7 P, boot_o_8 P, boot_o_9 P, boot_o_10 P, o0 P, o501 P, o2 P, o3 P, o6 P, o7 P, o8 P, o9 P, o10 P, o11 P, o12 P, o13 P, o14 P, o15 P, o16 P, o17 P, o18 P, o19 P, o20 P, o21 P, o22 P, o23 P, o24 P, o25 P, o26 P, o27 P, o28 P, o171 P, o30 P] ++ (
  [o31 P, o32 P, o33 P, o34 P, o35 P, o36 P, o37 P, o38 P, o39 P, o40 P, o41 P, o42 P, o43 P, o44 P, o45 P, o46 P, o47 P, o48 P, o49 P, o50 P, o51 P, o52 P, o53 P, o54 P, o55 P, o56 P, o57 P, o58 P, o59 P, o60 P, o61 P, o62 P, o63 P, o64 P, o65 P, o66 P, o67 P, o68 P, o69 P, o70 P] ++ (
  [o71 P, o72 P, o73 P, o74 P, o75 P, o76 P, o77 P, o78 P, o79 P, o80 P, o81 P, o82 P, o83 P, o84 P, o85 P, o86 P, o87 P, o88 P, o89 P, o93 P, o94 P, o95 P, o96 P, o97 P, o98 P, o99 P, o100 P, o101 P, o102 P, o103 P, o104 P, o105 P, o106 P, o107 P, o108 P, o109 P, o110 P, o111 P, o112 P, o113 P] ++ (
  [o114 P, o115 P, o116 P, o117 P, o118 P, o119 P, o120 P, o121 P, o122 P, o123 P, o124 P, o125 P, o126 P, o127 P, o128 P, o129 P, o130 P, o131 P, o132 P, o133 P, o134 P, o135 P, o136 P, o137 P, o138 P, o139 P, o140 P, o141 P, o142 P, o143 P, o144 P, o145 P, o146 P, o147 P, o148 P, o149 P, o150 P, o151 P, o152 P, o153 P] ++ (
  [o154 P, o155 P, o156 P, o157 P, o158 P, o159 P, o160 P, o161 P, o162 P, o163 P, o164 P, o165 P, o166 P, o167 P, o168 P, o172 P, o173 P, o174 P, o175 P, o176 P, o177 P, o178 P, o179 P, o180 P, o181 P, o182 P, o183 P, o184 P, o185 P, o186 P, o187 P, o188 P, o189 P, o190 P, o191 P, o192 P, o193 P, o194 P, o195 P, o196 P] ++ (
  [o197 P, o198 P, o199 P, o200 P, o201 P, o202 P, o203 P, o204 P, o205 P, o206 P, o207 P, o208 P, o209 P, o210 P, o211 P, o212 P, o213 P, o214 P, o215 P, o216 P, o217 P, o218 P, o219 P, o220 P, o221 P, o222 P, o223 P, o224 P, o225 P, o226 P, o227 P, o228 P, o229 P, o230 P, o231 P, o232 P, o233 P, o234 P, o235 P, o236 P] ++ (
  [o237 P, o238 P, o239 P, o240 P, o241 P, o242 P, o243 P, o244 P, o245 P, o246 P, o247 P, o248 P, o249 P, o250 P, o251 P, o252 P, o253 P, o254 P, o255 P, o256 P, o257 P, o258 P, o259 P, o260 P, o261 P, o262 P, o263 P, o264 P, o265 P, o266 P, o267 P, o268 P, o269 P, o270 P, o271 P, o272 P, o273 P, o274 P, o275 P, o276 P] ++ (
  [o277 P, o278 P, o279 P, o280 P, o281 P, o282 P, o283 P, o284 P, o285 P, o286 P, o287 P, o288 P, o289 P, o290 P, o291 P, o292 P, o293 P, o294 P, o295 P, o296 P, o297 P, o298 P, o299 P, o302 P, o303 P, o304 P, o305 P, o306 P, o307 P, o308 P, o309 P, o310 P, o311 P, o312 P, o313 P, o314 P, o315 P, o316 P, o317 P, o318 P] ++ (
  [o319 P, o320 P, o321 P, o322 P, o323 P, o324 P, o325 P, o326 P, o327 P, o328 P, o329 P, o330 P, o331 P, o332 P, o333 P, o334 P, o335 P, o336 P, o337 P, o338 P, o339 P, o340 P, o341 P, o342 P, o343 P, o344 P, o345 P, o346 P, o347 P, o348 P, o349 P, o350 P, o351 P, o352 P, o353 P, o354 P, o355 P, o356 P, o357 P, o358 P] ++ (
  [o359 P, o360 P, o361 P, o362 P, o363 P, o364 P, o365 P, o366 P, o367 P, o368 P, o369 P, o370 P, o371 P, o372 P, o373 P, o374 P, o375 P, o376 P, o377 P, o378 P, o379 P, o380 P, o381 P, o382 P, o383 P, o384 P, o385 P, o386 P, o387 P, o388 P, o389 P, o390 P, o391 P, o392 P, o393 P, o394 P, o395 P, o396 P, o397 P, o398 P] ++ (
  [o399 P, o400 P, o401 P, o402 P, o403 P, o404 P, o405 P, o406 P, o407 P, o408 P, o409 P, o410 P, o411 P, o412 P, o413 P, o414 P, o415 P, o416 P, o417 P, o418 P, o419 P, o420 P, o421 P, o422 P, o423 P, o424 P, o425 P, o426 P, o427 P, o428 P, o429 P, o430 P, o431 P, o432 P, o433 P, o434 P, o435 P, o436 P, o437 P, o438 P] ++ (
  [o439 P, o440 P, o441 P, o442 P, o443 P, o444 P, o445 P, o446 P, o447 P, o448 P, o449 P, o450 P, o451 P, o452 P, o453 P, o454 P, o455 P, o456 P, o457 P, o458 P, o459 P, o460 P, o461 P, o462 P, o463 P, o464 P, o465 P, o466 P, o467 P, o468 P, o469 P, o470 P, o471 P, o472 P, o473 P, o474 P, o475 P, o476 P, o477 P, o478 P] ++ (
  [o479 P, o480 P, o481 P, o482 P, o483 P, o484 P, o485 P, o486 P, o487 P, o488 P, o489 P, o490 P, o491 P, o492 P, o493 P, o494 P, o495 P, o496 P, o497 P, o498 P, o499 P, o502 P, o503 P, o504 P, o505 P, o506 P, o507 P, o508 P, o509 P, o510 P, o511 P, o512 P, o513 P, o514 P, o515 P, o516 P, o517 P, o518 P, o519 P, o520 P] ++ (
  [o521 P, o522 P, o523 P, o524 P, o525 P, o526 P, o527 P, o528 P, o529 P, o530 P, o531 P, o532 P, o533 P, o534 P, o535 P, o536 P, o537 P, o538 P, o539 P, o540 P, o541 P, o542 P, o543 P, o544 P, o545 P, o546 P, o547 P, o548 P, o549 P, o550 P, o551 P, o552 P, o553 P, o554 P, o555 P, o556 P, o557 P, o558 P, o559 P, o560 P] ++ (
  [o561 P, o562 P, o563 P, o564 P, o565 P, o566 P, o567 P, o568 P, o569 P, o570 P, o571 P, o572 P, o573 P, o574 P, o575 P, o576 P, o577 P, o578 P, o579 P, o580 P, o581 P, o582 P, o583 P, o584 P, o585 P, o586 P, o587 P, o588 P, o589 P, o590 P, o591 P, o592 P, o593 P, o594 P, o595 P, o596 P, o597 P, o598 P, o599 P, o600 P] ++ (
  [o601 P, o602 P, o603 P, o604 P, o605 P, o606 P, o607 P, o608 P, o609 P, o610 P, o611 P, o612 P, o613 P, o614 P, o615 P, o616 P, o617 P, o618 P, o619 P, o620 P, o621 P, o622 P, o623 P, o624 P, o625 P, o626 P, o627 P, o628 P, o629 P, o630 P, o631 P, o632 P, o633 P, o634 P, o635 P, o636 P, o637 P, o638 P, o639 P, o640 P] ++ (
  [o641 P, o642 P, o643 P, o644 P, o645 P, o646 P, o647 P, o648 P, o649 P, o650 P, o651 P, o652 P, o653 P, o654 P, o655 P, o656 P, o657 P, o658 P, o659 P, o660 P, o661 P, o662 P, o663 P, o664 P, o665 P, o666 P, o667 P, o668 P, o669 P, o670 P, o671 P, o672 P, o673 P, o674 P, o675 P, o676 P, o677 P, o678 P, o679 P, o680 P] ++ (
  [o681 P, o682 P, o683 P, o684 P, o685 P, o686 P, o687 P, o688 P, o689 P, o690 P, o691 P, o692 P, o693 P, o694 P, o695 P, o696 P, o697 P, o698 P, o699 P, o700 P])))))))))))))))))
def o701 (P : Params) : Obj := ⟨(.type "dict"), none, (.dict (D [E P (S "__name__") 165 (.str (S "law_nearcall_k39_rooms_come_to") 1002), E P (S "__doc__") 166 .none, E P (S "__package__") 167 .none, E P (S "__loader__") 168 (.builtin "__main__.__loader__#opaque"), E P (S "__spec__") 169 .none, E P (S "__annotations__") 170 (.ref 6), E P (S "__builtins__") 171 (.ref 4), E P (S "__file__") 173 (.str (S "/claim/cut.py") 172), E P (S "__cached__") 174 .none, E P (S "_wall") 193 (.ref 21), E P (S "HallError") 222 (.ref 38), E P (S "BadWalls") 245 (.ref 58), E P (S "BadBar") 270 (.ref 77), E P (S "BadSide") 293 (.ref 96), E P (S "Fixed") 318 (.ref 115), E P (S "Alike") 345 (.ref 134), E P (S "BadRoom") 368 (.ref 153), E P (S "BadPart") 391 (.ref 172), E P (S "Empty") 416 (.ref 191), E P (S "BadTable") 441 (.ref 210), E P (S "TooMany") 466 (.ref 229), E P (S "WIDEST") 470 (.int 12 469), E P (S "other") 477 (.ref 238), E P (S "sides_of") 484 (.ref 245), E P (S "by_walls") 490 (.ref 250), E P (S "is_walls") 496 (.ref 255), E P (S "is_bar") 505 (.ref 262), E P (S "check_walls") 512 (.ref 269), E P (S "check_bars") 522 (.ref 276), E P (S "check_side") 530 (.ref 283), E P (S "check_room") 538 (.ref 290), E P (S "straight_from") 544 (.ref 295), E P (S "reached") 557 (.ref 302), E P (S "all_forced") 563 (.ref 307), E P (S "check_fixed") 571 (.ref 314), E P (S "check_alike") 580 (.ref 321), E P (S "Hall") 727 (.ref 439), E P (S "is_part") 740 (.ref 450), E P (S "check_part") 748 (.ref 457), E P (S "all_forced_by") 754 (.ref 462), E P (S "torn_walls") 760 (.ref 467), E P (S "shut") 769 (.ref 474), E P (S "shut_calls") 777 (.ref 479), E P (S "is_fixed") 786 (.ref 486), E P (S "stand_on") 794 (.ref 493), E P (S "is_entry") 803 (.ref 500), E P (S "side_behind") 812 (.ref 507), E P (S "room_behind") 818 (.ref 512), E P (S "may_meet") 827 (.ref 519), E P (S "stood_ahead") 835 (.ref 526), E P (S "leads_to_rooms") 841 (.ref 531), E P (S "check_entries") 852 (.ref 538), E P (S "Table") 957 (.ref 623), E P (S "of_call") 963 (.ref 632), E P (S "MOST_CALLS") 967 (.int 12 966), E P (S "rooms_met") 983 (.ref 639), E P (S "call_moves") 989 (.ref 644), E P (S "come_to") 1001 (.ref 652), E P (S "_law_same") 1009 (.ref 657), E P (S "_law_start") 1018 (.ref 664), E P (S "_law_draw") 1029 (.ref 671), E P (S "_law_of") 1037 (.ref 678), E P (S "_law_letters") 1043 (.ref 685), E P (S "_law_shuts") 1054 (.ref 692), E P (S "_law_other") 1061 (.ref 699), E P (S "_law_within") 1067 (.ref 704), E P (S "_law_pairs") 1073 (.ref 709), E P (S "_law_all") 1084 (.ref 716), E P (S "_law_rooms") 1090 (.ref 721), E P (S "_law_fine") 1096 (.ref 726), E P (S "_law_hall") 1109 (.ref 733), E P (S "_law_image") 1115 (.ref 738), E P (S "_law_by_shuts") 1121 (.ref 743), E P (S "_law_sides") 1133 (.ref 750), E P (S "_law_part") 1139 (.ref 755), E P (S "_law_apart") 1145 (.ref 760), E P (S "_law_near") 1156 (.ref 767), E P (S "_law_led") 1168 (.ref 774), E P (S "_law_map") 1179 (.ref 781), E P (S "_law_calls") 1185 (.ref 786), E P (S "_law_reach") 1198 (.ref 793), E P (S "_law_told") 1207 (.ref 800), E P (S "law") 1213 (.ref 805)]) 83), (W [])⟩
def o702 (P : Params) : Obj := ⟨.none, none, (.fields (V [(.int 1 0), (.int 0 0), (.ref 20), (.int 5 0), (.int 0 0), (.ref 27), (.int 10 0), (.int 0 0), (.ref 47), (.int 14 0), (.int 0 0), (.ref 66), (.int 19 0), (.int 0 0), (.ref 85), (.int 23 0), (.int 0 0), (.ref 104), (.int 28 0), (.int 0 0), (.ref 123), (.int 34 0), (.int 0 0), (.ref 142), (.int 38 0), (.int 0 0), (.ref 161), (.int 42 0), (.int 0 0), (.ref 180), (.int 47 0), (.int 0 0), (.ref 199), (.int 52 0), (.int 0 0), (.ref 218), (.int 59 0), (.int 0 0), (.ref 237), (.int 61 0), (.int 0 0), (.ref 244), (.int 63 0), (.int 0 0), (.ref 249), (.int 65 0), (.int 0 0), (.ref 254), (.int 68 0), (.int 0 0), (.ref 261), (.int 73 0), (.int 0 0), (.ref 268), (.int 76 0), (.int 0 0), (.ref 275), (.int 80 0), (.int 0 0), (.ref 282), (.int 83 0), (.int 0 0), (.ref 289), (.int 86 0), (.int 0 0), (.ref 294), (.int 92 0), (.int 0 0), (.ref 301), (.int 104 0), (.int 0 0), (.ref 306), (.int 107 0), (.int 0 0), (.ref 313), (.int 111 0), (.int 0 0), (.ref 320), (.int 116 0), (.int 0 0), (.ref 327), (.int 182 0), (.int 0 0), (.ref 449), (.int 190 0), (.int 0 0), (.ref 456), (.int 193 0), (.int 0 0), (.ref 461), (.int 195 0), (.int 0 0), (.ref 466), (.int 198 0), (.int 0 0), (.ref 473), (.int 205 0), (.int 0 0), (.ref 478), (.int 210 0), (.int 0 0), (.ref 485), (.int 212 0), (.int 0 0), (.ref 492), (.int 214 0), (.int 0 0), (.ref 499), (.int 216 0), (.int 0 0), (.ref 506), (.int 220 0), (.int 0 0), (.ref 511), (.int 222 0), (.int 0 0), (.ref 518), (.int 228 0), (.int 0 0), (.ref 525), (.int 232 0), (.int 0 0), (.ref 530), (.int 240 0), (.int 0 0), (.ref 537), (.int 249 0), (.int 0 0), (.ref 544), (.int 285 0), (.int 0 0), (.ref 631), (.int 290 0), (.int 0 0), (.ref 638), (.int 303 0), (.int 0 0), (.ref 643), (.int 305 0), (.int 0 0), (.ref 651), (.int 312 0), (.int 0 0), (.ref 656), (.int 320 0), (.int 0 0), (.ref 663), (.int 325 0), (.int 0 0), (.ref 670), (.int 340 0), (.int 0 0), (.ref 677), (.int 342 0), (.int 0 0), (.ref 684), (.int 344 0), (.int 0 0), (.ref 691), (.int 351 0), (.int 0 0), (.ref 698), (.int 353 0), (.int 0 0), (.ref 703), (.int 355 0), (.int 0 0), (.ref 708), (.int 362 0), (.int 0 0), (.ref 715), (.int 370 0), (.int 0 0), (.ref 720), (.int 372 0), (.int 0 0), (.ref 725), (.int 382 0), (.int 0 0), (.ref 732), (.int 390 0), (.int 0 0), (.ref 737), (.int 396 0), (.int 0 0), (.ref 742), (.int 401 0), (.int 0 0), (.ref 749), (.int 409 0), (.int 0 0), (.ref 754), (.int 415 0), (.int 0 0), (.ref 759), (.int 417 0), (.int 0 0), (.ref 766), (.int 424 0), (.int 0 0), (.ref 773), (.int 431 0), (.int 0 0), (.ref 780), (.int 436 0), (.int 0 0), (.ref 785), (.int 438 0), (.int 0 0), (.ref 792), (.int 448 0), (.int 0 0), (.ref 799), (.int 454 0), (.int 0 0), (.ref 804)])), (W [])⟩
def o703 (P : Params) : Obj := ⟨(.type "tuple"), none, (.seq (V []) 0), (W [])⟩
def o704 (P : Params) : Obj := ⟨.none, none, (.fields (V [])), (W [])⟩
def o705 (P : Params) : Obj := ⟨.none, none, (.func ⟨(S "_law_within"), (S "_law_within"), (defArgs (ST 63)), (.stmts (defBody (ST 63))), (defScope (ST 63)), 0, [], .none, .none, .none, .none, none, .none, .none, 0⟩), (W [])⟩
def o706 (P : Params) : Obj := ⟨(.type "code"), none, (.fields (V [(.str (S "_law_within") 1062), (.str (S "_law_within") 1063), (.str (S "/claim/cut.py") 1064), (.int 353 0), (.int 2 0), (.int 0 0), (.int 0 0), (.int 3 0), (.ref 700), (.bool true), (.int 181 0), (.ref 701), .none, .none, .none, (.ref 702), (.int 1065 0), (.int 353 0), (.str (S "/claim/cut.py") 1066)])), (W [])⟩
def o707 (P : Params) : Obj := ⟨(.type "function"), none, (.func ⟨(S "_law_within"), (S "_law_within"), (defArgs (ST 63)), (.stmts (defBody (ST 63))), (defScope (ST 63)), 3, [], .none, .none, .none, (.str (S "law_nearcall_k39_rooms_come_to") 1002), none, (.ref 703), .none, 0⟩), (W [])⟩
def o708 (P : Params) : Obj := ⟨(.type "tuple"), none, (.seq (V []) 0), (W [])⟩
def o709 (P : Params) : Obj := ⟨.none, none, (.fields (V [])), (W [])⟩
def o710 (P : Params) : Obj := ⟨.none, none, (.func ⟨(S "_law_pairs"), (S "_law_pairs"), (defArgs (ST 64)), (.stmts (defBody (ST 64))), (defScope (ST 64)), 0, [], .none, .none, .none, .none, none, .none, .none, 0⟩), (W [])⟩
def o711 (P : Params) : Obj := ⟨(.type "code"), none, (.fields (V [(.str (S "_law_pairs") 1068), (.str (S "_law_pairs") 1069), (.str (S "/claim/cut.py") 1070), (.int 355 0), (.int 1 0), (.int 0 0), (.int 0 0), (.int 3 0), (.ref 705), (.bool true), (.int 181 0), (.ref 706), .none, .none, .none, (.ref 707), (.int 1071 0), (.int 355 0), (.str (S "/claim/cut.py") 1072)])), (W [])⟩
def o712 (P : Params) : Obj := ⟨(.type "function"), none, (.func ⟨(S "_law_pairs"), (S "_law_pairs"), (defArgs (ST 64)), (.stmts (defBody (ST 64))), (defScope (ST 64)), 3, [], .none, .none, .none, (.str (S "law_nearcall_k39_rooms_come_to") 1002), none, (.ref 708), .none, 0⟩), (W [])⟩
def o713 (P : Params) : Obj := ⟨(.type "tuple"), none, (.seq (V []) 0), (W [])⟩
def o714 (P : Params) : Obj := ⟨.none, none, (.fields (V [])), (W [])⟩
def o715 (P : Params) : Obj := ⟨(.type "tuple"), none, (.seq (V [(.str (S "_law_shuts_here") 1077), (.str (S "_law_found") 1078), (.str (S "_law_shut") 1079), (.str (S "_law_longer") 1080), (.str (S "_law_begun_it") 1081)]) 0), (W [])⟩
def o716 (P : Params) : Obj := ⟨(.type "tuple"), none, (.seq (V []) 0), (W [])⟩
def o717 (P : Params) : Obj := ⟨.none, none, (.func ⟨(S "_law_all"), (S "_law_all"), (defArgs (ST 65)), (.stmts (defBody (ST 65))), (defScope (ST 65)), 0, [], .none, .none, .none, .none, none, .none, .none, 0⟩), (W [])⟩
def o718 (P : Params) : Obj := ⟨(.type "code"), none, (.fields (V [(.str (S "_law_all") 1074), (.str (S "_law_all") 1075), (.str (S "/claim/cut.py") 1076), (.int 362 0), (.int 1 0), (.int 0 0), (.int 0 0), (.int 3 0), (.ref 710), (.bool true), (.int 181 0), (.ref 711), .none, (.ref 712), (.ref 713), (.ref 714), (.int 1082 0), (.int 362 0), (.str (S "/claim/cut.py") 1083)])), (W [])⟩
def o719 (P : Params) : Obj := ⟨(.type "function"), none, (.func ⟨(S "_law_all"), (S "_law_all"), (defArgs (ST 65)), (.stmts (defBody (ST 65))), (defScope (ST 65)), 3, [], .none, .none, .none, (.str (S "law_nearcall_k39_rooms_come_to") 1002), none, (.ref 715), .none, 0⟩), (W [])⟩
def o720 (P : Params) : Obj := ⟨(.type "tuple"), none, (.seq (V []) 0), (W [])⟩
def o721 (P : Params) : Obj := ⟨.none, none, (.fields (V [])), (W [])⟩
def o722 (P : Params) : Obj := ⟨.none, none, (.func ⟨(S "_law_rooms"), (S "_law_rooms"), (defArgs (ST 66)), (.stmts (defBody (ST 66))), (defScope (ST 66)), 0, [], .none, .none, .none, .none, none, .none, .none, 0⟩), (W [])⟩
def o723 (P : Params) : Obj := ⟨(.type "code"), none, (.fields (V [(.str (S "_law_rooms") 1085), (.str (S "_law_rooms") 1086), (.str (S "/claim/cut.py") 1087), (.int 370 0), (.int 2 0), (.int 0 0), (.int 0 0), (.int 3 0), (.ref 717), (.bool true), (.int 181 0), (.ref 718), .none, .none, .none, (.ref 719), (.int 1088 0), (.int 370 0), (.str (S "/claim/cut.py") 1089)])), (W [])⟩
def o724 (P : Params) : Obj := ⟨(.type "function"), none, (.func ⟨(S "_law_rooms"), (S "_law_rooms"), (defArgs (ST 66)), (.stmts (defBody (ST 66))), (defScope (ST 66)), 3, [], .none, .none, .none, (.str (S "law_nearcall_k39_rooms_come_to") 1002), none, (.ref 720), .none, 0⟩), (W [])⟩
def o725 (P : Params) : Obj := ⟨(.type "tuple"), none, (.seq (V []) 0), (W [])⟩
def o726 (P : Params) : Obj := ⟨.none, none, (.fields (V [])), (W [])⟩
def o727 (P : Params) : Obj := ⟨.none, none, (.func ⟨(S "_law_fine"), (S "_law_fine"), (defArgs (ST 67)), (.stmts (defBody (ST 67))), (defScope (ST 67)), 0, [], .none, .none, .none, .none, none, .none, .none, 0⟩), (W [])⟩
def o728 (P : Params) : Obj := ⟨(.type "code"), none, (.fields (V [(.str (S "_law_fine") 1091), (.str (S "_law_fine") 1092), (.str (S "/claim/cut.py") 1093), (.int 372 0), (.int 2 0), (.int 0 0), (.int 0 0), (.int 3 0), (.ref 722), (.bool true), (.int 181 0), (.ref 723), .none, .none, .none, (.ref 724), (.int 1094 0), (.int 372 0), (.str (S "/claim/cut.py") 1095)])), (W [])⟩
def o729 (P : Params) : Obj := ⟨(.type "function"), none, (.func ⟨(S "_law_fine"), (S "_law_fine"), (defArgs (ST 67)), (.stmts (defBody (ST 67))), (defScope (ST 67)), 3, [], .none, .none, .none, (.str (S "law_nearcall_k39_rooms_come_to") 1002), none, (.ref 725), .none, 0⟩), (W [])⟩
def o730 (P : Params) : Obj := ⟨(.type "tuple"), none, (.seq (V []) 0), (W [])⟩
def o731 (P : Params) : Obj := ⟨.none, none, (.fields (V [])), (W [])⟩
def o732 (P : Params) : Obj := ⟨(.type "tuple"), none, (.seq (V [(.str (S "_law_d") 1100), (.str (S "_law_most_it") 1101), (.str (S "_law_shuts_here") 1102), (.str (S "_law_bars") 1103), (.str (S "_law_many") 1104), (.str (S "_law_k") 1105), (.str (S "_law_bar") 1106)]) 0), (W [])⟩
def o733 (P : Params) : Obj := ⟨(.type "tuple"), none, (.seq (V []) 0), (W [])⟩
def o734 (P : Params) : Obj := ⟨.none, none, (.func ⟨(S "_law_hall"), (S "_law_hall"), (defArgs (ST 68)), (.stmts (defBody (ST 68))), (defScope (ST 68)), 0, [], .none, .none, .none, .none, none, .none, .none, 0⟩), (W [])⟩
def o735 (P : Params) : Obj := ⟨(.type "code"), none, (.fields (V [(.str (S "_law_hall") 1097), (.str (S "_law_hall") 1098), (.str (S "/claim/cut.py") 1099), (.int 382 0), (.int 2 0), (.int 0 0), (.int 0 0), (.int 3 0), (.ref 727), (.bool true), (.int 181 0), (.ref 728), .none, (.ref 729), (.ref 730), (.ref 731), (.int 1107 0), (.int 382 0), (.str (S "/claim/cut.py") 1108)])), (W [])⟩
def o736 (P : Params) : Obj := ⟨(.type "function"), none, (.func ⟨(S "_law_hall"), (S "_law_hall"), (defArgs (ST 68)), (.stmts (defBody (ST 68))), (defScope (ST 68)), 3, [], .none, .none, .none, (.str (S "law_nearcall_k39_rooms_come_to") 1002), none, (.ref 732), .none, 0⟩), (W [])⟩
def o737 (P : Params) : Obj := ⟨(.type "tuple"), none, (.seq (V []) 0), (W [])⟩
def o738 (P : Params) : Obj := ⟨.none, none, (.fields (V [])), (W [])⟩
def o739 (P : Params) : Obj := ⟨.none, none, (.func ⟨(S "_law_image"), (S "_law_image"), (defArgs (ST 69)), (.stmts (defBody (ST 69))), (defScope (ST 69)), 0, [], .none, .none, .none, .none, none, .none, .none, 0⟩), (W [])⟩
def o740 (P : Params) : Obj := ⟨(.type "code"), none, (.fields (V [(.str (S "_law_image") 1110), (.str (S "_law_image") 1111), (.str (S "/claim/cut.py") 1112), (.int 390 0), (.int 3 0), (.int 0 0), (.int 0 0), (.int 3 0), (.ref 734), (.bool true), (.int 181 0), (.ref 735), .none, .none, .none, (.ref 736), (.int 1113 0), (.int 390 0), (.str (S "/claim/cut.py") 1114)])), (W [])⟩
def o741 (P : Params) : Obj := ⟨(.type "function"), none, (.func ⟨(S "_law_image"), (S "_law_image"), (defArgs (ST 69)), (.stmts (defBody (ST 69))), (defScope (ST 69)), 3, [], .none, .none, .none, (.str (S "law_nearcall_k39_rooms_come_to") 1002), none, (.ref 737), .none, 0⟩), (W [])⟩
def o742 (P : Params) : Obj := ⟨(.type "tuple"), none, (.seq (V []) 0), (W [])⟩
def o743 (P : Params) : Obj := ⟨.none, none, (.fields (V [])), (W [])⟩
def o744 (P : Params) : Obj := ⟨.none, none, (.func ⟨(S "_law_by_shuts"), (S "_law_by_shuts"), (defArgs (ST 70)), (.stmts (defBody (ST 70))), (defScope (ST 70)), 0, [], .none, .none, .none, .none, none, .none, .none, 0⟩), (W [])⟩
def o745 (P : Params) : Obj := ⟨(.type "code"), none, (.fields (V [(.str (S "_law_by_shuts") 1116), (.str (S "_law_by_shuts") 1117), (.str (S "/claim/cut.py") 1118), (.int 396 0), (.int 1 0), (.int 0 0), (.int 0 0), (.int 3 0), (.ref 739), (.bool true), (.int 181 0), (.ref 740), .none, .none, .none, (.ref 741), (.int 1119 0), (.int 396 0), (.str (S "/claim/cut.py") 1120)])), (W [])⟩
def o746 (P : Params) : Obj := ⟨(.type "function"), none, (.func ⟨(S "_law_by_shuts"), (S "_law_by_shuts"), (defArgs (ST 70)), (.stmts (defBody (ST 70))), (defScope (ST 70)), 3, [], .none, .none, .none, (.str (S "law_nearcall_k39_rooms_come_to") 1002), none, (.ref 742), .none, 0⟩), (W [])⟩
def o747 (P : Params) : Obj := ⟨(.type "tuple"), none, (.seq (V []) 0), (W [])⟩
def o748 (P : Params) : Obj := ⟨.none, none, (.fields (V [])), (W [])⟩
def o749 (P : Params) : Obj := ⟨(.type "tuple"), none, (.seq (V [(.str (S "_law_d") 1125), (.str (S "_law_shuts_here") 1126), (.str (S "_law_odds") 1127), (.str (S "_law_found") 1128), (.str (S "_law_shut") 1129), (.str (S "_law_how") 1130)]) 0), (W [])⟩
def o750 (P : Params) : Obj := ⟨(.type "tuple"), none, (.seq (V []) 0), (W [])⟩
def o751 (P : Params) : Obj := ⟨.none, none, (.func ⟨(S "_law_sides"), (S "_law_sides"), (defArgs (ST 71)), (.stmts (defBody (ST 71))), (defScope (ST 71)), 0, [], .none, .none, .none, .none, none, .none, .none, 0⟩), (W [])⟩
def o752 (P : Params) : Obj := ⟨(.type "code"), none, (.fields (V [(.str (S "_law_sides") 1122), (.str (S "_law_sides") 1123), (.str (S "/claim/cut.py") 1124), (.int 401 0), (.int 2 0), (.int 0 0), (.int 0 0), (.int 3 0), (.ref 744), (.bool true), (.int 181 0), (.ref 745), .none, (.ref 746), (.ref 747), (.ref 748), (.int 1131 0), (.int 401 0), (.str (S "/claim/cut.py") 1132)])), (W [])⟩
def o753 (P : Params) : Obj := ⟨(.type "function"), none, (.func ⟨(S "_law_sides"), (S "_law_sides"), (defArgs (ST 71)), (.stmts (defBody (ST 71))), (defScope (ST 71)), 3, [], .none, .none, .none, (.str (S "law_nearcall_k39_rooms_come_to") 1002), none, (.ref 749), .none, 0⟩), (W [])⟩
def o754 (P : Params) : Obj := ⟨(.type "tuple"), none, (.seq (V []) 0), (W [])⟩
def o755 (P : Params) : Obj := ⟨.none, none, (.fields (V [])), (W [])⟩
def o756 (P : Params) : Obj := ⟨.none, none, (.func ⟨(S "_law_part"), (S "_law_part"), (defArgs (ST 72)), (.stmts (defBody (ST 72))), (defScope (ST 72)), 0, [], .none, .none, .none, .none, none, .none, .none, 0⟩), (W [])⟩
def o757 (P : Params) : Obj := ⟨(.type "code"), none, (.fields (V [(.str (S "_law_part") 1134), (.str (S "_law_part") 1135), (.str (S "/claim/cut.py") 1136), (.int 409 0), (.int 3 0), (.int 0 0), (.int 0 0), (.int 3 0), (.ref 751), (.bool true), (.int 181 0), (.ref 752), .none, .none, .none, (.ref 753), (.int 1137 0), (.int 409 0), (.str (S "/claim/cut.py") 1138)])), (W [])⟩
def o758 (P : Params) : Obj := ⟨(.type "function"), none, (.func ⟨(S "_law_part"), (S "_law_part"), (defArgs (ST 72)), (.stmts (defBody (ST 72))), (defScope (ST 72)), 3, [], .none, .none, .none, (.str (S "law_nearcall_k39_rooms_come_to") 1002), none, (.ref 754), .none, 0⟩), (W [])⟩
def o759 (P : Params) : Obj := ⟨(.type "tuple"), none, (.seq (V []) 0), (W [])⟩
def o760 (P : Params) : Obj := ⟨.none, none, (.fields (V [])), (W [])⟩
def o761 (P : Params) : Obj := ⟨.none, none, (.func ⟨(S "_law_apart"), (S "_law_apart"), (defArgs (ST 73)), (.stmts (defBody (ST 73))), (defScope (ST 73)), 0, [], .none, .none, .none, .none, none, .none, .none, 0⟩), (W [])⟩
def o762 (P : Params) : Obj := ⟨(.type "code"), none, (.fields (V [(.str (S "_law_apart") 1140), (.str (S "_law_apart") 1141), (.str (S "/claim/cut.py") 1142), (.int 415 0), (.int 2 0), (.int 0 0), (.int 0 0), (.int 3 0), (.ref 756), (.bool true), (.int 181 0), (.ref 757), .none, .none, .none, (.ref 758), (.int 1143 0), (.int 415 0), (.str (S "/claim/cut.py") 1144)])), (W [])⟩
def o763 (P : Params) : Obj := ⟨(.type "function"), none, (.func ⟨(S "_law_apart"), (S "_law_apart"), (defArgs (ST 73)), (.stmts (defBody (ST 73))), (defScope (ST 73)), 3, [], .none, .none, .none, (.str (S "law_nearcall_k39_rooms_come_to") 1002), none, (.ref 759), .none, 0⟩), (W [])⟩
def o764 (P : Params) : Obj := ⟨(.type "tuple"), none, (.seq (V []) 0), (W [])⟩
def o765 (P : Params) : Obj := ⟨.none, none, (.fields (V [])), (W [])⟩
def o766 (P : Params) : Obj := ⟨(.type "tuple"), none, (.seq (V [(.str (S "_law_rooms_here") 1149), (.str (S "_law_part_here") 1150), (.str (S "_law_room") 1151), (.str (S "_law_best") 1152), (.str (S "_law_one") 1153)]) 0), (W [])⟩
def o767 (P : Params) : Obj := ⟨(.type "tuple"), none, (.seq (V []) 0), (W [])⟩
def o768 (P : Params) : Obj := ⟨.none, none, (.func ⟨(S "_law_near"), (S "_law_near"), (defArgs (ST 74)), (.stmts (defBody (ST 74))), (defScope (ST 74)), 0, [], .none, .none, .none, .none, none, .none, .none, 0⟩), (W [])⟩
def o769 (P : Params) : Obj := ⟨(.type "code"), none, (.fields (V [(.str (S "_law_near") 1146), (.str (S "_law_near") 1147), (.str (S "/claim/cut.py") 1148), (.int 417 0), (.int 3 0), (.int 0 0), (.int 0 0), (.int 3 0), (.ref 761), (.bool true), (.int 181 0), (.ref 762), .none, (.ref 763), (.ref 764), (.ref 765), (.int 1154 0), (.int 417 0), (.str (S "/claim/cut.py") 1155)])), (W [])⟩
def o770 (P : Params) : Obj := ⟨(.type "function"), none, (.func ⟨(S "_law_near"), (S "_law_near"), (defArgs (ST 74)), (.stmts (defBody (ST 74))), (defScope (ST 74)), 3, [], .none, .none, .none, (.str (S "law_nearcall_k39_rooms_come_to") 1002), none, (.ref 766), .none, 0⟩), (W [])⟩
def o771 (P : Params) : Obj := ⟨(.type "tuple"), none, (.seq (V []) 0), (W [])⟩
def o772 (P : Params) : Obj := ⟨.none, none, (.fields (V [])), (W [])⟩
def o773 (P : Params) : Obj := ⟨(.type "tuple"), none, (.seq (V [(.str (S "_law_rooms_here") 1160), (.str (S "_law_shuts_here") 1161), (.str (S "_law_steps") 1162), (.str (S "_law_room") 1163), (.str (S "_law_kind") 1164), (.str (S "_law_text") 1165)]) 0), (W [])⟩
def o774 (P : Params) : Obj := ⟨(.type "tuple"), none, (.seq (V []) 0), (W [])⟩
def o775 (P : Params) : Obj := ⟨.none, none, (.func ⟨(S "_law_led"), (S "_law_led"), (defArgs (ST 75)), (.stmts (defBody (ST 75))), (defScope (ST 75)), 0, [], .none, .none, .none, .none, none, .none, .none, 0⟩), (W [])⟩
def o776 (P : Params) : Obj := ⟨(.type "code"), none, (.fields (V [(.str (S "_law_led") 1157), (.str (S "_law_led") 1158), (.str (S "/claim/cut.py") 1159), (.int 424 0), (.int 4 0), (.int 0 0), (.int 0 0), (.int 3 0), (.ref 768), (.bool true), (.int 181 0), (.ref 769), .none, (.ref 770), (.ref 771), (.ref 772), (.int 1166 0), (.int 424 0), (.str (S "/claim/cut.py") 1167)])), (W [])⟩
def o777 (P : Params) : Obj := ⟨(.type "function"), none, (.func ⟨(S "_law_led"), (S "_law_led"), (defArgs (ST 75)), (.stmts (defBody (ST 75))), (defScope (ST 75)), 3, [], .none, .none, .none, (.str (S "law_nearcall_k39_rooms_come_to") 1002), none, (.ref 773), .none, 0⟩), (W [])⟩
def o778 (P : Params) : Obj := ⟨(.type "tuple"), none, (.seq (V []) 0), (W [])⟩
def o779 (P : Params) : Obj := ⟨.none, none, (.fields (V [])), (W [])⟩
def o780 (P : Params) : Obj := ⟨(.type "tuple"), none, (.seq (V [(.str (S "_law_rooms_here") 1172), (.str (S "_law_shuts_here") 1173), (.str (S "_law_steps") 1174), (.str (S "_law_found") 1175), (.str (S "_law_room") 1176)]) 0), (W [])⟩
def o781 (P : Params) : Obj := ⟨(.type "tuple"), none, (.seq (V []) 0), (W [])⟩
def o782 (P : Params) : Obj := ⟨.none, none, (.func ⟨(S "_law_map"), (S "_law_map"), (defArgs (ST 76)), (.stmts (defBody (ST 76))), (defScope (ST 76)), 0, [], .none, .none, .none, .none, none, .none, .none, 0⟩), (W [])⟩
def o783 (P : Params) : Obj := ⟨(.type "code"), none, (.fields (V [(.str (S "_law_map") 1169), (.str (S "_law_map") 1170), (.str (S "/claim/cut.py") 1171), (.int 431 0), (.int 3 0), (.int 0 0), (.int 0 0), (.int 3 0), (.ref 775), (.bool true), (.int 181 0), (.ref 776), .none, (.ref 777), (.ref 778), (.ref 779), (.int 1177 0), (.int 431 0), (.str (S "/claim/cut.py") 1178)])), (W [])⟩
def o784 (P : Params) : Obj := ⟨(.type "function"), none, (.func ⟨(S "_law_map"), (S "_law_map"), (defArgs (ST 76)), (.stmts (defBody (ST 76))), (defScope (ST 76)), 3, [], .none, .none, .none, (.str (S "law_nearcall_k39_rooms_come_to") 1002), none, (.ref 780), .none, 0⟩), (W [])⟩
def o785 (P : Params) : Obj := ⟨(.type "tuple"), none, (.seq (V []) 0), (W [])⟩
def o786 (P : Params) : Obj := ⟨.none, none, (.fields (V [])), (W [])⟩
def o787 (P : Params) : Obj := ⟨.none, none, (.func ⟨(S "_law_calls"), (S "_law_calls"), (defArgs (ST 77)), (.stmts (defBody (ST 77))), (defScope (ST 77)), 0, [], .none, .none, .none, .none, none, .none, .none, 0⟩), (W [])⟩
def o788 (P : Params) : Obj := ⟨(.type "code"), none, (.fields (V [(.str (S "_law_calls") 1180), (.str (S "_law_calls") 1181), (.str (S "/claim/cut.py") 1182), (.int 436 0), (.int 4 0), (.int 0 0), (.int 0 0), (.int 3 0), (.ref 782), (.bool true), (.int 181 0), (.ref 783), .none, .none, .none, (.ref 784), (.int 1183 0), (.int 436 0), (.str (S "/claim/cut.py") 1184)])), (W [])⟩
def o789 (P : Params) : Obj := ⟨(.type "function"), none, (.func ⟨(S "_law_calls"), (S "_law_calls"), (defArgs (ST 77)), (.stmts (defBody (ST 77))), (defScope (ST 77)), 3, [], .none, .none, .none, (.str (S "law_nearcall_k39_rooms_come_to") 1002), none, (.ref 785), .none, 0⟩), (W [])⟩
def o790 (P : Params) : Obj := ⟨(.type "tuple"), none, (.seq (V []) 0), (W [])⟩
def o791 (P : Params) : Obj := ⟨.none, none, (.fields (V [])), (W [])⟩
def o792 (P : Params) : Obj := ⟨(.type "tuple"), none, (.seq (V [(.str (S "_law_rooms_here") 1189), (.str (S "_law_moves") 1190), (.str (S "_law_room") 1191), (.str (S "_law_known") 1192), (.str (S "_law_at") 1193), (.str (S "_law_move") 1194), (.str (S "_law_later") 1195)]) 0), (W [])⟩
def o793 (P : Params) : Obj := ⟨(.type "tuple"), none, (.seq (V []) 0), (W [])⟩
def o794 (P : Params) : Obj := ⟨.none, none, (.func ⟨(S "_law_reach"), (S "_law_reach"), (defArgs (ST 78)), (.stmts (defBody (ST 78))), (defScope (ST 78)), 0, [], .none, .none, .none, .none, none, .none, .none, 0⟩), (W [])⟩
def o795 (P : Params) : Obj := ⟨(.type "code"), none, (.fields (V [(.str (S "_law_reach") 1186), (.str (S "_law_reach") 1187), (.str (S "/claim/cut.py") 1188), (.int 438 0), (.int 3 0), (.int 0 0), (.int 0 0), (.int 3 0), (.ref 787), (.bool true), (.int 181 0), (.ref 788), .none, (.ref 789), (.ref 790), (.ref 791), (.int 1196 0), (.int 438 0), (.str (S "/claim/cut.py") 1197)])), (W [])⟩
def o796 (P : Params) : Obj := ⟨(.type "function"), none, (.func ⟨(S "_law_reach"), (S "_law_reach"), (defArgs (ST 78)), (.stmts (defBody (ST 78))), (defScope (ST 78)), 3, [], .none, .none, .none, (.str (S "law_nearcall_k39_rooms_come_to") 1002), none, (.ref 792), .none, 0⟩), (W [])⟩
def o797 (P : Params) : Obj := ⟨(.type "tuple"), none, (.seq (V []) 0), (W [])⟩
def o798 (P : Params) : Obj := ⟨.none, none, (.fields (V [])), (W [])⟩
def o799 (P : Params) : Obj := ⟨(.type "tuple"), none, (.seq (V [(.str (S "_law_ask") 1202), (.str (S "_law_found") 1203), (.str (S "e") 1204)]) 0), (W [])⟩
def o800 (P : Params) : Obj := ⟨(.type "tuple"), none, (.seq (V []) 0), (W [])⟩
def o801 (P : Params) : Obj := ⟨.none, none, (.func ⟨(S "_law_told"), (S "_law_told"), (defArgs (ST 79)), (.stmts (defBody (ST 79))), (defScope (ST 79)), 0, [], .none, .none, .none, .none, none, .none, .none, 0⟩), (W [])⟩
def o802 (P : Params) : Obj := ⟨(.type "code"), none, (.fields (V [(.str (S "_law_told") 1199), (.str (S "_law_told") 1200), (.str (S "/claim/cut.py") 1201), (.int 448 0), (.int 1 0), (.int 0 0), (.int 0 0), (.int 3 0), (.ref 794), (.bool true), (.int 181 0), (.ref 795), .none, (.ref 796), (.ref 797), (.ref 798), (.int 1205 0), (.int 448 0), (.str (S "/claim/cut.py") 1206)])), (W [])⟩
def o803 (P : Params) : Obj := ⟨(.type "function"), none, (.func ⟨(S "_law_told"), (S "_law_told"), (defArgs (ST 79)), (.stmts (defBody (ST 79))), (defScope (ST 79)), 3, [], .none, .none, .none, (.str (S "law_nearcall_k39_rooms_come_to") 1002), none, (.ref 799), .none, 0⟩), (W [])⟩
def o804 (P : Params) : Obj := ⟨(.type "tuple"), none, (.seq (V []) 0), (W [])⟩
def o805 (P : Params) : Obj := ⟨.none, none, (.fields (V [])), (W [])⟩
def o806 (P : Params) : Obj := ⟨.none, none, (.func ⟨(S "law"), (S "law"), (defArgs (ST 80)), (.stmts (defBody (ST 80))), (defScope (ST 80)), 0, [], .none, .none, .none, .none, none, .none, .none, 0⟩), (W [])⟩
def o807 (P : Params) : Obj := ⟨(.type "code"), none, (.fields (V [(.str (S "law") 1208), (.str (S "law") 1209), (.str (S "/claim/cut.py") 1210), (.int 454 0), (.int 1 0), (.int 0 0), (.int 0 0), (.int 3 0), (.ref 801), (.bool true), (.int 181 0), (.ref 802), .none, .none, .none, (.ref 803), (.int 1211 0), (.int 454 0), (.str (S "/claim/cut.py") 1212)])), (W [])⟩
def o808 (P : Params) : Obj := ⟨(.type "function"), none, (.func ⟨(S "law"), (S "law"), (defArgs (ST 80)), (.stmts (defBody (ST 80))), (defScope (ST 80)), 3, [], .none, .none, .none, (.str (S "law_nearcall_k39_rooms_come_to") 1002), none, (.ref 804), .none, 0⟩), (W [])⟩
def objs_5 (P : Params) : List Obj :=
  [boot_o_0 P, boot_o_1 P, boot_o_2 P, o701 P, boot_o_4 P, boot_o_5 P, boot_o_6 P, boot_o_7 P, boot_o_8 P, boot_o_9 P, boot_o_10 P, o0 P, o702 P, o2 P, o3 P, o6 P, o7 P, o8 P, o9 P, o10 P, o11 P, o12 P, o13 P, o14 P, o15 P, o16 P, o17 P, o18 P, o19 P, o20 P, o21 P, o22 P, o23 P, o24 P, o25 P, o26 P, o27 P, o28 P, o171 P, o30 P] ++ (
  [o31 P, o32 P, o33 P, o34 P, o35 P, o36 P, o37 P, o38 P, o39 P, o40 P, o41 P, o42 P, o43 P, o44 P, o45 P, o46 P, o47 P, o48 P, o49 P, o50 P, o51 P, o52 P, o53 P, o54 P, o55 P, o56 P, o57 P, o58 P, o59 P, o60 P, o61 P, o62 P, o63 P, o64 P, o65 P, o66 P, o67 P, o68 P, o69 P, o70 P] ++ (
  [o71 P, o72 P, o73 P, o74 P, o75 P, o76 P, o77 P, o78 P, o79 P, o80 P, o81 P, o82 P, o83 P, o84 P, o85 P, o86 P, o87 P, o88 P, o89 P, o93 P, o94 P, o95 P, o96 P, o97 P, o98 P, o99 P, o100 P, o101 P, o102 P, o103 P, o104 P, o105 P, o106 P, o107 P, o108 P, o109 P, o110 P, o111 P, o112 P, o113 P] ++ (
  [o114 P, o115 P, o116 P, o117 P, o118 P, o119 P, o120 P, o121 P, o122 P, o123 P, o124 P, o125 P, o126 P, o127 P, o128 P, o129 P, o130 P, o131 P, o132 P, o133 P, o134 P, o135 P, o136 P, o137 P, o138 P, o139 P, o140 P, o141 P, o142 P, o143 P, o144 P, o145 P, o146 P, o147 P, o148 P, o149 P, o150 P, o151 P, o152 P, o153 P] ++ (
  [o154 P, o155 P, o156 P, o157 P, o158 P, o159 P, o160 P, o161 P, o162 P, o163 P, o164 P, o165 P, o166 P, o167 P, o168 P, o172 P, o173 P, o174 P, o175 P, o176 P, o177 P, o178 P, o179 P, o180 P, o181 P, o182 P, o183 P, o184 P, o185 P, o186 P, o187 P, o188 P, o189 P, o190 P, o191 P, o192 P, o193 P, o194 P, o195 P, o196 P] ++ (
  [o197 P, o198 P, o199 P, o200 P, o201 P, o202 P, o203 P, o204 P, o205 P, o206 P, o207 P, o208 P, o209 P, o210 P, o211 P, o212 P, o213 P, o214 P, o215 P, o216 P, o217 P, o218 P, o219 P, o220 P, o221 P, o222 P, o223 P, o224 P, o225 P, o226 P, o227 P, o228 P, o229 P, o230 P, o231 P, o232 P, o233 P, o234 P, o235 P, o236 P] ++ (
  [o237 P, o238 P, o239 P, o240 P, o241 P, o242 P, o243 P, o244 P, o245 P, o246 P, o247 P, o248 P, o249 P, o250 P, o251 P, o252 P, o253 P, o254 P, o255 P, o256 P, o257 P, o258 P, o259 P, o260 P, o261 P, o262 P, o263 P, o264 P, o265 P, o266 P, o267 P, o268 P, o269 P, o270 P, o271 P, o272 P, o273 P, o274 P, o275 P, o276 P] ++ (
  [o277 P, o278 P, o279 P, o280 P, o281 P, o282 P, o283 P, o284 P, o285 P, o286 P, o287 P, o288 P, o289 P, o290 P, o291 P, o292 P, o293 P, o294 P, o295 P, o296 P, o297 P, o298 P, o299 P, o302 P, o303 P, o304 P, o305 P, o306 P, o307 P, o308 P, o309 P, o310 P, o311 P, o312 P, o313 P, o314 P, o315 P, o316 P, o317 P, o318 P] ++ (
  [o319 P, o320 P, o321 P, o322 P, o323 P, o324 P, o325 P, o326 P, o327 P, o328 P, o329 P, o330 P, o331 P, o332 P, o333 P, o334 P, o335 P, o336 P, o337 P, o338 P, o339 P, o340 P, o341 P, o342 P, o343 P, o344 P, o345 P, o346 P, o347 P, o348 P, o349 P, o350 P, o351 P, o352 P, o353 P, o354 P, o355 P, o356 P, o357 P, o358 P] ++ (
  [o359 P, o360 P, o361 P, o362 P, o363 P, o364 P, o365 P, o366 P, o367 P, o368 P, o369 P, o370 P, o371 P, o372 P, o373 P, o374 P, o375 P, o376 P, o377 P, o378 P, o379 P, o380 P, o381 P, o382 P, o383 P, o384 P, o385 P, o386 P, o387 P, o388 P, o389 P, o390 P, o391 P, o392 P, o393 P, o394 P, o395 P, o396 P, o397 P, o398 P] ++ (
  [o399 P, o400 P, o401 P, o402 P, o403 P, o404 P, o405 P, o406 P, o407 P, o408 P, o409 P, o410 P, o411 P, o412 P, o413 P, o414 P, o415 P, o416 P, o417 P, o418 P, o419 P, o420 P, o421 P, o422 P, o423 P, o424 P, o425 P, o426 P, o427 P, o428 P, o429 P, o430 P, o431 P, o432 P, o433 P, o434 P, o435 P, o436 P, o437 P, o438 P] ++ (
  [o439 P, o440 P, o441 P, o442 P, o443 P, o444 P, o445 P, o446 P, o447 P, o448 P, o449 P, o450 P, o451 P, o452 P, o453 P, o454 P, o455 P, o456 P, o457 P, o458 P, o459 P, o460 P, o461 P, o462 P, o463 P, o464 P, o465 P, o466 P, o467 P, o468 P, o469 P, o470 P, o471 P, o472 P, o473 P, o474 P, o475 P, o476 P, o477 P, o478 P] ++ (
  [o479 P, o480 P, o481 P, o482 P, o483 P, o484 P, o485 P, o486 P, o487 P, o488 P, o489 P, o490 P, o491 P, o492 P, o493 P, o494 P, o495 P, o496 P, o497 P, o498 P, o499 P, o502 P, o503 P, o504 P, o505 P, o506 P, o507 P, o508 P, o509 P, o510 P, o511 P, o512 P, o513 P, o514 P, o515 P, o516 P, o517 P, o518 P, o519 P, o520 P] ++ (
  [o521 P, o522 P, o523 P, o524 P, o525 P, o526 P, o527 P, o528 P, o529 P, o530 P, o531 P, o532 P, o533 P, o534 P, o535 P, o536 P, o537 P, o538 P, o539 P, o540 P, o541 P, o542 P, o543 P, o544 P, o545 P, o546 P, o547 P, o548 P, o549 P, o550 P, o551 P, o552 P, o553 P, o554 P, o555 P, o556 P, o557 P, o558 P, o559 P, o560 P] ++ (
  [o561 P, o562 P, o563 P, o564 P, o565 P, o566 P, o567 P, o568 P, o569 P, o570 P, o571 P, o572 P, o573 P, o574 P, o575 P, o576 P, o577 P, o578 P, o579 P, o580 P, o581 P, o582 P, o583 P, o584 P, o585 P, o586 P, o587 P, o588 P, o589 P, o590 P, o591 P, o592 P, o593 P, o594 P, o595 P, o596 P, o597 P, o598 P, o599 P, o600 P] ++ (
  [o601 P, o602 P, o603 P, o604 P, o605 P, o606 P, o607 P, o608 P, o609 P, o610 P, o611 P, o612 P, o613 P, o614 P, o615 P, o616 P, o617 P, o618 P, o619 P, o620 P, o621 P, o622 P, o623 P, o624 P, o625 P, o626 P, o627 P, o628 P, o629 P, o630 P, o631 P, o632 P, o633 P, o634 P, o635 P, o636 P, o637 P, o638 P, o639 P, o640 P] ++ (
  [o641 P, o642 P, o643 P, o644 P, o645 P, o646 P, o647 P, o648 P, o649 P, o650 P, o651 P, o652 P, o653 P, o654 P, o655 P, o656 P, o657 P, o658 P, o659 P, o660 P, o661 P, o662 P, o663 P, o664 P, o665 P, o666 P, o667 P, o668 P, o669 P, o670 P, o671 P, o672 P, o673 P, o674 P, o675 P, o676 P, o677 P, o678 P, o679 P, o680 P] ++ (
  [o681 P, o682 P, o683 P, o684 P, o685 P, o686 P, o687 P, o688 P, o689 P, o690 P, o691 P, o692 P, o693 P, o694 P, o695 P, o696 P, o697 P, o698 P, o699 P, o700 P, o703 P, o704 P, o705 P, o706 P, o707 P, o708 P, o709 P, o710 P, o711 P, o712 P, o713 P, o714 P, o715 P, o716 P, o717 P, o718 P, o719 P, o720 P, o721 P, o722 P] ++ (
  [o723 P, o724 P, o725 P, o726 P, o727 P, o728 P, o729 P, o730 P, o731 P, o732 P, o733 P, o734 P, o735 P, o736 P, o737 P, o738 P, o739 P, o740 P, o741 P, o742 P, o743 P, o744 P, o745 P, o746 P, o747 P, o748 P, o749 P, o750 P, o751 P, o752 P, o753 P, o754 P, o755 P, o756 P, o757 P, o758 P, o759 P, o760 P, o761 P, o762 P] ++ (
  [o763 P, o764 P, o765 P, o766 P, o767 P, o768 P, o769 P, o770 P, o771 P, o772 P, o773 P, o774 P, o775 P, o776 P, o777 P, o778 P, o779 P, o780 P, o781 P, o782 P, o783 P, o784 P, o785 P, o786 P, o787 P, o788 P, o789 P, o790 P, o791 P, o792 P, o793 P, o794 P, o795 P, o796 P, o797 P, o798 P, o799 P, o800 P, o801 P, o802 P] ++ (
  [o803 P, o804 P, o805 P, o806 P, o807 P, o808 P]))))))))))))))))))))
def objs_f (P : Params) : List Obj :=
  [boot_o_0 P, boot_o_1 P, boot_o_2 P, o701 P, boot_o_4 P, boot_o_5 P, boot_o_6 P, boot_o_7 P, boot_o_8 P, boot_o_9 P, boot_o_10 P, o0 P, o702 P, o2 P, o3 P, o6 P, o7 P, o8 P, o9 P, o10 P, o11 P, o12 P, o13 P, o14 P, o15 P, o16 P, o17 P, o18 P, o19 P, o20 P, o21 P, o22 P, o23 P, o24 P, o25 P, o26 P, o27 P, o28 P, o171 P, o30 P] ++ (
  [o31 P, o32 P, o33 P, o34 P, o35 P, o36 P, o37 P, o38 P, o39 P, o40 P, o41 P, o42 P, o43 P, o44 P, o45 P, o46 P, o47 P, o48 P, o49 P, o50 P, o51 P, o52 P, o53 P, o54 P, o55 P, o56 P, o57 P, o58 P, o59 P, o60 P, o61 P, o62 P, o63 P, o64 P, o65 P, o66 P, o67 P, o68 P, o69 P, o70 P] ++ (
  [o71 P, o72 P, o73 P, o74 P, o75 P, o76 P, o77 P, o78 P, o79 P, o80 P, o81 P, o82 P, o83 P, o84 P, o85 P, o86 P, o87 P, o88 P, o89 P, o93 P, o94 P, o95 P, o96 P, o97 P, o98 P, o99 P, o100 P, o101 P, o102 P, o103 P, o104 P, o105 P, o106 P, o107 P, o108 P, o109 P, o110 P, o111 P, o112 P, o113 P] ++ (
  [o114 P, o115 P, o116 P, o117 P, o118 P, o119 P, o120 P, o121 P, o122 P, o123 P, o124 P, o125 P, o126 P, o127 P, o128 P, o129 P, o130 P, o131 P, o132 P, o133 P, o134 P, o135 P, o136 P, o137 P, o138 P, o139 P, o140 P, o141 P, o142 P, o143 P, o144 P, o145 P, o146 P, o147 P, o148 P, o149 P, o150 P, o151 P, o152 P, o153 P] ++ (
  [o154 P, o155 P, o156 P, o157 P, o158 P, o159 P, o160 P, o161 P, o162 P, o163 P, o164 P, o165 P, o166 P, o167 P, o168 P, o172 P, o173 P, o174 P, o175 P, o176 P, o177 P, o178 P, o179 P, o180 P, o181 P, o182 P, o183 P, o184 P, o185 P, o186 P, o187 P, o188 P, o189 P, o190 P, o191 P, o192 P, o193 P, o194 P, o195 P, o196 P] ++ (
  [o197 P, o198 P, o199 P, o200 P, o201 P, o202 P, o203 P, o204 P, o205 P, o206 P, o207 P, o208 P, o209 P, o210 P, o211 P, o212 P, o213 P, o214 P, o215 P, o216 P, o217 P, o218 P, o219 P, o220 P, o221 P, o222 P, o223 P, o224 P, o225 P, o226 P, o227 P, o228 P, o229 P, o230 P, o231 P, o232 P, o233 P, o234 P, o235 P, o236 P] ++ (
  [o237 P, o238 P, o239 P, o240 P, o241 P, o242 P, o243 P, o244 P, o245 P, o246 P, o247 P, o248 P, o249 P, o250 P, o251 P, o252 P, o253 P, o254 P, o255 P, o256 P, o257 P, o258 P, o259 P, o260 P, o261 P, o262 P, o263 P, o264 P, o265 P, o266 P, o267 P, o268 P, o269 P, o270 P, o271 P, o272 P, o273 P, o274 P, o275 P, o276 P] ++ (
  [o277 P, o278 P, o279 P, o280 P, o281 P, o282 P, o283 P, o284 P, o285 P, o286 P, o287 P, o288 P, o289 P, o290 P, o291 P, o292 P, o293 P, o294 P, o295 P, o296 P, o297 P, o298 P, o299 P, o302 P, o303 P, o304 P, o305 P, o306 P, o307 P, o308 P, o309 P, o310 P, o311 P, o312 P, o313 P, o314 P, o315 P, o316 P, o317 P, o318 P] ++ (
  [o319 P, o320 P, o321 P, o322 P, o323 P, o324 P, o325 P, o326 P, o327 P, o328 P, o329 P, o330 P, o331 P, o332 P, o333 P, o334 P, o335 P, o336 P, o337 P, o338 P, o339 P, o340 P, o341 P, o342 P, o343 P, o344 P, o345 P, o346 P, o347 P, o348 P, o349 P, o350 P, o351 P, o352 P, o353 P, o354 P, o355 P, o356 P, o357 P, o358 P] ++ (
  [o359 P, o360 P, o361 P, o362 P, o363 P, o364 P, o365 P, o366 P, o367 P, o368 P, o369 P, o370 P, o371 P, o372 P, o373 P, o374 P, o375 P, o376 P, o377 P, o378 P, o379 P, o380 P, o381 P, o382 P, o383 P, o384 P, o385 P, o386 P, o387 P, o388 P, o389 P, o390 P, o391 P, o392 P, o393 P, o394 P, o395 P, o396 P, o397 P, o398 P] ++ (
  [o399 P, o400 P, o401 P, o402 P, o403 P, o404 P, o405 P, o406 P, o407 P, o408 P, o409 P, o410 P, o411 P, o412 P, o413 P, o414 P, o415 P, o416 P, o417 P, o418 P, o419 P, o420 P, o421 P, o422 P, o423 P, o424 P, o425 P, o426 P, o427 P, o428 P, o429 P, o430 P, o431 P, o432 P, o433 P, o434 P, o435 P, o436 P, o437 P, o438 P] ++ (
  [o439 P, o440 P, o441 P, o442 P, o443 P, o444 P, o445 P, o446 P, o447 P, o448 P, o449 P, o450 P, o451 P, o452 P, o453 P, o454 P, o455 P, o456 P, o457 P, o458 P, o459 P, o460 P, o461 P, o462 P, o463 P, o464 P, o465 P, o466 P, o467 P, o468 P, o469 P, o470 P, o471 P, o472 P, o473 P, o474 P, o475 P, o476 P, o477 P, o478 P] ++ (
  [o479 P, o480 P, o481 P, o482 P, o483 P, o484 P, o485 P, o486 P, o487 P, o488 P, o489 P, o490 P, o491 P, o492 P, o493 P, o494 P, o495 P, o496 P, o497 P, o498 P, o499 P, o502 P, o503 P, o504 P, o505 P, o506 P, o507 P, o508 P, o509 P, o510 P, o511 P, o512 P, o513 P, o514 P, o515 P, o516 P, o517 P, o518 P, o519 P, o520 P] ++ (
  [o521 P, o522 P, o523 P, o524 P, o525 P, o526 P, o527 P, o528 P, o529 P, o530 P, o531 P, o532 P, o533 P, o534 P, o535 P, o536 P, o537 P, o538 P, o539 P, o540 P, o541 P, o542 P, o543 P, o544 P, o545 P, o546 P, o547 P, o548 P, o549 P, o550 P, o551 P, o552 P, o553 P, o554 P, o555 P, o556 P, o557 P, o558 P, o559 P, o560 P] ++ (
  [o561 P, o562 P, o563 P, o564 P, o565 P, o566 P, o567 P, o568 P, o569 P, o570 P, o571 P, o572 P, o573 P, o574 P, o575 P, o576 P, o577 P, o578 P, o579 P, o580 P, o581 P, o582 P, o583 P, o584 P, o585 P, o586 P, o587 P, o588 P, o589 P, o590 P, o591 P, o592 P, o593 P, o594 P, o595 P, o596 P, o597 P, o598 P, o599 P, o600 P] ++ (
  [o601 P, o602 P, o603 P, o604 P, o605 P, o606 P, o607 P, o608 P, o609 P, o610 P, o611 P, o612 P, o613 P, o614 P, o615 P, o616 P, o617 P, o618 P, o619 P, o620 P, o621 P, o622 P, o623 P, o624 P, o625 P, o626 P, o627 P, o628 P, o629 P, o630 P, o631 P, o632 P, o633 P, o634 P, o635 P, o636 P, o637 P, o638 P, o639 P, o640 P] ++ (
  [o641 P, o642 P, o643 P, o644 P, o645 P, o646 P, o647 P, o648 P, o649 P, o650 P, o651 P, o652 P, o653 P, o654 P, o655 P, o656 P, o657 P, o658 P, o659 P, o660 P, o661 P, o662 P, o663 P, o664 P, o665 P, o666 P, o667 P, o668 P, o669 P, o670 P, o671 P, o672 P, o673 P, o674 P, o675 P, o676 P, o677 P, o678 P, o679 P, o680 P] ++ (
  [o681 P, o682 P, o683 P, o684 P, o685 P, o686 P, o687 P, o688 P, o689 P, o690 P, o691 P, o692 P, o693 P, o694 P, o695 P, o696 P, o697 P, o698 P, o699 P, o700 P, o703 P, o704 P, o705 P, o706 P, o707 P, o708 P, o709 P, o710 P, o711 P, o712 P, o713 P, o714 P, o715 P, o716 P, o717 P, o718 P, o719 P, o720 P, o721 P, o722 P] ++ (
  [o723 P, o724 P, o725 P, o726 P, o727 P, o728 P, o729 P, o730 P, o731 P, o732 P, o733 P, o734 P, o735 P, o736 P, o737 P, o738 P, o739 P, o740 P, o741 P, o742 P, o743 P, o744 P, o745 P, o746 P, o747 P, o748 P, o749 P, o750 P, o751 P, o752 P, o753 P, o754 P, o755 P, o756 P, o757 P, o758 P, o759 P, o760 P, o761 P, o762 P] ++ (
  [o763 P, o764 P, o765 P, o766 P, o767 P, o768 P, o769 P, o770 P, o771 P, o772 P, o773 P, o774 P, o775 P, o776 P, o777 P, o778 P, o779 P, o780 P, o781 P, o782 P, o783 P, o784 P, o785 P, o786 P, o787 P, o788 P, o789 P, o790 P, o791 P, o792 P, o793 P, o794 P, o795 P, o796 P, o797 P, o798 P, o799 P, o800 P, o801 P, o802 P] ++ (
  [o803 P, o804 P, o805 P, o806 P, o807 P, o808 P]))))))))))))))))))))
def KF (P : Params) : Frag := List.cons (nat_lit 2, boot_o_2 P) (
  List.cons (nat_lit 3, o701 P) (
  List.cons (nat_lit 15, o6 P) (
  List.cons (nat_lit 17, o8 P) (
  List.cons (nat_lit 18, o9 P) (
  List.cons (nat_lit 20, o11 P) (
  List.cons (nat_lit 21, o12 P) (
  List.cons (nat_lit 22, o13 P) (
  List.cons (nat_lit 29, o20 P) (
  List.cons (nat_lit 31, o22 P) (
  List.cons (nat_lit 32, o23 P) (
  List.cons (nat_lit 34, o25 P) (
  List.cons (nat_lit 35, o26 P) (
  List.cons (nat_lit 36, o27 P) (
  List.cons (nat_lit 37, o28 P) (
  List.cons (nat_lit 38, o171 P) (
  List.cons (nat_lit 39, o30 P) (
  List.cons (nat_lit 42, o33 P) (
  List.cons (nat_lit 49, o40 P) (
  List.cons (nat_lit 51, o42 P) (
  List.cons (nat_lit 52, o43 P) (
  List.cons (nat_lit 54, o45 P) (
  List.cons (nat_lit 55, o46 P) (
  List.cons (nat_lit 56, o47 P) (
  List.cons (nat_lit 57, o48 P) (
  List.cons (nat_lit 58, o49 P) (
  List.cons (nat_lit 61, o52 P) (
  List.cons (nat_lit 68, o59 P) (
  List.cons (nat_lit 70, o61 P) (
  List.cons (nat_lit 71, o62 P) (
  List.cons (nat_lit 73, o64 P) (
  List.cons (nat_lit 74, o65 P) (
  List.cons (nat_lit 75, o66 P) (
  List.cons (nat_lit 76, o67 P) (
  List.cons (nat_lit 77, o68 P) (
  List.cons (nat_lit 80, o71 P) (
  List.cons (nat_lit 87, o78 P) (
  List.cons (nat_lit 89, o80 P) (
  List.cons (nat_lit 90, o81 P) (
  List.cons (nat_lit 92, o83 P) (
  List.cons (nat_lit 93, o84 P) (
  List.cons (nat_lit 94, o85 P) (
  List.cons (nat_lit 95, o86 P) (
  List.cons (nat_lit 96, o87 P) (
  List.cons (nat_lit 99, o93 P) (
  List.cons (nat_lit 106, o100 P) (
  List.cons (nat_lit 108, o102 P) (
  List.cons (nat_lit 109, o103 P) (
  List.cons (nat_lit 111, o105 P) (
  List.cons (nat_lit 112, o106 P) (
  List.cons (nat_lit 113, o107 P) (
  List.cons (nat_lit 114, o108 P) (
  List.cons (nat_lit 115, o109 P) (
  List.cons (nat_lit 118, o112 P) (
  List.cons (nat_lit 125, o119 P) (
  List.cons (nat_lit 127, o121 P) (
  List.cons (nat_lit 128, o122 P) (
  List.cons (nat_lit 130, o124 P) (
  List.cons (nat_lit 131, o125 P) (
  List.cons (nat_lit 132, o126 P) (
  List.cons (nat_lit 133, o127 P) (
  List.cons (nat_lit 134, o128 P) (
  List.cons (nat_lit 137, o131 P) (
  List.cons (nat_lit 144, o138 P) (
  List.cons (nat_lit 146, o140 P) (
  List.cons (nat_lit 147, o141 P) (
  List.cons (nat_lit 149, o143 P) (
  List.cons (nat_lit 150, o144 P) (
  List.cons (nat_lit 151, o145 P) (
  List.cons (nat_lit 152, o146 P) (
  List.cons (nat_lit 153, o147 P) (
  List.cons (nat_lit 156, o150 P) (
  List.cons (nat_lit 163, o157 P) (
  List.cons (nat_lit 165, o159 P) (
  List.cons (nat_lit 166, o160 P) (
  List.cons (nat_lit 168, o162 P) (
  List.cons (nat_lit 169, o163 P) (
  List.cons (nat_lit 170, o164 P) (
  List.cons (nat_lit 171, o165 P) (
  List.cons (nat_lit 172, o166 P) (
  List.cons (nat_lit 175, o172 P) (
  List.cons (nat_lit 182, o179 P) (
  List.cons (nat_lit 184, o181 P) (
  List.cons (nat_lit 185, o182 P) (
  List.cons (nat_lit 187, o184 P) (
  List.cons (nat_lit 188, o185 P) (
  List.cons (nat_lit 189, o186 P) (
  List.cons (nat_lit 190, o187 P) (
  List.cons (nat_lit 191, o188 P) (
  List.cons (nat_lit 194, o191 P) (
  List.cons (nat_lit 201, o198 P) (
  List.cons (nat_lit 203, o200 P) (
  List.cons (nat_lit 204, o201 P) (
  List.cons (nat_lit 206, o203 P) (
  List.cons (nat_lit 207, o204 P) (
  List.cons (nat_lit 208, o205 P) (
  List.cons (nat_lit 209, o206 P) (
  List.cons (nat_lit 210, o207 P) (
  List.cons (nat_lit 213, o210 P) (
  List.cons (nat_lit 220, o217 P) (
  List.cons (nat_lit 222, o219 P) (
  List.cons (nat_lit 223, o220 P) (
  List.cons (nat_lit 225, o222 P) (
  List.cons (nat_lit 226, o223 P) (
  List.cons (nat_lit 227, o224 P) (
  List.cons (nat_lit 228, o225 P) (
  List.cons (nat_lit 229, o226 P) (
  List.cons (nat_lit 232, o229 P) (
  List.cons (nat_lit 234, o231 P) (
  List.cons (nat_lit 235, o232 P) (
  List.cons (nat_lit 237, o234 P) (
  List.cons (nat_lit 238, o235 P) (
  List.cons (nat_lit 239, o236 P) (
  List.cons (nat_lit 241, o238 P) (
  List.cons (nat_lit 242, o239 P) (
  List.cons (nat_lit 244, o241 P) (
  List.cons (nat_lit 245, o242 P) (
  List.cons (nat_lit 246, o243 P) (
  List.cons (nat_lit 249, o246 P) (
  List.cons (nat_lit 250, o247 P) (
  List.cons (nat_lit 251, o248 P) (
  List.cons (nat_lit 254, o251 P) (
  List.cons (nat_lit 255, o252 P) (
  List.cons (nat_lit 256, o253 P) (
  List.cons (nat_lit 258, o255 P) (
  List.cons (nat_lit 259, o256 P) (
  List.cons (nat_lit 261, o258 P) (
  List.cons (nat_lit 262, o259 P) (
  List.cons (nat_lit 263, o260 P) (
  List.cons (nat_lit 265, o262 P) (
  List.cons (nat_lit 266, o263 P) (
  List.cons (nat_lit 268, o265 P) (
  List.cons (nat_lit 269, o266 P) (
  List.cons (nat_lit 270, o267 P) (
  List.cons (nat_lit 272, o269 P) (
  List.cons (nat_lit 273, o270 P) (
  List.cons (nat_lit 275, o272 P) (
  List.cons (nat_lit 276, o273 P) (
  List.cons (nat_lit 277, o274 P) (
  List.cons (nat_lit 279, o276 P) (
  List.cons (nat_lit 280, o277 P) (
  List.cons (nat_lit 282, o279 P) (
  List.cons (nat_lit 283, o280 P) (
  List.cons (nat_lit 284, o281 P) (
  List.cons (nat_lit 286, o283 P) (
  List.cons (nat_lit 287, o284 P) (
  List.cons (nat_lit 289, o286 P) (
  List.cons (nat_lit 290, o287 P) (
  List.cons (nat_lit 291, o288 P) (
  List.cons (nat_lit 294, o291 P) (
  List.cons (nat_lit 295, o292 P) (
  List.cons (nat_lit 296, o293 P) (
  List.cons (nat_lit 298, o295 P) (
  List.cons (nat_lit 299, o296 P) (
  List.cons (nat_lit 301, o298 P) (
  List.cons (nat_lit 302, o299 P) (
  List.cons (nat_lit 303, o302 P) (
  List.cons (nat_lit 306, o305 P) (
  List.cons (nat_lit 307, o306 P) (
  List.cons (nat_lit 308, o307 P) (
  List.cons (nat_lit 310, o309 P) (
  List.cons (nat_lit 311, o310 P) (
  List.cons (nat_lit 313, o312 P) (
  List.cons (nat_lit 314, o313 P) (
  List.cons (nat_lit 315, o314 P) (
  List.cons (nat_lit 317, o316 P) (
  List.cons (nat_lit 318, o317 P) (
  List.cons (nat_lit 320, o319 P) (
  List.cons (nat_lit 321, o320 P) (
  List.cons (nat_lit 329, o328 P) (
  List.cons (nat_lit 330, o329 P) (
  List.cons (nat_lit 331, o330 P) (
  List.cons (nat_lit 333, o332 P) (
  List.cons (nat_lit 334, o333 P) (
  List.cons (nat_lit 336, o335 P) (
  List.cons (nat_lit 337, o336 P) (
  List.cons (nat_lit 338, o337 P) (
  List.cons (nat_lit 340, o339 P) (
  List.cons (nat_lit 341, o340 P) (
  List.cons (nat_lit 343, o342 P) (
  List.cons (nat_lit 344, o343 P) (
  List.cons (nat_lit 345, o344 P) (
  List.cons (nat_lit 347, o346 P) (
  List.cons (nat_lit 348, o347 P) (
  List.cons (nat_lit 350, o349 P) (
  List.cons (nat_lit 351, o350 P) (
  List.cons (nat_lit 352, o351 P) (
  List.cons (nat_lit 354, o353 P) (
  List.cons (nat_lit 355, o354 P) (
  List.cons (nat_lit 357, o356 P) (
  List.cons (nat_lit 358, o357 P) (
  List.cons (nat_lit 359, o358 P) (
  List.cons (nat_lit 361, o360 P) (
  List.cons (nat_lit 362, o361 P) (
  List.cons (nat_lit 364, o363 P) (
  List.cons (nat_lit 365, o364 P) (
  List.cons (nat_lit 366, o365 P) (
  List.cons (nat_lit 369, o368 P) (
  List.cons (nat_lit 370, o369 P) (
  List.cons (nat_lit 371, o370 P) (
  List.cons (nat_lit 374, o373 P) (
  List.cons (nat_lit 375, o374 P) (
  List.cons (nat_lit 376, o375 P) (
  List.cons (nat_lit 379, o378 P) (
  List.cons (nat_lit 380, o379 P) (
  List.cons (nat_lit 381, o380 P) (
  List.cons (nat_lit 383, o382 P) (
  List.cons (nat_lit 384, o383 P) (
  List.cons (nat_lit 386, o385 P) (
  List.cons (nat_lit 387, o386 P) (
  List.cons (nat_lit 388, o387 P) (
  List.cons (nat_lit 390, o389 P) (
  List.cons (nat_lit 391, o390 P) (
  List.cons (nat_lit 393, o392 P) (
  List.cons (nat_lit 394, o393 P) (
  List.cons (nat_lit 395, o394 P) (
  List.cons (nat_lit 397, o396 P) (
  List.cons (nat_lit 398, o397 P) (
  List.cons (nat_lit 400, o399 P) (
  List.cons (nat_lit 401, o400 P) (
  List.cons (nat_lit 402, o401 P) (
  List.cons (nat_lit 404, o403 P) (
  List.cons (nat_lit 405, o404 P) (
  List.cons (nat_lit 407, o406 P) (
  List.cons (nat_lit 408, o407 P) (
  List.cons (nat_lit 409, o408 P) (
  List.cons (nat_lit 411, o410 P) (
  List.cons (nat_lit 412, o411 P) (
  List.cons (nat_lit 414, o413 P) (
  List.cons (nat_lit 415, o414 P) (
  List.cons (nat_lit 416, o415 P) (
  List.cons (nat_lit 418, o417 P) (
  List.cons (nat_lit 419, o418 P) (
  List.cons (nat_lit 421, o420 P) (
  List.cons (nat_lit 422, o421 P) (
  List.cons (nat_lit 423, o422 P) (
  List.cons (nat_lit 425, o424 P) (
  List.cons (nat_lit 426, o425 P) (
  List.cons (nat_lit 428, o427 P) (
  List.cons (nat_lit 429, o428 P) (
  List.cons (nat_lit 430, o429 P) (
  List.cons (nat_lit 432, o431 P) (
  List.cons (nat_lit 433, o432 P) (
  List.cons (nat_lit 435, o434 P) (
  List.cons (nat_lit 436, o435 P) (
  List.cons (nat_lit 437, o436 P) (
  List.cons (nat_lit 438, o437 P) (
  List.cons (nat_lit 439, o438 P) (
  List.cons (nat_lit 440, o439 P) (
  List.cons (nat_lit 441, o440 P) (
  List.cons (nat_lit 444, o443 P) (
  List.cons (nat_lit 446, o445 P) (
  List.cons (nat_lit 447, o446 P) (
  List.cons (nat_lit 449, o448 P) (
  List.cons (nat_lit 450, o449 P) (
  List.cons (nat_lit 451, o450 P) (
  List.cons (nat_lit 453, o452 P) (
  List.cons (nat_lit 454, o453 P) (
  List.cons (nat_lit 456, o455 P) (
  List.cons (nat_lit 457, o456 P) (
  List.cons (nat_lit 458, o457 P) (
  List.cons (nat_lit 461, o460 P) (
  List.cons (nat_lit 462, o461 P) (
  List.cons (nat_lit 463, o462 P) (
  List.cons (nat_lit 466, o465 P) (
  List.cons (nat_lit 467, o466 P) (
  List.cons (nat_lit 468, o467 P) (
  List.cons (nat_lit 470, o469 P) (
  List.cons (nat_lit 471, o470 P) (
  List.cons (nat_lit 473, o472 P) (
  List.cons (nat_lit 474, o473 P) (
  List.cons (nat_lit 475, o474 P) (
  List.cons (nat_lit 478, o477 P) (
  List.cons (nat_lit 479, o478 P) (
  List.cons (nat_lit 480, o479 P) (
  List.cons (nat_lit 482, o481 P) (
  List.cons (nat_lit 483, o482 P) (
  List.cons (nat_lit 485, o484 P) (
  List.cons (nat_lit 486, o485 P) (
  List.cons (nat_lit 487, o486 P) (
  List.cons (nat_lit 489, o488 P) (
  List.cons (nat_lit 490, o489 P) (
  List.cons (nat_lit 492, o491 P) (
  List.cons (nat_lit 493, o492 P) (
  List.cons (nat_lit 494, o493 P) (
  List.cons (nat_lit 496, o495 P) (
  List.cons (nat_lit 497, o496 P) (
  List.cons (nat_lit 499, o498 P) (
  List.cons (nat_lit 500, o499 P) (
  List.cons (nat_lit 501, o502 P) (
  List.cons (nat_lit 503, o504 P) (
  List.cons (nat_lit 504, o505 P) (
  List.cons (nat_lit 506, o507 P) (
  List.cons (nat_lit 507, o508 P) (
  List.cons (nat_lit 508, o509 P) (
  List.cons (nat_lit 511, o512 P) (
  List.cons (nat_lit 512, o513 P) (
  List.cons (nat_lit 513, o514 P) (
  List.cons (nat_lit 515, o516 P) (
  List.cons (nat_lit 516, o517 P) (
  List.cons (nat_lit 518, o519 P) (
  List.cons (nat_lit 519, o520 P) (
  List.cons (nat_lit 520, o521 P) (
  List.cons (nat_lit 522, o523 P) (
  List.cons (nat_lit 523, o524 P) (
  List.cons (nat_lit 525, o526 P) (
  List.cons (nat_lit 526, o527 P) (
  List.cons (nat_lit 527, o528 P) (
  List.cons (nat_lit 530, o531 P) (
  List.cons (nat_lit 531, o532 P) (
  List.cons (nat_lit 532, o533 P) (
  List.cons (nat_lit 534, o535 P) (
  List.cons (nat_lit 535, o536 P) (
  List.cons (nat_lit 537, o538 P) (
  List.cons (nat_lit 538, o539 P) (
  List.cons (nat_lit 546, o547 P) (
  List.cons (nat_lit 548, o549 P) (
  List.cons (nat_lit 549, o550 P) (
  List.cons (nat_lit 551, o552 P) (
  List.cons (nat_lit 552, o553 P) (
  List.cons (nat_lit 553, o554 P) (
  List.cons (nat_lit 555, o556 P) (
  List.cons (nat_lit 556, o557 P) (
  List.cons (nat_lit 558, o559 P) (
  List.cons (nat_lit 559, o560 P) (
  List.cons (nat_lit 560, o561 P) (
  List.cons (nat_lit 562, o563 P) (
  List.cons (nat_lit 563, o564 P) (
  List.cons (nat_lit 565, o566 P) (
  List.cons (nat_lit 566, o567 P) (
  List.cons (nat_lit 567, o568 P) (
  List.cons (nat_lit 569, o570 P) (
  List.cons (nat_lit 570, o571 P) (
  List.cons (nat_lit 572, o573 P) (
  List.cons (nat_lit 573, o574 P) (
  List.cons (nat_lit 574, o575 P) (
  List.cons (nat_lit 576, o577 P) (
  List.cons (nat_lit 577, o578 P) (
  List.cons (nat_lit 579, o580 P) (
  List.cons (nat_lit 580, o581 P) (
  List.cons (nat_lit 581, o582 P) (
  List.cons (nat_lit 583, o584 P) (
  List.cons (nat_lit 584, o585 P) (
  List.cons (nat_lit 586, o587 P) (
  List.cons (nat_lit 587, o588 P) (
  List.cons (nat_lit 588, o589 P) (
  List.cons (nat_lit 591, o592 P) (
  List.cons (nat_lit 592, o593 P) (
  List.cons (nat_lit 593, o594 P) (
  List.cons (nat_lit 595, o596 P) (
  List.cons (nat_lit 596, o597 P) (
  List.cons (nat_lit 598, o599 P) (
  List.cons (nat_lit 599, o600 P) (
  List.cons (nat_lit 600, o601 P) (
  List.cons (nat_lit 602, o603 P) (
  List.cons (nat_lit 603, o604 P) (
  List.cons (nat_lit 605, o606 P) (
  List.cons (nat_lit 606, o607 P) (
  List.cons (nat_lit 607, o608 P) (
  List.cons (nat_lit 609, o610 P) (
  List.cons (nat_lit 610, o611 P) (
  List.cons (nat_lit 612, o613 P) (
  List.cons (nat_lit 613, o614 P) (
  List.cons (nat_lit 614, o615 P) (
  List.cons (nat_lit 616, o617 P) (
  List.cons (nat_lit 617, o618 P) (
  List.cons (nat_lit 619, o620 P) (
  List.cons (nat_lit 620, o621 P) (
  List.cons (nat_lit 621, o622 P) (
  List.cons (nat_lit 622, o623 P) (
  List.cons (nat_lit 623, o624 P) (
  List.cons (nat_lit 624, o625 P) (
  List.cons (nat_lit 625, o626 P) (
  List.cons (nat_lit 628, o629 P) (
  List.cons (nat_lit 631, o632 P) (
  List.cons (nat_lit 632, o633 P) (
  List.cons (nat_lit 633, o634 P) (
  List.cons (nat_lit 635, o636 P) (
  List.cons (nat_lit 636, o637 P) (
  List.cons (nat_lit 638, o639 P) (
  List.cons (nat_lit 639, o640 P) (
  List.cons (nat_lit 640, o641 P) (
  List.cons (nat_lit 643, o644 P) (
  List.cons (nat_lit 644, o645 P) (
  List.cons (nat_lit 645, o646 P) (
  List.cons (nat_lit 646, o647 P) (
  List.cons (nat_lit 648, o649 P) (
  List.cons (nat_lit 649, o650 P) (
  List.cons (nat_lit 651, o652 P) (
  List.cons (nat_lit 652, o653 P) (
  List.cons (nat_lit 653, o654 P) (
  List.cons (nat_lit 656, o657 P) (
  List.cons (nat_lit 657, o658 P) (
  List.cons (nat_lit 658, o659 P) (
  List.cons (nat_lit 660, o661 P) (
  List.cons (nat_lit 661, o662 P) (
  List.cons (nat_lit 663, o664 P) (
  List.cons (nat_lit 664, o665 P) (
  List.cons (nat_lit 665, o666 P) (
  List.cons (nat_lit 667, o668 P) (
  List.cons (nat_lit 668, o669 P) (
  List.cons (nat_lit 670, o671 P) (
  List.cons (nat_lit 671, o672 P) (
  List.cons (nat_lit 672, o673 P) (
  List.cons (nat_lit 674, o675 P) (
  List.cons (nat_lit 675, o676 P) (
  List.cons (nat_lit 677, o678 P) (
  List.cons (nat_lit 678, o679 P) (
  List.cons (nat_lit 679, o680 P) (
  List.cons (nat_lit 681, o682 P) (
  List.cons (nat_lit 682, o683 P) (
  List.cons (nat_lit 684, o685 P) (
  List.cons (nat_lit 685, o686 P) (
  List.cons (nat_lit 686, o687 P) (
  List.cons (nat_lit 688, o689 P) (
  List.cons (nat_lit 689, o690 P) (
  List.cons (nat_lit 691, o692 P) (
  List.cons (nat_lit 692, o693 P) (
  List.cons (nat_lit 693, o694 P) (
  List.cons (nat_lit 695, o696 P) (
  List.cons (nat_lit 696, o697 P) (
  List.cons (nat_lit 698, o699 P) (
  List.cons (nat_lit 699, o700 P) (
  List.cons (nat_lit 700, o703 P) (
  List.cons (nat_lit 703, o706 P) (
  List.cons (nat_lit 704, o707 P) (
  List.cons (nat_lit 705, o708 P) (
  List.cons (nat_lit 708, o711 P) (
  List.cons (nat_lit 709, o712 P) (
  List.cons (nat_lit 710, o713 P) (
  List.cons (nat_lit 712, o715 P) (
  List.cons (nat_lit 713, o716 P) (
  List.cons (nat_lit 715, o718 P) (
  List.cons (nat_lit 716, o719 P) (
  List.cons (nat_lit 717, o720 P) (
  List.cons (nat_lit 720, o723 P) (
  List.cons (nat_lit 721, o724 P) (
  List.cons (nat_lit 722, o725 P) (
  List.cons (nat_lit 725, o728 P) (
  List.cons (nat_lit 726, o729 P) (
  List.cons (nat_lit 727, o730 P) (
  List.cons (nat_lit 729, o732 P) (
  List.cons (nat_lit 730, o733 P) (
  List.cons (nat_lit 732, o735 P) (
  List.cons (nat_lit 733, o736 P) (
  List.cons (nat_lit 734, o737 P) (
  List.cons (nat_lit 737, o740 P) (
  List.cons (nat_lit 738, o741 P) (
  List.cons (nat_lit 739, o742 P) (
  List.cons (nat_lit 742, o745 P) (
  List.cons (nat_lit 743, o746 P) (
  List.cons (nat_lit 744, o747 P) (
  List.cons (nat_lit 746, o749 P) (
  List.cons (nat_lit 747, o750 P) (
  List.cons (nat_lit 749, o752 P) (
  List.cons (nat_lit 750, o753 P) (
  List.cons (nat_lit 751, o754 P) (
  List.cons (nat_lit 754, o757 P) (
  List.cons (nat_lit 755, o758 P) (
  List.cons (nat_lit 756, o759 P) (
  List.cons (nat_lit 759, o762 P) (
  List.cons (nat_lit 760, o763 P) (
  List.cons (nat_lit 761, o764 P) (
  List.cons (nat_lit 763, o766 P) (
  List.cons (nat_lit 764, o767 P) (
  List.cons (nat_lit 766, o769 P) (
  List.cons (nat_lit 767, o770 P) (
  List.cons (nat_lit 768, o771 P) (
  List.cons (nat_lit 770, o773 P) (
  List.cons (nat_lit 771, o774 P) (
  List.cons (nat_lit 773, o776 P) (
  List.cons (nat_lit 774, o777 P) (
  List.cons (nat_lit 775, o778 P) (
  List.cons (nat_lit 777, o780 P) (
  List.cons (nat_lit 778, o781 P) (
  List.cons (nat_lit 780, o783 P) (
  List.cons (nat_lit 781, o784 P) (
  List.cons (nat_lit 782, o785 P) (
  List.cons (nat_lit 785, o788 P) (
  List.cons (nat_lit 786, o789 P) (
  List.cons (nat_lit 787, o790 P) (
  List.cons (nat_lit 789, o792 P) (
  List.cons (nat_lit 790, o793 P) (
  List.cons (nat_lit 792, o795 P) (
  List.cons (nat_lit 793, o796 P) (
  List.cons (nat_lit 794, o797 P) (
  List.cons (nat_lit 796, o799 P) (
  List.cons (nat_lit 797, o800 P) (
  List.cons (nat_lit 799, o802 P) (
  List.cons (nat_lit 800, o803 P) (
  List.cons (nat_lit 801, o804 P) (
  List.cons (nat_lit 804, o807 P) (
  List.cons (nat_lit 805, o808 P) (
  List.nil)))))))))))))))))))))))))))))))))))))))))))))))))))))))))))))))))))))))))))))))))))))))))))))))))))))))))))))))))))))))))))))))))))))))))))))))))))))))))))))))))))))))))))))))))))))))))))))))))))))))))))))))))))))))))))))))))))))))))))))))))))))))))))))))))))))))))))))))))))))))))))))))))))))))))))))))))))))))))))))))))))))))))))))))))))))))))))))))))))))))))))))))))))))))))))))))))))))))))))))))))))))))))))))))))))))))))))))))))))))))))))))))))))))))))))))))))))))))))))))))))))))))))))))
def KA : List Addr := [2, 3, 15, 17, 18, 20, 21, 22, 29, 31, 32, 34, 35, 36, 37, 38, 39, 42, 49, 51, 52, 54, 55, 56, 57, 58, 61, 68, 70, 71, 73, 74, 75, 76, 77, 80, 87, 89, 90, 92, 93, 94, 95, 96, 99, 106, 108, 109, 111, 112, 113, 114, 115, 118, 125, 127, 128, 130, 131, 132, 133, 134, 137, 144, 146, 147, 149, 150, 151, 152, 153, 156, 163, 165, 166, 168, 169, 170, 171, 172, 175, 182, 184, 185, 187, 188, 189, 190, 191, 194, 201, 203, 204, 206, 207, 208, 209, 210, 213, 220, 222, 223, 225, 226, 227, 228, 229, 232, 234, 235, 237, 238, 239, 241, 242, 244, 245, 246, 249, 250, 251, 254, 255, 256, 258, 259, 261, 262, 263, 265, 266, 268, 269, 270, 272, 273, 275, 276, 277, 279, 280, 282, 283, 284, 286, 287, 289, 290, 291, 294, 295, 296, 298, 299, 301, 302, 303, 306, 307, 308, 310, 311, 313, 314, 315, 317, 318, 320, 321, 329, 330, 331, 333, 334, 336, 337, 338, 340, 341, 343, 344, 345, 347, 348, 350, 351, 352, 354, 355, 357, 358, 359, 361, 362, 364, 365, 366, 369, 370, 371, 374, 375, 376, 379, 380, 381, 383, 384, 386, 387, 388, 390, 391, 393, 394, 395, 397, 398, 400, 401, 402, 404, 405, 407, 408, 409, 411, 412, 414, 415, 416, 418, 419, 421, 422, 423, 425, 426, 428, 429, 430, 432, 433, 435, 436, 437, 438, 439, 440, 441, 444, 446, 447, 449, 450, 451, 453, 454, 456, 457, 458, 461, 462, 463, 466, 467, 468, 470, 471, 473, 474, 475, 478, 479, 480, 482, 483, 485, 486, 487, 489, 490, 492, 493, 494, 496, 497, 499, 500, 501, 503, 504, 506, 507, 508, 511, 512, 513, 515, 516, 518, 519, 520, 522, 523, 525, 526, 527, 530, 531, 532, 534, 535, 537, 538, 546, 548, 549, 551, 552, 553, 555, 556, 558, 559, 560, 562, 563, 565, 566, 567, 569, 570, 572, 573, 574, 576, 577, 579, 580, 581, 583, 584, 586, 587, 588, 591, 592, 593, 595, 596, 598, 599, 600, 602, 603, 605, 606, 607, 609, 610, 612, 613, 614, 616, 617, 619, 620, 621, 622, 623, 624, 625, 628, 631, 632, 633, 635, 636, 638, 639, 640, 643, 644, 645, 646, 648, 649, 651, 652, 653, 656, 657, 658, 660, 661, 663, 664, 665, 667, 668, 670, 671, 672, 674, 675, 677, 678, 679, 681, 682, 684, 685, 686, 688, 689, 691, 692, 693, 695, 696, 698, 699, 700, 703, 704, 705, 708, 709, 710, 712, 713, 715, 716, 717, 720, 721, 722, 725, 726, 727, 729, 730, 732, 733, 734, 737, 738, 739, 742, 743, 744, 746, 747, 749, 750, 751, 754, 755, 756, 759, 760, 761, 763, 764, 766, 767, 768, 770, 771, 773, 774, 775, 777, 778, 780, 781, 782, 785, 786, 787, 789, 790, 792, 793, 794, 796, 797, 799, 800, 801, 804, 805]
abbrev qv : Program := view pw [0, 2, 3, 4, 5, 6, 7, 8, 9, 10, 11, 12, 14, 15, 16, 17, 18, 19, 20, 21, 22, 23, 24, 25, 26, 27, 28, 29, 31, 32, 33, 34, 35, 37, 39, 40, 41, 42, 43, 44, 45, 46, 47, 48, 49, 51, 52, 53, 56, 57, 58, 59, 60, 61, 62, 63, 64, 65, 66, 67, 68, 69, 70, 71, 72, 73, 74, 75, 76, 77, 78, 79, 80]
def names : List PySem.Str := [(S "Hall"), (S "come_to")]
def env : Env := ⟨pw.main.scope, mainNs, mainNs, [], PySem.Str.empty, none, (.ref 13), some 14, 0⟩
def bod : List Stmt := behindTheImports pw
abbrev cE : Code := .body bod env
theorem r_a (w : World) (os : OsState) : goG (mq pw w) 11 (some (.ref 6)) 12 (stL w (boot_heap w.params).objs.toList boot_toks os) (topStub pw) = some ((stL w (objs_a w.params) 187 os), ⟨denQ tabQ cE, cE, ⟨0, 0, 0, 0⟩, [topFrame ⟨0, 0, 0, 0⟩]⟩) := by kernel_rfl
theorem r_b (w : World) (os : OsState) : goS (mq pw w) 11 (some (.ref 6)) 1 (stL w (objs_a w.params) 187 os) (thB bod env cE ⟨0, 0, 0, 0⟩ ⟨0, 0, 0, 0⟩) = some (.next, (stL w (objs_b w.params) 187 os), cE, ⟨0, 0, 0, 0⟩) := by kernel_rfl
def l_0 : List Stmt := (pw.main.body.drop 0).take 6
theorem r_0 (w : World) (os : OsState) : goS (mq pw w) 11 (some (.ref 6)) 988 (stL w (objs_b w.params) 187 os) (thS l_0 env cE ⟨0, 0, 0, 0⟩ ⟨0, 0, 0, 0⟩) = some (.next, (stL w (objs_0 w.params) 294 os), cE, ⟨19, 0, 22, 43⟩) := by kernel_rfl
def l_1 : List Stmt := (pw.main.body.drop 6).take 4
theorem r_1 (w : World) (os : OsState) : goS (mq pw w) 11 (some (.ref 6)) 979 (stL w (objs_0 w.params) 294 os) (thS l_1 env cE ⟨19, 0, 22, 43⟩ ⟨0, 0, 0, 0⟩) = some (.next, (stL w (objs_1 w.params) 392 os), cE, ⟨38, 0, 41, 43⟩) := by kernel_rfl
def l_2 : List Stmt := (pw.main.body.drop 10).take 16
theorem r_2 (w : World) (os : OsState) : goS (mq pw w) 11 (some (.ref 6)) 1077 (stL w (objs_1 w.params) 392 os) (thS l_2 env cE ⟨38, 0, 41, 43⟩ ⟨0, 0, 0, 0⟩) = some (.next, (stL w (objs_2 w.params) 558 os), cE, ⟨92, 0, 103, 16⟩) := by kernel_rfl
def l_3 : List Stmt := (pw.main.body.drop 26).take 16
theorem r_3 (w : World) (os : OsState) : goS (mq pw w) 11 (some (.ref 6)) 1079 (stL w (objs_2 w.params) 558 os) (thS l_3 env cE ⟨92, 0, 103, 16⟩ ⟨0, 0, 0, 0⟩) = some (.next, (stL w (objs_3 w.params) 804 os), cE, ⟨214, 0, 215, 93⟩) := by kernel_rfl
def l_4 : List Stmt := (pw.main.body.drop 42).take 21
theorem r_4 (w : World) (os : OsState) : goS (mq pw w) 11 (some (.ref 6)) 1084 (stL w (objs_3 w.params) 804 os) (thS l_4 env cE ⟨214, 0, 215, 93⟩ ⟨0, 0, 0, 0⟩) = some (.next, (stL w (objs_4 w.params) 1062 os), cE, ⟨351, 0, 352, 74⟩) := by kernel_rfl
def l_5 : List Stmt := (pw.main.body.drop 63).take 18
theorem r_5 (w : World) (os : OsState) : goS (mq pw w) 11 (some (.ref 6)) 529 (stL w (objs_4 w.params) 1062 os) (thS l_5 env cE ⟨351, 0, 352, 74⟩ ⟨0, 0, 0, 0⟩) = some (.next, (stL w (objs_5 w.params) 1214 os), cE, ⟨454, 0, 476, 65⟩) := by kernel_rfl
theorem r_f (w : World) (os : OsState) : goF (mq pw w) 11 (some (.ref 6)) 2 (stL w (objs_5 w.params) 1214 os) ⟨doneF .next, cE, ⟨454, 0, 476, 65⟩, [topFrame ⟨0, 0, 0, 0⟩]⟩ = some (stL w (objs_f w.params) 1214 os) := by kernel_rfl
theorem bod_is : bod = l_0 ++ (l_1 ++ (l_2 ++ (l_3 ++ (l_4 ++ (l_5 ++ ([])))))) := by kernel_rfl
theorem run_all (w : World) (os : OsState) : topRun treeTable pw w 11 (some (.ref 6)) (12 + (1 + (988 + (979 + (1077 + (1079 + (1084 + (529 + 2)))))))) (stL w (boot_heap w.params).objs.toList boot_toks os).abs (topStub pw) = some (stL w (objs_f w.params) 1214 os).abs := by
  refine run_top (b := bod) (env := env) (r_a w os) (r_b w os) ?_
  have z := run_seg (r_0 w os) (run_seg (r_1 w os) (run_seg (r_2 w os) (run_seg (r_3 w os) (run_seg (r_4 w os) (run_seg (r_5 w os) (run_end (r_f w os)))))))
  have e : restOf bod env cE ⟨0, 0, 0, 0⟩ [topFrame ⟨0, 0, 0, 0⟩] = restOf (l_0 ++ (l_1 ++ (l_2 ++ (l_3 ++ (l_4 ++ (l_5 ++ ([]))))))) env cE ⟨0, 0, 0, 0⟩ [topFrame ⟨0, 0, 0, 0⟩] := congrArg (fun b => restOf b env cE ⟨0, 0, 0, 0⟩ [topFrame ⟨0, 0, 0, 0⟩]) bod_is
  rw [e]
  exact z
theorem ka_is (P : Params) : KA = (KF P).map (·.1) := by kernel_rfl
def KT : List Addr := [802]
abbrev hk : Hook := kmHook KF KA ka_is KT
def ob (S : SharedT) : hk.α := (KA.map (getT S), KT.map (getT S))
theorem ob_is (S : SharedT) : ob S = hk.obs S.abs := Prod.ext (obK S) (obK S)
theorem k_1 (w : World) (os : OsState) : looksF pw (boot_heap w.params) (stL w (objs_f w.params) 1214 os).abs = true := by kernel_rfl
theorem s_0 (w : World) (os : OsState) : (seenQ qv names (importedModules pw.main.body) (fun s => xlAt qv lv s && recOk (OpenLaw.row rw_).toRowW.records s) (stL w (objs_f w.params) 1214 os).abs).1 = expectedOf qv := by kernel_rfl
theorem s_1 (w : World) (os : OsState) : (seenQ qv names (importedModules pw.main.body) (fun s => xlAt qv lv s && recOk (OpenLaw.row rw_).toRowW.records s) (stL w (objs_f w.params) 1214 os).abs).2.1 = bltViewBooted := by kernel_rfl
theorem s_2 (w : World) (os : OsState) : (seenQ qv names (importedModules pw.main.body) (fun s => xlAt qv lv s && recOk (OpenLaw.row rw_).toRowW.records s) (stL w (objs_f w.params) 1214 os).abs).2.2.1 = true := by kernel_rfl
theorem s_3 (w : World) (os : OsState) : (seenQ qv names (importedModules pw.main.body) (fun s => xlAt qv lv s && recOk (OpenLaw.row rw_).toRowW.records s) (stL w (objs_f w.params) 1214 os).abs).2.2.2.1 = true := by kernel_rfl
theorem s_4 (w : World) (os : OsState) : (seenQ qv names (importedModules pw.main.body) (fun s => xlAt qv lv s && recOk (OpenLaw.row rw_).toRowW.records s) (stL w (objs_f w.params) 1214 os).abs).2.2.2.2.1 = pinGoodD (drecsOf qv) := by kernel_rfl
theorem s_5 (w : World) (os : OsState) : (seenQ qv names (importedModules pw.main.body) (fun s => xlAt qv lv s && recOk (OpenLaw.row rw_).toRowW.records s) (stL w (objs_f w.params) 1214 os).abs).2.2.2.2.2.1 = plainGoodE qv (looseW qv names) := by kernel_rfl
theorem s_6 (w : World) (os : OsState) : (seenQ qv names (importedModules pw.main.body) (fun s => xlAt qv lv s && recOk (OpenLaw.row rw_).toRowW.records s) (stL w (objs_f w.params) 1214 os).abs).2.2.2.2.2.2.1 = plainGoodD qv names := by kernel_rfl
theorem s_7 (w : World) (os : OsState) : (seenQ qv names (importedModules pw.main.body) (fun s => xlAt qv lv s && recOk (OpenLaw.row rw_).toRowW.records s) (stL w (objs_f w.params) 1214 os).abs).2.2.2.2.2.2.2.1 = wideGood qv := by kernel_rfl
theorem s_8 (w : World) (os : OsState) : (seenQ qv names (importedModules pw.main.body) (fun s => xlAt qv lv s && recOk (OpenLaw.row rw_).toRowW.records s) (stL w (objs_f w.params) 1214 os).abs).2.2.2.2.2.2.2.2 = clsGoodW qv names := by kernel_rfl
theorem k_3 (w : World) (os : OsState) : ob (stL w (objs_f w.params) 1214 os) = hk.val w := by kernel_rfl
theorem looks (w : World) (os : OsState) : (fun S : SharedT => (looksF pw (boot_heap w.params) S.abs, seenQ qv names (importedModules pw.main.body) (fun s => xlAt qv lv s && recOk (OpenLaw.row rw_).toRowW.records s) S.abs, ob S)) (stL w (objs_f w.params) 1214 os) = (true, openGood qv names, hk.val w) :=
  Prod.ext (k_1 w os) (Prod.ext (Prod.ext (s_0 w os) (Prod.ext (s_1 w os) (Prod.ext (s_2 w os) (Prod.ext (s_3 w os) (Prod.ext (s_4 w os) (Prod.ext (s_5 w os) (Prod.ext (s_6 w os) (Prod.ext (s_7 w os) (s_8 w os))))))))) (k_3 w os))
theorem left : LeftO pw qv names (fun s => xlAt qv lv s && recOk (OpenLaw.row rw_).toRowW.records s) hk.obs hk.val 6451 true :=
  left_cut (F := objs_f) (kF := 1214) (lo := 11) (an := (some (.ref 6))) (M := (12 + (1 + (988 + (979 + (1077 + (1079 + (1084 + (529 + 2))))))))) ob_is (by kernel_rfl) (by rfl) (fun s => by kernel_rfl) (by kernel_rfl) (fun w => by kernel_rfl) (fun w => by kernel_rfl) run_all (fun w os => looks w os)
end HX
end
open PySem PySem.W PyProof.Rows
set_option maxHeartbeats 0 in
theorem PySem.Challenge.cw_nearcall_k39_rooms_come_to_holds : PySem.Challenge.rw_nearcall_k39_rooms_come_to.Holds := by
  w_on; o_law
  refine holds_open (r := OpenLaw.row PySem.Challenge.rw_nearcall_k39_rooms_come_to) (q := HX.qv) (loose := HX.names)
    (Xt := fun s => xlAt HX.qv HX.lv s && recOk (OpenLaw.row PySem.Challenge.rw_nearcall_k39_rooms_come_to).toRowW.records s)
    (XP := XL HX.qv HX.lv) (Yf := (kmHook HX.KF HX.KA HX.ka_is HX.KT).obs) (Ya := (kmHook HX.KF HX.KA HX.ka_is HX.KT).val) (YP := (kmHook HX.KF HX.KA HX.ka_is HX.KT).says)
    (kwd := []) HX.left (kmHook HX.KF HX.KA HX.ka_is HX.KT).of (kmHook HX.KF HX.KA HX.ka_is HX.KT).keeps
    (fun s z => xl_of s (Bool.and_eq_true_iff.mp z).1) XL.keeps
    (by rfl) (by rfl) (by rfl)
    (fun s z => recFacts_of (Bool.and_eq_true_iff.mp z).2)
    (by rfl) (by first | assumption | decide +kernel) (by decide +kernel)
    ⟨rfl, rfl, rfl, rfl, rfl, by decide +kernel⟩ ?hw ?hc
  case hw => w_witness2
  k_fill
  refine LamX.walk_ofTs (l := PySem.Challenge.rw_nearcall_k39_rooms_come_to) (n := 63) (k := 14) (x := "_law_script") (CX := fun w => L2.CX0) rfl (by decide) rfl ⟨rfl, by decide, by decide⟩ (fun w h Y => PySem.W.km_in_of Y) ?F (fun _ _ _ _ _ h => h)
  case F =>
    intro w mg fa h Y KX G hmg
    refine' NC.all_mk (PT := 802) KX G hmg (PySem.W.km_tabs_of Y 802 (by k_mem)) ?nPT ?a_O ?l_O ?c_O ?k_O ?a_S ?l_S ?c_S ?k_S ?a_Y ?l_Y ?c_Y ?k_Y ?a_W ?l_W ?c_W ?k_W ?a_I ?l_I ?c_I ?k_I ?a_cw ?l_cw ?c_cw ?k_cw ?a_cb ?l_cb ?c_cb ?k_cb ?a_cs ?l_cs ?c_cs ?k_cs ?a_st ?l_st ?c_st ?k_st ?a_re ?l_re ?c_re ?k_re ?a_af ?l_af ?c_af ?k_af ?a_cf ?l_cf ?c_cf ?k_cf ?a_ca ?l_ca ?c_ca ?k_ca ?a_same ?l_same ?c_same ?k_same ?a_start ?l_start ?c_start ?k_start ?a_draw ?l_draw ?c_draw ?k_draw ?a_of ?l_of ?c_of ?k_of ?a_letters ?l_letters ?c_letters ?k_letters ?a_shuts ?l_shuts ?c_shuts ?k_shuts ?a_oth ?l_oth ?c_oth ?k_oth ?a_wit ?l_wit ?c_wit ?k_wit ?a_pairs ?l_pairs ?c_pairs ?k_pairs ?a_all ?l_all ?c_all ?k_all ?a_rms ?l_rms ?c_rms ?k_rms ?a_fine ?l_fine ?c_fine ?k_fine ?a_hall ?l_hall ?c_hall ?k_hall ?a_lsi ?l_lsi ?c_lsi ?k_lsi ?a_lpa ?l_lpa ?c_lpa ?k_lpa ?a_apart ?l_apart ?c_apart ?k_apart ?a_lne ?l_lne ?c_lne ?k_lne ?a_led ?l_led ?c_led ?k_led ?a_map ?l_map ?c_map ?k_map ?a_lca ?l_lca ?c_lca ?k_lca ?a_rea ?l_rea ?c_rea ?k_rea ?a_told ?l_told ?c_told ?k_told ?a_sh ?l_sh ?c_sh ?k_sh ?a_oc ?l_oc ?c_oc ?k_oc ?a_isP ?l_isP ?c_isP ?k_isP ?a_chP ?l_chP ?c_chP ?k_chP ?a_afb ?l_afb ?c_afb ?k_afb ?a_to ?l_to ?c_to ?k_to ?a_fx ?l_fx ?c_fx ?k_fx ?a_so ?l_so ?c_so ?k_so ?a_ie ?l_ie ?c_ie ?k_ie ?a_mm ?l_mm ?c_mm ?k_mm ?a_sd ?l_sd ?c_sd ?k_sd ?a_ld ?l_ld ?c_ld ?k_ld ?a_ce ?l_ce ?c_ce ?k_ce ?a_sb ?l_sb ?c_sb ?k_sb ?a_rb ?l_rb ?c_rb ?k_rb ?a_chk ?l_chk ?c_chk ?k_chk ?a_sc ?l_sc ?c_sc ?k_sc ?a_rmt ?l_rmt ?c_rmt ?k_rmt ?a_cmv ?l_cmv ?c_cmv ?k_cmv ?a_co ?l_co ?c_co ?k_co ?a_CH ?a_CB ?a_CF ?a_CA ?a_CT ?a_CTm ?i_H ?r_H ?g_H ?v_V ?x_CB ?rv_CB ?sa_CB ?ex_CB ?ty_CB ?kc_CB ?i_CB ?t_CB ?n_CB_word ?n_CB_at ?x_CF ?rv_CF ?sa_CF ?ex_CF ?ty_CF ?kc_CF ?i_CF ?t_CF ?n_CF_word ?n_CF_side ?x_CA ?rv_CA ?sa_CA ?ex_CA ?ty_CA ?kc_CA ?i_CA ?t_CA ?n_CA_word ?n_CA_one ?n_CA_other ?x_CT ?rv_CT ?sa_CT ?ga_CT ?gg_CT ?hd_CT ?ex_CT ?ty_CT ?kc_CT ?i_CT ?t_CT ?n_CT_word ?n_CT_at ?x_CTm ?rv_CTm ?sa_CTm ?ga_CTm ?gg_CTm ?hd_CTm ?ex_CTm ?ty_CTm ?kc_CTm ?i_CTm ?t_CTm ?n_CTm_word ?n_CTm_most ?l_iH ?c_iH ?k_iH ?l_iB ?c_iB ?k_iB ?l_iF ?c_iF ?k_iF ?l_iA ?c_iA ?k_iA ?l_iT ?c_iT ?k_iT ?l_iTm ?c_iTm ?k_iTm ?e_CTm_CTm ?ic_CTm ?a_C ?i_C ?j_C ?pg_C ?hd_C ?po_C ?sa_C ?mk_C ?kp_C ?n1_C ?n2_C ?n3_C ?b_hb ?m_hb ?l_hb ?c_hb ?k_hb ?b_hm ?m_hm ?l_hm ?c_hm ?k_hm ?b_hr ?m_hr ?l_hr ?c_hr ?k_hr ?b_hg ?m_hg ?l_hg ?c_hg ?k_hg ?b_hwl ?m_hwl ?l_hwl ?c_hwl ?k_hwl ?b_hfo ?m_hfo ?l_hfo ?c_hfo ?k_hfo ?b_hfs ?m_hfs ?l_hfs ?c_hfs ?k_hfs ?l_hi ?c_hi ?k_hi ?d_hi ?a_CTb ?i_CTb ?j_CTb ?pg_CTb ?hd_CTb ?po_CTb ?sa_CTb ?mk_CTb ?kp_CTb ?n1_CTb ?n2_CTb ?b_tbE ?m_tbE ?l_tbE ?c_tbE ?k_tbE ?l_tbI ?c_tbI ?k_tbI ?d_e ?w_co ?z_list ?z_sorted ?z_set ?z_all ?z_len ?z_enumerate ?z_range ?z_isinstance ?z_tuple ?z_any ?z_ValueError ?z_bool ?z_str ?z_zip ?z_max ?w_W ?w_MOST_CALLS ?a_L ?l_L ?c_L ?h_L
    (case nPT => kernel_rfl)
    (case a_O => k_is)
    (case l_O => k_is)
    (case c_O => k_is)
    (case k_O => k_is)
    (case a_S => k_is)
    (case l_S => k_is)
    (case c_S => k_is)
    (case k_S => k_is)
    (case a_Y => k_is)
    (case l_Y => k_is)
    (case c_Y => k_is)
    (case k_Y => k_is)
    (case a_W => k_is)
    (case l_W => k_is)
    (case c_W => k_is)
    (case k_W => k_is)
    (case a_I => k_is)
    (case l_I => k_is)
    (case c_I => k_is)
    (case k_I => k_is)
    (case a_cw => k_is)
    (case l_cw => k_is)
    (case c_cw => k_is)
    (case k_cw => k_is)
    (case a_cb => k_is)
    (case l_cb => k_is)
    (case c_cb => k_is)
    (case k_cb => k_is)
    (case a_cs => k_is)
    (case l_cs => k_is)
    (case c_cs => k_is)
    (case k_cs => k_is)
    (case a_st => k_is)
    (case l_st => k_is)
    (case c_st => k_is)
    (case k_st => k_is)
    (case a_re => k_is)
    (case l_re => k_is)
    (case c_re => k_is)
    (case k_re => k_is)
    (case a_af => k_is)
    (case l_af => k_is)
    (case c_af => k_is)
    (case k_af => k_is)
    (case a_cf => k_is)
    (case l_cf => k_is)
    (case c_cf => k_is)
    (case k_cf => k_is)
    (case a_ca => k_is)
    (case l_ca => k_is)
    (case c_ca => k_is)
    (case k_ca => k_is)
    (case a_same => k_is)
    (case l_same => k_is)
    (case c_same => k_is)
    (case k_same => k_is)
    (case a_start => k_is)
    (case l_start => k_is)
    (case c_start => k_is)
    (case k_start => k_is)
    (case a_draw => k_is)
    (case l_draw => k_is)
    (case c_draw => k_is)
    (case k_draw => k_is)
    (case a_of => k_is)
    (case l_of => k_is)
    (case c_of => k_is)
    (case k_of => k_is)
    (case a_letters => k_is)
    (case l_letters => k_is)
    (case c_letters => k_is)
    (case k_letters => k_is)
    (case a_shuts => k_is)
    (case l_shuts => k_is)
    (case c_shuts => k_is)
    (case k_shuts => k_is)
    (case a_oth => k_is)
    (case l_oth => k_is)
    (case c_oth => k_is)
    (case k_oth => k_is)
    (case a_wit => k_is)
    (case l_wit => k_is)
    (case c_wit => k_is)
    (case k_wit => k_is)
    (case a_pairs => k_is)
    (case l_pairs => k_is)
    (case c_pairs => k_is)
    (case k_pairs => k_is)
    (case a_all => k_is)
    (case l_all => k_is)
    (case c_all => k_is)
    (case k_all => k_is)
    (case a_rms => k_is)
    (case l_rms => k_is)
    (case c_rms => k_is)
    (case k_rms => k_is)
    (case a_fine => k_is)
    (case l_fine => k_is)
    (case c_fine => k_is)
    (case k_fine => k_is)
    (case a_hall => k_is)
    (case l_hall => k_is)
    (case c_hall => k_is)
    (case k_hall => k_is)
    (case a_lsi => k_is)
    (case l_lsi => k_is)
    (case c_lsi => k_is)
    (case k_lsi => k_is)
    (case a_lpa => k_is)
    (case l_lpa => k_is)
    (case c_lpa => k_is)
    (case k_lpa => k_is)
    (case a_apart => k_is)
    (case l_apart => k_is)
    (case c_apart => k_is)
    (case k_apart => k_is)
    (case a_lne => k_is)
    (case l_lne => k_is)
    (case c_lne => k_is)
    (case k_lne => k_is)
    (case a_led => k_is)
    (case l_led => k_is)
    (case c_led => k_is)
    (case k_led => k_is)
    (case a_map => k_is)
    (case l_map => k_is)
    (case c_map => k_is)
    (case k_map => k_is)
    (case a_lca => k_is)
    (case l_lca => k_is)
    (case c_lca => k_is)
    (case k_lca => k_is)
    (case a_rea => k_is)
    (case l_rea => k_is)
    (case c_rea => k_is)
    (case k_rea => k_is)
    (case a_told => k_is)
    (case l_told => k_is)
    (case c_told => k_is)
    (case k_told => k_is)
    (case a_sh => k_is)
    (case l_sh => k_is)
    (case c_sh => k_is)
    (case k_sh => k_is)
    (case a_oc => k_is)
    (case l_oc => k_is)
    (case c_oc => k_is)
    (case k_oc => k_is)
    (case a_isP => k_is)
    (case l_isP => k_is)
    (case c_isP => k_is)
    (case k_isP => k_is)
    (case a_chP => k_is)
    (case l_chP => k_is)
    (case c_chP => k_is)
    (case k_chP => k_is)
    (case a_afb => k_is)
    (case l_afb => k_is)
    (case c_afb => k_is)
    (case k_afb => k_is)
    (case a_to => k_is)
    (case l_to => k_is)
    (case c_to => k_is)
    (case k_to => k_is)
    (case a_fx => k_is)
    (case l_fx => k_is)
    (case c_fx => k_is)
    (case k_fx => k_is)
    (case a_so => k_is)
    (case l_so => k_is)
    (case c_so => k_is)
    (case k_so => k_is)
    (case a_ie => k_is)
    (case l_ie => k_is)
    (case c_ie => k_is)
    (case k_ie => k_is)
    (case a_mm => k_is)
    (case l_mm => k_is)
    (case c_mm => k_is)
    (case k_mm => k_is)
    (case a_sd => k_is)
    (case l_sd => k_is)
    (case c_sd => k_is)
    (case k_sd => k_is)
    (case a_ld => k_is)
    (case l_ld => k_is)
    (case c_ld => k_is)
    (case k_ld => k_is)
    (case a_ce => k_is)
    (case l_ce => k_is)
    (case c_ce => k_is)
    (case k_ce => k_is)
    (case a_sb => k_is)
    (case l_sb => k_is)
    (case c_sb => k_is)
    (case k_sb => k_is)
    (case a_rb => k_is)
    (case l_rb => k_is)
    (case c_rb => k_is)
    (case k_rb => k_is)
    (case a_chk => k_is)
    (case l_chk => k_is)
    (case c_chk => k_is)
    (case k_chk => k_is)
    (case a_sc => k_is)
    (case l_sc => k_is)
    (case c_sc => k_is)
    (case k_sc => k_is)
    (case a_rmt => k_is)
    (case l_rmt => k_is)
    (case c_rmt => k_is)
    (case k_rmt => k_is)
    (case a_cmv => k_is)
    (case l_cmv => k_is)
    (case c_cmv => k_is)
    (case k_cmv => k_is)
    (case a_co => k_is)
    (case l_co => k_is)
    (case c_co => k_is)
    (case k_co => k_is)
    (case a_CH => k_is)
    (case a_CB => k_is)
    (case a_CF => k_is)
    (case a_CA => k_is)
    (case a_CT => k_is)
    (case a_CTm => k_is)
    (case i_H => k_is)
    (case r_H => k_is)
    (case g_H => k_is)
    (case v_V => k_is)
    (case x_CB => k_is)
    (case rv_CB => decide +kernel)
    (case sa_CB => k_is)
    (case ex_CB => k_is)
    (case ty_CB => k_is)
    (case kc_CB => k_is)
    (case i_CB => k_is)
    (case t_CB => k_is)
    (case n_CB_word => k_is)
    (case n_CB_at => k_is)
    (case x_CF => k_is)
    (case rv_CF => decide +kernel)
    (case sa_CF => k_is)
    (case ex_CF => k_is)
    (case ty_CF => k_is)
    (case kc_CF => k_is)
    (case i_CF => k_is)
    (case t_CF => k_is)
    (case n_CF_word => k_is)
    (case n_CF_side => k_is)
    (case x_CA => k_is)
    (case rv_CA => decide +kernel)
    (case sa_CA => k_is)
    (case ex_CA => k_is)
    (case ty_CA => k_is)
    (case kc_CA => k_is)
    (case i_CA => k_is)
    (case t_CA => k_is)
    (case n_CA_word => k_is)
    (case n_CA_one => k_is)
    (case n_CA_other => k_is)
    (case x_CT => k_is)
    (case rv_CT => decide +kernel)
    (case sa_CT => k_is)
    (case ga_CT => k_is)
    (case gg_CT => k_is)
    (case hd_CT => k_is)
    (case ex_CT => k_is)
    (case ty_CT => k_is)
    (case kc_CT => k_is)
    (case i_CT => k_is)
    (case t_CT => k_is)
    (case n_CT_word => k_is)
    (case n_CT_at => k_is)
    (case x_CTm => k_is)
    (case rv_CTm => decide +kernel)
    (case sa_CTm => k_is)
    (case ga_CTm => k_is)
    (case gg_CTm => k_is)
    (case hd_CTm => k_is)
    (case ex_CTm => k_is)
    (case ty_CTm => k_is)
    (case kc_CTm => k_is)
    (case i_CTm => k_is)
    (case t_CTm => k_is)
    (case n_CTm_word => k_is)
    (case n_CTm_most => k_is)
    (case l_iH => k_is)
    (case c_iH => k_is)
    (case k_iH => k_is)
    (case l_iB => k_is)
    (case c_iB => k_is)
    (case k_iB => k_is)
    (case l_iF => k_is)
    (case c_iF => k_is)
    (case k_iF => k_is)
    (case l_iA => k_is)
    (case c_iA => k_is)
    (case k_iA => k_is)
    (case l_iT => k_is)
    (case c_iT => k_is)
    (case k_iT => k_is)
    (case l_iTm => k_is)
    (case c_iTm => k_is)
    (case k_iTm => k_is)
    (case e_CTm_CTm => first | k_is | kernel_rfl)
    (case ic_CTm => k_is)
    (case a_C => k_is)
    (case i_C => k_is)
    (case j_C => k_is)
    (case pg_C => k_is)
    (case hd_C => k_is)
    (case po_C => k_is)
    (case sa_C => k_is)
    (case mk_C => k_is)
    (case kp_C => k_is)
    (case n1_C => k_is)
    (case n2_C => k_is)
    (case n3_C => k_is)
    (case b_hb => k_is)
    (case m_hb => k_is)
    (case l_hb => k_is)
    (case c_hb => k_is)
    (case k_hb => k_is)
    (case b_hm => k_is)
    (case m_hm => k_is)
    (case l_hm => k_is)
    (case c_hm => k_is)
    (case k_hm => k_is)
    (case b_hr => k_is)
    (case m_hr => k_is)
    (case l_hr => k_is)
    (case c_hr => k_is)
    (case k_hr => k_is)
    (case b_hg => k_is)
    (case m_hg => k_is)
    (case l_hg => k_is)
    (case c_hg => k_is)
    (case k_hg => k_is)
    (case b_hwl => k_is)
    (case m_hwl => k_is)
    (case l_hwl => k_is)
    (case c_hwl => k_is)
    (case k_hwl => k_is)
    (case b_hfo => k_is)
    (case m_hfo => k_is)
    (case l_hfo => k_is)
    (case c_hfo => k_is)
    (case k_hfo => k_is)
    (case b_hfs => k_is)
    (case m_hfs => k_is)
    (case l_hfs => k_is)
    (case c_hfs => k_is)
    (case k_hfs => k_is)
    (case l_hi => k_is)
    (case c_hi => k_is)
    (case k_hi => k_is)
    (case d_hi => k_is)
    (case a_CTb => k_is)
    (case i_CTb => k_is)
    (case j_CTb => k_is)
    (case pg_CTb => k_is)
    (case hd_CTb => k_is)
    (case po_CTb => k_is)
    (case sa_CTb => k_is)
    (case mk_CTb => k_is)
    (case kp_CTb => k_is)
    (case n1_CTb => k_is)
    (case n2_CTb => k_is)
    (case b_tbE => k_is)
    (case m_tbE => k_is)
    (case l_tbE => k_is)
    (case c_tbE => k_is)
    (case k_tbE => k_is)
    (case l_tbI => k_is)
    (case c_tbI => k_is)
    (case k_tbI => k_is)
    (case d_e => k_is)
    (case w_co => k_is)
    (case z_list => k_is)
    (case z_sorted => k_is)
    (case z_set => k_is)
    (case z_all => k_is)
    (case z_len => k_is)
    (case z_enumerate => k_is)
    (case z_range => k_is)
    (case z_isinstance => k_is)
    (case z_tuple => k_is)
    (case z_any => k_is)
    (case z_ValueError => k_is)
    (case z_bool => k_is)
    (case z_str => k_is)
    (case z_zip => k_is)
    (case z_max => k_is)
    (case w_W => k_is)
    (case w_MOST_CALLS => k_is)
    (case a_L => k_is)
    (case l_L => k_is)
    (case c_L => k_is)
    (case h_L => kernel_rfl)
